import PyProof.Rows.All
import Wide.All
import OpenK.AllK
import Wide.FinOn
import Lean
import PyProof.EqAt
import PyProof.EqKinds
import PyProof.TupleCall
import PyProof.NeKinds
import PyProof.AutoIntG2
import PyProof.FactsAll.int_6
import PyProof.Rows.BootFacts.P1
import PyProof.ReprRoads
import PyProof.ListRange
import PyProof.TupleOfSeq
import PyProof.EnumMake
import PyProof.StrWalks
import PyProof.Rows.Range3
import PyProof.Rows.SetFrom
import KE.KIntText
import PyProof.FString
import PyProof.StrCalls2
import PyProof.StrOps2
import PyProof.SliceStr2
import PyProof.StrBlockI
import PyProof.StrBlockL
import PyProof.StrLaws
import OpenK.KOwn
import KE.KTryMore
import PyProof.ExcAttrAll.ValueError
import PyProof.NsDelKeeps
import PyProof.Rows.StrLen
import KE.KRevIter
import PySem.Challenge.RW_unlikeplace_k13_whole_sayings_and_their
noncomputable section
set_option Elab.async false
set_option linter.all false
set_option maxRecDepth 100000
namespace L2
open PySem PySem.Spec PyProof.Rows
noncomputable abbrev Key:=Sum Int Str
noncomputable def kH:Key->Value->Bool
 |.inl k,v=>Value.isInt k v
 |.inr x,v=>Value.isStrOf x v
noncomputable def Og(w:World):Key->Int
 |.inl k=>hashInt k
 |.inr x=>hashStr w x
theorem cf:∀ {k:Key} {v:Value},kH k v=true->(∃i t,k=Sum.inl i/\v=Value.int i t)\/(∃x t,k=Sum.inr x/\v=Value.str x t)
 |.inl i,v,h=>by
  obtain⟨t,e⟩:=Value.isInt_shape (k:=i) (v:=v) h;exact .inl ⟨i,t,rfl,e⟩
 |.inr x,v,h=>by
  obtain⟨t,e⟩:=Value.isStrOf_shape (x:=x) (v:=v) h;exact .inr ⟨x,t,rfl,e⟩
theorem C9(i:Int)(t:Tok):kH (.inl i) (.int i t)=true:=by simp[kH,Value.isInt]
theorem uD(x:Str)(t:Tok):kH (.inr x) (.str x t)=true:=by simp[kH,Value.isStrOf]
theorem LV(a b:Int):decide ((Sum.inl a:Key)=Sum.inl b)=(a == b):=by
 by_cases e:a=b
 ·subst e;simp
 ·have h:¬ (Sum.inl a:Key)=Sum.inl b:=fun q=>e (Sum.inl.inj q)
  rw[decide_eq_false h];exact(beq_eq_false_iff_ne.mpr e).symm
theorem Me(a b:Str):decide ((Sum.inr a:Key)=Sum.inr b)=decide (a=b):=by
 by_cases e:a=b
 ·subst e;simp
 ·have h:¬ (Sum.inr a:Key)=Sum.inr b:=fun q=>e (Sum.inr.inj q)
  rw[decide_eq_false h,decide_eq_false e]
theorem LB(a:Int)(b:Str):decide ((Sum.inl a:Key)=Sum.inr b)=false:=decide_eq_false (fun q=>nomatch q)
theorem Mr(a:Str)(b:Int):decide ((Sum.inr a:Key)=Sum.inl b)=false:=decide_eq_false (fun q=>nomatch q)
noncomputable def bx(prog:Program)(w:World):PySem.KeyKind prog w Key where
 is:=kH
 hash:=Og w
 inj:=fun v a b ha hb=>by
  rcases cf ha with⟨i,t,rfl,rfl⟩|⟨x,t,rfl,rfl⟩
  ·rcases cf hb with⟨j,u,rfl,e⟩|⟨y,u,rfl,e⟩
   ·injection e with e1 _;rw[e1]
   ·exact nomatch e
  ·rcases cf hb with⟨j,u,rfl,e⟩|⟨y,u,rfl,e⟩
   ·exact nomatch e
   ·injection e with e1 _;rw[e1]
 byValue:=fun k v h=>by
  rcases cf h with⟨i,t,rfl,rfl⟩|⟨x,t,rfl,rfl⟩<;>rfl
 pyHash:=fun hv h=>by
  rcases cf hv with⟨i,t,rfl,rfl⟩|⟨x,t,rfl,rfl⟩
  ·exact wpAny_pyHash_int h
  ·exact wpAny_pyHash_str h
 eqBool:=fun hu hv h=>by
  rcases cf hu with⟨i,t,rfl,rfl⟩|⟨x,t,rfl,rfl⟩
  ·rcases cf hv with⟨j,u,rfl,rfl⟩|⟨y,u,rfl,rfl⟩
   ·rw[LV] at h;exact wpAny_eqBool_int h
   ·rw[LB] at h;exact SeqAt.EqAt.int_str i t y u _ _ _ _ h
  ·rcases cf hv with⟨j,u,rfl,rfl⟩|⟨y,u,rfl,rfl⟩
   ·rw[Mr] at h;exact SeqAt.EqAt.str_int x t j u _ _ _ _ h
   ·rw[Me] at h;exact wpAny_eqBool_str h
 «strs»:=fun k x t v h=>by
  rcases cf h with⟨i,u,rfl,e⟩|⟨y,u,rfl,e⟩
  ·exact nomatch e
  ·injection e with e1 _
   subst e1;cases v<;>rfl
theorem Bb(prog:Program)(w:World)(k:Key)(v:Value):(bx prog w).is k v=kH k v:=rfl
theorem xE(prog:Program)(w:World)(i:Int)(t:Tok):(bx prog w).is (.inl i) (.int i t)=true:=C9 i t
theorem kx(prog:Program)(w:World)(x:Str)(t:Tok):(bx prog w).is (.inr x) (.str x t)=true:=uD x t
inductive V where
 |non|bl (b:Bool)|int (i:Int)|str (x:Str)|byt (b:Array UInt8)|flt (b:UInt64)|ref (a:Addr)|ty (n:String)
 deriving DecidableEq
noncomputable def bf:V->Value->Prop
 |.non,u=>u=Value.none
 |.bl b,u=>u=Value.bool b
 |.int i,u=>∃t,u=Value.int i t
 |.str x,u=>∃t,u=Value.str x t
 |.byt b,u=>∃t,u=Value.bytes b t
 |.flt b,u=>∃t,u=Value.float b t
 |.ref a,u=>u=Value.ref a
 |.ty n,u=>u=Value.type n
noncomputable abbrev aR:List V->List Value->Prop:=Paired bf
theorem aR.length{xs:List V}{us:List Value}(r:aR xs us):xs.length=us.length:=Paired.length r
theorem aR.get:∀ {xs:List V} {us:List Value} {i:Nat} {x:V},aR xs us->xs[i]?=some x->∃u,us[i]?=some u/\bf x u
 |_,_,_,_,.nil,e=>by simp at e
 |_,_,0,_,.cons r _,e=>by simp at e;subst e;exact⟨_,rfl,r⟩
 |_,_,i+1,x,.cons _ t,e=>by
  obtain⟨u,h1,h2⟩:=aR.get (i:=i) (x:=x) t (by simpa using e)
  exact⟨u,by simpa using h1,h2⟩
theorem aR.set{x:V}{u:Value}(r:bf x u):∀ {xs:List V} {us:List Value} (i:Nat),aR xs us->aR (xs.set i x) (us.set i u)
 |_,_,_,.nil=>.nil
 |_,_,0,.cons _ t=>.cons r t
 |_,_,i+1,.cons q t=>.cons q (aR.set r i t)
theorem aR.append:∀ {xs ys:List V} {us ws:List Value},aR xs us->aR ys ws->aR (xs++ys) (us++ws)
 |_,_,_,_,.nil,s=>s
 |_,_,_,_,.cons r t,s=>.cons r (aR.append t s)
theorem aR.take:∀ {xs:List V} {us:List Value} (n:Nat),aR xs us->aR (xs.take n) (us.take n)
 |_,_,0,_=>.nil
 |_,_,_+1,.nil=>.nil
 |_,_,n+1,.cons r t=>.cons r (aR.take n t)
theorem aR.drop:∀ {xs:List V} {us:List Value} (n:Nat),aR xs us->aR (xs.drop n) (us.drop n)
 |_,_,0,r=>r
 |_,_,_+1,.nil=>.nil
 |_,_,n+1,.cons _ t=>aR.drop n t
noncomputable def r9:Option V->Option Value->Prop
 |some v,some u=>bf v u
 |none,none=>True
 |_,_=>False
noncomputable def KV{κ:Type}:List (κ×V)->List (κ×Value)->Prop:=Paired fun(p:κ×V) (q:κ×Value)=>p.1=q.1/\bf p.2 q.2
noncomputable def kV:Key->V
 |.inl i=>.int i
 |.inr x=>.str x
inductive HO where
 |lst (xs:List V)
 |tup (xs:List V)
 |dK (kvs:List (Key×V))|dT (kvs:List (List Key×V))
 |set (S:Int->Bool) (n:Nat)
 |ins (C dx:Addr) (fs:List (Str×V))
 |own (x:Addr)
 |xd (fs:List (Str×V))
 |met (f x:Addr)
 |rng (lo hi:Int)
 |frz (o:Obj) (u:HO)
 |tbl (ps:Array Value)
 |ext (φ:Heap->Prop)
noncomputable abbrev Hp:=Addr->Option HO
noncomputable def upd(H:Hp)(a:Addr)(o:HO):Hp:=fun b=>if b=a then some o else H b
theorem bM{H:Hp}{a:Addr}{o:HO}:upd H a o a=some o:=by unfold upd;rw[if_pos rfl]
theorem aF{H:Hp}{a b:Addr}{o:HO}(h:b≠a):upd H a o b=H b:=by unfold upd;rw[if_neg h]
theorem NM{H:Hp}{a b:Addr}{o u:HO}(h:H a=some o)(h':H b=some u)(d:o≠u):a≠b:=by
 intro e;subst e;rw[h] at h';exact d (Option.some.inj h')
theorem aY{H:Hp}{a b:Addr}{o:HO}(h:H a=some o)(h':H b=none):a≠b:=by
 intro e;subst e;rw[h] at h';cases h'
noncomputable def zm(h:Heap)(a:Addr)(items:Array Value):Prop:=IsTup h a items/\∃o,h.get? a=some o/\o.dict=none
theorem zm.lt{h:Heap}{a:Addr}{items:Array Value}(x:zm h a items):a<h.objs.size:=x.1.lt
theorem zm.new(h:Heap)(items:Array Value):zm (h.push { cls:=.type "tuple",data:=.seq items }) h.objs.size items:=⟨IsTup.new h items,_,Heap.get?_push_size _ rfl,rfl⟩
noncomputable def B3(H:Hp)(a:Addr)(ps qs:Array Value):Prop:=TriplesOk qs.toList/\∀(pos:Pos)(cv:Value),codeAmong pos qs.toList=some cv ->
 ∃(c:Addr)(o:Obj)(vs:Array Value)(t:Tok)(q:Str),cv=.ref c/\H c=some (.frz o (.own a))/\o.data=.fields vs/\vs[1]?=some (.str q t)/\ps[0]?=some (.str q 0)
theorem B3.mono{H H':Hp}{a:Addr}{ps qs:Array Value}(x:B3 H a ps qs)(k:∀b o u,H b=some (.frz o u)->H' b=some (.frz o u)):B3 H' a ps qs:=
 ⟨x.1,fun pos cv e=>let ⟨c,o,vs,t,q,e1,e2,r⟩:=x.2 pos cv e;⟨c,o,vs,t,q,e1,k _ _ _ e2,r⟩⟩
section
variable(P:Program)(w:World)
noncomputable def bV(H:Hp)(h:Heap)(a:Addr):HO->Prop
 |.lst xs=>xs.length<=sizeLine/\∃(its:List Value)(n:Nat),aR xs its/\h.get? a=some { cls:=.type "list",data:=.seq its.toArray n }
 |.tup xs=>xs.length<=sizeLine/\∃its:List Value,aR xs its/\zm h a its.toArray
 |.dK kvs=>kvs.length<=sizeLine/\(a == sysModules)=false/\∃vs,KV kvs vs/\h.DictOf (bx P w) a vs
 |.dT kvs=>kvs.length<=sizeLine/\(a == sysModules)=false/\∃xs:List (List Key×Addr×Value),
   Paired (fun(p:List Key×V) (q:List Key×Addr×Value)=>p.1=q.1/\H q.2.1=some (.tup (p.1.map kV))/\bf p.2 q.2.2) kvs xs /\
   ∃o es ep,h.get? a=some o/\o.ExactDict/\o.data=.dict es ep/\es.toList=xs.map (entryOfKey (tupleKind (bx P w)))/\(xs.map (·.1)).Nodup
 |.set S n=>h.SetOf (intKind P w) a S n
 |.ins C dx fs=>H dx=some (.own a)/\fs.length<=1000/\dx≠a/\h.get? a=some (W.instObj C dx) /\
   ∃mA,h.Ns1 dx mA/\(∀f,r9 (fs.lookup f) (mA f))/\PySem.Within mA (fs.map (·.1))
 |.own _=>∃o,h.get? a=some o
 |.xd fs=>∃mA,h.Ns1 a mA/\∀f,r9 (fs.lookup f) (mA f)
 |.rng lo hi=>∃t u v,h.get? a=some { cls:=.type "range",data:=.fields #[.int lo t,.int hi u,.int 1 v] }
 |.frz o u=>h.get? a=some o/\bV H h a u
 |.tbl ps=>∃qs:Array Value,h.get? a=some { cls:=.none,data:=.fields qs }/\B3 H a ps qs
 |.met f x=>h.get? a=some (W.methodObj (.ref f) (.ref x))
 |.ext φ=>φ h/\(∃o,h.get? a=some o)/\∀h1 h2:Heap,φ h1->(∀o,h1.get? a=some o->h2.get? a=some o)->φ h2
noncomputable def HOk(H:Hp)(h:Heap):Prop:=∀a o,H a=some o->bV P w H h a o
end
section
variable{P:Program}{w:World}{H H':Hp}{h h':Heap}{a:Addr}{o:HO}
theorem bV.lt(x:bV P w H h a o):a<h.objs.size:=by
 cases o with
 |lst xs=>obtain⟨_,_,_,_,e⟩:=x;exact Heap.lt_size e
 |tup xs=>obtain⟨_,_,_,p⟩:=x;exact p.lt
 |dK kvs=>obtain⟨_,_,_,_,o,_,_,e,_⟩:=x;exact Heap.lt_size e
 |dT kvs=>obtain⟨_,_,_,_,o,_,_,e,_⟩:=x;exact Heap.lt_size e
 |set S n=>obtain⟨o,_,_,_,e,_⟩:=x;exact Heap.lt_size e
 |ins C dx fs=>obtain⟨_,_,_,e,_⟩:=x;exact Heap.lt_size e
 |own y=>obtain⟨_,e⟩:=x;exact Heap.lt_size e
 |xd fs=>obtain⟨_,⟨_,_,_,e,_⟩,_⟩:=x;exact Heap.lt_size e
 |rng lo hi=>obtain⟨_,_,_,e⟩:=x;exact Heap.lt_size e
 |frz ob u=>obtain⟨e,_⟩:=x;exact Heap.lt_size e
 |tbl ps=>obtain⟨qs,e,_⟩:=x;exact Heap.lt_size e
 |met f y=>exact Heap.lt_size (show h.get? a=some _ from x)
 |ext φ=>obtain⟨_,⟨_,e⟩,_⟩:=x;exact Heap.lt_size e
theorem Paired.O1{α β:Type}{F G:α->β->Prop}:∀ {l₁:List α} {l₂:List β},Paired F l₁ l₂->(∀a b,F a b->G a b)->Paired G l₁ l₂
 |_,_,.nil,_=>.nil
 |_,_,.cons r t,f=>.cons (f _ _ r) (Paired.O1 t f)
theorem bV.stay(x:bV P w H h a o)(k:∀b u,(b=a\/H b=some (.own a))->h.get? b=some u->h'.get? b=some u)(ho:∀b,H b=some (.own a)->H' b=some (.own a))(ht:∀b xs,H b=some (.tup xs)->H' b=some (.tup xs))(hf:∀b o u,H b=some (.frz o u)->H' b=some (.frz o u)):bV P w H' h' a o:=by
 induction o with
 |lst xs=>obtain⟨z,its,n,r,e⟩:=x;exact⟨z,its,n,r,k _ _ (.inl rfl) e⟩
 |tup xs=>obtain⟨z,its,r,⟨ob,e,c⟩,ob',e',c'⟩:=x;exact⟨z,its,r,⟨ob,k _ _ (.inl rfl) e,c⟩,ob',k _ _ (.inl rfl) e',c'⟩
 |dK kvs=>obtain⟨z,y,vs,r,ob,es,ep,e,c⟩:=x;exact⟨z,y,vs,r,ob,es,ep,k _ _ (.inl rfl) e,c⟩
 |dT kvs=>
  obtain⟨z,y,xs,r,ob,es,ep,e,c⟩:=x;exact⟨z,y,xs,Paired.O1 r fun p q z=>⟨z.1,ht _ _ z.2.1,z.2.2⟩,ob,es,ep,k _ _ (.inl rfl) e,c⟩
 |set S n=>obtain⟨ob,es,ep,t,e,c⟩:=x;exact⟨ob,es,ep,t,k _ _ (.inl rfl) e,c⟩
 |ins C dx fs=>
  obtain⟨d,z,ne,e,mA,⟨od,es,ep,e2,c⟩,r⟩:=x;exact⟨ho _ d,z,ne,k _ _ (.inl rfl) e,mA,⟨od,es,ep,k _ _ (.inr d) e2,c⟩,r⟩
 |own y=>obtain⟨ob,e⟩:=x;exact⟨ob,k _ _ (.inl rfl) e⟩
 |xd fs=>obtain⟨mA,⟨od,es,ep,e,c⟩,r⟩:=x;exact⟨mA,⟨od,es,ep,k _ _ (.inl rfl) e,c⟩,r⟩
 |rng lo hi=>obtain⟨t,u,v,e⟩:=x;exact⟨t,u,v,k _ _ (.inl rfl) e⟩
 |frz ob u ih=>obtain⟨e,q⟩:=x;exact⟨k _ _ (.inl rfl) e,ih q⟩
 |tbl ps=>obtain⟨qs,e,z⟩:=x;exact⟨qs,k a _ (.inl rfl) e,z.mono hf⟩
 |met f y=>
  have e:h.get? a=some (W.methodObj (.ref f) (.ref y)):=x;show h'.get? a=some (W.methodObj (.ref f) (.ref y));exact k a _ (.inl rfl) e
 |ext φ=>obtain⟨p,⟨o,e⟩,st⟩:=x;exact⟨st _ _ p fun o q=>k _ _ (.inl rfl) q,⟨o,k _ _ (.inl rfl) e⟩,st⟩
theorem HOk.lt(x:HOk P w H h)(e:H a=some o):a<h.objs.size:=(x a o e).lt
theorem HOk.fresh(x:HOk P w H h)(e:h.objs.size<=a):H a=none:=by
 cases q:H a with
 |none=>rfl
 |some u=>exact absurd (Nat.lt_of_lt_of_le (x.lt q) e) (Nat.lt_irrefl _)
theorem HOk.kept(x:HOk P w H h)(k:∀b u,h.get? b=some u->h'.get? b=some u):HOk P w H h':=fun a o e=>
 (x a o e).stay (fun b u _ q=>k b u q) (fun _ q=>q) (fun _ _ q=>q) fun _ _ _ q=>q
theorem HOk.laid(x:HOk P w H h)(k:∀b u,h.get? b=some u->h'.get? b=some u)(hp:h.objs.size<=a)(new:bV P w (upd H a o) h' a o):HOk P w (upd H a o) h':=fun b u e=>by
 have hn:=x.fresh hp;by_cases hb:b=a
 ·subst hb;rw[bM] at e;cases e;exact new
 ·rw[aF hb] at e
  exact(x b u e).stay (fun c v _ q=>k c v q) (fun c q=>by rw[aF (aY q hn)];exact q) (fun c xs q=>by rw[aF (aY q hn)];exact q) fun c o' u' q=>by rw[aF (aY q hn)];exact q
end
noncomputable def Rd(H:Hp)(a:Addr)(u:HO):Prop:=H a=some u\/∃o,H a=some (.frz o u)
theorem Rd.ok{P:Program}{w:World}{H:Hp}{h:Heap}{a:Addr}{u:HO}(r:Rd H a u)(x:HOk P w H h):bV P w H h a u:=by
 rcases r with r|⟨o,r⟩
 ·exact x a u r
 ·obtain⟨_,q⟩:=x a _ r
  exact q
noncomputable def Mut:Option HO->Prop
 |some (.lst _)=>True
 |some (.dK _)=>True
 |some (.dT _)=>True
 |some (.set _ _)=>True
 |some (.ins _ _ _)=>True
 |some (.ext _)=>True
 |_=>False
section
variable{P:Program}{w:World}{H:Hp}{h h':Heap}{x e:Addr}{o':HO}
theorem HOk.write(ok:HOk P w H h)(mu:Mut (H x))(he:e=x\/H e=some (.own x))(k:∀b u,b≠e->h.get? b=some u->h'.get? b=some u)(heo:∃u,h'.get? e=some u)(new:bV P w (upd H x o') h' x o'):HOk P w (upd H x o') h':=fun b u q=>by
 have nown:∀c y,H c=some (.own y)->c≠x:=fun c y r z=>by subst z;rw[r] at mu;exact mu
 have ntup:∀c xs,H c=some (.tup xs)->c≠x:=fun c xs r z=>by subst z;rw[r] at mu;exact mu
 by_cases hb:b=x
 ·subst hb;rw[bM] at q;cases q;exact new
 ·rw[aF hb] at q
  by_cases hbe:b=e
  ·have q':H b=some (.own x):=by
    rcases he with z|z
    ·exact absurd (hbe.trans z) hb
    ·rw[hbe];exact z
   rw[q] at q';cases q';obtain⟨v,hv⟩:=heo;exact⟨v,by rw[hbe];exact hv⟩
  ·refine(ok b u q).stay (fun c v hc r=>k c v ?_ r) (fun c r=>by rw[aF (nown c b r)];exact r) (fun c xs r=>by rw[aF (ntup c xs r)];exact r) fun c o' u' r=>by rw[aF (fun z=>by subst z;rw[r] at mu;exact mu)];exact r
   rcases hc with rfl|hc
   ·exact hbe
   ·rintro rfl
    rcases he with z|z
    ·exact nown c b hc z
    ·rw[hc] at z;cases z;exact hb rfl
end
structure Un(fs ex:List Addr)(H H':Hp)(h h':Heap):Prop where
 keep:∀b o,h.get? b=some o->H b=none->b ∉ fs->b ∉ ex->h'.get? b=some o
 slot:∀b o,h.get? b=some o->H b=none->b∈fs->b ∉ ex->∃sl,h'.get? b=some { o with slots:=sl }
 free:∀b o,h.get? b=some o->H b=none->b ∉ ex->H' b=none
 there:∀b o,h.get? b=some o->b ∉ ex->∃o',h'.get? b=some o'
 tups:∀b xs,H b=some (.tup xs)->H' b=some (.tup xs)
 frzs:∀b o u,H b=some (.frz o u)->H' b=some (.frz o u)
 tbls:∀b ps,H b=some (.tbl ps)->∃more,H' b=some (.tbl (ps++more))
section
variable{fs fs' ex ex':List Addr}{H H1 H2:Hp}{h h1 h2 h':Heap}{a x e:Addr}{o:HO}
theorem Un.any(u:Un fs ex H H1 h h1){b:Addr}{ob:Obj}(q:h.get? b=some ob)(n:H b=none)(hx:b ∉ ex):∃sl,h1.get? b=some { ob with slots:=sl }:=by
 by_cases hb:b∈fs
 ·exact u.slot b ob q n hb hx
 ·exact⟨ob.slots,u.keep b ob q n hb hx⟩
theorem Un.kept(k:∀b u,h.get? b=some u->h'.get? b=some u):Un fs ex H H h h':=
 ⟨fun b ob q _ _ _=>k b ob q,fun b ob q _ _ _=>⟨ob.slots,k b ob q⟩,fun _ _ _ n _=>n,fun b ob q _=>⟨ob,k b ob q⟩,fun _ _ q=>q,fun _ _ _ q=>q,fun _ ps q=>⟨#[],by rw[q];simp⟩⟩
theorem Un.refl:Un fs ex H H h h:=Un.kept fun _ _ q=>q
theorem Un.laid(k:∀b u,h.get? b=some u->h'.get? b=some u)(hp:h.objs.size<=a)(hn:H a=none):Un fs ex H (upd H a o) h h' where
 keep:=fun b u q _ _ _=>k b u q
 slot:=fun b u q _ _ _=>⟨u.slots,k b u q⟩
 free:=fun b u q n _=>by rw[aF (Nat.ne_of_lt (Nat.lt_of_lt_of_le (Heap.lt_size q) hp))];exact n
 there:=fun b u q _=>⟨u,k b u q⟩
 tups:=fun b xs q=>by rw[aF (aY q hn)];exact q
 frzs:=fun b u xs q=>by rw[aF (aY q hn)];exact q
 tbls:=fun b ps q=>⟨#[],by rw[aF (aY q hn),q];simp⟩
theorem Un.write(mu:Mut (H x))(he:e=x\/H e=some (.own x))(k:∀b u,b≠e->h.get? b=some u->h'.get? b=some u)(heo:∃u,h'.get? e=some u):Un fs ex H (upd H x o) h h':=by
 have hx:∀b,H b=none->b≠x:=fun b n z=>by subst z;rw[n] at mu;exact mu
 have hb:∀b,H b=none->b≠e:=fun b n z=>by
  subst z;rcases he with r|r
  ·exact hx b n r
  ·rw[n] at r;cases r
 have hm:∀b u,H b=some u->¬ Mut (some u)->b≠x:=fun b u q nm z=>by subst z;rw[q] at mu;exact nm mu
 refine⟨fun b u q n _ _=>k b u (hb b n) q,fun b u q n _ _=>⟨u.slots,k b u (hb b n) q⟩,fun b u q n _=>by rw[aF (hx b n)];exact n,fun b u q _=>?_,
  fun b xs q=>by rw[aF (hm b _ q fun z=>z)];exact q,fun b u xs q=>by rw[aF (hm b _ q fun z=>z)];exact q,fun b ps q=>⟨#[],by rw[aF (hm b _ q fun z=>z),q];simp⟩⟩
 by_cases hbe:b=e
 ·subst hbe;exact heo
 ·exact⟨u,k b u hbe q⟩
end
noncomputable def trk(h:Heap)(H:Hp):List Addr:=(List.range h.objs.size).filter fun a=>(H a).isSome
noncomputable def w9(h:Heap)(H:Hp):Heap:=W.hideAll h (trk h H)
theorem Df(h:Heap)(H:Hp):(w9 h H).objs.size=h.objs.size:=W.hideAll_size _ _
theorem FB{h:Heap}{H:Hp}{b:Addr}{o:Obj}(e:h.get? b=some o)(n:H b=none):(w9 h H).get? b=some o:=
 W.hideAll_get _ e fun hm=>by
  have q:(H b).isSome=true:=(List.mem_filter.mp hm).2;rw[n] at q;simp at q
theorem Io{h:Heap}{H:Hp}{b:Addr}{o:Obj}(e:(w9 h H).get? b=some o):h.get? b=some o/\H b=none:=by
 have e':h.get? b=some o:=W.of_hideAll (trk h H) e;refine⟨e',?_⟩
 cases q:H b with
 |none=>rfl
 |some x=>
  have hm:b∈trk h H:=List.mem_filter.mpr ⟨List.mem_range.mpr (Heap.lt_size e'),by simp[q]⟩
  have z:(w9 h H).get? b=none:=W.hideAll_none (trk h H) hm;rw[z] at e;cases e
noncomputable def Jw(g h:Heap)(L:Addr):List (Addr×Obj):=(List.range h.objs.size).filterMap fun a=>if a=L\/(g.get? a).isSome=true then none else (h.get? a).map fun o=>(a,o)
noncomputable def bB(g h:Heap)(L d:Addr):List (Addr×Obj):=(Jw g h L).filter fun p=>decide (p.1≠d)
noncomputable def km(K:W.Frag):List (Str×Addr×Addr):=match K.lookup mainGlobals with
 |some ⟨_,_,.dict es _,_⟩=>es.toList.filterMap fun e=>match e.key with
  |.str x _=>(W.tabIn K x).map fun q=>(x,q)
  |_=>none
 |_=>[]
noncomputable def Ey(K:W.Frag)(H:Hp):Prop:=∀q∈km K,∃ps,H q.2.2=some (.tbl ps)/\ps[0]?=some (.str (q.1 ++ ".<locals>." ++ "<lambda>") 0)
theorem Ey.mono{K:W.Frag}{H H':Hp}(x:Ey K H)(k:∀b ps,H b=some (.tbl ps)->∃more,H' b=some (.tbl (ps++more))):Ey K H':=fun q hq=>by
 obtain⟨ps,e,z⟩:=x q hq;obtain⟨more,e'⟩:=k _ _ e;refine⟨_,e',?_⟩
 have hz:0<ps.size:=by
  rcases Nat.eq_zero_or_pos ps.size with h|h
  ·rw[Array.getElem?_eq_none (by omega)] at z;cases z
  ·exact h
 rw[Array.getElem?_append_left hz];exact z
structure Mod(K:W.Frag)(mg:Str->Option Value)(base:Heap):Prop where
 kin:K.In base
 glob:base.Ns mainGlobals mg
 blt:∃mb,base.Ns builtinsNs mb/\∀x:Str,x≠"__name__"->mb x=bootBuiltins x
 nolimit:base.NoLimit
 bm:∃bm ob,mg "__builtins__"=some (.ref bm)/\bm≠builtinsNs/\base.get? bm=some ob/\ob.cls=.type "module"/\ob.dict=some builtinsNs/\ob.data=.plain
structure Cx where
 prog:Program
 w:World
 K:W.Frag
 mg:Str->Option Value
 base:Heap
 A:Around
 N:List Str
 s₀:Shared
 H₀:Hp
 env:Env
 outer:List Env
 stack:List Env
 ex:List Addr
 fn:Str->Bool
 calm:Bool
 pn:List (Addr×Obj)
 xe:Value->Shared->Prop
noncomputable def frs(l:List Env):List Addr:=l.filterMap (·.frame)
noncomputable abbrev Cx.fs(X:Cx):List Addr:=frs X.outer
noncomputable def Vis(sc:Scope)(x:Str):Prop:=sc.names.lookup x=some .local\/sc.names.lookup x=some .cell\/sc.names.lookup x=some .free
noncomputable def Loc(sc:Scope)(x:Str):Prop:=sc.names.lookup x=some .local\/sc.names.lookup x=some .cell
noncomputable def Oh(env:Env)(h:Heap)(m:Str->Option Value)(x:Str)(u:Value):Prop:=
 (env.kindOf x=some .local/\m x=some u)\/((env.kindOf x=some .cell\/env.kindOf x=some .free)/\∃c,env.cells.lookup x=some c/\h.IsCell c (some u))
structure Cx.Ok(X:Cx):Prop where
 mod:Mod X.K X.mg X.base
 kind:X.env.scope.kind=.function
 glob:X.env.globals=mainGlobals
 blt:X.env.builtins=builtinsNs
 above:X.s₀.heap.objs.size<=X.env.locals
 inj:∀x y c,X.env.cells.lookup x=some c->X.env.cells.lookup y=some c->x=y
 has:∀x,(X.env.kindOf x=some .cell\/X.env.kindOf x=some .free)->∃c,X.env.cells.lookup x=some c
 cab:∀x c,X.fn x=true->X.env.cells.lookup x=some c->X.s₀.heap.objs.size<=c
 hd:X.calm=true->X.A.handled=none
 frames:X.A.frames=some X.stack
 stk:X.stack=X.outer\/(X.stack=X.env::X.outer/\X.env.frame=some X.env.locals)
 exf:∀b∈X.ex,b≠X.env.locals/\∀x c,X.env.cells.lookup x=some c->c≠b
 bs:∀b o,X.base.get? b=some o->X.s₀.heap.get? b=some o/\X.H₀ b=none
 bsz:X.base.objs.size<=X.s₀.heap.objs.size
 noex:∀b o,X.base.get? b=some o->b ∉ X.ex
 exfs:∀b∈X.ex,b ∉ X.fs
 funs:X.s₀.heap.FunFrames X.base X.outer
 frf:∀b∈X.fs,X.H₀ b=none
 tt:Ey X.K X.H₀
structure Inv(X:Cx)(pins:List (Addr×Obj))(σ:List (Option V))(H:Hp)(s:Shared):Prop where
 ok:X.Ok
 os:s.os=X.s₀.os
 bare:AllBare s.gens
 base:Un X.fs X.ex X.H₀ H X.s₀.heap s.heap
 loc:∃m,s.heap.Ns X.env.locals m/\∀(i:Nat)(x:Str)(v:V),X.N[i]?=some x->σ[i]?=some (some v)->Vis X.env.scope x->∃u,bf v u/\Oh X.env s.heap m x u
 cell:∀x c,X.env.cells.lookup x=some c->∃v,s.heap.IsCell c v
 free:H X.env.locals=none
 freeC:∀x c,X.env.cells.lookup x=some c->H c=none
 pin:∀p∈X.pn++pins,s.heap.get? p.1=some p.2/\H p.1=none/\p.1≠X.env.locals/\p.1 ∉ X.fs/\∀v,p.2.data≠.cell v
 hok:HOk X.prog X.w H s.heap
 len:σ.length=X.N.length
section
variable{X:Cx}{pins:List (Addr×Obj)}{σ:List (Option V)}{H H':Hp}{s:Shared}{h':Heap}
theorem Cx.Ok.nofr(ok:X.Ok){b:Addr}{o:Obj}(e:X.base.get? b=some o):b ∉ X.fs:=fun hb=>by
 have:=(ok.funs.mem hb).1;rw[e] at this;cases this
theorem Inv.bs(I:Inv X pins σ H s):∀b o,X.base.get? b=some o->s.heap.get? b=some o/\H b=none:=fun b o e=>
 ⟨I.base.keep b o (I.ok.bs b o e).1 (I.ok.bs b o e).2 (I.ok.nofr e) (I.ok.noex b o e),I.base.free b o (I.ok.bs b o e).1 (I.ok.bs b o e).2 (I.ok.noex b o e)⟩
theorem Inv.bk(I:Inv X pins σ H s):∀b o,X.base.get? b=some o->s.heap.get? b=some o:=fun b o e=>(I.bs b o e).1
theorem Inv.mod(I:Inv X pins σ H s):Mod X.K X.mg X.base:=I.ok.mod
theorem Inv.kIn(I:Inv X pins σ H s):X.K.In s.heap:=I.ok.mod.kin.keeps I.bk
theorem Inv.lt(I:Inv X pins σ H s):X.env.locals<s.heap.objs.size:=let ⟨_,hn,_⟩:=I.loc;hn.lt
theorem Inv.sz(I:Inv X pins σ H s):X.s₀.heap.objs.size<=s.heap.objs.size:=Nat.le_trans I.ok.above (Nat.le_of_lt I.lt)
theorem Inv.nofs(I:Inv X pins σ H s){a:Addr}(h:s.heap.objs.size<=a):a ∉ X.fs:=fun hb=>by
 obtain⟨_,o,ho,_⟩:=I.ok.funs.mem hb;exact absurd (Nat.lt_of_lt_of_le (Heap.lt_size ho) (Nat.le_trans I.sz h)) (Nat.lt_irrefl _)
theorem Inv.cne(I:Inv X pins σ H s):∀x c,X.env.cells.lookup x=some c->c≠X.env.locals:=fun x c e z=>by
 obtain⟨v,o,ho,hd⟩:=I.cell x c e;obtain⟨m,⟨o',es,ep,ho',hd',_⟩,_⟩:=I.loc;rw[z,ho'] at ho;cases ho;rw[hd'] at hd;cases hd
theorem Inv.funs(I:Inv X pins σ H s):s.heap.FunFrames X.base X.outer:=by
 have all:∀(l:List Env),(∀b∈frs l,b∈X.fs)->X.s₀.heap.FunFrames X.base l->s.heap.FunFrames X.base l:=by
  intro l
  induction l with
  |nil=>intro _ _;trivial
  |cons env r ih=>
   intro hs hl;obtain⟨hk,⟨L,o,hf,hn,ho,hd⟩,hr⟩:=hl;have hL:L∈X.fs:=hs L (by unfold frs;rw[List.filterMap_cons,hf];exact List.mem_cons_self)
   obtain⟨sl,e⟩:=I.base.slot L o ho (I.ok.frf L hL) hL fun z=>I.ok.exfs L z hL;exact⟨hk,⟨L,_,hf,hn,e,hd⟩,ih (fun b hb=>hs b (by unfold frs;rw[List.filterMap_cons,hf];exact List.mem_cons_of_mem _ hb)) hr⟩
 exact all X.outer (fun _ hb=>hb) I.ok.funs
theorem Inv.stack(I:Inv X pins σ H s):s.heap.FunFrames X.base X.stack:=by
 rcases I.ok.stk with e|⟨e,hf⟩
 ·rw[e];exact I.funs
 ·rw[e]
  obtain⟨m,hn,_⟩:=I.loc;refine .cons (by rw[I.ok.kind];decide) hf hn ?_ I.funs
  exact Heap.get?_none_of_le (Nat.le_trans I.ok.bsz I.ok.above)
theorem Inv.OM(I:Inv X pins σ H s):∀b∈frs X.stack,b∈X.env.locals::X.fs:=fun b hb=>by
 rcases I.ok.stk with e|⟨e,hf⟩
 ·rw[e] at hb;exact List.mem_cons_of_mem _ hb
 ·rw[e] at hb
  unfold frs at hb;rw[List.filterMap_cons,hf] at hb;exact hb
theorem Inv.OT(I:Inv X pins σ H s):∀b∈frs X.stack,H b=none:=fun b hb=>by
 rcases List.mem_cons.mp (I.OM b hb) with e|hb
 ·rw[e];exact I.free
 ·obtain⟨_,o,ho,_⟩:=I.ok.funs.mem hb
  exact I.base.free b o ho (I.ok.frf b hb) fun z=>I.ok.exfs b z hb
theorem Inv.step{g':Array GenState}{t':Nat}{d':Drawn}{ch:List Addr}(I:Inv X pins σ H s)(hch:∀b∈ch,(b∈X.ex\/X.s₀.heap.objs.size<=b)/\b≠X.env.locals/\(∀x c,X.env.cells.lookup x=some c->c≠b)/\∀p∈X.pn++pins,p.1≠b)(keep:∀b o,b≠X.env.locals->b ∉ X.fs->b ∉ ch->s.heap.get? b=some o->H b=none->h'.get? b=some o)(slot:∀b o,b≠X.env.locals->b∈X.fs->b ∉ ch->s.heap.get? b=some o->H b=none->∃sl,h'.get? b=some { o with slots:=sl })(free:∀b o,b ∉ ch->s.heap.get? b=some o->H b=none->H' b=none)(there:∀b o,b ∉ ch->s.heap.get? b=some o->∃o',h'.get? b=some o')(tups:∀b xs,H b=some (.tup xs)->H' b=some (.tup xs))(frzs:∀b o u,H b=some (.frz o u)->H' b=some (.frz o u))(tbls:∀b ps,H b=some (.tbl ps)->∃more,H' b=some (.tbl (ps++more)))(ns:∀m,s.heap.Ns X.env.locals m->h'.Ns X.env.locals m)(hok:HOk X.prog X.w H' h')(hg:AllBare g'):
  Inv X pins σ H' { s with heap:=h',gens:=g',drawn:=d',toks:=t' }:=by
 have neL:∀b o,X.s₀.heap.get? b=some o->b≠X.env.locals:=fun b o e=>Nat.ne_of_lt (Nat.lt_of_lt_of_le (Heap.lt_size e) I.ok.above)
 have neC:∀b o,X.s₀.heap.get? b=some o->b ∉ X.ex->b ∉ ch:=fun b o e hx hb=>by
  rcases(hch b hb).1 with z|z
  ·exact hx z
  ·exact absurd (Nat.lt_of_lt_of_le (Heap.lt_size e) z) (Nat.lt_irrefl _)
 have cellK:∀x c,X.env.cells.lookup x=some c->∀v,s.heap.IsCell c v->h'.IsCell c v:=fun x c e v ⟨o,ho,hd⟩=>by
  have nch:c ∉ ch:=fun z=>(hch c z).2.2.1 x c e rfl;by_cases hc:c∈X.fs
  ·obtain⟨sl,q⟩:=slot c o (I.cne x c e) hc nch ho (I.freeC x c e)
   exact⟨_,q,hd⟩
  ·exact⟨o,keep c o (I.cne x c e) hc nch ho (I.freeC x c e),hd⟩
 refine⟨I.ok,I.os,hg,⟨fun b o e n hb hx=>?_,fun b o e n hb hx=>?_,fun b o e n hx=>?_,fun b o e hx=>?_,fun b xs e=>tups b xs (I.base.tups b xs e),fun b o xs e=>frzs b o xs (I.base.frzs b o xs e),fun b ps e=>?_⟩,?_,fun x c e=>?_,?_,fun x c e=>?_,fun p hp=>?_,hok,I.len⟩
 ·exact keep b o (neL b o e) hb (neC b o e hx) (I.base.keep b o e n hb hx) (I.base.free b o e n hx)
 ·obtain⟨sl,e1⟩:=I.base.slot b o e n hb hx
  obtain⟨sl',e2⟩:=slot b _ (neL b o e) hb (neC b o e hx) e1 (I.base.free b o e n hx);exact⟨sl',e2⟩
 ·obtain⟨o',e1⟩:=I.base.there b o e hx
  exact free b o' (neC b o e hx) e1 (I.base.free b o e n hx)
 ·obtain⟨o',e1⟩:=I.base.there b o e hx
  exact there b o' (neC b o e hx) e1
 ·obtain⟨m1,e1⟩:=I.base.tbls b ps e
  obtain⟨m2,e2⟩:=tbls b _ e1;exact⟨m1++m2,by rw[e2,Array.append_assoc]⟩
 ·obtain⟨m,hn,hl⟩:=I.loc
  refine⟨m,ns m hn,fun i x v e1 e2 e3=>?_⟩;obtain⟨u,r,l⟩:=hl i x v e1 e2 e3;refine⟨u,r,?_⟩;rcases l with l|⟨k,c,e,z⟩
  ·exact .inl l
  ·exact .inr ⟨k,c,e,cellK x c e _ z⟩
 ·obtain⟨v,z⟩:=I.cell x c e
  exact⟨v,cellK x c e v z⟩
 ·obtain⟨m,⟨o,_,_,ho,_⟩,_⟩:=I.loc
  exact free _ o (fun z=>(hch _ z).2.1 rfl) ho I.free
 ·obtain⟨v,o,ho,hd⟩:=I.cell x c e
  exact free c o (fun z=>(hch c z).2.2.1 x c e rfl) ho (I.freeC x c e)
 ·obtain⟨e,n,ne,nf,d⟩:=I.pin p hp
  have nch:p.1 ∉ ch:=fun z=>(hch p.1 z).2.2.2 p hp rfl;exact⟨keep p.1 p.2 ne nf nch e n,free p.1 p.2 nch e n,ne,nf,d⟩
theorem Inv.un{t':Nat}(I:Inv X pins σ H s)(u:Un X.fs [] H H' s.heap h')(hok:HOk X.prog X.w H' h'):Inv X pins σ H' { s with heap:=h',toks:=t' }:=by
 obtain⟨m,⟨o,es,ep,ho,r⟩,_⟩:=id I.loc;obtain⟨sl,hL⟩:=u.any ho I.free (by simp)
 exact I.step (g':=s.gens) (d':=s.drawn) (ch:=[]) (fun _ z=>nomatch z) (fun b o _ hb _ e n=>u.keep b o e n hb (by simp)) (fun b o _ hb _ e n=>u.slot b o e n hb (by simp)) (fun b o _ e n=>u.free b o e n (by simp)) (fun b o _ e=>u.there b o e (by simp)) u.tups u.frzs u.tbls (fun m' hm=>by
  obtain⟨o',es',ep',ho',r'⟩:=hm;rw[ho] at ho';cases ho'
  exact⟨_,es',ep',hL,r'⟩) hok I.bare
theorem Inv.call{g':Array GenState}{t':Nat}{d':Drawn}{ch:List Addr}(I:Inv X pins σ H s)(u:Un (frs X.stack) ch H H' s.heap h')(hok:HOk X.prog X.w H' h')(hg:AllBare g')(hch:∀b∈ch,(b∈X.ex\/X.s₀.heap.objs.size<=b)/\b≠X.env.locals/\(∀x c,X.env.cells.lookup x=some c->c≠b)/\∀p∈X.pn++pins,p.1≠b):
  Inv X pins σ H' { s with heap:=h',gens:=g',drawn:=d',toks:=t' }:=by
 obtain⟨m,⟨o,es,ep,ho,r⟩,_⟩:=id I.loc;obtain⟨sl,hL⟩:=u.any ho I.free fun z=>(hch _ z).2.1 rfl
 exact I.step (ch:=ch) hch (fun b o hL hb hc e n=>u.keep b o e n (fun z=>(List.mem_cons.mp (I.OM b z)).elim hL hb) hc) (fun b o _ _ hc e n=>u.any e n hc) (fun b o hc e n=>u.free b o e n hc) (fun b o hc e=>u.there b o e hc) u.tups u.frzs u.tbls (fun m' hm=>by
  obtain⟨o',es',ep',ho',r'⟩:=hm;rw[ho] at ho';cases ho'
  exact⟨_,es',ep',hL,r'⟩) hok hg
theorem Inv.turned{t':Nat}{it:Addr}(I:Inv X pins σ H s)(k:∀b o,b≠it->s.heap.get? b=some o->h'.get? b=some o)(hn:H it=none)(hL:it≠X.env.locals)(h1:it∈X.ex\/X.s₀.heap.objs.size<=it)(h2:∀x c,X.env.cells.lookup x=some c->c≠it)(h3:∀p∈X.pn++pins,p.1≠it):Inv X pins σ H { s with heap:=h',toks:=t' }:=by
 have nit:∀b u,H b=some u->b≠it:=fun b u e z=>by rw[z,hn] at e;cases e
 refine I.step (g':=s.gens) (d':=s.drawn) (ch:=[it]) (fun b hb=>?_) (fun b o _ _ hc e _=>k b o (fun z=>hc (by simp[z])) e) (fun b o _ _ hc e _=>⟨o.slots,k b o (fun z=>hc (by simp[z])) e⟩) (fun _ _ _ _ n=>n)
  (fun b o hc e=>⟨o,k b o (fun z=>hc (by simp[z])) e⟩) (fun _ _ e=>e) (fun _ _ _ e=>e) (fun b ps e=>⟨#[],by rw[e];simp⟩) (fun m hm=>?_) (fun b u e=>?_) I.bare
 ·have e:b=it:=by simpa using hb
  subst e;exact⟨h1,hL,h2,h3⟩
 ·obtain⟨o,es,ep,ho,r⟩:=hm
  exact⟨o,es,ep,k _ o (Ne.symm hL) ho,r⟩
 ·refine(I.hok b u e).stay (fun c v hc q=>k c v ?_ q) (fun _ q=>q) (fun _ _ q=>q) fun _ _ _ q=>q
  rcases hc with z|z
  ·rw[z];exact nit b u e
  ·exact nit c _ z
theorem Inv.tok(I:Inv X pins σ H s)(t:Nat):Inv X pins σ H { s with toks:=t }:=I.un (h':=s.heap) (t':=t) Un.refl I.hok
theorem Inv.kept{t':Nat}(I:Inv X pins σ H s)(k:∀b u,s.heap.get? b=some u->h'.get? b=some u):Inv X pins σ H { s with heap:=h',toks:=t' }:=I.un (Un.kept k) (I.hok.kept k)
theorem Inv.laid{a:Addr}{o:HO}{t':Nat}(I:Inv X pins σ H s)(k:∀b u,s.heap.get? b=some u->h'.get? b=some u)(hp:s.heap.objs.size<=a)(new:bV X.prog X.w (upd H a o) h' a o):
  Inv X pins σ (upd H a o) { s with heap:=h',toks:=t' }:=I.un (Un.laid k hp (I.hok.fresh hp)) (I.hok.laid k hp new)
theorem Inv.write{x e:Addr}{o:HO}{t':Nat}(I:Inv X pins σ H s)(mu:Mut (H x))(he:e=x\/H e=some (.own x))(k:∀b u,b≠e->s.heap.get? b=some u->h'.get? b=some u)(heo:∃u,h'.get? e=some u)(new:bV X.prog X.w (upd H x o) h' x o):Inv X pins σ (upd H x o) { s with heap:=h',toks:=t' }:=I.un (Un.write mu he k heo) (I.hok.write mu he k heo new)
theorem Inv.OU{pins':List (Addr×Obj)}(I:Inv X pins σ H s)(h:∀p∈pins',s.heap.get? p.1=some p.2/\H p.1=none/\p.1≠X.env.locals/\p.1 ∉ X.fs/\∀v,p.2.data≠.cell v):Inv X pins' σ H s:=
 ⟨I.ok,I.os,I.bare,I.base,I.loc,I.cell,I.free,I.freeC,fun p hp=>(List.mem_append.mp hp).elim (fun z=>I.pin p (List.mem_append_left _ z)) (h p),I.hok,I.len⟩
theorem zx{N:List Str}(hN:N.Nodup){i j:Nat}{x:Str}(a:N[i]?=some x)(b:N[j]?=some x):i=j:=by
 obtain⟨h1,e1⟩:=List.getElem?_eq_some_iff.mp a;obtain⟨h2,e2⟩:=List.getElem?_eq_some_iff.mp b;exact(List.getElem_inj hN).mp (e1.trans e2.symm)
theorem uv{M:Model}{A:Around}{E:Value->Shared->Prop}{i:Nat}{x:Str}{v:V}{u:Value}{Q:Unit->Shared->Prop}(I:Inv X pins σ H s)(hN:X.N.Nodup)(hi:X.N[i]?=some x)(hx:Loc X.env.scope x)(r:bf v u)(h:∀s',Inv X pins (σ.set i (some v)) H s'->(∃a,Heap.SameBut a s.heap s'.heap/\(a=X.env.locals\/X.env.cells.lookup x=some a))->Q () s')(hf:X.fn x=true\/X.env.scope.names.lookup x=some .local:=by first|exact .inl rfl|exact .inr rfl|assumption):wpAny M A (storeName X.env x u) Q E s:=by
 obtain⟨m,hn,hl⟩:=id I.loc;have hcls:(X.env.scope.kind == .class || (X.env.scope.kind == .module && X.env.locals != X.env.globals))=false:=by rw[I.ok.kind];rfl
 have hiσ:i<σ.length:=by rw[I.len];exact(List.getElem?_eq_some_iff.mp hi).1
 have cne:=I.cne
 have tracked:∀ {a:Addr} {h':Heap},(∃o,s.heap.get? a=some o/\H a=none)->Heap.SameBut a s.heap h'->HOk X.prog X.w H h':=fun {a h'} ha hs b ob e=>by
  obtain⟨_,_,hfree⟩:=ha;refine(I.hok b ob e).stay (fun c w' hc q=>(hs.2 c ?_).trans q) (fun _ q=>q) (fun _ _ q=>q) fun _ _ _ q=>q;rintro rfl;rcases hc with rfl|hc
  ·rw[hfree] at e;cases e
  ·rw[hfree] at hc;cases hc
 rcases hx with hk|hk
 ·refine wpAny_storeName_local hk hn (fun h' hn' hs=>?_) hcls
  obtain⟨oL,_,_,hoL,_⟩:=id hn;refine h _ ⟨I.ok,I.os,I.bare,⟨fun b o e n hb hx=>?_,fun b o e n hb hx=>?_,I.base.free,fun b o e hx=>?_,I.base.tups,I.base.frzs,I.base.tbls⟩,⟨_,hn',fun j y v' e1 e2 e3=>?_⟩,fun y c e=>?_,I.free,I.freeC,fun p hp=>?_,tracked ⟨oL,hoL,I.free⟩ hs,by simpa using I.len⟩ ⟨_,hs,.inl rfl⟩
  ·exact(hs.2 b (Nat.ne_of_lt (Nat.lt_of_lt_of_le (Heap.lt_size e) I.ok.above))).trans (I.base.keep b o e n hb hx)
  ·obtain⟨sl,e1⟩:=I.base.slot b o e n hb hx
   exact⟨sl,(hs.2 b (Nat.ne_of_lt (Nat.lt_of_lt_of_le (Heap.lt_size e) I.ok.above))).trans e1⟩
  ·obtain⟨o',e1⟩:=I.base.there b o e hx
   exact⟨o',(hs.2 b (Nat.ne_of_lt (Nat.lt_of_lt_of_le (Heap.lt_size e) I.ok.above))).trans e1⟩
  ·by_cases hj:j=i
   ·subst hj
    rw[hi] at e1;cases e1;rw[List.getElem?_set_self hiσ] at e2;cases e2;exact⟨u,r,.inl ⟨hk,by simp⟩⟩
   ·rw[List.getElem?_set_ne (Ne.symm hj)] at e2
    obtain⟨u',r',q⟩:=hl j y v' e1 e2 e3;refine⟨u',r',?_⟩;rcases q with⟨k,e⟩|⟨k,c,e,z⟩
    ·refine .inl ⟨k,?_⟩
     have:y≠x:=fun e=>hj (zx hN e1 (e ▸ hi));simp[this,e]
    ·exact .inr ⟨k,c,e,z.sameBut hs (cne y c e)⟩
  ·obtain⟨w',z⟩:=I.cell y c e
   exact⟨w',z.sameBut hs (cne y c e)⟩
  ·obtain⟨e,n,ne,nf,d⟩:=I.pin p hp
   exact⟨(hs.2 p.1 ne).trans e,n,ne,nf,d⟩
 ·have hfn:X.fn x=true:=by
   rcases hf with z|z
   ·exact z
   ·rw[z] at hk;cases hk
  obtain⟨c,hc⟩:=I.ok.has x (.inl hk);obtain⟨w',z⟩:=I.cell x c hc;refine wpAny_storeName_cell I.ok.kind hk hc z (fun h' hc' hs=>?_);obtain⟨oc,hoc,hocd⟩:=id z;refine h { s with heap:=h' } ⟨I.ok,I.os,I.bare,⟨fun b o e n hb hx=>?_,fun b o e n hb hx=>?_,I.base.free,fun b o e hx=>?_,I.base.tups,I.base.frzs,I.base.tbls⟩,⟨m,hn.sameBut hs (Ne.symm (cne x c hc)),fun j y v' e1 e2 e3=>?_⟩,fun y c' e=>?_,I.free,I.freeC,fun p hp=>?_,tracked ⟨oc,hoc,I.freeC x c hc⟩ hs,by simpa using I.len⟩ ⟨c,hs,.inr hc⟩
  ·exact(hs.2 b (Nat.ne_of_lt (Nat.lt_of_lt_of_le (Heap.lt_size e) (I.ok.cab x c hfn hc)))).trans (I.base.keep b o e n hb hx)
  ·obtain⟨sl,e1⟩:=I.base.slot b o e n hb hx
   exact⟨sl,(hs.2 b (Nat.ne_of_lt (Nat.lt_of_lt_of_le (Heap.lt_size e) (I.ok.cab x c hfn hc)))).trans e1⟩
  ·obtain⟨o',e1⟩:=I.base.there b o e hx
   exact⟨o',(hs.2 b (Nat.ne_of_lt (Nat.lt_of_lt_of_le (Heap.lt_size e) (I.ok.cab x c hfn hc)))).trans e1⟩
  ·by_cases hj:j=i
   ·subst hj
    rw[hi] at e1;cases e1;rw[List.getElem?_set_self hiσ] at e2;cases e2;exact⟨u,r,.inr ⟨.inl hk,c,hc,hc'⟩⟩
   ·rw[List.getElem?_set_ne (Ne.symm hj)] at e2
    obtain⟨u',r',q⟩:=hl j y v' e1 e2 e3;refine⟨u',r',?_⟩;rcases q with q|⟨k,c',e,z'⟩
    ·exact .inl q
    ·refine .inr ⟨k,c',e,z'.sameBut hs ?_⟩
     rintro rfl;exact hj (zx hN e1 (I.ok.inj _ _ _ e hc ▸ hi))
  ·by_cases hcc:c'=c
   ·subst hcc;exact⟨_,hc'⟩
   ·obtain⟨w2,z2⟩:=I.cell y c' e
    exact⟨w2,z2.sameBut hs hcc⟩
  ·obtain⟨e,n,ne,nf,d⟩:=I.pin p hp
   refine⟨(hs.2 p.1 ?_).trans e,n,ne,nf,d⟩;intro q;rw[q,hoc] at e;have q':oc=p.2:=Option.some.inj e;exact d w' (by rw[←q'];exact hocd)
theorem zh{M:Model}{A:Around}{E:Value->Shared->Prop}{i:Nat}{x:Str}{v:V}{u:Value}{Q:Unit->Shared->Prop}(I:Inv X pins σ H s)(hN:X.N.Nodup)(hi:X.N[i]?=some x)(hx:Loc X.env.scope x)(r:bf v u)(h:∀s',Inv X pins (σ.set i (some v)) H s'->Q () s')(hf:X.fn x=true\/X.env.scope.names.lookup x=some .local:=by first|exact .inl rfl|exact .inr rfl|assumption):wpAny M A (storeName X.env x u) Q E s:=
 uv I hN hi hx r (fun s' I' _=>h s' I') hf
theorem Inv.call'{s':Shared}{ch:List Addr}(I:Inv X pins σ H s)(ho:s'.os=s.os)(u:Un (frs X.stack) ch H H' s.heap s'.heap)(hok:HOk X.prog X.w H' s'.heap)(hg:AllBare s'.gens)(hch:∀b∈ch,(b∈X.ex\/X.s₀.heap.objs.size<=b)/\b≠X.env.locals/\(∀x c,X.env.cells.lookup x=some c->c≠b)/\∀p∈X.pn++pins,p.1≠b):Inv X pins σ H' s':=by
 obtain⟨h',g',d',t',o'⟩:=s';have e:o'=s.os:=ho;subst e;exact I.call (g':=g') (t':=t') (d':=d') u hok hg hch
end
noncomputable abbrev XK:=Value->Option Addr->Hp->Prop
noncomputable abbrev St:=List (Option V)
noncomputable abbrev VK:=V->Hp->Prop
noncomputable abbrev TE:=St->Hp->VK->Prop
noncomputable abbrev TT:=St->Hp->(Bool->Hp->Prop)->Prop
noncomputable abbrev TA:=St->Hp->(List V->Hp->Prop)->Prop
structure mm where
 nx:St->Hp->Prop
 rt:VK
 bk:St->Hp->Prop:=fun _ _=>False
 ct:St->Hp->Prop:=fun _ _=>False
noncomputable abbrev TS:=mm->St->Hp->Prop
noncomputable def EP(X:Cx)(pins:List (Addr×Obj))(σ:St)(Q:VK)(u:Value)(s':Shared):Prop:=∃v H',Inv X pins σ H' s'/\bf v u/\Q v H'
noncomputable def TP(X:Cx)(pins:List (Addr×Obj))(σ:St)(Q:Bool->Hp->Prop)(b:Bool)(s':Shared):Prop:=∃H',Inv X pins σ H' s'/\Q b H'
noncomputable def AP(X:Cx)(pins:List (Addr×Obj))(σ:St)(Q:List V->Hp->Prop)(us:List Value)(s':Shared):Prop:=∃vs H',Inv X pins σ H' s'/\aR vs us/\Q vs H'
noncomputable def SP(X:Cx)(pins:List (Addr×Obj))(D:mm)(f:Flow)(s':Shared):Prop:=
 match f with
 |.next=>∃σ' H',Inv X pins σ' H' s'/\D.nx σ' H'
 |.brk=>∃σ' H',Inv X pins σ' H' s'/\D.bk σ' H'
 |.cont=>∃σ' H',Inv X pins σ' H' s'/\D.ct σ' H'
 |.ret u=>∃v σ' H',Inv X pins σ' H' s'/\bf v u/\D.rt v H'
noncomputable def PEd(X:Cx)(e:Expr)(t:TE):Prop:=
 ∀(pins:List (Addr×Obj)) (s:Shared) (σ:St) (H:Hp) (Q:VK),Inv X pins σ H s->t σ H Q->wpAny (model X.prog X.w) X.A (eval e X.env) (EP X pins σ Q) X.xe s
structure PE(X:Cx)(e:Expr)(t:TE):Prop where
 run:PEd X e t
noncomputable instance {X:Cx} {e:Expr} {t:TE}:CoeFun (PE X e t) (fun _=>PEd X e t):=⟨PE.run⟩
noncomputable instance {X:Cx} {e:Expr} {t:TE}:Coe (PE X e t) (PEd X e t):=⟨PE.run⟩
noncomputable def PT(X:Cx)(e:Expr)(t:TT):Prop:=
 ∀(pins:List (Addr×Obj)) (s:Shared) (σ:St) (H:Hp) (Q:Bool->Hp->Prop),Inv X pins σ H s->t σ H Q->wpAny (model X.prog X.w) X.A (isTrue e X.env (eval e X.env)) (TP X pins σ Q) X.xe s
noncomputable def PW(X:Cx)(e:Expr)(t:TT):Prop:=
 ∀(whole:Sem Value) (pins:List (Addr×Obj)) (s:Shared) (σ:St) (H:Hp) (Q:Bool->Hp->Prop),Inv X pins σ H s->t σ H Q->wpAny (model X.prog X.w) X.A (isTrue e X.env whole) (TP X pins σ Q) X.xe s
theorem PW.pt{X:Cx}{e:Expr}{t:TT}(h:PW X e t):PT X e t:=h _
noncomputable def PAd(X:Cx)(es:List Expr)(t:TA):Prop:=
 ∀(pos:Pos) (pins:List (Addr×Obj)) (s:Shared) (σ:St) (H:Hp) (Q:List V->Hp->Prop),Inv X pins σ H s->t σ H Q->wpAny (model X.prog X.w) X.A (spliced (backTo pos (starEach es X.env))) (AP X pins σ Q) X.xe s
structure PA(X:Cx)(es:List Expr)(t:TA):Prop where
 run:PAd X es t
noncomputable instance {X:Cx} {es:List Expr} {t:TA}:CoeFun (PA X es t) (fun _=>PAd X es t):=⟨PA.run⟩
noncomputable instance {X:Cx} {es:List Expr} {t:TA}:Coe (PA X es t) (PAd X es t):=⟨PA.run⟩
noncomputable def PSd(X:Cx)(st:Stmt)(t:TS):Prop:=
 ∀(pins:List (Addr×Obj)) (s:Shared) (σ:St) (H:Hp) (D:mm),Inv X pins σ H s->t D σ H->wpAny (model X.prog X.w) X.A (exec st X.env) (SP X pins D) X.xe s
structure PS(X:Cx)(st:Stmt)(t:TS):Prop where
 run:PSd X st t
noncomputable instance {X:Cx} {st:Stmt} {t:TS}:CoeFun (PS X st t) (fun _=>PSd X st t):=⟨PS.run⟩
noncomputable instance {X:Cx} {st:Stmt} {t:TS}:Coe (PS X st t) (PSd X st t):=⟨PS.run⟩
noncomputable def MV(X:Cx)(st:List Stmt)(t:TS):Prop:=
 ∀(pins:List (Addr×Obj)) (s:Shared) (σ:St) (H:Hp) (D:mm),Inv X pins σ H s->t D σ H->wpAny (model X.prog X.w) X.A (execs st X.env) (SP X pins D) X.xe s
structure PSs(X:Cx)(st:List Stmt)(t:TS):Prop where
 run:MV X st t
noncomputable instance {X:Cx} {st:List Stmt} {t:TS}:CoeFun (PSs X st t) (fun _=>MV X st t):=⟨PSs.run⟩
noncomputable instance {X:Cx} {st:List Stmt} {t:TS}:Coe (PSs X st t) (MV X st t):=⟨PSs.run⟩
theorem thn{α:Type}{t:Sem α}{Q Q':α->Shared->Prop}{M:Model}{A:Around}{E:Value->Shared->Prop}{s:Shared}(h:wpAny M A t Q E s)(hQ:∀a s,Q a s->Q' a s):wpAny M A t Q' E s:=wpAny_mono h hQ fun _ _ x=>x
section
variable{X:Cx}
noncomputable def FG(i:Nat):TE:=fun σ H Q=>∃v,σ[i]?=some (some v)/\Q v H
noncomputable def tC(v:V):TE:=fun _ H Q=>Q v H
theorem F3{i:Nat}{x:Str}{pos:Pos}(hN:X.N[i]?=some x)(hv:Vis X.env.scope x)(hd:(x == ("__debug__":Str))=false:=by decide)(hcd:(x == ("__classdict__":Str))=false:=by decide):PE X (.Name x pos) (FG i):=.mk <| by
 intro pins s σ H Q I h;obtain⟨v,e,h⟩:=h;obtain⟨m,hn,hl⟩:=I.loc;obtain⟨u,r,l⟩:=hl i x v hN e hv;have fin:EP X pins σ Q u s:=⟨v,H,I,r,h⟩;rcases l with⟨hk,hm⟩|⟨hk,c,hc,hcell⟩
 ·exact wpAny_Name (wpAny_loadName_local I.ok.kind hk hn hm fin) hd
 ·rcases hk with hk|hk
  ·exact wpAny_Name (wpAny_loadName_cell I.ok.kind hk hc hcell fin) hd
  ·exact wpAny_Name (wpAny_loadName_free I.ok.kind hk hc hcell fin hcd) hd
theorem ah{i j pos}:PE X (.Constant (.int i) j pos) (tC (.int i)):=.mk <| fun _ _ _ H _ I h=>wpAny_Constant_int ⟨.int i,H,I.tok _,⟨_,rfl⟩,h⟩
theorem qf{b j pos}:PE X (.Constant (.bool b) j pos) (tC (.bl b)):=.mk <| fun _ _ _ H _ I h=>Constant_bool ⟨.bl b,H,I,rfl,h⟩
theorem kG{j pos}:PE X (.Constant .none j pos) (tC .non):=.mk <| fun _ _ _ H _ I h=>Constant_none ⟨.non,H,I,rfl,h⟩
theorem aO{x j pos}:PE X (.Constant (.str x) j pos) (tC (.str x)):=.mk <| fun _ _ _ H _ I h=>Calls.Constant_str ⟨.str x,H,I.tok _,⟨_,rfl⟩,h⟩
noncomputable def Gl(X:Cx)(x:Str):Prop:=X.env.kindOf x=some .globalImplicit
theorem xm{E:Value->Shared->Prop}{pins:List (Addr×Obj)}{s:Shared}{σ:St}{H:Hp}{x:Str}{u:Value}{pos:Pos}{Q:Value->Shared->Prop}(I:Inv X pins σ H s)(hg:Gl X x)(hm:X.mg x=some u)(h:Q u s)(hd:(x == ("__debug__":Str))=false:=by decide):wpAny (model X.prog X.w) X.A (eval (.Name x pos) X.env) Q E s:=
 Calls.Name_function_global I.ok.kind hg (Calls.loadGlobal_global (by rw[I.ok.glob];exact I.mod.glob.keeps I.bk) hm h) hd
theorem o9{E:Value->Shared->Prop}{pins:List (Addr×Obj)}{s:Shared}{σ:St}{H:Hp}{x:Str}{u:Value}{pos:Pos}{Q:Value->Shared->Prop}(I:Inv X pins σ H s)(hg:Gl X x)(hm:X.mg x=none)(hv:bootBuiltins x=some u)(h:Q u s)(hn:x≠"__name__":=by decide)(hd:(x == ("__debug__":Str))=false:=by decide):wpAny (model X.prog X.w) X.A (eval (.Name x pos) X.env) Q E s:=by
 obtain⟨mb,h1,h2⟩:=I.mod.blt;exact Calls.Name_function_global I.ok.kind hg (Calls.loadGlobal_builtin (by rw[I.ok.glob];exact I.mod.glob.keeps I.bk) hm (by rw[I.ok.blt];exact h1.keeps I.bk) ((h2 x hn).trans hv) h) hd
theorem wt{x:Str}{v:V}{u:Value}{pos:Pos}(hg:Gl X x)(hm:X.mg x=some u)(r:bf v u)(hd:(x == ("__debug__":Str))=false:=by decide):PE X (.Name x pos) (tC v):=.mk <|
 fun _ _ _ H _ I h=>xm I hg hm ⟨v,H,I,r,h⟩ hd
theorem nu{x:Str}{v:V}{u:Value}{pos:Pos}(hg:Gl X x)(hm:X.mg x=none)(hv:bootBuiltins x=some u)(r:bf v u)(hn:x≠"__name__":=by decide)(hd:(x == ("__debug__":Str))=false:=by decide):PE X (.Name x pos) (tC v):=.mk <|
 fun _ _ _ H _ I h=>o9 I hg hm hv ⟨v,H,I,r,h⟩ hn hd
variable{a b:Expr}{ta tb:TE}{pos:Pos}
variable{tA tB':TT}{bB:List Expr}
noncomputable def N5(t u:TT):TT:=fun σ H Q=>t σ H fun c H1=>if c=true then u σ H1 Q else Q false H1
noncomputable def tOr(t u:TT):TT:=fun σ H Q=>t σ H fun c H1=>if c=true then Q true H1 else u σ H1 Q
noncomputable def NV(t:TT):TT:=fun σ H Q=>t σ H fun c H1=>Q (!c) H1
theorem IF(ha:PT X a tA):PW X (.BoolOp .And [a] pos) tA:=by
 intro wh pins s σ H Q I h;refine isTrue_and (thn (ha pins s σ H Q I h) fun c s1 e=>?_)
 cases c with
 |true=>exact isTrue_and_nil e
 |false=>exact e
theorem lg(ha:PT X a tA):PW X (.BoolOp .Or [a] pos) tA:=by
 intro wh pins s σ H Q I h;refine isTrue_or (thn (ha pins s σ H Q I h) fun c s1 e=>?_)
 cases c with
 |false=>exact isTrue_or_nil e
 |true=>exact e
theorem K7(ha:PT X a tA)(hb:PW X (.BoolOp .And (b::bB) pos) tB'):PW X (.BoolOp .And (a::b::bB) pos) (N5 tA tB'):=by
 intro wh pins s σ H Q I h;refine isTrue_and (thn (ha pins s σ H _ I h) fun c s1 ⟨H1,I1,q1⟩=>?_)
 cases c with
 |true=>exact hb wh pins s1 σ H1 Q I1 q1
 |false=>exact⟨H1,I1,q1⟩
theorem p5(ha:PT X a tA)(hb:PW X (.BoolOp .Or (b::bB) pos) tB'):PW X (.BoolOp .Or (a::b::bB) pos) (tOr tA tB'):=by
 intro wh pins s σ H Q I h;refine isTrue_or (thn (ha pins s σ H _ I h) fun c s1 ⟨H1,I1,q1⟩=>?_)
 cases c with
 |true=>exact⟨H1,I1,q1⟩
 |false=>exact hb wh pins s1 σ H1 Q I1 q1
theorem dc(ha:PT X a tA):PT X (.UnaryOp .Not a pos) (NV tA):=by
 intro pins s σ H Q I h;exact isTrue_not (ha pins s σ H (fun c H1=>Q (!c) H1) I h)
theorem iS{op}{t:TE}(h:PE X a t):PE X (.BoolOp op [a] pos) t:=.mk <| fun pins s σ H Q I hw=>BoolOp_one (h pins s σ H Q I hw)
noncomputable def tIf(t:TT)(ta tb:TE):TE:=fun σ H Q=>t σ H fun c H1=>if c=true then ta σ H1 Q else tb σ H1 Q
theorem k6{c:Expr}(hc:PT X c tA)(ha:PE X a ta)(hb:PE X b tb):PE X (.IfExp c a b pos) (tIf tA ta tb):=.mk <| by
 intro pins s σ H Q I h;refine wpAny_IfExp (thn (hc pins s σ H _ I h) fun d s1 ⟨H1,I1,q1⟩=>?_)
 cases d with
 |true=>exact ha pins s1 σ H1 Q I1 q1
 |false=>exact hb pins s1 σ H1 Q I1 q1
end
noncomputable def SqL(K:W.Frag)(H:Hp)(a:Addr)(xs:List V):Prop:=
 Rd H a (.lst xs) \/
  ∃(o:Obj)(its:Array Value)(n:Nat),K.lookup a=some o/\o.cls=.type "list"/\o.dict=none/\o.data=.seq its n/\its.size<=sizeLine/\aR xs its.toList
noncomputable def SqT(K:W.Frag)(H:Hp)(a:Addr)(xs:List V):Prop:=
 Rd H a (.tup xs) \/
  ∃(o:Obj)(its:Array Value)(n:Nat),K.lookup a=some o/\o.cls=.type "tuple"/\o.data=.seq its n/\its.size<=sizeLine/\aR xs its.toList
noncomputable def On:Value->Option V
 |.none=>some .non
 |.bool b=>some (.bl b)
 |.int i _=>some (.int i)
 |.str x _=>some (.str x)
 |.bytes b _=>some (.byt b)
 |.float b _=>some (.flt b)
 |.ref a=>some (.ref a)
 |.type n=>some (.ty n)
 |_=>none
theorem bf.abs{x:V}{u:Value}(r:bf x u):On u=some x:=by
 cases x with
 |non=>cases r;rfl
 |bl _=>cases r;rfl
 |int _=>obtain⟨t,rfl⟩:=r;rfl
 |str _=>obtain⟨t,rfl⟩:=r;rfl
 |byt _=>obtain⟨t,rfl⟩:=r;rfl
 |flt _=>obtain⟨t,rfl⟩:=r;rfl
 |ref _=>cases r;rfl
 |ty _=>cases r;rfl
theorem bf.inj{x y:V}{u:Value}(r:bf x u)(q:bf y u):x=y:=Option.some.inj (r.abs.symm.trans q.abs)
theorem aR.inj:∀ {xs ys:List V} {us:List Value},aR xs us->aR ys us->xs=ys
 |_,_,_,.nil,.nil=>rfl
 |_,_,_,.cons r t,.cons r' t'=>by rw[r.inj r',aR.inj t t']
section
variable{X:Cx}{pins:List (Addr×Obj)}{σ:St}{H:Hp}{s:Shared}{a:Addr}{xs ys:List V}
theorem SqL.of{K:W.Frag}(h:H a=some (.lst xs)):SqL K H a xs:=.inl (.inl h)
theorem SqT.of{K:W.Frag}(h:H a=some (.tup xs)):SqT K H a xs:=.inl (.inl h)
theorem Inv.list(I:Inv X pins σ H s)(h:SqL X.K H a xs):∃its:List Value,aR xs its/\PlainL s.heap a its.toArray/\xs.length<=sizeLine:=by
 rcases h with h|⟨o,its,n,hk,hc,hd,hs,hz,r⟩
 ·obtain⟨z,its,n,r,e⟩:=h.ok I.hok
  exact⟨its,r,⟨_,n,e,rfl,rfl,rfl⟩,z⟩
 ·refine⟨its.toList,r,⟨o,n,I.kIn a o hk,hc,hd,by simpa using hs⟩,?_⟩
  have e:=r.length;simp only[Array.length_toList] at e;omega
theorem Inv.tuple(I:Inv X pins σ H s)(h:SqT X.K H a xs):∃its:List Value,aR xs its/\IsTup s.heap a its.toArray/\xs.length<=sizeLine:=by
 rcases h with h|⟨o,its,n,hk,hc,hs,hz,r⟩
 ·obtain⟨z,its,r,p⟩:=h.ok I.hok
  exact⟨its,r,p.1,z⟩
 ·refine⟨its.toList,r,⟨o,I.kIn a o hk,hc,n,by simpa using hs⟩,?_⟩
  have e:=r.length;simp only[Array.length_toList] at e;omega
theorem Inv.OO(I:Inv X pins σ H s)(h:SqL X.K H a xs)(h':SqL X.K H a ys):xs=ys:=by
 obtain⟨its,r,⟨o,n,e,_,_,d⟩,_⟩:=I.list h;obtain⟨its',r',⟨o',n',e',_,_,d'⟩,_⟩:=I.list h';rw[e] at e';cases e';rw[d] at d';injection d' with d1 _;have:its=its':=by simpa using congrArg Array.toList d1
 subst this;exact r.inj r'
theorem Inv.OL(I:Inv X pins σ H s)(h:SqT X.K H a xs)(h':SqT X.K H a ys):xs=ys:=by
 obtain⟨its,r,⟨o,e,_,n,d⟩,_⟩:=I.tuple h;obtain⟨its',r',⟨o',e',_,n',d'⟩,_⟩:=I.tuple h';rw[e] at e';cases e';rw[d] at d';injection d' with d1 _;have:its=its':=by simpa using congrArg Array.toList d1
 subst this;exact r.inj r'
end
noncomputable abbrev Cx.wish(X:Cx)(E:Value->Shared->Prop):Cx:={ X with xe:=E }
noncomputable abbrev Cx.nox(X:Cx):Cx:=X.wish fun _ _=>False
theorem Cx.Ok.wish{X:Cx}(ok:X.Ok)(E:Value->Shared->Prop):(X.wish E).Ok:=
 ⟨ok.mod,ok.kind,ok.glob,ok.blt,ok.above,ok.inj,ok.has,ok.cab,ok.hd,ok.frames,ok.stk,ok.exf,ok.bs,ok.bsz,ok.noex,ok.exfs,ok.funs,ok.frf,ok.tt⟩
theorem Cx.Ok.unwish{X:Cx}{E:Value->Shared->Prop}(ok:(X.wish E).Ok):X.Ok:=
 ⟨ok.mod,ok.kind,ok.glob,ok.blt,ok.above,ok.inj,ok.has,ok.cab,ok.hd,ok.frames,ok.stk,ok.exf,ok.bs,ok.bsz,ok.noex,ok.exfs,ok.funs,ok.frf,ok.tt⟩
section
variable{X:Cx}{pins:List (Addr×Obj)}{σ:St}{H:Hp}{s:Shared}{E:Value->Shared->Prop}
theorem Inv.wish(I:Inv X pins σ H s)(E:Value->Shared->Prop):Inv (X.wish E) pins σ H s:=⟨I.ok.wish E,I.os,I.bare,I.base,I.loc,I.cell,I.free,I.freeC,I.pin,I.hok,I.len⟩
theorem Inv.unwish(I:Inv (X.wish E) pins σ H s):Inv X pins σ H s:=⟨I.ok.unwish,I.os,I.bare,I.base,I.loc,I.cell,I.free,I.freeC,I.pin,I.hok,I.len⟩
theorem SP.unwish{D:mm}{f:Flow}{s':Shared}(h:SP (X.wish E) pins D f s'):SP X pins D f s':=by
 cases f with
 |next=>obtain⟨σ',H',I,q⟩:=h;exact⟨σ',H',I.unwish,q⟩
 |brk=>obtain⟨σ',H',I,q⟩:=h;exact⟨σ',H',I.unwish,q⟩
 |cont=>obtain⟨σ',H',I,q⟩:=h;exact⟨σ',H',I.unwish,q⟩
 |ret u=>obtain⟨v,σ',H',I,r,q⟩:=h;exact⟨v,σ',H',I.unwish,r,q⟩
theorem PSs.nox{st:List Stmt}{t:TS}(h:PSs X.nox st t):PSs X st t:=.mk <| fun pins s σ H D I hw=>
 wpAny_mono (h pins s σ H D (I.wish _) hw) (fun _ _ q=>q.unwish) fun _ _ z=>False.elim z
end
section
variable{X:Cx}{st:Stmt}{bB:List Stmt}{t u:TS}{e:Expr}{te:TE}{pos:Pos}
noncomputable def Ko:TS:=fun D σ H=>D.nx σ H
noncomputable def NX(t u:TS):TS:=fun D σ H=>t { D with nx:=u D } σ H
theorem aW:PSs X [] Ko:=.mk <| fun _ _ σ H _ I h=>wpAny_execs_nil ⟨σ,H,I,h⟩
theorem ag(h1:PS X st t)(h2:PSs X bB u):PSs X (st::bB) (NX t u):=.mk <| by
 intro pins s σ H D I h;refine wpAny_execs_cons (thn (h1 pins s σ H { D with nx:=u D } I h) fun f s1 q=>?_)
 cases f with
 |next=>
  obtain⟨σ',H',I',q⟩:=q;exact h2 pins s1 σ' H' D I' q
 |ret v=>exact q
 |brk=>exact q
 |cont=>exact q
theorem aj(h1:PS X st t):PSs X [st] t:=.mk <| by
 intro pins s σ H D I h;refine wpAny_execs_cons (thn (h1 pins s σ H D I h) fun f s1 q=>?_)
 cases f with
 |next=>exact wpAny_execs_nil q
 |ret v=>exact q
 |brk=>exact q
 |cont=>exact q
noncomputable def JX:TS:=fun D σ H=>D.ct σ H
theorem zo:PS X (.Continue pos) JX:=.mk <| fun _ _ σ H _ I h=>wpAny_Continue ⟨σ,H,I,h⟩
theorem Inv.quiet{pins:List (Addr×Obj)}{σ:St}{H:Hp}{s:Shared}(I:Inv X pins σ H s):interactive X.env=false:=by simp[interactive,I.ok.kind]
noncomputable def KC(te:TE):TS:=fun D σ H=>te σ H fun _ H1=>D.nx σ H1
theorem bO(he:PE X e te)(hs:swapsWith e none pos.line X.env=pure false:=by rfl):PS X (.Expr e pos) (KC te):=.mk <| by
 intro pins s σ H D I h;exact wpAny_Expr_any (thn (he pins s σ H _ I h) fun v s1 ⟨x,H1,I1,r1,q1⟩=>⟨σ,H1,I1,q1⟩) I.quiet hs
noncomputable def N8(te:TE):TS:=fun D σ H=>te σ H D.rt
theorem aE(he:PE X e te):PS X (.Return (some e) pos) (N8 te):=.mk <| by
 intro pins s σ H D I h;exact wpAny_Return_some (thn (he pins s σ H _ I h) fun v s1 ⟨x,H1,I1,r1,q1⟩=>⟨x,σ,H1,I1,r1,q1⟩)
noncomputable def NA(c:TT)(t u:TS):TS:=fun D σ H=>c σ H fun b H1=>if b=true then t D σ H1 else u D σ H1
theorem bv{c:Expr}{a b:List Stmt}{tc:TT}(hc:PT X c tc)(ha:PSs X a t)(hb:PSs X b u):PS X (.If c a b pos) (NA tc t u):=.mk <| by
 intro pins s σ H D I h;refine wpAny_If (thn (hc pins s σ H _ I h) fun d s1 ⟨H1,I1,q1⟩=>?_)
 cases d with
 |true=>exact ha pins s1 σ H1 D I1 q1
 |false=>exact hb pins s1 σ H1 D I1 q1
noncomputable def Ls:TS:=fun _ _ _=>False
theorem eM:PS X st Ls:=.mk <| fun _ _ _ _ _ _ h=>h.elim
end
noncomputable abbrev TG:=V->St->Hp->(St->Hp->Prop)->Prop
noncomputable abbrev TGs:=List V->St->Hp->(St->Hp->Prop)->Prop
noncomputable def PG(X:Cx)(target:Expr)(t:TG):Prop:=
 ∀(pins:List (Addr×Obj)) (s:Shared) (σ:St) (H:Hp) (v:V) (u:Value) (Q:St->Hp->Prop),Inv X pins σ H s->bf v u->t v σ H Q ->
  wpAny (model X.prog X.w) X.A (assign target X.env u) (fun _ s'=>∃σ' H',Inv X pins σ' H' s'/\Q σ' H') X.xe s
noncomputable def PGs(X:Cx)(ts:List Expr)(t:TGs):Prop:=
 ∀(pins:List (Addr×Obj)) (s:Shared) (σ:St) (H:Hp) (vs:List V) (us:List Value) (Q:St->Hp->Prop),Inv X pins σ H s->aR vs us->t vs σ H Q ->
  wpAny (model X.prog X.w) X.A (assignInOrder ((assignEach ts X.env).map (·.2)) us) (fun _ s'=>∃σ' H',Inv X pins σ' H' s'/\Q σ' H') X.xe s
noncomputable abbrev MJ:=V->V->V->Hp->(Hp->Prop)->Prop
noncomputable def NW(X:Cx)(t:MJ):Prop:=
 ∀(pins:List (Addr×Obj)) (s:Shared) (σ:St) (H:Hp) (o i v:V) (ov iv u:Value) (Q:Hp->Prop),Inv X pins σ H s->bf o ov->bf i iv->bf v u->t o i v H Q ->
  wpAny (model X.prog X.w) X.A (setItem ov iv u) (fun _ s'=>∃H',Inv X pins σ H' s'/\Q H') X.xe s
section
variable{X:Cx}{pos:Pos}
noncomputable def C3(i:Nat):TG:=fun v σ H Q=>Q (σ.set i (some v)) H
theorem aD{i:Nat}{x:Str}(hN:X.N.Nodup)(hi:X.N[i]?=some x)(hx:Loc X.env.scope x)(hf:X.fn x=true\/X.env.scope.names.lookup x=some .local:=by first|exact .inl rfl|exact .inr rfl|assumption):PG X (.Name x pos) (C3 i):=by
 intro pins s σ H v u Q I r h;exact wpAny_assign_Name (zh I hN hi hx r (fun s' I'=>⟨_,H,I',h⟩) hf)
noncomputable def N2:TGs:=fun vs σ H Q=>vs=[]/\Q σ H
noncomputable def JS(t:TG)(u:TGs):TGs:=fun vs σ H Q=>∃v r,vs=v::r/\t v σ H fun σ' H'=>u r σ' H' Q
theorem dQ:PGs X [] N2:=by
 intro pins s σ H vs us Q I r h;obtain⟨e,h⟩:=h;subst e;cases r;exact assignInOrder_nil ⟨σ,H,I,h⟩
theorem aX{e:Expr}{es:List Expr}{t:TG}{u:TGs}(h1:PG X e t)(h2:PGs X es u)(hs:(assignEach (e::es) X.env).map (·.2)=assign e X.env::(assignEach es X.env).map (·.2):=by rfl):PGs X (e::es) (JS t u):=by
 intro pins s σ H vs us Q I r h;obtain⟨v,vr,e1,h⟩:=h;subst e1
 cases r with
 |cons r rr=>
  rw[hs];refine assignInOrder_cons (thn (h1 pins s σ H _ _ _ I r h) fun _ s1 ⟨σ1,H1,I1,q1⟩=>?_);exact h2 pins s1 σ1 H1 _ _ Q I1 rr q1
noncomputable def Ln(K:W.Frag)(n:Nat)(t:TGs):TG:=fun v σ H Q=>∃a xs,v=.ref a/\SqT K H a xs/\xs.length=n/\t xs σ H Q
theorem Mf{es:List Expr}{k:Nat}{t:TGs}{n:Nat}(hc:X.calm=true)(h:PGs X es t)(hn:(assignEach es X.env).length=n:=by rfl)(hst:(assignEach es X.env).findIdx? (·.1)=none:=by rfl):PG X (.Tuple es k pos) (Ln X.K n t):=by
 intro pins s σ H v u Q I r hw;obtain⟨a,xs,e1,hq,hl,hw⟩:=hw;subst e1;cases r;obtain⟨its,rv,ht,hz⟩:=I.tuple hq;refine assign_Tuple_tuple (I.ok.hd hc) ht (by simp[hn,←hl,rv.length]) hst fun h' hx=>?_
 have I1:Inv X pins σ H { s with heap:=h' }:=I.kept (t':=s.toks) fun b o e=>hx b o (Nat.ne_of_lt (Heap.lt_size e)) e;exact h pins _ σ H xs _ Q I1 (by simpa using rv) hw
noncomputable def NJ(to ti:TE)(t:MJ):TG:=fun v σ H Q=>to σ H fun o H1=>ti σ H1 fun i H2=>t o i v H2 fun H3=>Q σ H3
theorem K2{o i:Expr}{to ti:TE}{t:MJ}(ho:PE X o to)(hi:PE X i ti)(hs:NW X t)
  (ha:∀v,assign (.Subscript o i pos) X.env v=(do
   let ov ← holding [v] (eval o X.env)
   let iv ← holding [v,ov] (eval i X.env)
   standAt pos
   holding [v,ov,iv] (setItem ov iv v)
   release [v,ov,iv] []):=by intro _;rfl):PG X (.Subscript o i pos) (NJ to ti t):=by
 intro pins s σ H v u Q I r h;rw[ha];refine wpAny_bind (wpAny_holding (thn (ho pins s σ H _ I h) fun ov s1 ⟨x,H1,I1,r1,q1⟩=>?_));refine wpAny_bind (wpAny_holding (thn (hi pins s1 σ H1 _ I1 q1) fun iv s2 ⟨y,H2,I2,r2,q2⟩=>?_));refine wpAny_bind (wpAny_standAt (wpAny_bind (wpAny_holding (thn (hs pins s2 σ H2 x y v ov iv u _ I2 r1 r2 r q2) fun _ s3 ⟨H3,I3,q3⟩=>?_))));exact wpAny_release ⟨σ,H3,I3,q3⟩
noncomputable def IR(te:TE)(g:TG):TS:=fun D σ H=>te σ H fun x H1=>g x σ H1 D.nx
theorem pH{tg e:Expr}{te:TE}{g:TG}(he:PE X e te)(hg:PG X tg g)(hs:swapsWithSole [tg] e pos.line X.env=pure false:=by rfl)(hw:swappedStores [tg] e X.env=pure none:=by rfl)(h1:(assignEach [tg] X.env).map (·.2)=[assign tg X.env]:=by rfl):PS X (.Assign [tg] e pos) (IR te g):=.mk <| by
 intro pins s σ H D I h;refine wpAny_Assign_stores (thn (he pins s σ H _ I h) fun v s1 ⟨x,H1,I1,r1,q1⟩=>?_) hs hw;rw[h1];exact thn (hg pins s1 σ H1 x v _ I1 r1 q1) fun _ s2 q=>q
theorem aB{i:Nat}{x:Str}{e:Expr}{te:TE}{pos':Pos}(hN:X.N.Nodup)(hi:X.N[i]?=some x)(hx:Loc X.env.scope x)(he:PE X e te)(hs:swapsWith e (some (.Name x pos')) pos.line X.env=pure false:=by rfl)(hf:X.fn x=true\/X.env.scope.names.lookup x=some .local:=by first|exact .inl rfl|exact .inr rfl|assumption):
  PS X (.Assign [.Name x pos'] e pos) (IR te (C3 i)):=.mk <| by
 intro pins s σ H D I h;refine wpAny_Assign_Name (thn (he pins s σ H _ I h) fun v s1 ⟨y,H1,I1,r1,q1⟩=>?_) hs;exact zh I1 hN hi hx r1 (fun s2 I2=>⟨_,H1,I2,q1⟩) hf
end
section
variable{X:Cx}{pos:Pos}
noncomputable def Gz(c:TT)(tb:TS):TS:=fun D σ H=>∃W:Nat->St->Hp->Prop,(∃m,W m σ H)/\∀m σ H,W m σ H ->
 c σ H fun b H1=>if b=true then ∃N:St->Hp->Prop,(∀σ' H',N σ' H'->∃m',m'<m/\W m' σ' H')/\tb { D with nx:=N,ct:=N,bk:=D.nx } σ H1 else D.nx σ H1
theorem nE{c:Expr}{body:List Stmt}{tc:TT}{tb:TS}(hp:PassesOwn (model X.prog X.w) X.A X.env X.xe)(hc:PT X c tc)(hb:PSs X body tb):PS X (.While c body [] pos) (Gz tc tb):=.mk <| by
 intro pins s σ H D I h;obtain⟨W,⟨m0,w0⟩,turn⟩:=h;refine wpAny_While (codeAny_whileLoop (fun n s'=>∃σ' H',Inv X pins σ' H' s'/\W n σ' H') ?_ m0 ⟨σ,H,I,w0⟩);rintro n s1 ⟨σ1,H1,I1,w1⟩;refine wpAny_passesOwn hp (thn (hc pins s1 σ1 H1 _ I1 (turn n σ1 H1 w1)) fun b s2 ⟨H2,I2,q2⟩=>?_)
 cases b with
 |true=>
  obtain⟨N,hN,q2⟩:=q2;rw[if_pos rfl];refine wpAny_passesOwn hp (thn (hb pins s2 σ1 H2 _ I2 q2) fun f s3 q3=>?_)
  cases f with
  |next=>
   obtain⟨σ3,H3,I3,n3⟩:=q3;obtain⟨m',hm,w3⟩:=hN σ3 H3 n3;exact⟨m',hm,σ3,H3,I3,w3⟩
  |cont=>
   obtain⟨σ3,H3,I3,n3⟩:=q3;obtain⟨m',hm,w3⟩:=hN σ3 H3 n3;exact⟨m',hm,σ3,H3,I3,w3⟩
  |brk=>exact q3
  |ret v=>exact q3
 |false=>
  rw[if_neg Bool.false_ne_true];exact wpAny_execs_nil ⟨σ1,H2,I2,q2⟩
end
structure It where
 go:Nat->Hp->Prop
 yld:Nat->Hp->V->Hp->Prop
 stop:Nat->Hp->Prop
noncomputable def mi(X:Cx)(pins:List (Addr×Obj))(H:Hp)(b:Addr):Prop:=
 H b=none/\b≠X.env.locals/\b ∉ X.fs/\(b∈X.ex\/X.s₀.heap.objs.size<=b)/\(∀x c,X.env.cells.lookup x=some c->c≠b)/\∀p∈X.pn++pins,p.1≠b
theorem Inv.OR{X:Cx}{pins:List (Addr×Obj)}{σ:St}{H H':Hp}{s:Shared}{b:Addr}(I:Inv X pins σ H s)(hb:s.heap.objs.size<=b)(hn:H' b=none):mi X pins H' b:=by
 refine⟨hn,Nat.ne_of_gt (Nat.lt_of_lt_of_le I.lt hb),I.nofs hb,.inr (Nat.le_trans I.sz hb),fun x c e z=>?_,fun p hp z=>?_⟩
 ·obtain⟨v,q⟩:=I.cell x c e
  exact absurd (Nat.lt_of_lt_of_le q.lt (by rw[z];exact hb)) (Nat.lt_irrefl _)
 ·exact absurd (Nat.lt_of_lt_of_le (Heap.lt_size (I.pin p hp).1) (by rw[z];exact hb)) (Nat.lt_irrefl _)
structure yQ(P:Program)(w:World)(K:W.Frag)(tg:Expr)(J:It)(fp:List Addr)(it:Addr)(tn:Nat->Heap->Prop):Prop where
 mem:it∈fp
 obj:∀i h,tn i h->∀b∈fp,∃o,h.get? b=some o/\∀v,o.data≠.cell v
 keep:∀i h h',tn i h->(∀b∈fp,∀o,h.get? b=some o->h'.get? b=some o)->tn i h'
 item:∀(X:Cx),X.prog=P->X.w=w->X.K=K->X.calm=true->∀(i:Nat) (pins:List (Addr×Obj)) (s:Shared) (σ:St) (H:Hp) (E:Value->Shared->Prop),Inv X pins σ H s->(∀b∈fp,mi X pins H b)->tn i s.heap->J.go i H ->
  wpAny (model P w) X.A (pyNext (.ref it)) (fun r s1=>∃u,r=some u /\
   wpAny (model P w) X.A (letOwnedTupleGo tg (.ref it) u) (fun _ s2=>∃x H',Inv X pins σ H' s2/\bf x u/\J.yld i H x H'/\tn (i+1) s2.heap/\∀b∈fp,H' b=none) E s1) E s
 done:∀(X:Cx),X.prog=P->X.w=w->X.K=K->X.calm=true->∀(i:Nat) (pins:List (Addr×Obj)) (s:Shared) (σ:St) (H:Hp) (E:Value->Shared->Prop),Inv X pins σ H s->(∀b∈fp,mi X pins H b)->tn i s.heap->J.stop i H ->
  wpAny (model P w) X.A (pyNext (.ref it)) (fun r s1=>r=none/\Inv X pins σ H s1) E s
 self:∀(A:Around)(i:Nat)(s:Shared)(Q:Value->Shared->Prop)(E:Value->Shared->Prop),tn i s.heap->Q (.ref it) s->wpAny (model P w) A (pyIter (.ref it)) Q E s
noncomputable abbrev TI:=St->Hp->(It->Hp->Prop)->Prop
noncomputable def PIE(X:Cx)(pins:List (Addr×Obj))(σ:St)(tg:Expr)(R:It->Hp->Prop)(itv:Value)(s2:Shared):Prop:=
 ∃(it:Addr)(fp:List Addr)(tn:Nat->Heap->Prop)(J:It)(H':Hp),itv=.ref it/\Inv X pins σ H' s2/\yQ X.prog X.w X.K tg J fp it tn/\tn 0 s2.heap/\(∀b∈fp,mi X pins H' b)/\R J H'
noncomputable def PI(X:Cx)(tg iter:Expr)(wi:TI):Prop:=
 ∀(pins:List (Addr×Obj)) (s:Shared) (σ:St) (H:Hp) (R:It->Hp->Prop),Inv X pins σ H s->wi σ H R ->
  wpAny (model X.prog X.w) X.A (eval iter X.env) (fun v s1=>wpAny (model X.prog X.w) X.A (pyIter v) (PIE X pins σ tg R) X.xe s1) X.xe s
theorem FM{M:Model}{A:Around}{E:Value->Shared->Prop}{s:Shared}{tg:Expr}{it:Addr}{u:Value}{o:Obj}{n:String}{vs:Array Value}{Q:Unit->Shared->Prop}(ho:s.heap.get? it=some o)(hc:o.cls=.type n)(hd:o.data=.fields vs)(hn:["enumerate","zip","dict_itemiterator","dict_reverseitemiterator","odict_iterator","itertools.zip_longest","itertools.pairwise"].contains n=false)(hQ:Q () s):wpAny M A (letOwnedTupleGo tg (.ref it) u) Q E s:=by
  unfold letOwnedTupleGo
  cases tg<;>first
    |exact wpAny_pure hQ
    | (cases u<;>first
        |exact wpAny_pure hQ
        | (refine wpAny_bind (wpAny_load ho ?_)
           rw[hc,hd];show wpAny M A (if (["enumerate","zip","dict_itemiterator","dict_reverseitemiterator","odict_iterator","itertools.zip_longest","itertools.pairwise"].contains n && vs[0]? == some (rawInt _))=true then _ else _) Q E s
           rw[if_neg (by intro h;rw[hn,Bool.false_and] at h;cases h)]
           exact wpAny_pure hQ))
noncomputable def Itl(K:W.Frag)(a:Addr):It:=
 ⟨fun i H=>∃xs x,SqL K H a xs/\xs[i]?=some x,fun i H x H'=>H'=H/\∀xs,SqL K H a xs->xs[i]?=some x,fun i H=>∃xs,SqL K H a xs/\xs.length<=i⟩
noncomputable def Itt(K:W.Frag)(a:Addr):It:=
 ⟨fun i H=>∃xs x,SqT K H a xs/\xs[i]?=some x,fun i H x H'=>H'=H/\∀xs,SqT K H a xs->xs[i]?=some x,fun i H=>∃xs,SqT K H a xs/\xs.length<=i⟩
noncomputable def Itr(lo:Int)(n:Nat):It:=⟨fun i _=>i<n,fun i H x H'=>H'=H/\x=.int (lo+i),fun i _=>n<=i⟩
theorem Ee{P:Program}{w:World}{K:W.Frag}{tg:Expr}(a it:Addr):yQ P w K tg (Itl K a) [it] it (fun i h=>h.IsListIter it a i) where
 mem:=by simp
 obj:=fun i h st b hb=>by
  have e:b=it:=by simpa using hb
  subst e;obtain⟨o,e,c,d⟩:=st;exact⟨o,e,fun v z=>by rw[d] at z;cases z⟩
 keep:=fun i h h' st k=>st.at fun o e=>k it (by simp) o e
 item:=by
  intro X hP hw hK hc i pins s σ H E I hf st hg;subst hP hw hK;obtain⟨xs,x,hq,hx⟩:=hg;obtain⟨its,rv,p,hz⟩:=I.list hq;obtain⟨u,hu,ru⟩:=rv.get hx;obtain⟨f0,f1,f2,f3,f4,f5⟩:=hf it (by simp)
  refine wpAny_pyNext_list_item st p.isList (x:=u) (by simpa using hu) fun h' st' sb=>?_
  have I1:Inv X pins σ H { s with heap:=h' }:=I.turned (t':=s.toks) (fun b o hb e=>(sb.2 b hb).trans e) f0 f1 f3 f4 f5;obtain⟨o,e,c,d⟩:=id st';exact⟨u,rfl,FM (s:={ s with heap:=h' }) e c d (by decide) ⟨x,H,I1,ru,⟨rfl,fun ys hy=>by rw[I.OO hy hq];exact hx⟩,st',fun b hb=>(hf b hb).1⟩⟩
 done:=by
  intro X hP hw hK hc i pins s σ H E I hf st hg;subst hP hw hK;obtain⟨xs,hq,hx⟩:=hg;obtain⟨its,rv,p,hz⟩:=I.list hq;obtain⟨f0,f1,f2,f3,f4,f5⟩:=hf it (by simp)
  have hl:=rv.length;exact wpAny_pyNext_list_end (I.ok.hd hc) st p.isList (by simp;omega) fun h' eb=>⟨rfl,I.turned (t':=s.toks) (fun b o hb e=>eb b o hb e) f0 f1 f3 f4 f5⟩
 self:=fun _ _ _ _ _ st h=>wpAny_pyIter_listiter st h
theorem z9{P:Program}{w:World}{K:W.Frag}{tg:Expr}(a it:Addr):yQ P w K tg (Itt K a) [it] it (fun i h=>h.IsTupleIter it a i) where
 mem:=by simp
 obj:=fun i h st b hb=>by
  have e:b=it:=by simpa using hb
  subst e;obtain⟨o,e,c,d⟩:=st;exact⟨o,e,fun v z=>by rw[d] at z;cases z⟩
 keep:=fun i h h' st k=>st.at fun o e=>k it (by simp) o e
 item:=by
  intro X hP hw hK hc i pins s σ H E I hf st hg;subst hP hw hK;obtain⟨xs,x,hq,hx⟩:=hg;obtain⟨its,rv,p,hz⟩:=I.tuple hq;obtain⟨u,hu,ru⟩:=rv.get hx;obtain⟨f0,f1,f2,f3,f4,f5⟩:=hf it (by simp)
  refine wpAny_pyNext_tuple_item st (show s.heap.IsTuple a its.toArray from p) (x:=u) (by simpa using hu) fun h' st' sb=>?_
  have I1:Inv X pins σ H { s with heap:=h' }:=I.turned (t':=s.toks) (fun b o hb e=>(sb.2 b hb).trans e) f0 f1 f3 f4 f5;obtain⟨o,e,c,d⟩:=id st';exact⟨u,rfl,FM (s:={ s with heap:=h' }) e c d (by decide) ⟨x,H,I1,ru,⟨rfl,fun ys hy=>by rw[I.OL hy hq];exact hx⟩,st',fun b hb=>(hf b hb).1⟩⟩
 done:=by
  intro X hP hw hK hc i pins s σ H E I hf st hg;subst hP hw hK;obtain⟨xs,hq,hx⟩:=hg;obtain⟨its,rv,p,hz⟩:=I.tuple hq;obtain⟨f0,f1,f2,f3,f4,f5⟩:=hf it (by simp)
  have hl:=rv.length;exact wpAny_pyNext_tuple_end (I.ok.hd hc) st (show s.heap.IsTuple a its.toArray from p) (by simp;omega) fun h' eb=>⟨rfl,I.turned (t':=s.toks) (fun b o hb e=>eb b o hb e) f0 f1 f3 f4 f5⟩
 self:=fun _ _ _ _ _ st h=>wpAny_pyIter_tupleiter st h
theorem Ax{P:Program}{w:World}{K:PySem.W.Frag}{tg:Expr}(it:Addr)(lo:Int)(n:Nat):yQ P w K tg (Itr lo n) [it] it (fun i h=>IsRangeIter h it (lo+(i:Nat)*1) ((n:Int)-(i:Nat)) 1) where
 mem:=by simp
 obj:=fun i h st b hb=>by
  have e:b=it:=by simpa using hb
  subst e
  exact⟨_,st,fun v z=>by
   have z':Data.fields _=Data.cell v:=z
   cases z'⟩
 keep:=fun i h h' st k=>k it (by simp) _ st
 item:=by
  intro X hP hw hK hc i pins s σ H E I hf st hg;subst hP hw hK;obtain⟨f0,f1,f2,f3,f4,f5⟩:=hf it (by simp)
  have W:=Walks.range (prog:=X.prog) (w:=X.w) (I.ok.hd hc) it lo 1 n;refine W.item i s _ _ hg st fun v h' tk hv st' kk=>?_;obtain⟨t,rfl⟩:=hv;have I1:Inv X pins σ H { s with heap:=h',toks:=tk }:=I.turned (fun b o hb e=>kk b o (by simpa using hb) e) f0 f1 f3 f4 f5
  refine⟨_,rfl,FM (s:={ s with heap:=h',toks:=tk }) (n:="range_iterator") st' rfl rfl (by decide) ⟨.int (lo+i),H,I1,⟨t,?_⟩,⟨rfl,rfl⟩,st',fun b hb=>(hf b hb).1⟩⟩
  rw[Int.mul_one]
 done:=by
  intro X hP hw hK hc i pins s σ H E I hf st hg;subst hP hw hK;obtain⟨f0,f1,f2,f3,f4,f5⟩:=hf it (by simp)
  exact wpAny_pyNext_range_end (I.ok.hd hc) st (by have:n<=i:=hg;omega) fun h' eb=>⟨rfl,I.turned (t':=s.toks) (fun b o hb e=>eb b o hb e) f0 f1 f3 f4 f5⟩
 self:=fun _ _ _ _ _ st h=>wpAny_pyIter_rangeiter st h
section
variable{X:Cx}{tg:Expr}
theorem Gc{pins:List (Addr×Obj)}{σ:St}{H:Hp}{s:Shared}{R:It->Hp->Prop}{E:Value->Shared->Prop}{lo hi:Int}{t u v:Tok}{tk:Nat}(I:Inv X pins σ H s)(h1:-(2^62)<=lo)(h2:lo<2^62)(h3:-(2^62)<=hi)(h4:hi<2^62)(q:R (Itr lo (hi-lo).toNat) H):wpAny (model X.prog X.w) X.A (pyIter (.ref s.heap.objs.size)) (PIE X pins σ tg R) E { s with heap:=s.heap.push { cls:=.type "range",data:=.fields #[.int lo t,.int hi u,.int 1 v] },toks:=tk }:=by
 refine wpAny_pyIter_range (IsRange.new ..) (small_one h1 h2 h3 h4) ?_;have I1:Inv X pins σ H { s with heap:=s.heap.push { cls:=.type "range",data:=.fields #[.int lo t,.int hi u,.int 1 v] },toks:=tk }:=I.kept fun b o e=>Heap.get?_push_of_some _ e
 refine⟨(s.heap.push { cls:=.type "range",data:=.fields #[.int lo t,.int hi u,.int 1 v] }).objs.size,[(s.heap.push { cls:=.type "range",data:=.fields #[.int lo t,.int hi u,.int 1 v] }).objs.size],_,_,H,rfl,
  I1.kept (t':=tk) fun b o e=>Heap.get?_push_of_some _ e,Ax _ lo (hi-lo).toNat,?_,fun b hb=>?_,q⟩
 ·have e1:lo+((0:Nat):Int)*1=lo:=by simp
  have e2:(((hi-lo).toNat:Nat):Int)-((0:Nat):Int)=Builtin.Range.rangeSize lo hi 1:=by rw[rangeSize_one];split<;>omega
  show IsRangeIter _ _ (lo+((0:Nat):Int)*1) ((((hi-lo).toNat:Nat):Int)-((0:Nat):Int)) 1;rw[e1,e2];exact Heap.get?_push_size _ rfl
 ·have e:b=(s.heap.push { cls:=.type "range",data:=.fields #[.int lo t,.int hi u,.int 1 v] }).objs.size:=by simpa using hb
  subst e;exact I1.OR (Nat.le_refl _) (I1.hok.fresh (Nat.le_refl _))
noncomputable def JT(ta:TA):TI:=fun σ H R=>ta σ H fun vs H1=>∃j:Int,vs=[.int j]/\-(2^62)<=j/\j<2^62/\R (Itr 0 j.toNat) H1
theorem fz{a:Expr}{ta:TA}{p pos:Pos}(hg:Gl X "range")(hm:X.mg "range"=none)(ha:PA X [a] ta)(hs:starEach [a] X.env=[(false,eval a X.env)]:=by rfl):PI X tg (.Call (.Name "range" p) [a] [] pos) (JT ta):=by
 intro pins s σ H R I h;refine Call_ (o9 I hg hm boot_range (PyProof.Rows.callWith_type1 (thn (ha pos pins s σ H _ I h) fun us s1 ⟨vs,H1,I1,r1,q1⟩=>?_) hs rfl));obtain⟨j,e,q1,q2,q⟩:=q1;subst e
 cases r1 with
 |cons r rr=>
  cases rr;obtain⟨t,rfl⟩:=r;exact call_range_1 (Gc I1 (by omega) (by omega) q1 q2 (by simpa using q))
noncomputable def Ma(wi:TI)(g:TG)(tb:TS):TS:=fun D σ H=>wi σ H fun J H1=>∃W:Nat->Nat->St->Hp->Prop,(∃m,W 0 m σ H1)/\∀i m σ H,W i m σ H ->
 (J.stop i H/\D.nx σ H)\/(J.go i H/\∃N:St->Hp->Prop,(∀σ' H',N σ' H'->∃m',m'<m/\W (i+1) m' σ' H')/\∀x H',J.yld i H x H'->g x σ H' fun σ2 H2=>tb { D with nx:=N,ct:=N,bk:=D.nx } σ2 H2)
noncomputable def sn(fp:List Addr)(h:Heap):List (Addr×Obj):=fp.filterMap fun b=>(h.get? b).map fun o=>(b,o)
theorem jP{fp:List Addr}{h:Heap}{b:Addr}{o:Obj}(hb:b∈fp)(e:h.get? b=some o):(b,o)∈sn fp h:=List.mem_filterMap.mpr ⟨b,hb,by rw[e];rfl⟩
theorem D7{fp:List Addr}{h:Heap}{p:Addr×Obj}(hp:p∈sn fp h):p.1∈fp/\h.get? p.1=some p.2:=by
 obtain⟨b,hb,e⟩:=List.mem_filterMap.mp hp
 cases q:h.get? b with
 |none=>rw[q] at e;cases e
 |some o=>
  rw[q] at e;have e':(b,o)=p:=Option.some.inj e;subst e';exact⟨hb,q⟩
theorem Inv.pinned{pins:List (Addr×Obj)}{σ:St}{H:Hp}{s:Shared}{fp:List Addr}(I:Inv X pins σ H s)(hf:∀b∈fp,mi X pins H b)(ho:∀b∈fp,∃o,s.heap.get? b=some o/\∀v,o.data≠.cell v):Inv X (pins++sn fp s.heap) σ H s:=
 I.OU fun p hp=>(List.mem_append.mp hp).elim (fun z=>I.pin p (List.mem_append_right _ z)) fun z=>by
  obtain⟨hb,e⟩:=D7 z;obtain⟨f0,f1,f2,_⟩:=hf p.1 hb;obtain⟨o,e',d⟩:=ho p.1 hb;rw[e] at e';cases e';exact⟨e,f0,f1,f2,d⟩
theorem Inv.unpinned{pins pl:List (Addr×Obj)}{σ:St}{H:Hp}{s:Shared}(I:Inv X (pins++pl) σ H s):Inv X pins σ H s:=I.OU fun p hp=>I.pin p (List.mem_append_right _ (List.mem_append_left _ hp))
theorem fq{iter:Expr}{body:List Stmt}{wi:TI}{g:TG}{tb:TS}{pos:Pos}(hp:PassesOwn (model X.prog X.w) X.A X.env X.xe)(hc:X.calm=true)(hi:PI X tg iter wi)(hg:PG X tg g)(hb:PSs X body tb)(hs:∀x,foldedSetIterable iter X.env x=pure x:=by intro _;rfl):PS X (.For tg iter body [] pos) (Ma wi g tb):=.mk <| by
 intro pins s σ H D I h;refine wpAny_For (thn (hi pins s σ H _ I h) fun v s1 h1=>thn h1 fun itv s2 h2=>?_) hs;obtain⟨it,fp,tn,J,H2,e,I2,T,st2,f2,W,⟨m0,w0⟩,turn⟩:=h2;subst e;have stat:∀ {H':Hp},(∀b∈fp,H' b=none)->∀b∈fp,mi X pins H' b:=fun hn b hb=>⟨hn b hb,(f2 b hb).2⟩;refine codeAny_forLoop_any (fun n s'=>∃i σ' H',Inv X pins σ' H' s'/\tn i s'.heap/\(∀b∈fp,H' b=none)/\W i n σ' H') ?_ m0 ⟨0,σ,H2,I2,st2,fun b hb=>(f2 b hb).1,w0⟩
 rintro n s3 ⟨i,σ3,H3,I3,st3,fr3,w3⟩;rcases turn i n σ3 H3 w3 with⟨stop,qn⟩|⟨go,N,hN,step⟩
 ·refine wpAny_passesOwn hp (thn (T.done X rfl rfl rfl hc i pins s3 σ3 H3 X.xe I3 (stat fr3) st3 stop) fun r s4 ⟨hr,I4⟩=>?_)
  subst hr;exact wpAny_execs_nil ⟨σ3,H3,I4,qn⟩
 ·refine wpAny_passesOwn hp (thn (T.item X rfl rfl rfl hc i pins s3 σ3 H3 X.xe I3 (stat fr3) st3 go) fun r s4 ⟨u,hr,h4⟩=>?_)
  subst hr;refine wpAny_passesOwn hp (thn h4 fun _ s5 ⟨x,H5,I5,r5,y5,st5,fr5⟩=>?_);have I5':=I5.pinned (stat fr5) (T.obj _ _ st5);refine wpAny_passesOwn hp (thn (hg _ s5 σ3 H5 x u _ I5' r5 (step x H5 y5)) fun _ s6 ⟨σ6,H6,I6,q6⟩=>?_);refine wpAny_passesOwn hp (thn (hb _ s6 σ6 H6 _ I6 q6) fun f s7 q7=>?_)
  have again:∀ {σ7:St} {H7:Hp},Inv X (pins++sn fp s5.heap) σ7 H7 s7->N σ7 H7->∃m,m<n/\∃i σ' H',Inv X pins σ' H' s7/\tn i s7.heap/\(∀b∈fp,H' b=none)/\W i m σ' H':=fun {σ7 H7} I7 n7=>by
   obtain⟨m',hm,w7⟩:=hN σ7 H7 n7;refine⟨m',hm,i+1,σ7,H7,I7.unpinned,T.keep _ _ _ st5 fun b hb o e=>(I7.pin (b,o) (List.mem_append_right _ (List.mem_append_right _ (jP hb e)))).1,fun b hb=>?_,w7⟩;obtain⟨o,e,d⟩:=T.obj _ _ st5 b hb;exact(I7.pin (b,o) (List.mem_append_right _ (List.mem_append_right _ (jP hb e)))).2.1
  cases f with
  |next=>obtain⟨σ7,H7,I7,n7⟩:=q7;exact again I7 n7
  |cont=>obtain⟨σ7,H7,I7,n7⟩:=q7;exact again I7 n7
  |brk=>obtain⟨σ7,H7,I7,q7⟩:=q7;exact⟨σ7,H7,I7.unpinned,q7⟩
  |ret v=>obtain⟨x7,σ7,H7,I7,r7,q7⟩:=q7;exact⟨x7,σ7,H7,I7.unpinned,r7,q7⟩
end
noncomputable abbrev R2:=V->V->Hp->VK->Prop
noncomputable def OpR(X:Cx)(f:Value->Value->Sem Value)(r:R2):Prop:=
 ∀(pins:List (Addr×Obj)) (s:Shared) (σ:St) (H:Hp) (x y:V) (v u:Value) (Q:VK),Inv X pins σ H s->bf x v->bf y u->r x y H Q ->
  wpAny (model X.prog X.w) X.A (f v u) (EP X pins σ Q) X.xe s
noncomputable def UnR(X:Cx)(f:Value->Sem Value)(r:V->Hp->VK->Prop):Prop:=
 ∀(pins:List (Addr×Obj)) (s:Shared) (σ:St) (H:Hp) (x:V) (v:Value) (Q:VK),Inv X pins σ H s->bf x v->r x H Q ->
  wpAny (model X.prog X.w) X.A (f v) (EP X pins σ Q) X.xe s
noncomputable def cY(X:Cx)(f:Value)(r:List V->Hp->VK->Prop):Prop:=
 ∀(pins:List (Addr×Obj)) (s:Shared) (σ:St) (H:Hp) (xs:List V) (us:List Value) (Q:VK),Inv X pins σ H s->aR xs us->r xs H Q ->
  wpAny (model X.prog X.w) X.A (call f us) (EP X pins σ Q) X.xe s
noncomputable def Oj(X:Cx)(r:V->Hp->(Bool->Hp->Prop)->Prop):Prop:=
 ∀(pins:List (Addr×Obj)) (s:Shared) (σ:St) (H:Hp) (x:V) (v:Value) (Q:Bool->Hp->Prop),Inv X pins σ H s->bf x v->r x H Q ->
  wpAny (model X.prog X.w) X.A (truthy v) (TP X pins σ Q) X.xe s
noncomputable def tOp(r:R2)(ta tb:TE):TE:=fun σ H Q=>ta σ H fun x H1=>tb σ H1 fun y H2=>r x y H2 Q
noncomputable def tUn(r:V->Hp->VK->Prop)(ta:TE):TE:=fun σ H Q=>ta σ H fun x H1=>r x H1 Q
noncomputable def rI(C:Int->Int->Prop)(g:Int->Int->V):R2:=fun x y H Q=>∃i j,x=.int i/\y=.int j/\C i j/\Q (g i j) H
noncomputable def rI0(g:Int->Int->V):R2:=fun x y H Q=>∃i j,x=.int i/\y=.int j/\Q (g i j) H
noncomputable def rU(g:Int->V):V->Hp->VK->Prop:=fun x H Q=>∃i,x=.int i/\Q (g i) H
section
variable{X:Cx}{a b c:Expr}{ta tb tc:TE}{pos:Pos}
theorem LW(ha:PE X a ta)(hb:PE X b tb){pins:List (Addr×Obj)}{s:Shared}{σ:St}{H:Hp}{R:V->V->Hp->Prop}(I:Inv X pins σ H s)(h:ta σ H fun x H1=>tb σ H1 fun y H2=>R x y H2){Q:Value->Shared->Prop}{f:Value->Value->Sem Value}(hf:∀v u s2 x y H2,Inv X pins σ H2 s2->bf x v->bf y u->R x y H2->wpAny (model X.prog X.w) X.A (f v u) Q X.xe s2):
  wpAny (model X.prog X.w) X.A (eval a X.env) (fun v s₁=>wpAny (model X.prog X.w) X.A (eval b X.env) (fun u s₂=>wpAny (model X.prog X.w) X.A (f v u) Q X.xe s₂) X.xe s₁) X.xe s:=by
 refine thn (ha pins s σ H _ I h) fun v s1 ⟨x,H1,I1,r1,q1⟩=>?_;refine thn (hb pins s1 σ H1 _ I1 q1) fun u s2 ⟨y,H2,I2,r2,q2⟩=>?_;exact hf v u s2 x y H2 I2 r1 r2 q2
theorem aT{op:Operator}{r:R2}(ho:OpR X (binaryOp op) r)(ha:PE X a ta)(hb:PE X b tb):PE X (.BinOp a op b pos) (tOp r ta tb):=.mk <| by
 intro pins s σ H Q I h;exact wpAny_BinOp (LW ha hb I h fun v u s2 x y H2 I2 rx ry q=>ho pins s2 σ H2 x y v u Q I2 rx ry q)
theorem yw{op:UnaryOp}{r:V->Hp->VK->Prop}(ho:UnR X (unaryOp op) r)(ha:PE X a ta):PE X (.UnaryOp op a pos) (tUn r ta):=.mk <| by
 intro pins s σ H Q I h;exact UnaryOp_ (thn (ha pins s σ H _ I h) fun v s1 ⟨x,H1,I1,r1,q1⟩=>ho pins s1 σ H1 x v Q I1 r1 q1)
theorem opI{f:Value->Value->Sem Value}{C:Int->Int->Prop}{g:Int->Int->Int}(rule:∀(i j:Int)(t u:Tok)(s:Shared)(Q:Value->Shared->Prop)(E:Value->Shared->Prop),C i j->Q (.int (g i j) s.toks) { s with toks:=s.toks+1 }->wpAny (model X.prog X.w) X.A (f (.int i t) (.int j u)) Q E s):
  OpR X f (rI C fun i j=>.int (g i j)):=by
 intro pins s σ H x y v u Q I rx ry h;obtain⟨i,j,rfl,rfl,hc,q⟩:=h;obtain⟨t,rfl⟩:=rx;obtain⟨t',rfl⟩:=ry;exact rule i j t t' s _ _ hc ⟨.int (g i j),H,I.tok _,⟨_,rfl⟩,q⟩
theorem MF{f:Value->Value->Sem Value}{g:Int->Int->Int}(rule:∀(i j:Int)(t u:Tok)(s:Shared)(Q:Value->Shared->Prop)(E:Value->Shared->Prop),Q (.int (g i j) s.toks) { s with toks:=s.toks+1 }->wpAny (model X.prog X.w) X.A (f (.int i t) (.int j u)) Q E s):
  OpR X f (rI0 fun i j=>.int (g i j)):=by
 intro pins s σ H x y v u Q I rx ry h;obtain⟨i,j,rfl,rfl,q⟩:=h;obtain⟨t,rfl⟩:=rx;obtain⟨t',rfl⟩:=ry;exact rule i j t t' s _ _ ⟨.int (g i j),H,I.tok _,⟨_,rfl⟩,q⟩
theorem Iv{f:Value->Value->Sem Value}{g:Int->Int->Bool}(rule:∀(i j:Int)(t u:Tok)(s:Shared)(Q:Value->Shared->Prop)(E:Value->Shared->Prop),Q (.bool (g i j)) s->wpAny (model X.prog X.w) X.A (f (.int i t) (.int j u)) Q E s):
  OpR X f (rI0 fun i j=>.bl (g i j)):=by
 intro pins s σ H x y v u Q I rx ry h;obtain⟨i,j,rfl,rfl,q⟩:=h;obtain⟨t,rfl⟩:=rx;obtain⟨t',rfl⟩:=ry;exact rule i j t t' s _ _ ⟨.bl (g i j),H,I,rfl,q⟩
noncomputable def Ot(i j:Int):Prop:=0<j/\j<1073741824
noncomputable def N4(i j:Int):Prop:=0<=j/\j<=1000000/\i.natAbs<2^64
noncomputable def tS(i j:Int):Prop:=(-(2^64)<i/\i<2^64)\/(-(2^64)<j/\j<2^64)
theorem tS.ok{i j:Int}(h:tS i j):IntMulOk i j:=by
 rcases h with⟨h1,h2⟩|⟨h1,h2⟩
 ·exact .of_left (intBits_le_64 h1 h2)
 ·exact .of_right (intBits_le_64 h1 h2)
theorem AX(k:Nat):(0:Int)<=2^k:=by
 rw[two_pow_cast];exact Int.natCast_nonneg _
theorem cm:OpR X (binaryOp .Add) (rI0 fun i j=>.int (i+j)):=MF fun _ _ _ _ _ _ _ q=>add_int q
theorem de:OpR X (binaryOp .Sub) (rI0 fun i j=>.int (i-j)):=MF fun _ _ _ _ _ _ _ q=>sub_int q
theorem nj:OpR X (binaryOp .Mult) (rI tS fun i j=>.int (i*j)):=opI fun _ _ _ _ _ _ _ hc q=>mul_int q hc.ok
theorem qF:OpR X (binaryOp .FloorDiv) (rI Ot fun i j=>.int (i / j)):=opI fun i j _ _ _ _ _ hc q=>by
 have h1:(0:Int)<j:=hc.1;have h2:j<1073741824:=hc.2;exact floordiv_int (by omega) (by rw[Int.fdiv_eq_ediv_of_nonneg i (by omega)];exact q) (.inl (PyProof.noPylong_small (by omega)))
theorem mL:OpR X (binaryOp .Mod) (rI (fun _ j=>0<j) fun i j=>.int (i%j)):=opI fun i j _ _ _ _ _ hc q=>by
 have h1:(0:Int)<j:=hc;exact mod_int' (by omega) (by rw[Int.fmod_eq_emod_of_nonneg i (by omega)];exact q)
theorem Mg:OpR X (binaryOp .Pow) (rI N4 fun i j=>.int (i^j.toNat)):=opI fun _ _ _ _ _ _ _ hc q=>pow_int_small hc.1 hc.2.1 hc.2.2 q
theorem so:OpR X (binaryOp .LShift) (rI N4 fun i j=>.int (i*2^j.toNat)):=opI fun _ _ _ _ _ _ _ hc q=>lshift_int_small hc.1 hc.2.1 hc.2.2 q
theorem MU:OpR X (binaryOp .RShift) (rI (fun _ j=>0<=j) fun i j=>.int (i / 2^j.toNat)):=opI fun i j _ _ _ _ _ hc q=>
 rshift_int hc (by rw[Int.fdiv_eq_ediv_of_nonneg i (AX _)];exact q)
theorem LI:OpR X (binaryOp .BitAnd) (rI0 fun i j=>.int (Builtin.bitAnd i j)):=MF fun _ _ _ _ _ _ _ q=>and_int q
theorem unI{f:Value->Sem Value}{g:Int->Int}(rule:∀(i:Int)(t:Tok)(s:Shared)(Q:Value->Shared->Prop)(E:Value->Shared->Prop),Q (.int (g i) s.toks) { s with toks:=s.toks+1 }->wpAny (model X.prog X.w) X.A (f (.int i t)) Q E s):
  UnR X f (rU fun i=>.int (g i)):=by
 intro pins s σ H x v Q I rx h;obtain⟨i,rfl,q⟩:=h;obtain⟨t,rfl⟩:=rx;exact rule i t s _ _ ⟨.int (g i),H,I.tok _,⟨_,rfl⟩,q⟩
theorem rQ:UnR X (unaryOp .USub) (rU fun i=>.int (-i)):=unI fun _ _ _ _ _ q=>neg_int q
end
section
variable{X:Cx}{a b c:Expr}{ta tb tc:TE}{pos:Pos}
theorem L1{pins:List (Addr×Obj)}{σ:St}{H:Hp}{s:Shared}{Q:VK}{k k':Bool}(I:Inv X pins σ H s)(q:Q (.bl k) H)(e:k=k'):EP X pins σ Q (.bool k') s:=by
 subst e;exact⟨.bl k,H,I,rfl,q⟩
theorem ER:OpR X (compareOp .Lt) (rI0 fun i j=>.bl (decide (i<j))):=Iv fun _ _ _ _ _ _ _ q=>lt_int q
theorem uJ:OpR X (compareOp .LtE) (rI0 fun i j=>.bl (decide (i<=j))):=Iv fun _ _ _ _ _ _ _ q=>le_int q
theorem BU:OpR X (compareOp .Gt) (rI0 fun i j=>.bl (decide (j<i))):=Iv fun _ _ _ _ _ _ _ q=>gt_int q
theorem Ki:OpR X (compareOp .GtE) (rI0 fun i j=>.bl (decide (j<=i))):=Iv fun _ _ _ _ _ _ _ q=>ge_int q
theorem px:OpR X (compareOp .Is) (fun x y H Q=>y=.non/\Q (.bl (decide (x=.non))) H):=by
 intro pins s σ H x y v u Q I rx ry h;obtain⟨rfl,q⟩:=h;cases ry;refine is_none_gen (L1 I q ?_)
 cases x<;>first
  |(cases rx;rfl)
  |(obtain⟨t,rfl⟩:=rx;rfl)
theorem aM(b:Expr){op:CmpOp}(h:op≠.In:=by decide)(h2:op≠.NotIn:=by decide):behindInMarks op b=false:=by
 have e1:(op == CmpOp.In)=false:=by cases op<;>first|rfl|exact absurd rfl h
 have e2:(op == CmpOp.NotIn)=false:=by cases op<;>first|rfl|exact absurd rfl h2
 cases b<;>simp[behindInMarks,e1,e2]
theorem bU{op:CmpOp}{r:R2}(ho:OpR X (compareOp op) r)(ha:PE X a ta)(hb:PE X b tb)(hm:behindInMarks op b=false):PE X (.Compare a [op] [b] pos) (tOp r ta tb):=.mk <| by
 intro pins s σ H Q I h;exact wpAny_Compare1 (LW ha hb I h fun v u s2 x y H2 I2 rx ry q=>ho pins s2 σ H2 x y v u Q I2 rx ry q) hm
noncomputable def GB(t:TE):TT:=fun σ H Q=>t σ H fun x H'=>∃k,x=.bl k/\Q k H'
theorem aN{op:CmpOp}{r:R2}(ho:OpR X (compareOp op) r)(ha:PE X a ta)(hb:PE X b tb)(hm:behindInMarks op b=false):PT X (.Compare a [op] [b] pos) (GB (tOp r ta tb)):=by
 intro pins s σ H Q I h
 refine wpAny_isTrue_Compare1 (thn (ha pins s σ H _ I h) fun v s1 ⟨x,H1,I1,r1,q1⟩=>thn (hb pins s1 σ H1 _ I1 q1) fun u s2 ⟨y,H2,I2,r2,q2⟩=>
  thn (ho pins s2 σ H2 x y v u _ I2 r1 r2 q2) fun c s3 ⟨z,H3,I3,r3,k,e,q3⟩=>?_) hm
 subst e;cases r3;exact wpAny_truthy_bool ⟨H3,I3,q3⟩
noncomputable def Bj(r r':R2)(ta tb tc:TE):TE:=fun σ H Q=>ta σ H fun x H1=>tb σ H1 fun y H2=>r x y H2 fun z H3=>∃k,z=.bl k /\
 (if k=true then tc σ H3 fun w' H4=>r' y w' H4 Q else Q (.bl false) H3)
theorem yJ{op op':CmpOp}{r r':R2}(ho:OpR X (compareOp op) r)(ho':OpR X (compareOp op') r')(ha:PE X a ta)(hb:PE X b tb)(hc:PE X c tc)(hm:lastMarks [op,op'] [b,c]=false:=by with_unfolding_all rfl):PE X (.Compare a [op,op'] [b,c] pos) (Bj r r' ta tb tc):=.mk <| by
 intro pins s σ H Q I h
 refine Compare_chain (thn (ha pins s σ H _ I h) fun v s1 ⟨x,H1,I1,r1,q1⟩=>chain_link (thn (hb pins s1 σ H1 _ I1 q1) fun u s2 ⟨y,H2,I2,r2,q2⟩=>
  thn (ho pins s2 σ H2 x y v u _ I2 r1 r2 q2) fun d s3 ⟨z,H3,I3,r3,k,e,q3⟩=>?_)) hm
 subst e;cases r3;refine wpAny_truthy_bool ?_
 cases k with
 |false=>exact ite_ff ⟨.bl false,H3,I3,rfl,q3⟩
 |true=>exact ite_tt (chain_last (thn (hc pins s3 σ H3 _ I3 q3) fun w' s4 ⟨z',H4,I4,r4,q4⟩=>ho' pins s4 σ H4 y z' u w' Q I4 r2 r4 q4))
theorem Hy{op op':CmpOp}{r r':R2}(ho:OpR X (compareOp op) r)(ho':OpR X (compareOp op') r')(ha:PE X a ta)(hb:PE X b tb)(hc:PE X c tc)(hm:lastMarks [op,op'] [b,c]=false:=by with_unfolding_all rfl):PT X (.Compare a [op,op'] [b,c] pos) (GB (Bj r r' ta tb tc)):=by
 intro pins s σ H Q I h
 refine isTrue_chain (thn (ha pins s σ H _ I h) fun v s1 ⟨x,H1,I1,r1,q1⟩=>test_link (thn (hb pins s1 σ H1 _ I1 q1) fun u s2 ⟨y,H2,I2,r2,q2⟩=>
  thn (ho pins s2 σ H2 x y v u _ I2 r1 r2 q2) fun d s3 ⟨z,H3,I3,r3,k,e,q3⟩=>?_)) hm
 subst e;cases r3;refine wpAny_truthy_bool ?_
 cases k with
 |false=>
  obtain⟨k',e',q'⟩:=q3;cases e';exact ite_ff ⟨H3,I3,q'⟩
 |true=>
  refine ite_tt (test_last (thn (hc pins s3 σ H3 _ I3 q3) fun w' s4 ⟨z',H4,I4,r4,q4⟩=>thn (ho' pins s4 σ H4 y z' u w' _ I4 r2 r4 q4) fun d' s5 ⟨z2,H5,I5,r5,k2,e2,q5⟩=>?_));subst e2;cases r5;exact wpAny_truthy_bool ⟨H5,I5,q5⟩
noncomputable def xB(K:W.Frag)(x:V)(H:Hp)(k:Bool):Prop:=
 match x with
 |.non=>k=false
 |.bl b=>k=b
 |.int i=>k=(i != 0)
 |.str y=>y.length<=sizeLine/\k=((y.length:Int) != 0)
 |.byt y=>y.size<=sizeLine/\k=((y.size:Int) != 0)
 |.ref p=>(∃xs,SqL K H p xs/\k=!xs.isEmpty)\/(∃xs,SqT K H p xs/\k=!xs.isEmpty)\/∃kvs,H p=some (.dK kvs)/\k=!kvs.isEmpty
 |_=>False
theorem zU{κ:Type}{kvs:List (κ×V)}{vs:List (κ×Value)}(r:KV kvs vs):(!vs.isEmpty)=!kvs.isEmpty:=by
 cases r<;>rfl
theorem sf{xs:List V}{its:List Value}(r:aR xs its):(!its.toArray.isEmpty)=!xs.isEmpty:=by
 cases r<;>simp
theorem oS:(sizeLine:Nat)<2^63:=by rw[sizeLine_eq];decide
theorem A4:Oj X (fun x H Q=>∃k,xB X.K x H k/\Q k H):=by
 intro pins s σ H x v Q I rx h;obtain⟨k,e,q⟩:=h;have hl:=oS;have hs:sizeLine=16777216:=sizeLine_eq
 cases x with
 |non=>
  cases rx;have e':k=false:=e;subst e';exact truthy_none ⟨H,I,q⟩
 |bl b=>
  cases rx;have e':k=b:=e;subst e';exact wpAny_truthy_bool ⟨H,I,q⟩
 |int i=>
  obtain⟨t,rfl⟩:=rx;have e':k=(i != 0):=e;subst e';exact PySem.P.truthy_int ⟨H,I,q⟩
 |str y=>
  obtain⟨t,rfl⟩:=rx;obtain⟨hy,e'⟩:y.length<=sizeLine/\k=((y.length:Int) != 0):=e;subst e';exact PySem.P.truthy_str (by omega) ⟨H,I.tok _,q⟩
 |byt y=>
  obtain⟨t,rfl⟩:=rx;obtain⟨hy,e'⟩:y.size<=sizeLine/\k=((y.size:Int) != 0):=e;subst e';exact W.truthy_bytes (by omega) ⟨H,I.tok _,q⟩
 |ref p=>
  cases rx;have e':(∃xs,SqL X.K H p xs/\k=!xs.isEmpty)\/(∃xs,SqT X.K H p xs/\k=!xs.isEmpty)\/∃kvs,H p=some (.dK kvs)/\k=!kvs.isEmpty:=e;rcases e' with⟨xs,hx,e'⟩|⟨xs,hx,e'⟩|⟨kvs,hx,e'⟩
  ·subst e'
   obtain⟨its,r,pl,hz⟩:=I.list hx;have hlen:=r.length;exact wpAny_truthy_list pl.isList (by simp only[List.size_toArray];omega) ⟨H,I.tok _,by rw[sf r];exact q⟩
  ·subst e'
   obtain⟨its,r,pl,hz⟩:=I.tuple hx;have hlen:=r.length;exact truthy_tuple pl (by simp only[List.size_toArray];omega) ⟨H,I.tok _,by rw[sf r];exact q⟩
  ·subst e'
   obtain⟨hz,hS,vs,r,m⟩:kvs.length<=sizeLine/\(p == sysModules)=false/\∃vs,KV kvs vs/\s.heap.DictOf (bx X.prog X.w) p vs:=I.hok p _ hx;have hlen:kvs.length=vs.length:=Paired.length r;exact wpAny_truthy_dict hS m (by omega) ⟨H,I.tok _,by rw[zU r];exact q⟩
 |_=>exact(show False from e).elim
theorem EQ(ha:PE X a ta)(he:∀whole,isTrue a X.env whole=(do let v ← whole;standAt a.pos;holding [v] (truthy v))):
  PT X a (fun σ H Q=>ta σ H fun x H'=>∃k,xB X.K x H' k/\Q k H'):=by
 intro pins s σ H Q I h;exact isTrue_plain (thn (ha pins s σ H _ I h) fun v s1 ⟨x,H1,I1,r1,q1⟩=>A4 pins s1 σ H1 x v Q I1 r1 q1) (he _)
theorem g9{x:V}{us:List Value}(r:aR [x] us):∃u,us=[u]/\bf x u:=by
 cases r with
 |cons r1 r2=>cases r2;exact⟨_,rfl,r1⟩
theorem FN{x y:V}{us:List Value}(r:aR [x,y] us):∃u w',us=[u,w']/\bf x u/\bf y w':=by
 cases r with
 |cons r1 r2=>
  cases r2 with
  |cons r3 r4=>cases r4;exact⟨_,_,rfl,r1,r3⟩
theorem sT:cY X (.builtin "abs") (fun xs H Q=>∃i,xs=[.int i]/\Q (.int (if i<0 then -i else i)) H):=by
 intro pins s σ H xs us Q I r h;obtain⟨i,rfl,q⟩:=h;obtain⟨u,rfl,t,rfl⟩:=g9 r;exact call_abs_int fun u tk=>⟨.int (if i<0 then -i else i),H,I.tok _,⟨_,rfl⟩,q⟩
theorem iZ(hc:X.calm=true):cY X (.builtin "max") (fun xs H Q=>∃i j,xs=[.int i,.int j]/\Q (.int (if j>i then j else i)) H):=by
 intro pins s σ H xs us Q I r h;obtain⟨i,j,rfl,q⟩:=h;obtain⟨u,w',rfl,⟨t,rfl⟩,⟨t',rfl⟩⟩:=FN r;refine max_two_ints (I.ok.hd hc) fun h' tk k=>⟨_,H,I.kept k,?_,q⟩;by_cases hj:j>i
 ·rw[if_pos hj,if_pos hj];exact⟨_,rfl⟩
 ·rw[if_neg hj,if_neg hj];exact⟨_,rfl⟩
theorem lV(hc:X.calm=true):cY X (.builtin "min") (fun xs H Q=>∃i j,xs=[.int i,.int j]/\Q (.int (if j<i then j else i)) H):=by
 intro pins s σ H xs us Q I r h;obtain⟨i,j,rfl,q⟩:=h;obtain⟨u,w',rfl,⟨t,rfl⟩,⟨t',rfl⟩⟩:=FN r;refine min_two_ints (I.ok.hd hc) fun h' tk k=>⟨_,H,I.kept k,?_,q⟩;by_cases hj:j<i
 ·rw[if_pos hj,if_pos hj];exact⟨_,rfl⟩
 ·rw[if_neg hj,if_neg hj];exact⟨_,rfl⟩
theorem pF:cY X (.type "int") (fun xs H Q=>(∃i,xs=[.int i]/\Q (.int i) H)\/∃k,xs=[.bl k]/\Q (.int (if k then 1 else 0)) H):=by
 intro pins s σ H xs us Q I r h;rcases h with⟨i,rfl,q⟩|⟨k,rfl,q⟩
 ·obtain⟨u,rfl,t,rfl⟩:=g9 r
  exact call_int_int ⟨.int i,H,I,⟨_,rfl⟩,q⟩
 ·obtain⟨u,rfl,r1⟩:=g9 r
  cases r1;exact call_int_bool ⟨.int (if k then 1 else 0),H,I.tok _,⟨_,rfl⟩,q⟩
noncomputable def Id(K:W.Frag)(x:V)(H:Hp)(n:Nat):Prop:=
 match x with
 |.str y=>y.length<=sizeLine/\n=y.length
 |.byt y=>y.size<=sizeLine/\n=y.size
 |.ref p=>(∃xs,SqL K H p xs/\n=xs.length)\/∃xs,SqT K H p xs/\n=xs.length
 |_=>False
theorem GU:cY X (.builtin "len") (fun xs H Q=>∃x n,xs=[x]/\Id X.K x H n/\Q (.int n) H):=by
 intro pins s σ H xs us Q I r h;obtain⟨x,n,rfl,e,q⟩:=h;obtain⟨u,rfl,rx⟩:=g9 r;have hl:=oS;have hs:sizeLine=16777216:=sizeLine_eq
 cases x with
 |str y=>
  obtain⟨t,rfl⟩:=rx;obtain⟨hy,e'⟩:y.length<=sizeLine/\n=y.length:=e;subst e';exact len_str (by omega) ⟨.int _,H,I.tok _,⟨_,rfl⟩,q⟩
 |byt y=>
  obtain⟨t,rfl⟩:=rx;obtain⟨hy,e'⟩:y.size<=sizeLine/\n=y.size:=e;subst e';exact W.len_bytes (by omega) ⟨.int _,H,I.tok _,⟨_,rfl⟩,q⟩
 |ref p=>
  cases rx;have e':(∃xs,SqL X.K H p xs/\n=xs.length)\/∃xs,SqT X.K H p xs/\n=xs.length:=e;rcases e' with⟨xs,hx,e'⟩|⟨xs,hx,e'⟩
  ·subst e'
   obtain⟨its,r',pl,hz⟩:=I.list hx;have hlen:=r'.length;exact Calls.call_len_list pl.isList (by simp only[List.size_toArray];omega) ⟨.int xs.length,H,I.tok _,⟨_,by simp only[List.size_toArray];rw[hlen]⟩,q⟩
  ·subst e'
   obtain⟨its,r',pl,hz⟩:=I.tuple hx;have hlen:=r'.length;exact len_tuple pl (by simp only[List.size_toArray];omega) ⟨.int xs.length,H,I.tok _,⟨_,by simp only[List.size_toArray];rw[hlen]⟩,q⟩
 |_=>exact(show False from e).elim
end
structure Lr(h:Heap)(x dx C:Addr)(mA:Str->Option Value):Prop where
 obj:h.get? x=some (W.instObj C dx)
 ns:h.Ns1 dx mA
 ne:dx≠x
theorem Ei{h:Heap}{dx:Addr}{mA:Str->Option Value}(n:h.Ns1 dx mA):∃od,h.get? dx=some od/\∀name,W.lookIn name od=some (mA name):=by
 obtain⟨o,es,ep,ho,hd,hk,_,hm⟩:=n;refine⟨o,ho,fun name=>?_⟩;have e:=hm name;unfold nsFind findBy at e;rw[←Array.find?_toList] at e
 unfold W.lookIn;rw[hd];dsimp only;split
 ·rename_i y q
  rw[q] at e;exact congrArg some e
 ·rename_i q
  rw[q] at e
  have a:es.toList.any (·.refKey)=false:=by
   rw[List.any_eq_false];intro y hy;obtain⟨z,t,hkey⟩:=hk y (Array.mem_toList_iff.mp hy);simp[DictEntry.refKey,hkey]
  have a':¬ es.toList.any (·.refKey)=true:=by rw[a];exact Bool.false_ne_true
  rw[if_neg a'];exact congrArg some e
theorem Lr.look{h:Heap}{x dx C:Addr}{mA:Str->Option Value}(I:Lr h x dx C mA):∃od,W.InstAt h x (W.instObj C dx) C (some od)/\∀name,W.lookIn name od=some (mA name):=
 let ⟨od,ho,hl⟩:=Ei I.ns
 ⟨od,⟨I.obj,rfl,rfl,ho⟩,hl⟩
theorem r9.some_of{v:V}{o:Option Value}(r:r9 (some v) o):∃u,o=some u/\bf v u:=by
 cases o with
 |none=>exact(show False from r).elim
 |some u=>exact⟨u,rfl,r⟩
section
variable{P:Program}{w:World}{H H':Hp}{h h':Heap}{a C dx:Addr}{fs fs':List (Str×V)}
theorem Ih(hok:HOk P w H h)(e:H a=some (.ins C dx fs)):∃mA,Lr h a dx C mA/\(∀f,r9 (fs.lookup f) (mA f))/\PySem.Within mA (fs.map (·.1))/\fs.length<=1000/\H dx=some (.own a):=by
 obtain⟨d,z,ne,ob,mA,n,r,q⟩:=(show bV P w H h a (.ins C dx fs) from hok a _ e)
 exact⟨mA,⟨ob,n,ne⟩,r,q,z,d⟩
end
structure Cls(K:W.Frag)(C:Addr):Prop where
 pg:W.plainGet K C Str.empty=true
 hd:W.hasDictIn K C=true
 po:W.plainOver K C=true
 sa:W.findIn K (.ref C) "__setattr__"=some (some (.builtin "object.__setattr__"))
theorem Cls.get{K:W.Frag}{C:Addr}(c:Cls K C)(f:Str):W.plainGet K C f=true:=c.pg
structure Con(K:W.Frag)(C:Addr)(f:Str)(v:V)(u:Value):Prop where
 at_:W.findIn K (.ref C) f=some (some u)
 rel:bf v u
 get:W.specialIn K u "__get__"=some none
 cp:W.copiedNames.contains f=false
structure Oy(K:W.Frag)(C:Addr)(m:Str)(f:Addr):Prop where
 at_:W.findIn K (.ref C) m=some (some (.ref f))
 fn:W.isFn K (.ref f)=true
 kp:W.keepIn K (.ref f)=true
section
variable{X:Cx}{pins:List (Addr×Obj)}{σ:St}{H:Hp}{s:Shared}{A:Around}{E:Value->Shared->Prop}{Q:Value->Shared->Prop}{c:Value}{b:Bool}
inductive oK (K:PySem.W.Frag) (H:Hp):V->Value->Prop where
 |non:oK K H .non (.type "NoneType")
 |bl (x:Bool):oK K H (.bl x) (.type "bool")
 |int (i:Int):oK K H (.int i) (.type "int")
 |str (x:Str):oK K H (.str x) (.type "str")
 |flt (x:UInt64):oK K H (.flt x) (.type "float")
 |lst {a:Addr} {xs:List V} (e:H a=some (.lst xs)):oK K H (.ref a) (.type "list")
 |frz {a:Addr} {o:Obj} {xs:List V} (e:H a=some (.frz o (.lst xs))):oK K H (.ref a) (.type "list")
 |tup {a:Addr} {xs:List V} (e:H a=some (.tup xs)):oK K H (.ref a) (.type "tuple")
 |dK {a:Addr} {kvs:List (Key×V)} (e:H a=some (.dK kvs)):oK K H (.ref a) (.type "dict")
 |dT {a:Addr} {kvs:List (List Key×V)} (e:H a=some (.dT kvs)):oK K H (.ref a) (.type "dict")
 |ins {a C dx:Addr} {fs:List (Str×V)} (e:H a=some (.ins C dx fs)) (cl:Cls K C) (ha:PySem.W.findIn K (.ref C) "__class__"=some (some (.builtin "object.__class__")))
   (hn:PySem.W.specialIn K (.builtin "object.__class__") "__get__"=some (some (.builtin "getset_descriptor.__get__"))) (htk:PySem.W.takesIn K (.builtin "object.__class__")=some true)
   (hm:PySem.W.mroIn K C (.type "object")=some true):oK K H (.ref a) (.ref C)
theorem Et{x:V}{u t:Value}(I:Inv X pins σ H s)(rx:bf x u)(ty:oK X.K H x t)(e:W.kitOne X.K t c=some b)(h:∀tk,Q (.bool b) { s with toks:=tk }):
  wpAny (model X.prog X.w) A (call (.builtin "isinstance") [u,c]) Q E s:=by
 cases ty with
 |non=>cases (show u=Value.none from rx);exact W.kia_one W.kitx_none I.kIn True.intro e (fun z=>nomatch z) h
 |bl y=>cases (show u=Value.bool y from rx);exact W.kia_one W.kitx_bool I.kIn True.intro e (fun z=>nomatch z) h
 |int i=>obtain⟨t,q⟩:=(show ∃t,u=Value.int i t from rx);cases q;exact W.kia_one W.kitx_int I.kIn True.intro e (fun z=>nomatch z) h
 |str y=>obtain⟨t,q⟩:=(show ∃t,u=Value.str y t from rx);cases q;exact W.kia_one W.kitx_str I.kIn True.intro e (fun z=>nomatch z) h
 |flt y=>obtain⟨t,q⟩:=(show ∃t,u=Value.float y t from rx);cases q;exact W.kia_one W.kitx_float I.kIn True.intro e (fun z=>nomatch z) h
 | @lst a xs ea=>
  cases (show u=Value.ref a from rx)
  obtain⟨_,_,n,_,h1⟩:=(show bV X.prog X.w H s.heap a (.lst xs) from I.hok a _ ea)
  exact W.kia_one W.kitx_list I.kIn ⟨_,h1,rfl⟩ e (fun z=>nomatch z) h
 | @frz a ob xs ea=>
  cases (show u=Value.ref a from rx)
  obtain⟨_,_,_,n,_,h1⟩:=(show bV X.prog X.w H s.heap a (.frz ob (.lst xs)) from I.hok a _ ea)
  exact W.kia_one W.kitx_list I.kIn ⟨_,h1,rfl⟩ e (fun z=>nomatch z) h
 | @tup a xs ea=>
  cases (show u=Value.ref a from rx)
  obtain⟨_,_,_,p⟩:=(show bV X.prog X.w H s.heap a (.tup xs) from I.hok a _ ea)
  obtain⟨o,h1,h2,_⟩:=p.1;exact W.kia_one W.kitx_tuple I.kIn ⟨o,h1,h2⟩ e (fun z=>nomatch z) h
 | @dK a kvs ea=>
  cases (show u=Value.ref a from rx)
  obtain⟨_,_,vs,_,p⟩:=(show bV X.prog X.w H s.heap a (.dK kvs) from I.hok a _ ea)
  obtain⟨o,es,ep,h1,h2,_⟩:=p;exact W.kia_one W.kitx_dict I.kIn ⟨o,h1,h2.1⟩ e (fun z=>nomatch z) h
 | @dT a kvs ea=>
  cases (show u=Value.ref a from rx)
  obtain⟨_,_,xs,_,o,es,ep,h1,h2,_⟩:=(show bV X.prog X.w H s.heap a (.dT kvs) from I.hok a _ ea)
  exact W.kia_one W.kitx_dict I.kIn ⟨o,h1,h2.1⟩ e (fun z=>nomatch z) h
 | @ins a C dx fs ea cl ha hn htk hm=>
  cases (show u=Value.ref a from rx)
  obtain⟨mA,O,_⟩:=Ih I.hok ea;obtain⟨od,J,_⟩:=O.look;exact W.kia_one (W.kitx_own (cl.get _) cl.hd ha hn htk hm) I.kIn J e (fun z=>nomatch z) h
end
structure eJ(k:Nat)(A:Around):Prop where
 hd:A.handled=none
 dp:A.depth+3*k+5<recursionLimit
 un:A.units+16*k+200<cLine
 gd:A.guards=some []
theorem eJ.mono{j k:Nat}{A:Around}(r:eJ k A)(h:j<=k):eJ j A:=⟨r.hd,by have:=r.dp;omega,by have:=r.un;omega,r.gd⟩
theorem eJ.deeper{k:Nat}{A:Around}(r:eJ (k+1) A)(env:Env):eJ k (A.deeper env):=
 ⟨r.hd,by have:=r.dp;show A.depth+1+3*k+5<_;omega,by have:=r.un;show A.units+3+16*k+200<_;omega,r.gd⟩
theorem eJ.depth{k:Nat}{A:Around}(r:eJ k A):A.depth<recursionLimit:=by have:=r.dp;omega
theorem eJ.units{k:Nat}{A:Around}(r:eJ k A):A.units+64<cLine:=by have:=r.un;omega
noncomputable def Ig:TA:=fun _ H Q=>Q [] H
noncomputable def kO(ta:TE)(tr:TA):TA:=fun σ H Q=>ta σ H fun x H1=>tr σ H1 fun xs H2=>Q (x::xs) H2
section
variable{X:Cx}{e:Expr}{es:List Expr}{te:TE}{t:TA}{pos:Pos}
theorem ae:PA X [] Ig:=.mk <| fun _ _ _ _ H Q I h=>Calls.spliced_nil ⟨[],H,I,.nil,h⟩
theorem aa(ha:PE X e te)(hr:PA X es t)(hs:starEach (e::es) X.env=(false,eval e X.env)::starEach es X.env:=by rfl):PA X (e::es) (kO te t):=.mk <| by
 intro pos pins s σ H Q I h;rw[hs];show wpAny _ _ (spliced ((false,eval e X.env)::backTo pos (starEach es X.env))) _ _ s;refine Calls.spliced_cons (thn (ha pins s σ H _ I h) fun u s1 ⟨x,H1,I1,r1,q1⟩=>?_);exact thn (hr pos pins s1 σ H1 _ I1 q1) fun us s2 ⟨xs,H2,I2,r2,q2⟩=>⟨x::xs,H2,I2,.cons r1 r2,q2⟩
noncomputable def LY(t:TA):TE:=fun σ H Q=>t σ H fun xs H1=>xs.length<=sizeLine/\∀p,H1 p=none->Q (.ref p) (upd H1 p (.tup xs))
noncomputable def Lw(t:TA):TE:=fun σ H Q=>t σ H fun xs H1=>xs.length<=sizeLine/\∀p,H1 p=none->Q (.ref p) (upd H1 p (.lst xs))
theorem aV{x1}(h:PA X es t):PE X (.Tuple es x1 pos) (LY t):=.mk <| by
 intro pins s σ H Q I hq;refine wpAny_Tuple_spliced (thn (h pos pins s σ H _ I hq) fun us s1 ⟨xs,H1,I1,r,z,q⟩=>⟨by rw[←r.length];exact z,?_⟩)
 have hf:H1 s1.heap.objs.size=none:=I1.hok.fresh (Nat.le_refl _);refine⟨.ref s1.heap.objs.size,upd H1 s1.heap.objs.size (.tup xs),I1.laid (t':=s1.toks) (fun b u e=>Heap.get?_push_of_some _ e) (Nat.le_refl _) ?_,rfl,q _ hf⟩;exact⟨z,us,r,⟨_,Heap.get?_push_size _ rfl,rfl,_,rfl⟩,_,Heap.get?_push_size _ rfl,rfl⟩
theorem bh(h:PA X es t):PE X (.List es pos) (Lw t):=.mk <| by
 intro pins s σ H Q I hq;refine wpAny_List_spliced (thn (h pos pins s σ H _ I hq) fun us s1 ⟨xs,H1,I1,r,z,q⟩=>⟨by rw[←r.length];exact z,?_⟩)
 have hf:H1 s1.heap.objs.size=none:=I1.hok.fresh (Nat.le_refl _);refine⟨.ref s1.heap.objs.size,upd H1 s1.heap.objs.size (.lst xs),I1.laid (t':=s1.toks) (fun b u e=>Heap.get?_push_of_some _ e) (Nat.le_refl _) ?_,rfl,q _ hf⟩;exact⟨z,us,0,r,Heap.get?_push_size _ rfl⟩
end
noncomputable abbrev Sp:=List V->Hp->VK->XK->Prop
noncomputable abbrev CXT:=List Env->Hp->Shared->XK->Value->Shared->Prop
structure zX(P:Program)(w:World)(K:W.Frag)(mg:Str->Option Value)(base:Heap)(A:Around)(outer:List Env)(s:Shared)(H:Hp):Prop where
 frames:A.frames=some outer
 mod:Mod K mg base
 bs:∀b o,base.get? b=some o->s.heap.get? b=some o/\H b=none
 bsz:base.objs.size<=s.heap.objs.size
 funs:s.heap.FunFrames base outer
 frf:∀b∈frs outer,H b=none
 tt:Ey K H
 hok:HOk P w H s.heap
 bare:AllBare s.gens
noncomputable def CE(outer:List Env)(P:Program)(w:World)(H:Hp)(s:Shared)(Q:VK)(u:Value)(s':Shared):Prop:=
 ∃v H',s'.os=s.os/\AllBare s'.gens/\Un (frs outer) [] H H' s.heap s'.heap/\HOk P w H' s'.heap/\bf v u/\Q v H'
noncomputable def CR(CX:CXT)(outer:List Env)(P:Program)(w:World)(H:Hp)(s:Shared)(Q:VK)(E:XK)(r:Result)(s':Shared):Prop:=
 match r with
 |.ok (.ret u)=>CE outer P w H s Q u s'
 |.ok _=>False
 |.error e=>CX outer H s E e s'
structure az(P:Program)(w:World)(K:W.Frag)(mg:Str->Option Value)(base:Heap)(CX:CXT)(k:Nat)(f:Addr)(fd:FuncData)(ps:List Str)(sp:Sp):Prop where
 len:∀vs H Q E,sp vs H Q E->vs.length=ps.length
 run:∀(A:Around)(outer:List Env)(s:Shared)(H:Hp)(args:Args)(us:List Value)(vs:List V)(Q:VK)(E:XK),eJ k A->zX P w K mg base A outer s H->BindsTo s fd args (ps.zip us)->aR vs us->sp vs H Q E ->
  codeAny (model P w) A (.call (.ref f) args) (CR CX outer P w H s Q E) s
theorem az.mono{P:Program}{w:World}{K:W.Frag}{mg:Str->Option Value}{base:Heap}{CX:CXT}{j k:Nat}{f:Addr}{fd:FuncData}{ps:List Str}{sp:Sp}(F:az P w K mg base CX j f fd ps sp)(h:j<=k):
  az P w K mg base CX k f fd ps sp:=⟨F.len,fun A outer s H args us vs Q E hr=>F.run A outer s H args us vs Q E (hr.mono h)⟩
section
variable{X:Cx}{pins:List (Addr×Obj)}{σ:St}{H:Hp}{s s':Shared}
theorem Inv.env0(I:Inv X pins σ H s):zX X.prog X.w X.K X.mg X.base X.A X.stack s H:=
 ⟨I.ok.frames,I.ok.mod,I.bs,Nat.le_trans I.ok.bsz I.sz,I.stack,I.OT,I.ok.tt.mono I.base.tbls,I.hok,I.bare⟩
theorem Inv.after{Q:VK}{u:Value}(I:Inv X pins σ H s)(h:CE X.stack X.prog X.w H s Q u s'):EP X pins σ Q u s':=by
 obtain⟨v,H',os,bare,un,hok,r,q⟩:=h;obtain⟨hh,g,d,t,os'⟩:=s';obtain rfl:os'=s.os:=os;exact⟨v,H',I.call (h':=hh) (g':=g) (d':=d) (t':=t) (ch:=[]) un hok bare (fun b z=>absurd z (by simp)),r,q⟩
end
noncomputable def J2(sp:Sp)(dvs:List V)(E:XK)(t:TA):TE:=fun σ H Q=>t σ H fun vs H1=>sp (vs++dvs) H1 Q E
noncomputable def aP(K:W.Frag)(fd:FuncData)(ps:List Str)(ds:List Value):Prop:=
 ∀(s:Shared)(us:List Value),K.In s.heap->(us++ds).length=ps.length->BindsTo s fd ⟨us,[]⟩ (ps.zip (us++ds))
theorem aP.all{K:W.Frag}{fd:FuncData}{ps:List Str}(h:∀us:List Value,us.length=ps.length->bindArgs fd ⟨us,[]⟩=pure (ps.zip us)):aP K fd ps []:=fun s us _ hl=>by
 rw[List.append_nil] at hl ⊢;exact .of_eq (h us hl)
noncomputable def AR(CX:CXT)(X:Cx)(E:XK):Prop:=∀(pins:List (Addr×Obj)) (σ:St) (H:Hp) (s:Shared) (e:Value) (s':Shared),Inv X pins σ H s->CX X.stack H s E e s'->X.xe e s'
section
variable{X:Cx}{CX:CXT}{k:Nat}{f C:Addr}{fd:FuncData}{ps:List Str}{sp:Sp}{dvs:List V}{ds:List Value}{E:XK}{x m:Str}{p pos apos:Pos}{e o:Expr}{es:List Expr}{ta:TE}{t:TA}
theorem Mj{pins:List (Addr×Obj)}{σ:St}{H:Hp}{s:Shared}{Q:VK}{us:List Value}{vs:List V}(F:az X.prog X.w X.K X.mg X.base CX k f fd ps sp)(hr:eJ k X.A)(hb:aP X.K fd ps ds)(hd:aR dvs ds)(hx:AR CX X E)(I:Inv X pins σ H s)(r:aR vs us)(h:sp (vs++dvs) H Q E):wpAny (model X.prog X.w) X.A (call (.ref f) us) (EP X pins σ Q) X.xe s:=by
 have r2:aR (vs++dvs) (us++ds):=r.append hd;have hl:(us++ds).length=ps.length:=by rw[←r2.length];exact F.len _ _ _ _ h
 refine wpAny_call (codeAny_mono (F.run X.A X.stack s H ⟨us,[]⟩ (us++ds) (vs++dvs) Q E hr I.env0 (hb s us I.kIn hl) r2 h) fun r s' hq=>?_)
 cases r with
 |error e=>exact hx pins σ H s e s' I hq
 |ok fl=>
  cases fl with
  |ret u=>exact I.after hq
  |next=>exact False.elim hq
  |brk=>exact False.elim hq
  |cont=>exact False.elim hq
theorem ai(F:az X.prog X.w X.K X.mg X.base CX k f fd ps sp)(hr:eJ k X.A)(hg:Gl X x)(hm:X.mg x=some (.ref f))(hk:W.keepIn X.K (.ref f)=true)(hb:aP X.K fd ps ds)(hd:aR dvs ds)(hx:AR CX X E)(ha:PA X (e::es) t)(hdb:(x == ("__debug__":Str))=false:=by decide)(he:starEach (e::es) X.env=(false,eval e X.env)::starEach es X.env:=by rfl)(hpl:(backTo pos (starEach es X.env)).any (·.1)=false:=by rfl):
  PE X (.Call (.Name x p) (e::es) [] pos) (J2 sp dvs E t):=.mk <| by
 intro pins s σ H Q I h;refine wpAny_Call_Name_kw (xm I hg hm ?_ hdb);refine W.callWith_K (h₀:=X.base) I.ok.mod.kin hk (thn (ha pos pins s σ H _ I h) fun us s1 ⟨vs,H1,I1,r,q⟩=>⟨I1.kIn,?_⟩) he hpl;exact Mj F hr hb hd hx I1 r q
structure Mk(K:W.Frag)(C f:Addr):Prop where
 makes:W.makesIn K C=true
 init:W.findIn K (.ref C) "__init__"=some (some (.ref f))
 fn:W.isFn K (.ref f)=true
 kp:W.keepIn K (.ref C)=true
end
section
variable{X:Cx}{CX:CXT}{k:Nat}{f C:Addr}{fd:FuncData}{ps ks:List Str}{sp:Sp}{E:XK}{x m:Str}{p pos apos kpos:Pos}{e o:Expr}{es:List Expr}{kws:List Keyword}{te ta:TE}{t tk:TA}{nm:Option Str}
structure Oq(K:W.Frag)(fd:FuncData)(ps ks:List Str)(g:List Value->List Value->List Value)(gV:List V->List V->List V):Prop where
 to:∀(s:Shared)(us ws:List Value),K.In s.heap->(g us ws).length=ps.length->BindsTo s fd ⟨us,ks.zip ws⟩ (ps.zip (g us ws))
 rel:∀ {vs:List V} {us:List Value} {zs:List V} {ws:List Value},aR vs us->aR zs ws->aR (gV vs zs) (g us ws)
variable{g:List Value->List Value->List Value}{gV:List V->List V->List V}
end
structure aA(N P:List Str)(sc:Scope):Prop where
 kind:sc.kind=.function
 co:sc.isCoroutine=false
 gen:sc.isGenerator=false
 nd:N.Nodup
 pre:N.take P.length=P
 par:∀x∈P,sc.names.lookup x=some .local\/sc.names.lookup x=some .cell
 nofree:∀y∈sc.names,y.2≠.free
theorem vi{kindOf:Str->Option NameKind}{x:Str}:∀ {binds:List (Str×Value)} {m:Str->Option Value},(∀v,(x,v) ∉ binds)->bindL kindOf binds m x=m x
 | [],_,_=>rfl
 |(n,v)::r,m,h=>by
  unfold bindL;rw[vi fun w hw=>h w (List.mem_cons_of_mem _ hw)];split
  ·have:x≠n:=by rintro rfl;exact h v List.mem_cons_self
   simp[this]
  ·rfl
theorem uU{kindOf:Str->Option NameKind}{x:Str}:∀ {binds:List (Str×Value)} {m:Str->Option Value},(∀v,(x,v) ∉ binds)->bindC kindOf binds m x=m x
 | [],_,_=>rfl
 |(n,v)::r,m,h=>by
  unfold bindC;rw[uU fun w hw=>h w (List.mem_cons_of_mem _ hw)];split
  ·rfl
  ·have:x≠n:=by rintro rfl;exact h v List.mem_cons_self
   simp[this]
theorem uO{kindOf:Str->Option NameKind}{x:Str}{v:Value}:∀ {P:List Str} {vs:List Value} {i:Nat} {m:Str->Option Value},P.Nodup->P[i]?=some x->vs[i]?=some v->kindOf x=some .local ->
  bindL kindOf (P.zip vs) m x=some v
 | [],_,_,_,_,h,_,_=>by simp at h
 |_::_,[],_,_,_,_,h,_=>by simp at h
 |p::P,w::vs,0,m,nd,h1,h2,hk=>by
  simp at h1 h2;subst h1;subst h2;show bindL kindOf ((p,w)::P.zip vs) m p=_;unfold bindL;rw[vi fun v hv=>(List.nodup_cons.mp nd).1 (List.of_mem_zip hv).1,if_pos hk];simp
 |p::P,w::vs,i+1,m,nd,h1,h2,hk=>by
  show bindL kindOf ((p,w)::P.zip vs) m x=_;unfold bindL;exact uO (i:=i) (List.nodup_cons.mp nd).2 (by simpa using h1) (by simpa using h2) hk
theorem u5{kindOf:Str->Option NameKind}{x:Str}{v:Value}:∀ {P:List Str} {vs:List Value} {i:Nat} {m:Str->Option Value},P.Nodup->P[i]?=some x->vs[i]?=some v->kindOf x≠some .local ->
  bindC kindOf (P.zip vs) m x=some v
 | [],_,_,_,_,h,_,_=>by simp at h
 |_::_,[],_,_,_,_,h,_=>by simp at h
 |p::P,w::vs,0,m,nd,h1,h2,hk=>by
  simp at h1 h2;subst h1;subst h2;show bindC kindOf ((p,w)::P.zip vs) m p=_;unfold bindC;rw[uU fun v hv=>(List.nodup_cons.mp nd).1 (List.of_mem_zip hv).1,if_neg hk];simp
 |p::P,w::vs,i+1,m,nd,h1,h2,hk=>by
  show bindC kindOf ((p,w)::P.zip vs) m x=_;unfold bindC;exact u5 (i:=i) (List.nodup_cons.mp nd).2 (by simpa using h1) (by simpa using h2) hk
noncomputable def start(N:List Str)(vs:List V):St:=vs.map some++List.replicate (N.length-vs.length) none
noncomputable def tZ(CX:CXT)(P:Program)(w:World)(K:W.Frag)(mg:Str->Option Value)(base:Heap)(N:List Str)(qual:Str)(scope:Scope)(f:Addr)(cd:Value)(A:Around)(outer:List Env)(s:Shared)(H:Hp)(E:XK):Cx where
 prog:=P
 w:=w
 K:=K
 mg:=mg
 base:=base
 A:=A.deeper (envOfC qual scope s.heap.objs.size f cd)
 N:=N
 s₀:=s
 H₀:=H
 env:=envOfC qual scope s.heap.objs.size f cd
 outer:=outer
 stack:=envOfC qual scope s.heap.objs.size f cd::outer
 ex:=[]
 calm:=true
 fn:=fun _=>true
 pn:=[]
 xe:=fun e s'=>wpAny (model P w) (A.deeper (envOfC qual scope s.heap.objs.size f cd)) (leaving (envOfC qual scope s.heap.objs.size f cd) e) (fun _ s''=>CX outer H s E e s'') (fun e' s''=>CX outer H s E e' s'') s'
theorem zc{sc:Scope}{n:Nat}{x:Str}(h:sc.names.lookup x=some .cell):∃c,(cellsFrom n sc.names []).lookup x=some c:=by
 have q:=W.cellsFrom_some sc.names n [] (.inl h);exact Option.isSome_iff_exists.mp q
theorem DG{CX:CXT}{P:Program}{w:World}{K:W.Frag}{mg:Str->Option Value}{base:Heap}{N ps:List Str}{qual:Str}{scope:Scope}{f:Addr}{cd:Value}{A:Around}{outer:List Env}{s s1:Shared}{H:Hp}{E:XK}{us:List Value}{vs:List V}(S:aA N ps scope)(hd:A.handled=none)(e0:zX P w K mg base A outer s H)(hl:vs.length=ps.length)(r:aR vs us)(x:InCallC s s.heap.objs.size (bindL (envOfC qual scope s.heap.objs.size f cd).kindOf (ps.zip us) fun _=>none) (cellsFrom (s.heap.objs.size+1) scope.names []) (bindC (envOfC qual scope s.heap.objs.size f cd).kindOf (ps.zip us) fun _=>none) s1):
  Inv (tZ CX P w K mg base N qual scope f cd A outer s H E) [] (start N vs) H s1:=by
 have hpl:ps.length<=N.length:=by have:=congrArg List.length S.pre;rw[List.length_take] at this;omega
 obtain⟨h1,tk,rfl,hk⟩:=x.done;have noA:∀b:Addr,b ∉ (tZ CX P w K mg base N qual scope f cd A outer s H E).ex:=fun b z=>absurd (show b∈([]:List Addr) from z) (by simp)
 refine⟨⟨e0.mod,S.kind,rfl,rfl,Nat.le_refl _,fun y z c h1 h2=>?_,fun y hy=>?_,fun y c _ h=>?_,fun _=>hd,Around.frames_deeper e0.frames,.inr ⟨rfl,rfl⟩,fun b z=>absurd z (noA b),e0.bs,e0.bsz,fun b _ _=>noA b,fun b z=>absurd z (noA b),e0.funs,e0.frf,e0.tt⟩,
  rfl,e0.bare,Un.kept hk,⟨_,x.toInCall.ns,fun i y v h1 h2 h3=>?_⟩,fun y c h=>⟨_,x.cell y c h⟩,e0.hok.fresh (Nat.le_refl _),fun y c h=>?_,fun p hp=>absurd (show p∈([]:List (Addr×Obj)) from hp) (by simp),e0.hok.kept hk,?_⟩
 ·exact name_of_addr x.apart (PySem.mem_of_lookup h1) (PySem.mem_of_lookup h2)
 ·have hy:scope.names.lookup y=some .cell\/scope.names.lookup y=some .free:=hy
  rcases hy with hy|hy
  ·exact zc hy
  ·exact absurd rfl (S.nofree _ (PySem.mem_of_lookup hy))
 ·exact Nat.le_of_lt (x.above y c (PySem.mem_of_lookup h))
 ·have hi:i<vs.length:=by
   unfold start at h2;by_cases hi:i<vs.length
   ·exact hi
   ·rw[List.getElem?_append_right (by simpa using hi)] at h2
    rw[List.getElem?_replicate] at h2;split at h2<;>cases h2
  have ha:vs[i]?=some v:=by
   unfold start at h2;rw[List.getElem?_append_left (by simpa using hi),List.getElem?_map] at h2
   cases e:vs[i]? with
   |none=>rw[e] at h2;cases h2
   |some a=>rw[e] at h2;cases h2;rfl
  obtain⟨u,hu,rv⟩:=r.get ha
  have hp:ps[i]?=some y:=by
   rw[←S.pre,List.getElem?_take_of_lt (by omega)];exact h1
  have ndP:ps.Nodup:=by rw[←S.pre];exact S.nd.sublist (List.take_sublist _ _)
  refine⟨u,rv,?_⟩;rcases S.par y (List.mem_of_getElem? hp) with k|k
  ·exact .inl ⟨k,uO ndP hp hu k⟩
  ·obtain⟨c,e⟩:=zc (n:=s.heap.objs.size+1) k
   refine .inr ⟨.inl k,c,e,?_⟩;have q:=x.cell y c e;rw[u5 ndP hp hu (by show scope.names.lookup y≠_;rw[k];decide)] at q
   exact q
 ·exact e0.hok.fresh (Nat.le_of_lt (x.above y c (PySem.mem_of_lookup h)))
 ·unfold start
  show _=N.length;rw[List.length_append,List.length_map,List.length_replicate];omega
theorem J3{CX:CXT}{P:Program}{w:World}{K:W.Frag}{mg:Str->Option Value}{base:Heap}{k:Nat}{f:Addr}{name qual:Str}{params:Arguments}{body:List Stmt}{scope:Scope}{dV kV doc pm cdv ct oc:Value}{an od:Option Addr}{osl:Array (Option Value)}{N ps:List Str}{sp:Sp}(lk:K.lookup f=some ⟨oc,od,.func (W.fnOf name qual params body scope dV kV doc pm an cdv ct),osl⟩)(hcd:W.codeIn K cdv qual=true)(S:aA N ps scope)(len:∀vs H Q E,sp vs H Q E->vs.length=ps.length)
  (hbody:∀(A:Around)(outer:List Env)(s:Shared)(H:Hp)(vs:List V)(Q:VK)(E:XK),eJ k (A.deeper (envOfC qual scope s.heap.objs.size f cdv))->sp vs H Q E ->
   ∃t,PSs (tZ CX P w K mg base N qual scope f cdv A outer s H E) body t/\t { nx:=fun _ H'=>Q .non H',rt:=Q } (start N vs) H) :
  az P w K mg base CX (k+1) f (W.fnOf name qual params body scope dV kV doc pm an cdv ct) ps sp:=by
 refine⟨len,fun A outer s H args us vs Q E hr e0 hb r hsp=>?_⟩;have hl:=len _ _ _ _ hsp;have KX:K.In s.heap:=e0.mod.kin.keeps fun b o e=>(e0.bs b o e).1;have lim:s.heap.NoLimit:=e0.mod.nolimit.keeps fun b o e=>(e0.bs b o e).1
 have hkind:∀y∈ps.zip us,scope.names.lookup y.1=some .local\/(scope.names.lookup y.1=some .cell/\((cellsFrom (s.heap.objs.size+1) scope.names []).lookup y.1).isSome=true):=fun⟨n,v⟩ hy=>by
  rcases S.par n (List.of_mem_zip hy).1 with q|q
  ·exact .inl q
  ·exact .inr ⟨q,W.cellsFrom_some _ _ _ (.inl q)⟩
 refine codeAny_call_function hr.depth (KX _ _ lk) rfl S.co S.gen rfl (W.codeRec_of KX hcd) (hb _ _ _ _ ?_);refine wpAny_newFunctionEnv_cells S.kind hkind fun env he s1 x=>?_;subst he;refine⟨lim.keeps x.toInCall.keep,codeAny_func ?_⟩;obtain⟨t,ht,hq⟩:=hbody A outer s H vs Q E (hr.deeper _) hsp;have I:Inv (tZ CX P w K mg base N qual scope f cdv A outer s H E) [] (start N vs) H s1:=DG S hr.hd e0 hl r x
 refine wpAny_mono (ht [] s1 (start N vs) H _ I hq) (fun fl s' hs=>?_) fun e s' hs=>hs
 have fin:∀ {σ':St} {H':Hp} {v:V} {u:Value},Inv (tZ CX P w K mg base N qual scope f cdv A outer s H E) [] σ' H' s'->bf v u->Q v H'->CE outer P w H s Q u s':=
  fun {σ' H' v u} J rv q=>⟨v,H',J.os,J.bare,J.base,J.hok,rv,q⟩
 cases fl with
 |ret u=>
  obtain⟨v,σ',H',J,rv,q⟩:=hs;exact fin J rv q
 |next=>
  obtain⟨σ',H',J,q⟩:=hs;exact fin (v:=V.non) (u:=Value.none) J rfl q
 |brk=>
  obtain⟨_,_,_,q⟩:=hs;exact False.elim q
 |cont=>
  obtain⟨_,_,_,q⟩:=hs;exact False.elim q
section
variable{X:Cx}{x:Str}{p pos:Pos}{e:Expr}{es:List Expr}{t:TA}{id T:String}{r:List V->Hp->VK->Prop}
noncomputable def tCB(r:List V->Hp->VK->Prop)(t:TA):TE:=fun σ H Q=>t σ H fun vs H1=>r vs H1 Q
theorem aG(hc:cY X (.builtin id) r)(hg:Gl X x)(hm:X.mg x=none)(hv:bootBuiltins x=some (.builtin id))(ha:PA X (e::es) t)(hn:x≠"__name__":=by decide)(hdb:(x == ("__debug__":Str))=false:=by decide)(he:starEach (e::es) X.env=(false,eval e X.env)::starEach es X.env:=by rfl)(hpl:(backTo pos (starEach es X.env)).any (·.1)=false:=by rfl):PE X (.Call (.Name x p) (e::es) [] pos) (tCB r t):=.mk <| by
 intro pins s σ H Q I h;refine wpAny_Call_Name_kw (o9 I hg hm hv ?_ hn hdb);exact PyProof.Rows.callWith_builtin1 (thn (ha pos pins s σ H _ I h) fun us s1 ⟨vs,H1,I1,r1,q1⟩=>hc pins s1 σ H1 vs us Q I1 r1 q1) he hpl
theorem bt(hc:cY X (.type T) r)(hg:Gl X x)(hm:X.mg x=none)(hv:bootBuiltins x=some (.type T))(ha:PA X (e::es) t)(hn:x≠"__name__":=by decide)(hdb:(x == ("__debug__":Str))=false:=by decide)(he:starEach (e::es) X.env=(false,eval e X.env)::starEach es X.env:=by rfl)(hpl:(backTo pos (starEach es X.env)).any (·.1)=false:=by rfl):PE X (.Call (.Name x p) (e::es) [] pos) (tCB r t):=.mk <| by
 intro pins s σ H Q I h;refine wpAny_Call_Name_kw (o9 I hg hm hv ?_ hn hdb);exact PyProof.Rows.callWith_type1 (thn (ha pos pins s σ H _ I h) fun us s1 ⟨vs,H1,I1,r1,q1⟩=>hc pins s1 σ H1 vs us Q I1 r1 q1) he hpl
end
end L2
namespace HT
open PySem PyProof.Rows
section
open PySem.SeqAt
open PySem.AutoSeq1 (wpAny_loadPart')
open PySem.MeetsSeq PySem.MeetsSeq2 PySem.MeetsSeq3
end
section
variable{prog:Program}{w:World}{A:Around}{E:Value->Shared->Prop}{s:Shared}
theorem cat_tup{t b:Addr}{vs ws:List Value}{Q:Value->Shared->Prop}(ht:IsTup s.heap t vs.toArray)(hb:IsTup s.heap b ws.toArray)(hv:vs≠[])(h1:ws=[]->Q (.ref t) s)(h2:ws≠[]->Q (.ref s.heap.objs.size) { s with heap:=s.heap.push { cls:=.type "tuple",data:=.seq (vs++ws).toArray } })(hsz:vs.length+ws.length<=sizeLine):wpAny (model prog w) A (binaryOp .Add (.ref t) (.ref b)) Q E s:=by
 obtain⟨⟨cls,dd,data,sl⟩,ho,hc,n,hd⟩:=id ht;obtain⟨⟨cls2,dd2,data2,sl2⟩,ho2,hc2,n2,hd2⟩:=id hb;simp only at hc hd hc2 hd2;subst hc hd hc2 hd2;have e:vs.toArray++ws.toArray=(vs++ws).toArray:=by simp
 by_cases hw:ws=[]
 ·exact concat_meets ⟨_,ho,rfl⟩ ⟨_,ho2,rfl⟩ noFill_tuple_add seq_tuple_add PySem.F.slot_tuple_add PySem.F.entry_tuple_add (PySem.F.args_tuple_add_2 _ _)
   (tuple_addW1 t b vs.toArray ws.toArray n n2 dd dd2 sl sl2 (by simpa using hv) (by simp[hw])) ⟨ho,ho2,h1 hw⟩
 ·refine concat_meets ⟨_,ho,rfl⟩ ⟨_,ho2,rfl⟩ noFill_tuple_add seq_tuple_add PySem.F.slot_tuple_add PySem.F.entry_tuple_add (PySem.F.args_tuple_add_2 _ _)
   (tuple_addW2 t b vs.toArray ws.toArray n n2 dd dd2 sl sl2 (by simpa using hv) (by simpa using hw) (by rw[List.size_toArray,List.size_toArray];exact hsz)) ⟨ho,ho2,?_⟩
  rw[e];exact h2 hw
noncomputable def sIx(n d:Nat):Option Int->Nat
 |none=>d
 |some v=>if v<0 then (v+(n:Int)).toNat else min v.toNat n
theorem sIx_none(n d:Nat):sIx n d none=d:=rfl
theorem sIx_nat(n d k:Nat):sIx n d (some (k:Int))=min k n:=by
 show (if (k:Int)<0 then ((k:Int)+(n:Int)).toNat else min (k:Int).toNat n)=min k n
 rw[if_neg (by omega),Int.toNat_natCast]
theorem MH(n d:Nat)(hd:d<=n)(o:Option Int):sIx n d o<=n:=by
 cases o with
 |none=>exact hd
 |some v=>
  show (if v<0 then (v+(n:Int)).toNat else min v.toNat n)<=n
  by_cases hv:v<0
  ·rw[if_pos hv];omega
  ·rw[if_neg hv];exact Nat.min_le_right _ _
theorem Cp(v:Int)(n d:Nat):(if v<0 then max (v+(n:Int)) 0 else min v (n:Int))=((sIx n d (some v):Nat):Int):=by
 show (if v<0 then max (v+(n:Int)) 0 else min v (n:Int))=(((if v<0 then (v+(n:Int)).toNat else min v.toNat n):Nat):Int)
 by_cases hv:v<0
 ·simp only[if_pos hv];omega
 ·simp only[if_neg hv];omega
theorem zG(lo hi:Option Int)(n:Nat):Builtin.Slice.sliceAdjust lo hi 1 (n:Int)=(((sIx n 0 lo:Nat):Int),((sIx n n hi:Nat):Int)):=by
 have h1:¬ ((1:Int)<0):=by omega
 unfold Builtin.Slice.sliceAdjust;simp only[h1,if_false];refine Prod.ext ?_ ?_
 ·cases lo with
  |none=>rfl
  |some v=>exact Cp v n 0
 ·cases hi with
  |none=>rfl
  |some v=>exact Cp v n n
theorem zH(i j:Nat):Builtin.Slice.slicePlaces (i:Int) (j:Int) 1=j-i:=by
 unfold Builtin.Slice.slicePlaces;have h1:(1:Int)>0:=by omega
 simp only[h1,if_true,Int.ediv_one];split<;>omega
theorem s9{v:Value}{o:Option Int}{Q:Option Int->Shared->Prop}(p:IsPart v o)(h:Q o s):wpAny (model prog w) A (Builtin.Slice.slicePartIndex v) Q E s:=by
 cases p with
 |none=>exact slicePart_none h
 |int i t=>exact slicePart_int h
theorem sliceApplied_gen{sl:Addr}{vl vu:Value}{lo hi:Option Int}{n:Nat}{Q:Int×Int×Nat->Shared->Prop}(hs:s.heap.IsSliceOf sl vl vu .none)(pl:IsPart vl lo)(pu:IsPart vu hi)(h:Q (((sIx n 0 lo:Nat):Int),1,sIx n n hi-sIx n 0 lo) s):wpAny (model prog w) A (Builtin.Slice.sliceApplied (.ref sl) (pure (n:Int))) Q E s:=by
 obtain⟨os,hos,hcs,hds⟩:=id hs;unfold Builtin.Slice.sliceApplied Builtin.Slice.sliceFields;refine wpAny_bind (wpAny_bind (wpAny_field hos hds (x:=vl) rfl (wpAny_bind (wpAny_field hos hds (x:=vu) rfl (wpAny_bind (wpAny_field hos hds (x:=.none) rfl (wpAny_pure ?_)))))));refine wpAny_bind (slicePart_none ?_);show wpAny _ _ (if ((1:Int) == 0)=true then _ else _) _ _ s
 rw[if_neg (by decide)]
 refine wpAny_bind (s9 pl (wpAny_bind (s9 pu (wpAny_bind (wpAny_pure ?_)))));show wpAny _ _ (match Builtin.Slice.sliceAdjust lo hi 1 (n:Int) with|(lo,hi)=>pure (lo,(1:Int),Builtin.Slice.slicePlaces lo hi 1)) _ _ s
 rw[zG lo hi n];show wpAny _ _ (pure (((sIx n 0 lo:Nat):Int),(1:Int),Builtin.Slice.slicePlaces ((sIx n 0 lo:Nat):Int) ((sIx n n hi:Nat):Int) 1)) _ _ s;rw[zH];exact wpAny_pure h
theorem Fz(xs:Array Value)(i k:Nat):((List.range k).filterMap fun(m:Nat)=>xs[((i:Int)+(m:Int)*1).toNat]?).toArray=((xs.toList.drop i).take k).toArray:=by
 have e:(fun(m:Nat)=>xs[((i:Int)+(m:Int)*1).toNat]?)=fun m=>xs[i+m]?:=by
  funext m
  have:((i:Int)+(m:Int)*1).toNat=i+m:=by omega
  rw[this]
 rw[e];have:=pick_run xs i k;rw[List.filterMap_map] at this;have e2:((fun x=>xs[x]?) ∘ fun x=>i+x)=fun m=>xs[i+m]?:=rfl;rw[e2] at this;rw[this]
theorem getItem_tuple_cut{t sl:Addr}{items:Array Value}{vl vu:Value}{lo hi:Option Int}{Q:Value->Shared->Prop}(ht:IsTup s.heap t items)(hs:s.heap.IsSliceOf sl vl vu .none)(pl:IsPart vl lo)(pu:IsPart vu hi)(hw:¬ (sIx items.size 0 lo=0/\sIx items.size items.size hi=items.size))(h:Q (.ref s.heap.objs.size) { s with heap:=s.heap.push { cls:=.type "tuple",data:=.seq ((items.toList.drop (sIx items.size 0 lo)).take (sIx items.size items.size hi-sIx items.size 0 lo)).toArray } })(hsz:items.size<=sizeLine):wpAny (model prog w) A (getItem (.ref t) (.ref sl)) Q E s:=by
 have htake:sizeOk (.seq ((items.toList.drop (sIx items.size 0 lo)).take (sIx items.size items.size hi-sIx items.size 0 lo)).toArray):=by
  show ((items.toList.drop (sIx items.size 0 lo)).take (sIx items.size items.size hi-sIx items.size 0 lo)).toArray.size<=sizeLine;rw[List.size_toArray,List.length_take,List.length_drop,Array.length_toList];omega
 have hj:sIx items.size items.size hi<=items.size:=MH _ _ (Nat.le_refl _) hi;obtain⟨os,hos,hcs,hds⟩:=id hs;have hTs:s.TypeIs (.ref sl) "slice":=⟨os,hos,hcs⟩;unfold getItem
 try with_reducible refine wpAny_holding ?_
 first|refine wpAny_bind (wpAny_pure ?_)|skip
 refine wpAny_bind (wpAny_sequenceKey ht.typeIs (by decide) ?_)
 refine wpAny_bind (wpAny_callSpecial?_slot (name:=Str.ofString "__getitem__") ht.typeIs PyProof.Rows.slot_tuple_getitem
  (wpAny_call_entry PyProof.Rows.slot_tuple_getitem ht.typeIs entry_tuple_getitem ?_ (args_tuple_getitem _ _)))
 show wpAny _ _ (Builtin.Tuple.tupleItemsOf (.ref t) >>= _) _ _ s;refine wpAny_bind (tupleItemsOf_ ht ?_);refine wpAny_bind (wpAny_typeOf hTs ?_);rw[if_pos (by decide)]
 refine wpAny_bind (sliceApplied_gen hs pl pu ?_)
 have hno:¬ ((((sIx items.size 0 lo:Nat):Int) == 0 && (1:Int) == 1 && (sIx items.size items.size hi-sIx items.size 0 lo) == items.size)=true):=by
  intro q;rw[Bool.and_eq_true,Bool.and_eq_true] at q;have q1:((sIx items.size 0 lo:Nat):Int)=0:=eq_of_beq q.1.1;have q2:sIx items.size items.size hi-sIx items.size 0 lo=items.size:=eq_of_beq q.2;exact hw ⟨by omega,by omega⟩
 show wpAny _ _ (if (((sIx items.size 0 lo:Nat):Int) == 0 && (1:Int) == 1 && (sIx items.size items.size hi-sIx items.size 0 lo) == items.size)=true then _ else _) _ _ s
 rw[if_neg hno,Fz]
 first
  |exact wpAny_bind (m:=Builtin.Tuple.tupleExact _) (wpAny_newObj_type (wpAny_pure ⟨_,rfl,wpAny_pure h⟩) htake)
  |exact wpAny_bind (m:=Builtin.Tuple.tupleExact _) (wpAny_newObj_type (wpAny_bind (wpAny_pure (wpAny_pure ⟨_,rfl,wpAny_pure h⟩))) htake)
  |exact wpAny_bind (wpAny_bind (m:=Builtin.Tuple.tupleExact _) (wpAny_newObj_type (wpAny_pure (wpAny_pure ⟨_,rfl,wpAny_pure h⟩)) htake))
  |exact wpAny_bind (wpAny_bind (m:=Builtin.Tuple.tupleExact _) (wpAny_newObj_type (wpAny_pure ⟨_,rfl,wpAny_pure h⟩) htake))
end
end HT
namespace L2
open PySem PySem.Spec PyProof.Rows
noncomputable abbrev TO:=St->Hp->(Option Int->Hp->Prop)->Prop
noncomputable def PO(X:Cx)(e:Option Expr)(t:TO):Prop:=
 ∀(pins:List (Addr×Obj)) (s:Shared) (σ:St) (H:Hp) (Q:Option Int->Hp->Prop),Inv X pins σ H s->t σ H Q ->
  wpAny (model X.prog X.w) X.A (evalPart e X.env) (fun u s'=>∃o H',Inv X pins σ H' s'/\IsPart u o/\Q o H') X.xe s
noncomputable def BR:TO:=fun _ H Q=>Q none H
noncomputable def KO(t:TE):TO:=fun σ H Q=>t σ H fun x H1=>∃i,x=.int i/\Q (some i) H1
section
variable{X:Cx}{e:Expr}{te:TE}{lo hi:Option Expr}{tl th:TO}{pos p2:Pos}
theorem vY:PO X none BR:=by
 intro pins s σ H Q I h;rw[evalPart_none];exact wpAny_pure ⟨none,H,I,.none,h⟩
theorem vN(h:PE X e te):PO X (some e) (KO te):=by
 intro pins s σ H Q I hw;rw[evalPart_some];refine thn (h pins s σ H _ I hw) fun u s1 ⟨x,H1,I1,r1,q1⟩=>?_;obtain⟨i,rfl,q⟩:=q1;obtain⟨t,rfl⟩:=r1;exact⟨some i,H1,I1,.int i t,q⟩
noncomputable def SlR(X:Cx)(r:V->Option Int->Option Int->Hp->VK->Prop):Prop:=
 ∀(pins:List (Addr×Obj)) (s:Shared) (σ:St) (H:Hp) (x:V) (v vl vu:Value) (lo hi:Option Int) (sl:Addr) (Q:VK),Inv X pins σ H s->bf x v->s.heap.IsSliceOf sl vl vu .none->IsPart vl lo->IsPart vu hi->r x lo hi H Q ->
  ∃T id,typeLookup (.type T) "__getitem__"=pure (some (.builtin id))/\s.TypeIs v T/\wpAny (model X.prog X.w) X.A (getItem v (.ref sl)) (EP X pins σ Q) X.xe s
noncomputable def tSl(r:V->Option Int->Option Int->Hp->VK->Prop)(te:TE)(tl th:TO):TE:=fun σ H Q=>te σ H fun x H1=>tl σ H1 fun l H2=>th σ H2 fun u H3=>r x l u H3 Q
theorem sB{r:V->Option Int->Option Int->Hp->VK->Prop}(hr:SlR X r)(he:PE X e te)(hl:PO X lo tl)(hu:PO X hi th):PE X (.Subscript e (.Slice lo hi none p2) pos) (tSl r te tl th):=.mk <| by
 intro pins s σ H Q I h;refine Subscript_ (thn (he pins s σ H _ I h) fun v s1 ⟨x,H1,I1,r1,q1⟩=>?_);refine wpAny_Slice (thn (hl pins s1 σ H1 _ I1 q1) fun vl s2 ⟨l,H2,I2,pl,q2⟩=>thn (hu pins s2 σ H2 _ I2 q2) fun vu s3 ⟨u,H3,I3,pu,q3⟩=>?_);rw[evalPart_none];refine wpAny_pure ?_;have I4:Inv X pins σ H3 { s3 with heap:=s3.heap.push { cls:=.type "slice",data:=.fields #[vl,vu,.none] } }:=I3.kept (t':=s3.toks) fun b ob q=>Heap.get?_push_of_some _ q
 obtain⟨T,id,hT,ht,hg⟩:=hr pins { s3 with heap:=s3.heap.push { cls:=.type "slice",data:=.fields #[vl,vu,.none] } } σ H3 x v vl vu l u s3.heap.objs.size Q I4 r1 (Heap.IsSliceOf.new ..) pl pu q3;show wpAny (model X.prog X.w) X.A (subscriptTail e (.Slice lo hi none p2) v (.ref s3.heap.objs.size)) (EP X pins σ Q) X.xe { s3 with heap:=s3.heap.push { cls:=.type "slice",data:=.fields #[vl,vu,.none] } };exact tail_any (ops:=[.ref s3.heap.objs.size,v]) ht hT hg (by with_unfolding_all rfl)
noncomputable def vW(xs:List V)(lo hi:Option Int):List V:=(xs.drop (HT.sIx xs.length 0 lo)).take (HT.sIx xs.length xs.length hi-HT.sIx xs.length 0 lo)
theorem qh(xs:List V)(lo hi:Option Int):(vW xs lo hi).length<=xs.length:=by
 unfold vW;rw[List.length_take,List.length_drop];omega
noncomputable def Ol(K:W.Frag):V->Option Int->Option Int->Hp->VK->Prop:=fun x lo hi H Q=>∃a xs,x=.ref a/\SqT K H a xs /\
 ¬ (HT.sIx xs.length 0 lo=0/\HT.sIx xs.length xs.length hi=xs.length)/\∀p,H p=none->Q (.ref p) (upd H p (.tup (vW xs lo hi)))
theorem Lb:SlR X (Ol X.K):=by
 intro pins s σ H x v vl vu lo hi sl Q I rx hs pl pu h;obtain⟨a,xs,rfl,hx,hw,q⟩:=h;cases rx;obtain⟨its,r,ht,hz⟩:=I.tuple hx;have hlen:its.toArray.size=xs.length:=by rw[List.size_toArray];exact r.length.symm
 refine⟨"tuple",_,PyProof.Rows.slot_tuple_getitem.lookup,ht.typeIs,?_⟩;refine HT.getItem_tuple_cut ht hs pl pu (by rw[hlen];exact hw) ?_ (by rw[hlen];exact hz)
 rw[hlen];refine⟨.ref s.heap.objs.size,_,I.laid (t':=s.toks) (o:=.tup (vW xs lo hi)) (fun b ob q=>Heap.get?_push_of_some _ q) (Nat.le_refl _) ?_,rfl,q _ (I.hok.fresh (Nat.le_refl _))⟩;exact⟨Nat.le_trans (qh xs lo hi) hz,_,(r.drop (HT.sIx xs.length 0 lo)).take (HT.sIx xs.length xs.length hi-HT.sIx xs.length 0 lo),zm.new _ _⟩
noncomputable def Nh(K:W.Frag):R2:=fun x y H Q=>∃a b xs ys,x=.ref a/\y=.ref b/\SqT K H a xs/\SqT K H b ys/\xs≠[]/\xs.length+ys.length<=sizeLine /\
 (ys=[]->Q (.ref a) H)/\(ys≠[]->∀p,H p=none->Q (.ref p) (upd H p (.tup (xs++ys))))
theorem aR.OP{xs:List V}{us:List Value}(r:aR xs us):us=[]↔xs=[]:=by
 cases r with
 |nil=>simp
 |cons _ _=>simp
theorem JB:OpR X (binaryOp .Add) (Nh X.K):=by
 intro pins s σ H x y v u Q I rx ry h;obtain⟨a,b,xs,ys,rfl,rfl,ha,hb,hx,hz,q1,q2⟩:=h;cases rx;cases ry;obtain⟨its,r1,p1,_⟩:=I.tuple ha;obtain⟨its2,r2,p2,_⟩:=I.tuple hb;refine HT.cat_tup p1 p2 (fun z=>hx (r1.OP.mp z)) (fun z=>⟨.ref a,H,I,rfl,q1 (r2.OP.mp z)⟩) (fun z=>?_) (by rw[←r1.length,←r2.length];exact hz)
 refine⟨.ref s.heap.objs.size,_,I.laid (t':=s.toks) (o:=.tup (xs++ys)) (fun b ob q=>Heap.get?_push_of_some _ q) (Nat.le_refl _) ?_,rfl,q2 (fun w=>z (r2.OP.mpr w)) _ (I.hok.fresh (Nat.le_refl _))⟩;exact⟨by rw[List.length_append];exact hz,_,r1.append r2,zm.new _ _⟩
end
noncomputable def ixN(n:Nat)(i:Int):Option Nat:=if 0<=i then (if i<n then some i.toNat else none) else if -(n:Int)<=i then some (i+n).toNat else none
noncomputable def atI{α:Type}(xs:List α)(i:Int):Option α:=(ixN xs.length i).bind fun j=>xs[j]?
theorem BC{n:Nat}{i:Int}{j:Nat}(h:ixN n i=some j):seqIndex? i n=some j/\j<n/\-(n:Int)<=i/\i<n:=by
 unfold ixN at h;by_cases h0:0<=i
 ·rw[if_pos h0] at h
  by_cases h1:i<n
  ·rw[if_pos h1] at h
   have e:i.toNat=j:=Option.some.inj h;exact⟨by rw[seqIndex_of h0 h1,e],by omega,by omega,h1⟩
  ·rw[if_neg h1] at h;cases h
 ·rw[if_neg h0] at h
  by_cases h1:-(n:Int)<=i
  ·rw[if_pos h1] at h
   have e:(i+n).toNat=j:=Option.some.inj h;exact⟨by rw[seqIndex_neg (by omega) h1,e],by omega,h1,by omega⟩
  ·rw[if_neg h1] at h;cases h
theorem vQ{α:Type}{xs:List α}{i:Int}{v:α}(h:atI xs i=some v):∃j,seqIndex? i xs.length=some j/\xs[j]?=some v/\j<xs.length/\-(xs.length:Int)<=i/\i<xs.length:=by
 unfold atI at h
 cases e:ixN xs.length i with
 |none=>rw[e] at h;cases h
 |some j=>
  rw[e] at h;obtain⟨h1,h2,h3,h4⟩:=BC e;exact⟨j,h1,h,h2,h3,h4⟩
theorem II{α:Type}{xs:List α}{j:Nat}{v:α}(h:xs[j]?=some v):atI xs (j:Int)=some v:=by
 have hj:j<xs.length:=(List.getElem?_eq_some_iff.mp h).1
 have e:ixN xs.length (j:Int)=some j:=by
  unfold ixN;rw[if_pos (by omega),if_pos (by omega)];simp
 unfold atI;rw[e];exact h
noncomputable def Jv(b:Expr):Prop:=∀o i,subscripted b false o i=operate [o,i] (getItem o i)
noncomputable def IxR(X:Cx)(r:R2):Prop:=
 ∀(value slice:Expr) (pins:List (Addr×Obj)) (s:Shared) (σ:St) (H:Hp) (x y:V) (v u:Value) (Q:VK),Inv X pins σ H s->bf x v->bf y u->r x y H Q ->
  subscripted slice false v u=operate [v,u] (getItem v u)->wpAny (model X.prog X.w) X.A (subscriptTail value slice v u) (EP X pins σ Q) X.xe s
noncomputable def MtR(X:Cx)(id:String)(r:V->List V->Hp->VK->Prop):Prop:=
 ∀(pins:List (Addr×Obj)) (s:Shared) (σ:St) (H:Hp) (x:V) (xs:List V) (v:Value) (us:List Value) (Q:VK),Inv X pins σ H s->bf x v->aR xs us->r x xs H Q ->
  wpAny (model X.prog X.w) X.A (call (.builtin id) (v::us)) (EP X pins σ Q) X.xe s
section
variable{X:Cx}{a b:Expr}{ta tb:TE}{pos:Pos}
theorem IxR.or{r r':R2}(h:IxR X r)(h':IxR X r'):IxR X (fun x y H Q=>r x y H Q\/r' x y H Q):=by
 intro value slice pins s σ H x y v u Q I rx ry q hs;rcases q with q|q
 ·exact h value slice pins s σ H x y v u Q I rx ry q hs
 ·exact h' value slice pins s σ H x y v u Q I rx ry q hs
theorem ay{r:R2}(hr:IxR X r)(ha:PE X a ta)(hb:PE X b tb)(hs:Jv b):PE X (.Subscript a b pos) (tOp r ta tb):=.mk <| by
 intro pins s σ H Q I h;exact Subscript_ (LW ha hb I h fun v u s2 x y H2 I2 rx ry q=>hr a b pins s2 σ H2 x y v u Q I2 rx ry q (hs _ _))
noncomputable def Ml(K:W.Frag):R2:=fun x y H Q=>∃p xs i v,x=.ref p/\y=.int i/\SqL K H p xs/\atI xs i=some v/\Q v H
noncomputable def LH(K:W.Frag):R2:=fun x y H Q=>∃p xs i v,x=.ref p/\y=.int i/\SqT K H p xs/\atI xs i=some v/\Q v H
noncomputable def N7:R2:=fun x y H Q=>∃z i c,x=.str z/\y=.int i/\z.length<=sizeLine/\atI z.cps.toList i=some c/\Q (.str ⟨#[c]⟩) H
theorem Iu:IxR X (Ml X.K):=by
 intro value slice pins s σ H x y v u Q I rx ry h hs;obtain⟨p,xs,i,z,rfl,rfl,hq,he,q⟩:=h;cases rx;obtain⟨t,rfl⟩:=ry;obtain⟨its,r,pl,hz⟩:=I.list hq;obtain⟨j,h1,h2,h3,h4,h5⟩:=vQ he;obtain⟨w,ew,rw'⟩:=r.get h2;have hl:=r.length;have hn:=oS;have fin:EP X pins σ Q w s:=⟨z,H,I,rw',q⟩;by_cases h0:0<=i
 ·have hj:i.toNat=j:=by
   rw[seqIndex_of h0 h5] at h1;exact Option.some.inj h1
  exact item_listR pl.isList h0 (by omega) (by rw[hj];simpa using ew) fin hs
 ·have hj:(i+(its.toArray.size:Int)).toNat=j:=by
   rw[seqIndex_neg (by omega) h4] at h1
   rw[List.size_toArray,←hl]
   exact Option.some.inj h1
  exact subscriptTail_builtinR (x:=w) pl.isList.typeIs slot_list_getitem.lookup
   (wpAny_getItem_list_neg (Q:=fun r s'=>r=w/\EP X pins σ Q r s') pl.isList (by omega) (by rw[List.size_toArray]<;>omega) (by omega) (by rw[hj];simpa using ew) ⟨rfl,fin⟩) hs
theorem Lm:IxR X (LH X.K):=by
 intro value slice pins s σ H x y v u Q I rx ry h hs;obtain⟨p,xs,i,z,rfl,rfl,hq,he,q⟩:=h;cases rx;obtain⟨t,rfl⟩:=ry;obtain⟨its,r,pl,hz⟩:=I.tuple hq;obtain⟨j,h1,h2,h3,h4,h5⟩:=vQ he;obtain⟨w,ew,rw'⟩:=r.get h2;have hl:=r.length;have hn:=oS;have fin:EP X pins σ Q w s:=⟨z,H,I,rw',q⟩
 exact subscriptTail_builtinR (x:=w) pl.typeIs slot_tuple_getitem.lookup
  (getItem_tuple (j:=j) (Q:=fun r s'=>r=w/\EP X pins σ Q r s') pl (by omega) (by omega) (by rw[List.size_toArray,←hl];exact h1) (by simpa using ew) ⟨rfl,fin⟩) hs
theorem Lq:IxR X N7:=by
 intro value slice pins s σ H x y v u Q I rx ry h hs;obtain⟨z,i,c,rfl,rfl,hz,he,q⟩:=h;obtain⟨t,rfl⟩:=rx;obtain⟨t',rfl⟩:=ry;obtain⟨j,h1,h2,h3,h4,h5⟩:=vQ he;have hl:z.cps.toList.length=z.length:=by simp[Str.length]
 rw[hl] at h1 h4 h5;have hn:=oS
 exact tail_any (typeIs_str s z t) slot_str_getitem.lookup (getItem_str (c:=c) (by
  have e1:decide (i < -(2^63:Int))=false:=decide_eq_false (by omega)
  have e2:decide (i ≥ 2^63)=false:=decide_eq_false (by omega)
  rw[e1,e2,Bool.or_false]) (by rw[h1];simpa using h2) ⟨.str ⟨#[c]⟩,H,I.tok _,⟨_,rfl⟩,q⟩) hs
noncomputable def rIx(K:W.Frag):R2:=fun x y H Q=>Ml K x y H Q\/LH K x y H Q\/N7 x y H Q
theorem LQ:IxR X (rIx X.K):=Iu.or (Lm.or Lq)
theorem Az(its:List Value)(n j:Nat)(u:Value):Obj.mapSeq (·.setIfInBounds j u) { cls:=.type "list",data:=.seq its.toArray n }={ cls:=.type "list",data:=.seq (its.set j u).toArray n }:=by
 simp[Obj.mapSeq]
theorem Inv.lst{pins:List (Addr×Obj)}{σ:St}{H:Hp}{s:Shared}{p:Addr}{xs:List V}(I:Inv X pins σ H s)(h:H p=some (.lst xs)):
  ∃(its:List Value)(n:Nat),aR xs its/\s.heap.get? p=some { cls:=.type "list",data:=.seq its.toArray n }/\xs.length<=sizeLine:=by
 obtain⟨z,its,n,r,e⟩:=I.hok p _ h;exact⟨its,n,r,e,z⟩
theorem Inv.O2{pins:List (Addr×Obj)}{σ:St}{H:Hp}{s:Shared}{p:Addr}{xs ys:List V}{its its':List Value}{n n':Nat}{f:Obj->Obj}(I:Inv X pins σ H s)(h:H p=some (.lst xs))(ho:s.heap.get? p=some { cls:=.type "list",data:=.seq its.toArray n })(hf:f { cls:=.type "list",data:=.seq its.toArray n }={ cls:=.type "list",data:=.seq its'.toArray n' })(r:aR ys its')(hz:ys.length<=sizeLine)(t:Nat):
  Inv X pins σ (upd H p (.lst ys)) { s with heap:=s.heap.update p f,toks:=t }:=by
 have e:(s.heap.update p f).get? p=some { cls:=.type "list",data:=.seq its'.toArray n' }:=by
  rw[Heap.get?_update_self f ho (by rw[hf]<;>rfl),hf]
 refine I.write (x:=p) (e:=p) (by rw[h];trivial) (.inl rfl) (fun b u hb q=>(Heap.get?_update_other _ _ (Ne.symm hb)).trans q) ⟨_,e⟩ ?_
 exact⟨hz,its',n',r,e⟩
noncomputable def KJ:V->V->V->Hp->(Hp->Prop)->Prop:=fun o i v H Q=>∃p xs k j,o=.ref p/\i=.int k/\H p=some (.lst xs)/\ixN xs.length k=some j/\Q (upd H p (.lst (xs.set j v)))
theorem Fy:NW X KJ:=by
 intro pins s σ H o i v ov iv u Q I ro ri rv h;obtain⟨p,xs,k,j,rfl,rfl,hp,hj,q⟩:=h;cases ro;obtain⟨t,rfl⟩:=ri;obtain⟨its,n,r,ho,hz⟩:=I.lst hp;obtain⟨h1,h2,h3,h4⟩:=BC hj;have hl:=r.length;have hn:=oS
 have I':Inv X pins σ (upd H p (.lst (xs.set j v))) { s with heap:=s.heap.update p (Obj.mapSeq (·.setIfInBounds j u)) }:=
  I.O2 hp ho (Az its n j u) (r.set rv j) (by rw[List.length_set];exact hz) s.toks
 by_cases h0:0<=k
 ·have hk:k.toNat=j:=by
   rw[seqIndex_of h0 h4] at h1;exact Option.some.inj h1
  exact W.ki_setAt ho h0 (by omega) (by rw[List.size_toArray,←hl];exact h4) (by rw[hk];exact⟨_,I',q⟩)
 ·have hk:(k+(its.toArray.size:Int)).toNat=j:=by
   rw[seqIndex_neg (by omega) h3] at h1
   rw[List.size_toArray,←hl]
   exact Option.some.inj h1
  exact W.ki_setBack ho (by omega) (by rw[List.size_toArray,←hl];exact h3) (by omega) (by rw[hk];exact⟨_,I',q⟩)
theorem we(lo hi:Option Int)(n:Nat):(sliceBounds lo hi none n).1=((HT.sIx n 0 lo:Nat):Int)/\(sliceBounds lo hi none n).2.1=((HT.sIx n n hi:Nat):Int)/\(sliceBounds lo hi none n).2.2=1:=by
 refine⟨?_,?_,rfl⟩
 ·cases lo with
  |none=>simp[sliceBounds,HT.sIx]
  |some i=>
   simp only[sliceBounds,HT.sIx,Option.getD_none,show (1:Int)>0 by decide,if_true]
   by_cases h:i<0
   ·simp only[h,if_true]<;>omega
   ·simp only[h,if_false]<;>omega
 ·cases hi with
  |none=>simp[sliceBounds,HT.sIx]
  |some i=>
   simp only[sliceBounds,HT.sIx,Option.getD_none,show (1:Int)>0 by decide,if_true]
   by_cases h:i<0
   ·simp only[h,if_true]<;>omega
   ·simp only[h,if_false]<;>omega
theorem tX(its:List Value)(lo hi:Option Int):slicePick its.toArray lo hi none=((its.drop (HT.sIx its.length 0 lo)).take (HT.sIx its.length its.length hi-HT.sIx its.length 0 lo)).toArray:=by
 obtain⟨h1,h2,h3⟩:=we lo hi its.toArray.size;unfold slicePick;rw[h1,h2,h3];simp only[sliceRange_one,pick_run,List.size_toArray]<;>rfl
noncomputable def M3(K:W.Frag):V->Option Int->Option Int->Hp->VK->Prop:=fun x lo hi H Q=>∃a xs,x=.ref a/\SqL K H a xs/\∀p,H p=none->Q (.ref p) (upd H p (.lst (vW xs lo hi)))
theorem JI:SlR X (M3 X.K):=by
 intro pins s σ H x v vl vu lo hi sl Q I rx hs pl pu h;obtain⟨a,xs,rfl,hx,q⟩:=h;cases rx;obtain⟨its,r,ht,hz⟩:=I.list hx;have hlen:=r.length;refine⟨"list",_,slot_list_getitem.lookup,ht.isList.typeIs,?_⟩;refine wpAny_getItem_list_slice ht.isList hs pl pu .none (by simp) ?_ (by rw[List.size_toArray]<;>omega)
 rw[tX,←hlen]
 refine⟨.ref s.heap.objs.size,_,I.laid (t':=s.toks) (o:=.lst (vW xs lo hi)) (fun b ob q=>Heap.get?_push_of_some _ q) (Nat.le_refl _) ?_,rfl,q _ (I.hok.fresh (Nat.le_refl _))⟩;exact⟨Nat.le_trans (qh xs lo hi) hz,_,0,(r.drop (HT.sIx xs.length 0 lo)).take (HT.sIx xs.length xs.length hi-HT.sIx xs.length 0 lo),Heap.get?_push_size _ rfl⟩
theorem vX:cY X (.type "list") (fun xs H Q=>∃p ys,xs=[.ref p]/\(SqL X.K H p ys\/SqT X.K H p ys)/\∀l,H l=none->Q (.ref l) (upd H l (.lst ys))):=by
 intro pins s σ H xs us Q I r h;obtain⟨p,ys,rfl,hq,q⟩:=h;obtain⟨u,rfl,rx⟩:=g9 r;cases rx
 have fin:∀(its:List Value),aR ys its->ys.length<=sizeLine->∀(h':Heap)(c':Nat),(∀b o',s.heap.get? b=some o'->h'.get? b=some o') ->
   h'.get? s.heap.objs.size=some { cls:=.type "list",dict:=none,data:=.seq its.toArray c',slots:=#[] }->EP X pins σ Q (.ref s.heap.objs.size) { s with heap:=h' }:=fun its r' hz h' c' kp e=>
  ⟨.ref s.heap.objs.size,_,I.laid (t':=s.toks) kp (Nat.le_refl _) (show bV X.prog X.w _ h' _ (.lst ys) from ⟨hz,its,c',r',e⟩),rfl,q _ (I.hok.fresh (Nat.le_refl _))⟩
 rcases hq with hq|hq
 ·obtain⟨its,r',pl,hz⟩:=I.list hq
  have hlen:=r'.length;obtain⟨o,ho,hc,n,hd⟩:=pl.isList;exact call_list_seq p (.inl rfl) ho hc hd (fun h' c' kp e=>fin its r' hz h' c' kp e) (by simp only[List.size_toArray]<;>omega)
 ·obtain⟨its,r',pl,hz⟩:=I.tuple hq
  have hlen:=r'.length;obtain⟨o,ho,hc,n,hd⟩:=pl;exact call_list_seq p (.inr rfl) ho hc hd (fun h' c' kp e=>fin its r' hz h' c' kp e) (by simp only[List.size_toArray]<;>omega)
theorem uc:cY X (.type "tuple") (fun xs H Q=>∃p ys,xs=[.ref p]/\((SqL X.K H p ys/\∀l,H l=none->Q (.ref l) (upd H l (.tup ys)))\/(SqT X.K H p ys/\Q (.ref p) H))):=by
 intro pins s σ H xs us Q I r h;obtain⟨p,ys,rfl,h⟩:=h;obtain⟨u,rfl,rx⟩:=g9 r;cases rx;rcases h with⟨hq,q⟩|⟨hq,q⟩
 ·obtain⟨its,r',pl,hz⟩:=I.list hq
  have hlen:=r'.length;refine call_tuple_list pl.isList (fun h' kp=>?_) (by simp only[List.size_toArray]<;>omega)
  have I1:Inv X pins σ H { s with heap:=h' }:=I.kept (t':=s.toks) kp
  have I2:Inv X pins σ (upd H h'.objs.size (.tup ys)) { s with heap:=h'.push { cls:=.type "tuple",data:=.seq its.toArray } }:=
   I1.laid (t':=s.toks) (fun b o e=>Heap.get?_push_of_some _ e) (Nat.le_refl _) (show bV X.prog X.w _ _ _ (.tup ys) from ⟨hz,its,r',zm.new _ _⟩)
  exact⟨.ref h'.objs.size,_,I2,rfl,q _ (I1.hok.fresh (Nat.le_refl _))⟩
 ·obtain⟨its,r',pl,hz⟩:=I.tuple hq
  exact call_tuple_same pl ⟨.ref p,H,I,rfl,q⟩
noncomputable def tyV(K:W.Frag)(T:String)(x:V)(H:Hp):Prop:=match x with
 |.str _=>T="str"
 |.int _=>T="int"
 |.ref p=>(T="list"/\∃xs,SqL K H p xs)\/(T="tuple"/\∃o,K.lookup p=some o/\o.cls=.type "tuple"/\o.dict=none) \/
   (T="dict"/\((∃kvs,H p=some (.dK kvs))\/∃kvs,H p=some (.dT kvs)))\/(T="set"/\∃S n,H p=some (.set S n))
 |_=>False
theorem FY{pins:List (Addr×Obj)}{σ:St}{H:Hp}{s:Shared}{T:String}{x:V}{v:Value}(I:Inv X pins σ H s)(r:bf x v)(ty:tyV X.K T x H):
  s.TypeIs v T/\∀a,v=.ref a->∃ob,s.heap.get? a=some ob/\ob.dict=none:=by
 cases x with
 |str z=>
  obtain⟨t,rfl⟩:=r;cases (show T="str" from ty)
  exact⟨typeIs_str s z t,fun _ e=>nomatch e⟩
 |int i=>
  obtain⟨t,rfl⟩:=r;cases (show T="int" from ty)
  exact⟨typeIs_int s i t,fun _ e=>nomatch e⟩
 |ref p=>
  cases r;rcases ty with⟨rfl,xs,hq⟩|⟨rfl,o,hk,hc,hd⟩|⟨rfl,hk⟩|⟨rfl,S,n,hk⟩
  ·obtain⟨its,_,pl,_⟩:=I.list hq
   refine⟨pl.isList.typeIs,fun a e=>?_⟩;cases e;obtain⟨o,n,e,c,hd,_⟩:=pl;exact⟨o,e,hd⟩
  ·refine⟨⟨o,I.kIn p o hk,hc⟩,fun a e=>?_⟩
   cases e;exact⟨o,I.kIn _ o hk,hd⟩
  ·have z:∃o,s.heap.get? p=some o/\o.ExactDict:=by
    rcases hk with⟨kvs,hk⟩|⟨kvs,hk⟩
    ·obtain⟨_,_,_,_,o,_,_,e,ex,_⟩:=I.hok p _ hk
     exact⟨o,e,ex⟩
    ·obtain⟨_,_,_,_,o,_,_,e,ex,_⟩:=I.hok p _ hk
     exact⟨o,e,ex⟩
   obtain⟨o,e,ex⟩:=z;refine⟨⟨o,e,ex.1⟩,fun a e2=>?_⟩;cases e2;exact⟨o,e,ex.2.1⟩
  ·obtain⟨o,_,_,_,e,ex,_⟩:=I.hok p _ hk
   refine⟨⟨o,e,ex.1⟩,fun a e2=>?_⟩;cases e2;exact⟨o,e,ex.2.1⟩
 |_=>exact False.elim ty
noncomputable def KS(K:W.Frag)(T:String)(r:V->List V->Hp->VK->Prop)(to:TE):TE:=fun σ H Q=>to σ H fun x H1=>tyV K T x H1/\r x [] H1 Q
noncomputable def tBM(K:W.Frag)(T:String)(r:V->List V->Hp->VK->Prop)(to:TE)(t:TA):TE:=fun σ H Q=>to σ H fun x H1=>tyV K T x H1/\t σ H1 fun xs H2=>r x xs H2 Q
variable{o e:Expr}{es:List Expr}{to:TE}{t:TA}{name:Str}{apos cpos:Pos}{T id:String}{r:V->List V->Hp->VK->Prop}
theorem hU(pa:PlainAttrs T)(slot:Slot T name id)(hty:typeOf (.builtin id)=pure (.type "method_descriptor"))(hm:MtR X id r)(ho:PE X o to)(hbase:attributeBase o name X.env (eval o X.env)=eval o X.env:=by rfl)(hline:(apos.endLine == cpos.line)=true:=by rfl):PE X (.Call (.Attribute o name apos) [] [] cpos) (KS X.K T r to):=.mk <| by
 intro pins s σ H Q I h;refine wpAny_Call_method0_late hbase hline (thn (ho pins s σ H _ I h) fun v s1 ⟨x,H1,I1,r1,ty,q1⟩=>?_);obtain⟨h1,h2⟩:=FY I1 r1 ty;exact⟨T,id,pa,slot,hty,h1,h2,Calls.callWith_builtin rfl (PySem.evalArgs_none (hm pins s1 σ H1 x [] v [] Q I1 r1 .nil q1))⟩
theorem dn(pa:PlainAttrs T)(slot:Slot T name id)(hty:typeOf (.builtin id)=pure (.type "method_descriptor"))(hm:MtR X id r)(ho:PE X o to)(ha:PA X (e::es) t)(hbase:attributeBase o name X.env (eval o X.env)=eval o X.env:=by rfl)
  (hfew:((backTo cpos (starEach (e::es) X.env)).all (fun x=>!x.1) && (backToKw cpos (keywordEach [] X.env)).all (fun x=>x.1.isSome)
   && decide ((e::es).length+([]:List Keyword).length+(if ([]:List Keyword).isEmpty then 0 else 1)<30))=true:=by rfl)
  (hline:(apos.endLine == cpos.line)=true:=by rfl) (hs:starEach (e::es) X.env=(false,eval e X.env)::starEach es X.env:=by rfl) (hplain:(backTo cpos (starEach es X.env)).any (·.1)=false:=by rfl) :
  PE X (.Call (.Attribute o name apos) (e::es) [] cpos) (tBM X.K T r to t):=.mk <| by
 intro pins s σ H Q I h;refine wpAny_Call_method_late hbase hfew hline rfl (thn (ho pins s σ H _ I h) fun v s1 ⟨x,H1,I1,r1,ty,q1⟩=>?_);obtain⟨h1,h2⟩:=FY I1 r1 ty;refine⟨T,id,pa,slot,hty,h1,h2,?_⟩;have hA:=ha cpos pins s1 σ H1 _ I1 q1;rw[hs] at hA ⊢;refine Calls.callWith_builtin (by show (false || (backTo cpos (starEach es X.env)).any (·.1))=false;rw[hplain]<;>rfl) (Calls.evalArgs_plain ?_)
 exact thn hA fun us s2 ⟨vs,H2,I2,r2,q2⟩=>hm pins s2 σ H2 x vs v us Q I2 r1 r2 q2
end
noncomputable def MtM(X:Cx)(id:String)(r:V->List V->Hp->VK->Prop):Prop:=
 ∀(pins:List (Addr×Obj)) (s:Shared) (σ:St) (H:Hp) (x:V) (xs:List V) (v:Value) (us:List Value) (Q:VK),Inv X pins σ H s->bf x v->aR xs us->r x xs H Q ->
  wpAny (model X.prog X.w) X.A (call (.builtin id) (v::us)) (EP X pins σ Q) X.xe s
theorem aR.one:∀ {x:V} {us:List Value},aR [x] us->∃u,us=[u]/\bf x u
 |_,_,.cons r .nil=>⟨_,rfl,r⟩
theorem aR.two:∀ {x y:V} {us:List Value},aR [x,y] us->∃u v,us=[u,v]/\bf x u/\bf y v
 |_,_,_,.cons r (.cons q .nil)=>⟨_,_,rfl,r,q⟩
theorem aR.zero:∀ {us:List Value},aR [] us->us=[]
 |_,.nil=>rfl
theorem aR.dropLast{xs:List V}{us:List Value}(h:aR xs us):aR xs.dropLast us.dropLast:=by
 induction h with
 |nil=>exact .nil
 |cons r t ih=>
  cases t with
  |nil=>exact .nil
  |cons q t'=>exact .cons r ih
theorem aR.eraseIdx:∀ {xs:List V} {us:List Value} (i:Nat),aR xs us->aR (xs.eraseIdx i) (us.eraseIdx i)
 |_,_,_,.nil=>.nil
 |_,_,0,.cons _ t=>t
 |_,_,i+1,.cons r t=>.cons r (aR.eraseIdx i t)
theorem aR.reverse{xs:List V}{us:List Value}(h:aR xs us):aR xs.reverse us.reverse:=by
 induction h with
 |nil=>exact .nil
 |cons r t ih=>rw[List.reverse_cons,List.reverse_cons];exact aR.append ih (.cons r .nil)
theorem aR.rep{xs:List V}{us:List Value}(h:aR xs us):∀k:Nat,aR (List.replicate k xs).flatten (List.replicate k us).flatten
 |0=>.nil
 |k+1=>by
  rw[List.replicate_succ,List.replicate_succ,List.flatten_cons,List.flatten_cons];exact aR.append h (aR.rep h k)
theorem A6{α:Type}(l:List α):l.eraseIdx (l.length-1)=l.dropLast:=by
 induction l with
 |nil=>rfl
 |cons a r ih=>
  cases r with
  |nil=>rfl
  |cons b r=>
   have e:(a::b::r).length-1=((b::r).length-1)+1:=by
    have h1:(a::b::r).length=r.length+2:=rfl;have h2:(b::r).length=r.length+1:=rfl;omega
   rw[e,List.eraseIdx_cons_succ,ih]
   all_goals rfl
theorem ur{α:Type}:∀(l:List α)(i:Nat),(l.eraseIdx i).length<=l.length
 | [],_=>Nat.le_refl _
 |_::_,0=>Nat.le_succ _
 |_::r,i+1=>Nat.succ_le_succ (ur r i)
theorem uW(its:List Value):∀(k:Nat)(acc:List Value),
  List.foldl (fun x1 x2=>x1++x2) acc.toArray (List.replicate k its.toArray)=(acc++(List.replicate k its).flatten).toArray
 |0,acc=>by simp
 |k+1,acc=>by
  have e:acc.toArray++its.toArray=(acc++its).toArray:=by simp
  have e2:(acc++its)++(List.replicate k its).flatten=acc++(List.replicate (k+1) its).flatten:=by
   rw[List.replicate_succ,List.flatten_cons,List.append_assoc]
  rw[←e2,←uW its k (acc++its),←e,List.replicate_succ,List.foldl_cons]
section
variable{X:Cx}{pins:List (Addr×Obj)}{σ:St}{H:Hp}{s:Shared}{l b:Addr}{xs ys zs:List V}
theorem Inv.lset{its its':List Value}{n:Nat}{f:Array Value->Array Value}{t':Nat}(I:Inv X pins σ H s)(hH:H l=some (.lst xs))(e:s.heap.get? l=some { cls:=.type "list",data:=.seq its.toArray n })(hf:f its.toArray=its'.toArray)(hv:aR ys its')(hz:ys.length<=sizeLine):
  Inv X pins σ (upd H l (.lst ys)) { s with heap:=s.heap.update l (Obj.mapSeq f),toks:=t' }:=by
 have q:=PySem.IsL.update e f;rw[hf] at q;refine I.write (x:=l) (e:=l) (by rw[hH];exact trivial) (.inl rfl) (fun b' u hb hu=>(Heap.get?_update_other s.heap (Obj.mapSeq f) (Ne.symm hb)).trans hu) ⟨_,q⟩ ?_
 exact⟨hz,its',_,hv,q⟩
theorem Inv.lnew{its:List Value}{t':Nat}(I:Inv X pins σ H s)(hv:aR ys its)(hz:ys.length<=sizeLine):
  Inv X pins σ (upd H s.heap.objs.size (.lst ys)) { s with heap:=s.heap.push { cls:=.type "list",data:=.seq its.toArray },toks:=t' }:=
 I.laid (fun _ _ q=>Heap.get?_push_of_some _ q) (Nat.le_refl _) ⟨hz,its,0,hv,Heap.get?_push_size _ rfl⟩
theorem Inv.fresh(I:Inv X pins σ H s):H s.heap.objs.size=none:=I.hok.fresh (Nat.le_refl _)
theorem Inv.OV(I:Inv X pins σ H s)(hH:H l=some (.lst xs)):xs.length<=sizeLine/\∃(its:List Value)(n:Nat),aR xs its/\xs.length=its.length/\s.heap.get? l=some { cls:=.type "list",data:=.seq its.toArray n }:=by
 obtain⟨z,its,n,r,e⟩:=I.hok l _ hH;exact⟨z,its,n,r,r.length,e⟩
theorem Gd{n:Nat}(h:n<=sizeLine):Builtin.List.listTooLong n=false:=by
 unfold Builtin.List.listTooLong;exact decide_eq_false (by omega)
end
section
variable{X:Cx}
noncomputable def BJ:V->List V->Hp->VK->Prop:=fun x vs H Q=>∃l xs y,x=.ref l/\vs=[y]/\H l=some (.lst xs)/\xs.length<sizeLine/\Q .non (upd H l (.lst (xs++[y])))
theorem bc:MtM X "list.append" BJ:=by
 intro pins s σ H x vs v us Q I rx rv h;obtain⟨l,xs,y,rfl,rfl,hH,hz,q⟩:=h;cases rx;obtain⟨u,rfl,ru⟩:=rv.one;obtain⟨z,its,n,r,hl,e⟩:=I.OV hH;refine call_meets F.slot_list_append ⟨_,e,rfl⟩ F.entry_list_append (F.args_list_append_2 _ _) (PySem.list_append l its.toArray n u (by rw[List.size_toArray];omega)) ⟨e,?_⟩
 refine⟨.non,_,I.lset (its':=its++[u]) hH e (by simp) (r.append (.cons ru .nil)) ?_,rfl,q⟩
 rw[List.length_append,List.length_singleton];omega
noncomputable def NR:V->List V->Hp->VK->Prop:=fun x vs H Q=>∃l xs y,x=.ref l/\vs=[]/\H l=some (.lst xs)/\xs[xs.length-1]?=some y/\Q y (upd H l (.lst xs.dropLast))
theorem iG:MtM X "list.pop" NR:=by
 intro pins s σ H x vs v us Q I rx rv h;obtain⟨l,xs,y,rfl,rfl,hH,hy,q⟩:=h;cases rx;have hus:=rv.zero;subst hus;obtain⟨z,its,n,r,hl,e⟩:=I.OV hH;obtain⟨u,hu,ru⟩:=r.get hy
 have hy':its.toArray[its.toArray.size-1]?=some u:=by
  show its.toArray[its.length-1]?=some u;rw[←Array.getElem?_toList,←hl]
  exact hu
 refine call_meets F.slot_list_pop ⟨_,e,rfl⟩ F.entry_list_pop (F.args_list_pop_1 _) (MeetsSeq.list_pop_last l its.toArray n u hy' (by rw[List.size_toArray];omega)) ⟨e,?_⟩
 refine⟨y,_,I.lset (its':=its.dropLast) hH e ?_ r.dropLast ?_,ru,q⟩
 ·show its.toArray.eraseIdxIfInBounds (its.toArray.size-1)=its.dropLast.toArray
  rw[List.size_toArray,List.eraseIdxIfInBounds_toArray,A6]
 ·rw[List.length_dropLast]
  omega
noncomputable def He:V->List V->Hp->VK->Prop:=fun x vs H Q=>∃l xs i k y,x=.ref l/\vs=[.int i]/\H l=some (.lst xs)/\-(2^63)<=i/\i<2^63/\seqIndex? i xs.length=some k/\xs[k]?=some y/\Q y (upd H l (.lst (xs.eraseIdx k)))
theorem zE:MtM X "list.pop" He:=by
 intro pins s σ H x vs v us Q I rx rv h;obtain⟨l,xs,i,k,y,rfl,rfl,hH,h1,h2,hk,hy,q⟩:=h;cases rx;obtain⟨u,rfl,ru⟩:=rv.one;obtain⟨t,rfl⟩:=ru;obtain⟨z,its,n,r,hl,e⟩:=I.OV hH;obtain⟨w,hw,rw'⟩:=r.get hy
 refine call_meets F.slot_list_pop ⟨_,e,rfl⟩ F.entry_list_pop (F.args_list_pop_2 _ _)
  (MeetsSeq.list_pop_at l its.toArray n i t k w (fitsIndex_both h1 h2) (by rw[List.size_toArray,←hl];exact hk) (by rw[←Array.getElem?_toList];exact hw) (by rw[List.size_toArray];omega)) ⟨e,?_⟩
 refine⟨y,_,I.lset (its':=its.eraseIdx k) hH e ?_ (r.eraseIdx k) ?_,rw',q⟩
 ·show its.toArray.eraseIdxIfInBounds k=(its.eraseIdx k).toArray
  rw[List.eraseIdxIfInBounds_toArray]
 ·have:=ur xs k
  omega
noncomputable def Jq:R2:=fun x y H Q=>∃l b xs zs,x=.ref l/\y=.ref b/\H l=some (.lst xs)/\H b=some (.lst zs)/\xs.length+zs.length<=sizeLine/\∀p,H p=none->Q (.ref p) (upd H p (.lst (xs++zs)))
theorem cn:OpR X (binaryOp .Add) Jq:=by
 intro pins s σ H x y v u Q I rx ry h;obtain⟨l,b,xs,zs,rfl,rfl,hH,hB,hz,q⟩:=h;cases rx;cases ry;obtain⟨z,its,n,r,hl,e⟩:=I.OV hH;obtain⟨z2,its2,n2,r2,hl2,e2⟩:=I.OV hB;refine PySem.P.add_list e e2 ?_ (by rw[List.size_toArray,List.size_toArray];omega)
 have ea:its.toArray++its2.toArray=(its++its2).toArray:=by simp
 rw[ea];exact⟨.ref _,_,I.lnew (t':=s.toks) (r.append r2) (by rw[List.length_append];omega),rfl,q _ I.fresh⟩
noncomputable def Ie:R2:=fun x y H Q=>∃l k xs,x=.ref l/\y=.int k/\H l=some (.lst xs)/\-(2^63)<=k/\k<2^63/\xs.length*k.toNat<=sizeLine /\
 ∀p,H p=none->Q (.ref p) (upd H p (.lst (List.replicate k.toNat xs).flatten))
theorem Jg{α:Type}(xs:List α)(k:Nat):(List.replicate k xs).flatten.length=k*xs.length:=by
 induction k with
 |zero=>simp
 |succ k ih=>rw[List.replicate_succ,List.flatten_cons,List.length_append,ih,Nat.succ_mul,Nat.add_comm]
theorem mJ:OpR X (binaryOp .Mult) Ie:=by
 intro pins s σ H x y v u Q I rx ry h;obtain⟨l,k,xs,rfl,rfl,hH,h1,h2,hz,q⟩:=h;cases rx;obtain⟨t,rfl⟩:=ry;obtain⟨z,its,n,r,hl,e⟩:=I.OV hH;have hlen:its.toArray.size*k.toNat<=sizeLine:=by rw[List.size_toArray,←hl];exact hz
 have hcap:¬ its.toArray.size*k.toNat>(2^63-1) / 8:=by
  have:(sizeLine:Nat)<=(2^63-1) / 8:=by decide
  omega
 have hfit:¬ (!Builtin.List.listFitsIndex k)=true:=by
  rw[fitsIndex_both h1 h2];exact Bool.false_ne_true
 have hlong:¬ Builtin.List.listTooLong (its.toArray.size*k.toNat)=true:=by
  rw[Gd hlen];exact Bool.false_ne_true
 have hnew:List.foldl (fun x1 x2=>x1++x2) #[] (List.replicate (if its.toArray.isEmpty=true then 0 else k.toNat) its.toArray)=(List.replicate k.toNat its).flatten.toArray:=by
  have f0:∀m:Nat,List.foldl (fun x1 x2=>x1++x2) #[] (List.replicate m its.toArray)=(List.replicate m its).flatten.toArray:=fun m=>by
   have:=uW its m [];rw[List.nil_append] at this;exact this
  rw[f0]
  cases its with
  |nil=>simp
  |cons a r'=>rw[if_neg (by simp)]
 refine wpAny_binaryOp_repeat_ref (T:="list") (U:="int") (by decide) ⟨_,e,rfl⟩ (fun s'=>typeIs_int s' k t) noFill_list_mul F.fills_int_mul F.slot_int_rmul repeat_list F.slot_int_index.lookup
  (call_meets F.slot_int_rmul (typeIs_int s k t) F.entry_int_rmul (F.args_int_rmul_2 _ _) (int___rmul___int_list k t l its.toArray n)
   ⟨e,rfl,⟨_,e,rfl⟩,call_meets F.slot_list_mul ⟨_,e,rfl⟩ F.entry_list_mul (F.args_list_mul_2 _ _) (AutoListH.list___mul___list_int_3 l its.toArray n k t hfit hcap hlong) ⟨e,?_⟩⟩)
 rw[hnew];exact⟨.ref _,_,I.lnew (t':=s.toks) (r.rep k.toNat) (by rw[Jg,Nat.mul_comm];exact hz),rfl,q _ I.fresh⟩
end
section
variable{prog:Program}{w:World}{A:Around}{E:Value->Shared->Prop}{s:Shared}
set_option maxRecDepth 100000 in
end
section
variable{κ:Type}[DecidableEq κ]
noncomputable def qq(kvs:List (κ×V))(k:κ):Option V:=(kvs.find? fun kv=>decide (kv.1=k)).map (·.2)
noncomputable def jt(kvs:List (κ×V))(k:κ)(v:V):List (κ×V):=
 if (kvs.any fun kv=>decide (kv.1=k))=true then kvs.map (fun kv=>if kv.1=k then (kv.1,v) else kv) else kvs++[(k,v)]
theorem nN{p:κ×V}{r:List (κ×V)}{k:κ}(e:p.1=k):qq (p::r) k=some p.2:=by simp[qq,List.find?_cons,e]
theorem oh{p:κ×V}{r:List (κ×V)}{k:κ}(e:¬ p.1=k):qq (p::r) k=qq r k:=by simp[qq,List.find?_cons,e]
theorem xy(k:κ):∀kvs:List (κ×V),(kvs.any fun kv=>decide (kv.1=k))=(qq kvs k).isSome
 | []=>rfl
 |p::r=>by
  rw[List.any_cons];by_cases e:p.1=k
  ·simp only[nN e,decide_eq_true e,Bool.true_or,Option.isSome_some]
  ·rw[oh e,decide_eq_false e,Bool.false_or];exact xy k r
theorem k9(kvs:List (κ×V))(k:κ)(v:V):(jt kvs k v).length<=kvs.length+1:=by
 unfold jt;split
 ·rw[List.length_map];omega
 ·rw[List.length_append,List.length_cons,List.length_nil];omega
theorem r9.OW{o:Option V}{u:Option Value}(r:r9 o u):o.isSome=u.isSome:=by
 cases o with
 |none=>cases u with
  |none=>rfl
  |some _=>exact(show False from r).elim
 |some _=>cases u with
  |none=>exact(show False from r).elim
  |some _=>rfl
theorem KV.val{kvs:List (κ×V)}{vs:List (κ×Value)}(r:KV kvs vs)(k:κ):r9 (qq kvs k) (valueAt vs k):=by
 unfold KV at r
 induction r with
 |nil=>exact True.intro
 | @cons p q ps qs h t ih=>
  obtain⟨h1,h2⟩:=h;by_cases e:p.1=k
  ·have e':q.1=k:=h1.symm.trans e
   have b:valueAt (q::qs) k=some q.2:=by simp[valueAt,List.find?_cons,e']
   rw[nN e,b];exact h2
  ·have e':¬ q.1=k:=fun z=>e (h1.trans z)
   have b:valueAt (q::qs) k=valueAt qs k:=by simp[valueAt,List.find?_cons,e']
   rw[oh e,b];exact ih
theorem KV.any{kvs:List (κ×V)}{vs:List (κ×Value)}(r:KV kvs vs)(k:κ):(kvs.any fun kv=>decide (kv.1=k))=vs.any fun kv=>decide (kv.1=k):=by
 unfold KV at r
 induction r with
 |nil=>rfl
 |cons h t ih=>rw[List.any_cons,List.any_cons,ih,h.1]
theorem KV.repl{kvs:List (κ×V)}{vs:List (κ×Value)}(r:KV kvs vs)(k:κ){y:V}{u:Value}(ry:bf y u):
  KV (kvs.map fun kv=>if kv.1=k then (kv.1,y) else kv) (vs.map fun kv=>if kv.1=k then (kv.1,u) else kv):=by
 unfold KV at r ⊢
 induction r with
 |nil=>exact .nil
 | @cons p q ps qs h t ih=>
  rw[List.map_cons,List.map_cons];refine .cons ?_ ih;obtain⟨h1,h2⟩:=h;by_cases e:p.1=k
  ·rw[if_pos e,if_pos (h1.symm.trans e)];exact⟨h1,ry⟩
  ·rw[if_neg e,if_neg (fun z=>e (h1.trans z))];exact⟨h1,h2⟩
theorem KV.put{kvs:List (κ×V)}{vs:List (κ×Value)}(r:KV kvs vs)(k:κ){y:V}{u:Value}(ry:bf y u):KV (jt kvs k y) (stored vs k u):=by
 unfold jt stored;rw[r.any k];by_cases e:(vs.any fun kv=>decide (kv.1=k))=true
 ·rw[if_pos e,if_pos e];exact r.repl k ry
 ·rw[if_neg e,if_neg e];exact Paired.snoc r ⟨rfl,ry⟩
theorem KV.length{kvs:List (κ×V)}{vs:List (κ×Value)}(r:KV kvs vs):kvs.length=vs.length:=Paired.length r
end
theorem CF{P:Program}{w:World}{k:Key}{u:Value}(r:bf (kV k) u):(bx P w).is k u=true:=by
 cases k with
 |inl i=>obtain⟨t,e⟩:=(show ∃t,u=Value.int i t from r);subst e;exact xE P w i t
 |inr x=>obtain⟨t,e⟩:=(show ∃t,u=Value.str x t from r);subst e;exact kx P w x t
theorem vb{P:Program}{w:World}:∀ {ks:List Key} {us:List Value},aR (ks.map kV) us->ItemsAre (bx P w) ks us
 | [],_,r=>by rw[List.map_nil] at r;cases r;exact .nil
 |k::ks,_,r=>by
  rw[List.map_cons] at r
  cases r with
  |cons h t=>exact .cons (CF h) (vb t)
noncomputable abbrev KT(H:Hp):List (List Key×V)->List (List Key×Addr×Value)->Prop:=Paired fun p q=>p.1=q.1/\H q.2.1=some (.tup (p.1.map kV))/\bf p.2 q.2.2
theorem KT.val{H:Hp}{kvs:List (List Key×V)}{xs:List (List Key×Addr×Value)}(r:KT H kvs xs)(k:List Key):r9 (qq kvs k) ((atKey xs k).map (·.2)):=by
 induction r with
 |nil=>exact True.intro
 | @cons p q ps qs h t ih=>
  obtain⟨h1,_,h2⟩:=h;by_cases e:p.1=k
  ·have e':q.1=k:=h1.symm.trans e
   have b:atKey (q::qs) k=some q.2:=by simp[atKey,List.find?_cons,e']
   rw[nN e,b];exact h2
  ·have e':¬ q.1=k:=fun z=>e (h1.trans z)
   have b:atKey (q::qs) k=atKey qs k:=by simp[atKey,List.find?_cons,e']
   rw[oh e,b];exact ih
theorem KT.repl{H:Hp}{kvs:List (List Key×V)}{xs:List (List Key×Addr×Value)}(r:KT H kvs xs)(k:List Key){y:V}{u:Value}(ry:bf y u):
  KT H (kvs.map fun kv=>if kv.1=k then (kv.1,y) else kv) (xs.map (putAt k u)):=by
 induction r with
 |nil=>exact .nil
 | @cons p q ps qs h t ih=>
  rw[List.map_cons,List.map_cons];refine .cons ?_ ih;obtain⟨h1,h2,h3⟩:=h;unfold putAt;by_cases e:p.1=k
  ·rw[if_pos e,if_pos (h1.symm.trans e)];exact⟨h1,h2,ry⟩
  ·rw[if_neg e,if_neg (fun z=>e (h1.trans z))];exact⟨h1,h2,h3⟩
theorem KT.put{H:Hp}{kvs:List (List Key×V)}{xs:List (List Key×Addr×Value)}(r:KT H kvs xs)(k:List Key){b:Addr}{y:V}{u:Value}(hb:H b=some (.tup (k.map kV)))(ry:bf y u):
  KT H (jt kvs k y) (storedH xs k b u):=by
 have e:(kvs.any fun kv=>decide (kv.1=k))=(atKey xs k).isSome:=by
  rw[xy,(r.val k).OW,Option.isSome_map]
 unfold jt storedH;rw[e];by_cases q:(atKey xs k).isSome=true
 ·rw[if_pos q,if_pos q];exact r.repl k ry
 ·rw[if_neg q,if_neg q];exact Paired.snoc r ⟨rfl,hb,ry⟩
theorem KT.keeps{H H':Hp}{kvs:List (List Key×V)}{xs:List (List Key×Addr×Value)}(r:KT H kvs xs)(ht:∀b ys,H b=some (.tup ys)->H' b=some (.tup ys)):KT H' kvs xs:=
 Paired.O1 r fun _ _ z=>⟨z.1,ht _ _ z.2.1,z.2.2⟩
section
variable{P:Program}{w:World}{H:Hp}{h:Heap}{a:Addr}
theorem Km{u:HO}(ok:HOk P w H h)(e:Rd H a u):bV P w H h a u:=e.ok ok
theorem EV{kvs:List (Key×V)}(ok:HOk P w H h)(e:Rd H a (.dK kvs)):kvs.length<=sizeLine/\(a == sysModules)=false/\∃vs,KV kvs vs/\h.DictOf (bx P w) a vs:=
 show bV P w H h a (.dK kvs) from Km ok e
theorem Kl{kvs:List (Key×V)}(ok:HOk P w H h)(e:H a=some (.dK kvs)):kvs.length<=sizeLine/\(a == sysModules)=false/\∃vs,KV kvs vs/\h.DictOf (bx P w) a vs:=EV ok (.inl e)
theorem Ba{ks:List Key}(ok:HOk P w H h)(e:H a=some (.tup (ks.map kV))):(tupleKind (bx P w)).is h ks a:=by
 obtain⟨_,its,r,⟨o,h1,h2,n,h3⟩,_⟩:=(show bV P w H h a (.tup (ks.map kV)) from ok a _ e)
 exact⟨o,its.toArray,n,h1,h2,h3,by simpa using vb r⟩
theorem ET{kvs:List (List Key×V)}(ok:HOk P w H h)(e:Rd H a (.dT kvs)):kvs.length<=sizeLine/\(a == sysModules)=false /\
  ∃xs,KT H kvs xs/\h.DictOfH (tupleKind (bx P w)) a xs:=by
 obtain⟨z,y,xs,r,o,es,ep,h1,h2,h3,h4,h5⟩:=(show bV P w H h a (.dT kvs) from Km ok e)
 refine⟨z,y,xs,r,o,es,ep,h1,h2,h3,h4,fun x hx=>?_,h5⟩
 have all:∀ {l:List (List Key×V)} {m:List (List Key×Addr×Value)},KT H l m->∀x∈m,(tupleKind (bx P w)).is h x.1 x.2.1:=by
  intro l m q
  induction q with
  |nil=>intro x hx;exact nomatch hx
  | @cons p q ps qs hq t ih=>
   intro x hx;rcases List.mem_cons.mp hx with e|hx
   ·subst e
    exact Ba ok (by rw[←hq.1];exact hq.2.1)
   ·exact ih x hx
 exact all r x hx
theorem Nb{kvs:List (List Key×V)}(ok:HOk P w H h)(e:H a=some (.dT kvs)):kvs.length<=sizeLine/\(a == sysModules)=false /\
  ∃xs,KT H kvs xs/\h.DictOfH (tupleKind (bx P w)) a xs:=ET ok (.inl e)
end
noncomputable def DC(H:Hp)(a:Addr)(y:V)(r:Option V):Prop:=
 (∃kvs k,Rd H a (.dK kvs)/\y=kV k/\r=qq kvs k)\/∃kvs k b,Rd H a (.dT kvs)/\y=.ref b/\H b=some (.tup (k.map kV))/\r=qq kvs k
noncomputable def Hs(H:Hp)(a:Addr)(y v:V)(H':Hp):Prop:=
 (∃kvs k,H a=some (.dK kvs)/\y=kV k/\kvs.length<sizeLine/\H'=upd H a (.dK (jt kvs k v))) \/
 ∃kvs k b,H a=some (.dT kvs)/\y=.ref b/\H b=some (.tup (k.map kV))/\kvs.length<sizeLine/\H'=upd H a (.dT (jt kvs k v))
theorem DC.k{H:Hp}{a:Addr}{kvs:List (Key×V)}{k:Key}(e:H a=some (.dK kvs)):DC H a (kV k) (qq kvs k):=.inl ⟨kvs,k,.inl e,rfl,rfl⟩
theorem Hs.k{H:Hp}{a:Addr}{kvs:List (Key×V)}{k:Key}{v:V}(e:H a=some (.dK kvs))(hl:kvs.length<sizeLine):Hs H a (kV k) v (upd H a (.dK (jt kvs k v))):=.inl ⟨kvs,k,e,rfl,hl,rfl⟩
section
variable{X:Cx}{pins:List (Addr×Obj)}{σ:St}{H:Hp}{s:Shared}{a:Addr}{y v:V}{u r:Value}{o:Option V}{A:Around}{E:Value->Shared->Prop}
theorem Inv.big(I:Inv X pins σ H s):sysModules<s.heap.objs.size:=by
 have h:mainGlobals<s.heap.objs.size:=(I.mod.glob.keeps I.bk).lt;exact Nat.lt_trans (by decide) h
theorem Dw{Q:Value->Shared->Prop}(hu:A.units+1<cLine)(I:Inv X pins σ H s)(g:DC H a y (some v))(ry:bf y u)(h:∀w' s',Inv X pins σ H s'->bf v w'->Q w' s'):
  wpAny (model X.prog X.w) A (getItem (.ref a) u) Q E s:=by
 rcases g with⟨kvs,k,e,ey,l⟩|⟨kvs,k,b,e,ey,eb,l⟩
 ·subst ey
  obtain⟨z,hd,vs,rel,dd⟩:=EV I.hok e;obtain⟨w',hw,rw'⟩:=r9.some_of (v:=v) (o:=valueAt vs k) (by rw[l];exact rel.val k)
  exact wpAny_getItem_of (CF ry) dd.mapOf hw (h w' _ (I.tok _) rw')
 ·subst ey
  cases (show u=Value.ref b from ry)
  obtain⟨z,hd,xs,rel,dd⟩:=ET I.hok e;obtain⟨w',hw,rw'⟩:=r9.some_of (v:=v) (o:=(atKey xs k).map (·.2)) (by rw[l];exact rel.val k)
  obtain⟨p,hp,hp2⟩:=Option.map_eq_some_iff.mp hw;refine wpAny_getItem_heap (tupleKind_room_in1 hu) (Ba I.hok eb) dd hp ?_;rw[hp2];exact h w' _ (I.tok _) rw'
theorem vJ{h':Heap}{t':Nat}{ob:HO}(I:Inv X pins σ H s)(mu:Mut (H a))(hs:Heap.SameBut a s.heap h')(he:∃q,h'.get? a=some q)(new:bV X.prog X.w (upd H a ob) h' a ob):
  Inv X pins σ (upd H a ob) { s with heap:=h',toks:=t' }:=
 I.write (x:=a) (e:=a) mu (.inl rfl) (fun b q hb z=>(hs.2 b hb).trans z) he new
theorem Hv{P:Program}{w:World}{H':Hp}{h':Heap}{kvs:List (Key×V)}{vs:List (Key×Value)}(z:kvs.length<=sizeLine)(hd:(a == sysModules)=false)(rel:KV kvs vs)(dd:h'.DictOf (bx P w) a vs):
  bV P w H' h' a (.dK kvs):=⟨z,hd,vs,rel,dd⟩
theorem DK{H':Hp}{Q:Unit->Shared->Prop}(hu:A.units+1<cLine)(I:Inv X pins σ H s)(g:Hs H a y v H')(ry:bf y u)(rv:bf v r)(h:∀s',Inv X pins σ H' s'->Q () s'):
  wpAny (model X.prog X.w) A (setItem (.ref a) u r) Q E s:=by
 rcases g with⟨kvs,k,e,ey,l,eH⟩|⟨kvs,k,b,e,ey,eb,l,eH⟩
 ·subst ey eH
  obtain⟨z,hd,vs,rel,dd⟩:=Kl I.hok e;have hz:vs.length<=sizeLine:=by rw[←rel.length];exact z
  have hl:(jt kvs k v).length<=sizeLine:=by have:=k9 kvs k v;omega
  refine wpAny_setItem_pairs (hsz:=hz) (CF ry) dd fun h' dd' hs=>h _ ?_;have he:∃q,h'.get? a=some q:=let ⟨q,_,_,hq,_⟩:=dd';⟨q,hq⟩
  exact vJ I (by rw[e];exact True.intro) hs he (Hv hl hd (rel.put k rv) dd')
 ·subst ey eH
  cases (show u=Value.ref b from ry)
  obtain⟨z,hd,xs,rel,dd⟩:=Nb I.hok e;have hz:xs.length<=sizeLine:=by rw[←Paired.length rel];exact z
  have hl:(jt kvs k v).length<=sizeLine:=by have:=k9 kvs k v;omega
  refine wpAny_setItem_heap (hsz:=hz) (tupleKind_room_in1 hu) (Ba I.hok eb) dd fun h' dd' hs=>h _ ?_;obtain⟨q,es,ep,hq,h2,h3,h4,_,h5⟩:=dd';refine vJ I (by rw[e];exact True.intro) hs ⟨q,hq⟩ ⟨hl,hd,_,(rel.put k eb rv).keeps fun c ys ec=>?_,q,es,ep,hq,h2,h3,h4,h5⟩
  rw[aF (NM ec e (fun z=>nomatch z))]
  exact ec
end
noncomputable def L0(i:Expr):Prop:=∀ov iv,subscripted i false ov iv=operate [ov,iv] (getItem ov iv)
theorem CK{prog:Program}{w:World}{A:Around}{E:Value->Shared->Prop}{s:Shared}{env:Env}{value slice:Expr}{pos:Pos}{T id:String}{Q:Value->Shared->Prop}(hl:typeLookup (.type T) "__getitem__"=pure (some (.builtin id)))(hs:L0 slice)(h:wpAny (model prog w) A (eval value env) (fun o s₁=>wpAny (model prog w) A (eval slice env) (fun i s₂=>s₂.TypeIs o T/\wpAny (model prog w) A (getItem o i) Q E s₂) E s₁) E s):
  wpAny (model prog w) A (eval (.Subscript value slice pos) env) Q E s:=by
 refine Subscript_ (wpAny_mono h (fun o s₁ h₁=>wpAny_mono h₁ (fun i s₂ h₂=>?_) fun _ _ x=>x) fun _ _ x=>x);obtain⟨hT,h₂⟩:=h₂;unfold subscriptTail;refine wpAny_bind ?_;rw[getitemInPython_of_ne hT.not_modules];refine wpAny_bind (wpAny_specialOf hT hl ?_)
 have fin:wpAny (model prog w) A (subscripted slice false o i) (fun r s₃=>wpAny (model prog w) A (letTemporaryGo value o r >>= fun _=>pure r) Q E s₃) E s₂:=by
  rw[hs o i];exact wpAny_operating (wpAny_mono h₂ (fun r s₃ h₃=>wpAny_bind (wpAny_letTemporaryGo (wpAny_pure h₃))) fun _ _ x=>x)
 first
  |exact wpAny_pure (wpAny_bind fin)
  |exact wpAny_bind (wpAny_pure (wpAny_bind fin))
  |exact wpAny_bind fin
theorem yn{X:Cx}{pins:List (Addr×Obj)}{σ:St}{H:Hp}{s:Shared}{a:Addr}{y:V}{o:Option V}(I:Inv X pins σ H s)(g:DC H a y o):s.TypeIs (.ref a) "dict":=by
 rcases g with⟨kvs,k,e,_,_⟩|⟨kvs,k,b,e,_,_,_⟩
 ·obtain⟨_,_,vs,_,dd⟩:=EV I.hok e
  exact dd.typeIs
 ·obtain⟨_,_,xs,_,dd⟩:=ET I.hok e
  exact dd.typeIs
noncomputable def JU(td ty:TE):TE:=fun σ H Q=>td σ H fun x H1=>ty σ H1 fun y H2=>∃a v,x=.ref a/\DC H2 a y (some v)/\Q v H2
noncomputable def JY(td ty tv:TE):TS:=fun D σ H=>tv σ H fun v H1=>td σ H1 fun x H2=>ty σ H2 fun y H3=>∃a H4,x=.ref a/\Hs H3 a y v H4/\D.nx σ H4
section
variable{X:Cx}{o i e value:Expr}{pos pos' tpos:Pos}{td ty tv:TE}
theorem nO(hu:X.A.units+1<cLine)(ho:PE X o td)(hi:PE X i ty)(hs:L0 i):PE X (.Subscript o i pos) (JU td ty):=.mk <| by
 intro pins s σ H Q I h;refine CK PySem.F.slot_dict_getitem.lookup hs (thn (ho pins s σ H _ I h) fun u s1 ⟨x,H1,I1,rx,q1⟩=>thn (hi pins s1 σ H1 _ I1 q1) fun iv s2 ⟨y,H2,I2,ry,a,v,ex,g,q2⟩=>?_);subst ex;obtain rfl:u=Value.ref a:=rx;exact⟨yn I2 g,Dw hu I2 g ry fun w' s3 I3 rw'=>⟨v,H2,I3,rw',q2⟩⟩
theorem vI(hu:X.A.units+1<cLine)(ho:PE X o td)(hi:PE X i ty)(hv:PE X value tv)(hs:swapsWith value (some (.Subscript o i pos')) pos.line X.env=pure false):
  PS X (.Assign [.Subscript o i pos'] value pos) (JY td ty tv):=.mk <| by
 intro pins s σ H D I h;refine wpAny_Assign_Subscript (thn (hv pins s σ H _ I h) fun r s1 ⟨v,H1,I1,rv,q1⟩=>thn (ho pins s1 σ H1 _ I1 q1) fun u s2 ⟨x,H2,I2,rx,q2⟩=>thn (hi pins s2 σ H2 _ I2 q2) fun iv s3 ⟨y,H3,I3,ry,a,H4,ex,g,q3⟩=>?_) hs;subst ex;obtain rfl:u=Value.ref a:=rx;exact DK hu I3 g ry rv fun s4 I4=>⟨σ,H4,I4,q3⟩
end
theorem Gw{P:Program}{w:World}{H:Hp}(h:Heap)(hb:sysModules<h.objs.size):bV P w H (h.push { cls:=.type "dict",data:=.dict #[] }) h.objs.size (.dK []):=
 ⟨Nat.zero_le _,beq_eq_false_iff_ne.mpr (Ne.symm (Nat.ne_of_lt hb)),[],.nil,Heap.DictOf.new h⟩
noncomputable def xp:List (TE×TE)->St->Hp->(List (V×V)->Hp->Prop)->Prop
 | [],_,H,Q=>Q [] H
 |(tk,tv)::r,σ,H,Q=>tk σ H fun x H1=>tv σ H1 fun y H2=>xp r σ H2 fun ps H3=>Q ((x,y)::ps) H3
noncomputable abbrev VV:List (V×V)->List (Value×Value)->Prop:=Paired fun p q=>bf p.1 q.1/\bf p.2 q.2
noncomputable def PPs(X:Cx)(pos:Pos)(keys:List (Option Expr))(values:List Expr)(trs:List (TE×TE)):Prop:=
 ∀(pins:List (Addr×Obj)) (s:Shared) (σ:St) (H:Hp) (Q:List (V×V)->Hp->Prop),Inv X pins σ H s->xp trs σ H Q ->
  wpAny (model X.prog X.w) X.A (evalPairs (pairTrees keys values X.env pos)) (fun vs s'=>∃ps H',Inv X pins σ H' s'/\VV ps vs/\Q ps H') X.xe s
theorem IJ{X:Cx}{pos:Pos}:PPs X pos [] [] []:=fun pins s σ H Q I h=>pairTrees_nil_walk ⟨[],H,I,.nil,h⟩
theorem sX{X:Cx}{pos:Pos}{k v:Expr}{ks:List (Option Expr)}{vs:List Expr}{tk tv:TE}{trs:List (TE×TE)}(hk:PE X k tk)(hv:PE X v tv)(hr:PPs X pos ks vs trs):
  PPs X pos (some k::ks) (v::vs) ((tk,tv)::trs):=fun pins s σ H Q I h=>
 pairTrees_cons_walk (thn (hk pins s σ H _ I h) fun u s1 ⟨x,H1,I1,rx,q1⟩=>thn (hv pins s1 σ H1 _ I1 q1) fun w2 s2 ⟨y,H2,I2,ry,q2⟩=>
  thn (hr pins s2 σ H2 _ I2 q2) fun ws s3 ⟨ps,H3,I3,rel,q3⟩=>⟨(x,y)::ps,H3,I3,.cons ⟨rx,ry⟩ rel,q3⟩)
noncomputable def ky(kvs more:List (Key×V)):List (Key×V):=more.foldl (fun acc kv=>jt acc kv.1 kv.2) kvs
theorem KV.merge:∀ {more:List (Key×V)} {rs:List (Key×Value)} {kvs:List (Key×V)} {vs:List (Key×Value)},KV more rs->KV kvs vs->KV (ky kvs more) (merged vs rs):=by
 intro more rs kvs vs r;unfold KV at r
 induction r generalizing kvs vs with
 |nil=>intro q;exact q
 | @cons p q ps qs h t ih=>
  intro r0
  have e:KV (jt kvs p.1 p.2) (stored vs q.1 q.2):=by
   have:=r0.put p.1 h.2;rw[←h.1];exact this
  exact ih e
theorem mE:∀(more kvs:List (Key×V)),(ky kvs more).length<=kvs.length+more.length
 | [],kvs=>by show kvs.length<=kvs.length+0;omega
 |p::r,kvs=>by
  have h1:=mE r (jt kvs p.1 p.2);have h2:=k9 kvs p.1 p.2;show (ky (jt kvs p.1 p.2) r).length<=_;rw[List.length_cons];omega
theorem sE{P:Program}{w:World}:∀ {kvs:List (Key×V)} {ws:List (Value×Value)},VV (kvs.map fun kv=>(kV kv.1,kv.2)) ws->∃rs,Carries (bx P w) ws rs/\KV kvs rs
 | [],_,r=>by rw[List.map_nil] at r;cases r;exact⟨[],True.intro,.nil⟩
 |p::kvs,_,r=>by
  rw[List.map_cons] at r
  cases r with
  | @cons a b as bs h t=>
   obtain⟨rs,c,q⟩:=sE (P:=P) (w:=w) t;obtain⟨b1,b2⟩:=b;exact⟨(p.1,b2)::rs,⟨CF h.1,rfl,c⟩,.cons ⟨rfl,h.2⟩ q⟩
noncomputable def Ka(trs:List (TE×TE)):TE:=fun σ H Q=>∀p,H p=none->xp trs σ (upd H p (.dK [])) fun ps H2=>H2 p=some (.dK [])/\∃kvs:List (Key×V),ps=kvs.map (fun kv=>(kV kv.1,kv.2))/\kvs.length<=15/\Q (.ref p) (upd H2 p (.dK (ky [] kvs)))
theorem Ir{X:Cx}{pos:Pos}{keys:List (Option Expr)}{values:List Expr}{trs:List (TE×TE)}(h:PPs X pos keys values trs)(hall:keys.all (·.isSome)=true)(hl:keys.length=values.length)(h0:keys≠[])(h15:keys.length<=15):PE X (.Dict keys values pos) (Ka trs):=.mk <| by
 intro pins s σ H Q I q;have hn:=I.hok.fresh (Nat.le_refl s.heap.objs.size);have I1:=I.laid (a:=s.heap.objs.size) (o:=.dK []) (h':=s.heap.push { cls:=.type "dict",data:=.dict #[] }) (t':=s.toks) (fun _ _ q=>Heap.get?_push_of_some _ q) (Nat.le_refl _) (Gw s.heap I.big);refine wpAny_Dict_walk (knd:=bx X.prog X.w) hall hl h0 h15 (thn (h pins _ σ _ _ I1 (q _ hn)) fun ws s2 ⟨ps,H2,I2,rel,e,kvs,ep,lk,q2⟩=>?_)
 subst ep;obtain⟨rs,c,rk⟩:=sE (P:=X.prog) (w:=X.w) rel;obtain⟨z,hd,vs0,r0,dd⟩:=Kl I2.hok e;cases r0;refine⟨rs,c,dd,fun h' dd' hs=>⟨.ref s.heap.objs.size,_,?_,rfl,q2⟩⟩
 have hz:(ky [] kvs).length<=sizeLine:=by
  have h1:=mE kvs [];rw[List.length_nil] at h1;rw[sizeLine_eq];omega
 have he:∃q,h'.get? s.heap.objs.size=some q:=let ⟨q,_,_,hq,_⟩:=dd';⟨q,hq⟩
 exact vJ I2 (by rw[e];exact True.intro) hs he (Hv hz hd (rk.merge .nil) dd')
structure M1(X:Cx)(o:Expr)(m:Str)(apos:Pos)(e:Expr)(cpos:Pos):Prop where
 base:attributeBase o m X.env (eval o X.env)=eval o X.env
 few:((backTo cpos (starEach [e] X.env)).all (fun x=>!x.1) && (backToKw cpos (keywordEach [] X.env)).all (fun x=>x.1.isSome)
  && decide (([e]:List Expr).length+([]:List Keyword).length+(if ([]:List Keyword).isEmpty then 0 else 1)<30))=true
 line:(apos.endLine == cpos.line)=true
 trees:backTo cpos (starEach [e] X.env)=[(false,eval e X.env)]
structure M2(X:Cx)(o:Expr)(m:Str)(apos:Pos)(e f:Expr)(cpos:Pos):Prop where
 base:attributeBase o m X.env (eval o X.env)=eval o X.env
 few:((backTo cpos (starEach [e,f] X.env)).all (fun x=>!x.1) && (backToKw cpos (keywordEach [] X.env)).all (fun x=>x.1.isSome)
  && decide (([e,f]:List Expr).length+([]:List Keyword).length+(if ([]:List Keyword).isEmpty then 0 else 1)<30))=true
 line:(apos.endLine == cpos.line)=true
 trees:backTo cpos (starEach [e,f] X.env)=[(false,eval e X.env),(false,eval f X.env)]
end L2
namespace Att
open PySem PySem.W PySem.Calls PyProof.Rows
theorem qt{P:Params}{h:Heap}:∀(ns:List Int)(vs:List Value),WellAll P h vs (ns.map WData.int)->IntsAre vs ns:=by
 intro ns
 induction ns with
 |nil=>
  intro vs w;rw[List.map_nil] at w;cases w;exact .nil
 |cons n ns ih=>
  intro vs w;rw[List.map_cons] at w
  cases w with
  |cons a b=>
   cases a;exact .cons _ _ (ih _ b)
theorem DL{l:OpenLaw}{n:Nat}(hn:l.most=some n){P:Params}{h:Heap}{args:List WData}{vals:List Value}(hpre:l.row.toRowW.claim.pre args=true)(hwl:WellAll P h vals args):
  ∃a vs ns,vals=[Value.ref a]/\args=[WData.list (ns.map WData.int)]/\h.get? a=some { cls:=.type "list",data:=.seq vs.toArray }/\IntsAre vs ns/\ns.length<=n:=by
 have hsh:WShape.hasAll [] args [.list .int]=true:=(pre_splitW hpre).1;have hc:l.pre.holds [] { args:=args }=true:=(pre_splitW hpre).2;obtain⟨d,r,rfl,h1,h2⟩:=hasAllW_cons hsh;obtain rfl:=hasAllW_nil h2;obtain⟨xs,rfl,h3⟩:=hasW_list h1;obtain⟨ns,rfl⟩:=items_int h3
 have hlen:ns.length<=n:=by
  unfold OpenLaw.pre at hc
  have h4:(WTm.not (.lt (.lit (.int (n:Int))) (.len (.arg 0)))).holds [] { args:=[.list (ns.map .int)] }=true:=by
   have h4:=(holds_andW hc).1;rw[hn] at h4;exact h4
  have h5:=condW_of h4 (w_not (w_lt w_lit (w_len_list (w_arg rfl))));rw[List.length_map] at h5;refine Nat.le_of_not_lt fun q=>?_;have q':(n:Int)<((ns.length:Nat):Int):=by omega
  first
   |(rw[decide_eq_true q'] at h5;exact absurd h5 (by decide))
   |(simp at h5;omega)
 cases hwl with
 |cons w1 w2=>
  cases w2
  cases w1 with
  |list ho hall=>exact⟨_,_,ns,rfl,rfl,ho,qt ns _ hall,hlen⟩
theorem Eh(l:OpenLaw)(args:List WData):l.row.toRowW.claim.post args (.bool true) args=true:=
 postW_of (r:=l.row.toRowW) (X:=(true == true))
  (show WShape.has [] (.bool true) .bool=true by first|rfl|decide|simp[WShape.has,WShape.arms,WShape.armsAll])
  (show (WTm.eq .res (.lit (.bool true))).value [] { args:=args,res:=some (.bool true),after:=args }=some (.bool (true == true)) from w_eq_bool (w_res rfl) w_lit) rfl
theorem zB{l:OpenLaw}{n:Nat}{q:Program}{loose:List Str}{XP:(Str->Option Value)->Heap->Prop}{YP:World->Heap->Prop}{d:DefRec}(hn:l.most=some n)(hdf:d.params.defaults=[])
  (call:∀(w:World)(s₀ s₁:Shared)(mg mb:Str->Option Value)(fa:Addr)(o:Obj)(pm cd doc:Value)(a:Addr)(vs:List Value)(ns:List Int),
   Ground q loose [] XP w s₀ mg mb s₁.heap->YP w s₁.heap ->
   s₁.heap.get? fa=some o->o.data=.func (docDef d.name d.params d.body d.scope pm cd doc)->s₁.heap.CodeRec cd d.name->mg d.name=some (.ref fa) ->
   s₁.heap.get? a=some { cls:=.type "list",data:=.seq vs.toArray }->IntsAre vs ns->ns.length<=n->s₁.gens=#[] ->
   codeAny (model l.prog w) callerA (.call (.ref fa) ⟨[.ref a],[]⟩) (fun r s'=>r=.ok (.ret (.bool true))/\OldK s₁.heap s'.heap/\s'.os=s₁.os/\AllBare s'.gens) s₁) :
  WalkO q loose XP YP l.row.toRowW d [] (fun f vs=>PySem.call f vs):=by
 intro w s₀ s₁ mg mb G Y fa o pm cd doc dV kV ho hd hcd hD hmg hg args vals as hpre hlay hrd hwl hlo;obtain rfl:dV=.none:=Dflts.none hD hdf;obtain rfl:kV=.none:=Dflts.noKw hD;obtain⟨a,vs,ns,rfl,rfl,hobj,hints,hlen⟩:=DL hn hpre hwl;refine enter_call (codeAny_mono (call w s₀ s₁ mg mb fa o pm cd doc a vs ns G Y ho (fd_plain hd) hcd hmg hobj hints hlen hg) fun r s' hq=>?_);obtain⟨rfl,h2,h3,h4⟩:=hq
 exact⟨.inl ⟨.bool true,.bool true,[],rfl,fun _=>rfl,.bool true,Eh l _,fun _=>⟨List.Pairwise.nil,fun _ hm=>(nomatch hm)⟩⟩,h2,h3,h4⟩
end Att
namespace L2
open PySem PySem.Spec PyProof.Rows
theorem vj:∀ {vs:List Value} {ns:List Int},IntsAre vs ns->aR (ns.map V.int) vs
 |_,_,.nil=>.nil
 |_,_,.cons n t h=>.cons ⟨t,rfl⟩ (vj h)
noncomputable def NN(_:Hp):Prop:=True
noncomputable abbrev KOf{K:W.Frag}{h:Heap}(_:K.In h):W.Frag:=K
noncomputable def defArgs(s:Stmt):Arguments:=match s with
 |.FunctionDef _ a _ _ _ _ _ _ _ _=>a
 |_=>{ posonlyargs:=[],args:=[],vararg:=none,kwonlyargs:=[],kw_defaults:=[],kwarg:=none,defaults:=[] }
noncomputable def defBody(s:Stmt):List Stmt:=match s with
 |.FunctionDef _ _ b _ _ _ _ _ _ _=>b
 |_=>[]
noncomputable def defScope(s:Stmt):Scope:=match s with
 |.FunctionDef _ _ _ _ _ _ sc _ _ _=>sc
 |_=>{ kind:=.function,names:=[],isGenerator:=false,isCoroutine:=false }
noncomputable abbrev CX0:CXT:=fun _ _ _ _ _ _=>False
noncomputable abbrev E0:XK:=fun _ _ _=>False
theorem ar{X:Cx}:AR CX0 X E0:=fun _ _ _ _ _ _ _ h=>h.elim
structure Fun(K:W.Frag)(x qual:Str)(st:Stmt)(f:Addr)(fd:FuncData):Prop where
 ex:∃(oc:Value)(od:Option Addr)(kV doc pm:Value)(an:Option Addr)(cdv ct:Value) (osl:Array (Option Value)),
  fd=W.fnOf x qual (defArgs st) (defBody st) (defScope st) .none kV doc pm an cdv ct/\K.lookup f=some ⟨oc,od,.func fd,osl⟩/\W.codeIn K cdv qual=true
 kp:W.keepIn K (.ref f)=true
section
variable{P:Program}{w:World}{K:W.Frag}{mg:Str->Option Value}{base:Heap}
theorem Fun.ok{x qual:Str}{st:Stmt}{f:Addr}{fd:FuncData}{N ps:List Str}{k:Nat}{sp:Sp}(F:Fun K x qual st f fd)(S:aA N ps (defScope st))(len:∀vs H Q E,sp vs H Q E->vs.length=ps.length)
  (hbody:∀(cdv:Value)(A:Around)(outer:List Env)(s:Shared)(H:Hp)(vs:List V)(Q:VK)(E:XK),eJ k (A.deeper (envOfC qual (defScope st) s.heap.objs.size f cdv))->sp vs H Q E ->
   ∃t,PSs (tZ CX0 P w K mg base N qual (defScope st) f cdv A outer s H E).nox (defBody st) t/\t { nx:=fun _ H'=>Q .non H',rt:=Q } (start N vs) H):az P w K mg base CX0 (k+1) f fd ps sp:=by
 obtain⟨oc,od,kV,doc,pm,an,cdv,ct,osl,rfl,lk,hcd⟩:=F.ex;refine J3 lk hcd S len fun A outer s H vs Q E hr hsp=>?_;obtain⟨t,h,q⟩:=hbody cdv A outer s H vs Q E hr hsp;exact⟨t,h.nox,q⟩
theorem Fun.binds{x qual:Str}{st:Stmt}{f:Addr}{fd:FuncData}{ps:List Str}(F:Fun K x qual st f fd)(h:∀(kV doc pm:Value)(an:Option Addr)(cdv ct:Value)(us:List Value),us.length=ps.length->bindArgs (W.fnOf x qual (defArgs st) (defBody st) (defScope st) .none kV doc pm an cdv ct) ⟨us,[]⟩=pure (ps.zip us)):aP K fd ps []:=by
 obtain⟨oc,od,kV,doc,pm,an,cdv,ct,osl,rfl,lk,hcd⟩:=F.ex;exact .all (h kV doc pm an cdv ct)
theorem pj{x qual:Str}{st:Stmt}{f:Addr}{oc:Value}{od an:Option Addr}{osl:Array (Option Value)}{kV doc pm cdv ct:Value}(l:K.lookup f=some ⟨oc,od,.func (W.fnOf x qual (defArgs st) (defBody st) (defScope st) .none kV doc pm an cdv ct),osl⟩)(c:W.codeIn K cdv qual=true)(k:W.keepIn K (.ref f)=true):Fun K x qual st f (W.fnOf x qual (defArgs st) (defBody st) (defScope st) .none kV doc pm an cdv ct):=⟨⟨oc,od,kV,doc,pm,an,cdv,ct,osl,rfl,l,c⟩,k⟩
end
theorem qg{A:Around}{k:Nat}(hr:eJ k A):A.units+1<cLine:=Nat.lt_of_le_of_lt (Nat.add_le_add_left (by decide:1<=64) _) hr.units
theorem a7{n:Nat}(h:n<=1000):n<sizeLine:=Nat.lt_of_le_of_lt h (by decide)
section
variable{X:Cx}
theorem pv(i:Nat){x:Str}{pos:Pos}(hN:X.N[i]?=some x:=by rfl)(hv:Vis X.env.scope x:=by first|exact Or.inl rfl|exact Or.inr (Or.inl rfl)|exact Or.inr (Or.inr rfl))(hd:(x == ("__debug__":Str))=false:=by decide)(hcd:(x == ("__classdict__":Str))=false:=by decide):PE X (.Name x pos) (FG i):=F3 hN hv hd hcd
end
theorem NS{A B:Prop}(h:B):if false=true then A else B:=by
 rw[if_neg Bool.false_ne_true];exact h
theorem N0{A B:Prop}(h:A):if true=true then A else B:=by
 rw[if_pos rfl];exact h
theorem mj{c A B:Prop}[Decidable c](h1:c->A)(h2:¬ c->B):if c then A else B:=by
 by_cases h:c
 ·rw[if_pos h]
  exact h1 h
 ·rw[if_neg h]
  exact h2 h
noncomputable def cK(H H':Hp):Prop:=∀b o,H b=some o->H' b=some o
theorem cK.refl(H:Hp):cK H H:=fun _ _ h=>h
theorem cK.trans{H H1 H2:Hp}(a:cK H H1)(b:cK H1 H2):cK H H2:=fun c o h=>b c o (a c o h)
end L2
set_option maxHeartbeats 1000000
namespace L2
open PySem PySem.Spec PyProof.Rows
section
variable{prog:Program}{w:World}{A:Around}{E:Value->Shared->Prop}{R:Result->Shared->Prop}{s:Shared}
noncomputable def ji(elt:Expr)(gens:List Comprehension)(scope:Scope)(pos:Pos)(d:Nat)(acc:Value)(env:Env):Sem Unit:=
 match gens[d+1]? with
 |some g'=>do
  let x ← eval g'.iter env
  standAt g'.iter.pos
  let x ← if g'.is_async != 0 then foldedIterable g'.iter x else foldedSetIterable g'.iter env x
  let _ ← runOwn (.compStart (.ListComp elt gens scope pos) (d+1) (← holding [x] (if g'.is_async != 0 then asyncIter x else pyIter x)) acc env) env
 |none=>do let _ ← call (.builtin "list.append") [acc,←eval elt env]
theorem xg{elt target iter:Expr}{gens:List Comprehension}{ifs:List Expr}{scope:Scope}{pos:Pos}{d:Nat}{it acc:Value}{env:Env}(I:Nat->Shared->Prop)(hg:gens[d]?=some ⟨target,iter,ifs,0⟩)(ha:∀g',gens[d+1]?=some g'->g'.is_async=0)
  (turn:∀n s,I n s->wpAny (model prog w) A (pyNext it) (fun r s₁=>match r with
   |none=>R (.ok .next) s₁
   | some v=>wpAny (model prog w) A (letOwnedTupleGo target it v) (fun _ s₁'=>wpAny (model prog w) A (assign target env v) (fun _ s₂ =>
     wpAny (model prog w) A (forIn ifs true fun c r=>if r=true then do let ok ← isTrue c env (eval c env);pure (ForInStep.yield ok) else pure (ForInStep.yield r)) (fun ok s₃=>
      if ok=true then wpAny (model prog w) A (ji elt gens scope pos d acc env) (fun _ s₅=>∃m,m<n/\I m s₅) (fun _ _=>False) s₃
      else ∃m,m<n/\I m s₃) (fun _ _=>False) s₂) (fun _ _=>False) s₁') (fun _ _=>False) s₁) (fun _ _=>False) s)
  (n:Nat) (h:I n s) :
  codeAny (model prog w) A (.compLoop (.ListComp elt gens scope pos) d it acc env) R s:=by
 refine codeAny_loop rfl I (fun n s hI=>?_) n h;show wpAny _ A ((compTurn (.ListComp elt gens scope pos) d it acc env).onRaise (fun x=>do noteFrame x env;theTreesLotGoes x)) _ _ s
 refine wpAny_noted ?_;unfold compTurn;simp only[hg];refine wpAny_bind (wpAny_standAt (wpAny_bind (wpAny_mono (turn n s hI) (fun r s₁ h₁=>?_) fun _ _ x=>x.elim)))
 cases r with
 |none=>exact wpAny_pure h₁
 |some v=>
  refine wpAny_bind (wpAny_mono h₁ (fun _ s₁' h₁'=>?_) fun _ _ x=>x.elim);refine wpAny_bind (wpAny_mono h₁' (fun _ s₂ h₂=>wpAny_bind (wpAny_mono h₂ (fun ok s₃ h₃=>?_) fun _ _ x=>x.elim)) fun _ _ x=>x.elim)
  cases ok with
  |false=>exact wpAny_pure ⟨rfl,h₃⟩
  |true=>
   have h₃':wpAny (model prog w) A (ji elt gens scope pos d acc env) (fun _ s₅=>∃m,m<n/\I m s₅) (fun _ _=>False) s₃:=h₃;unfold ji at h₃';rw[if_pos rfl]
   cases hd:gens[d+1]? with
   |none=>
    rw[hd] at h₃';exact wpAny_bind (wpAny_mono h₃' (fun _ s₅ h₅=>wpAny_pure ⟨rfl,h₅⟩) fun _ _ x=>x.elim)
   |some g'=>
    rw[hd] at h₃';have h0:=ha g' hd;have e0:(g'.is_async != 0)=false:=by rw[h0];rfl
    dsimp only at h₃' ⊢;simp only[e0,Bool.false_eq_true,if_false] at h₃' ⊢;intro Γ p hΓ;have q:=h₃' Γ p hΓ;simp only[Sem.wp_bind'] at q ⊢;refine Sem.wp_mono _ Γ _ (fun x p₁ s₄ q₁=>?_) (fun _ _ _ z=>z.elim) _ _ q;refine Sem.wp_mono _ Γ _ (fun _ p₂ s₄ q₂=>?_) (fun _ _ _ z=>z.elim) _ _ q₁;refine Sem.wp_mono _ Γ _ (fun x p₂ s₄ q₂=>?_) (fun _ _ _ z=>z.elim) _ _ q₂;refine Sem.wp_mono _ Γ _ (fun x p₂ s₄ q₂=>?_) (fun _ _ _ z=>z.elim) _ _ q₂
    refine Sem.wp_mono _ Γ _ (fun x p₂ s₄ q₂=>?_) (fun _ _ _ z=>z.elim) _ _ q₂;exact⟨rfl,q₂⟩
end
section
variable{prog:Program}{w:World}{A:Around}{E:Value->Shared->Prop}{R:Result->Shared->Prop}{s:Shared}
theorem mB{elt target iter:Expr}{gens:List Comprehension}{ifs:List Expr}{scope:Scope}{pos:Pos}{d:Nat}{it acc:Value}{env:Env}(hg:gens[d]?=some ⟨target,iter,ifs,0⟩)(h0:codeAny (model prog w) A (.compLoop (.ListComp elt gens scope pos) d it acc env) R s)(h:wpAny (model prog w) A (pyIter it) (fun it' s'=>codeAny (model prog w) A (.compLoop (.ListComp elt gens scope pos) d it' acc env) R s') (fun _ _=>False) s):
  codeAny (model prog w) A (.compStart (.ListComp elt gens scope pos) d it acc env) R s:=by
 refine codeAny_of_tree ?_;show wpAny _ _ ((compStart (.ListComp elt gens scope pos) d it acc env).onRaise (fun x=>do noteFrame x env;standAt theWindowsPlace)) _ _ s
 refine wpAny_notedAt ?_;unfold compStart;have hcl:clausesOf (.ListComp elt gens scope pos)=gens:=rfl;simp only[hcl,hg,Option.elim];refine wpAny_ite ?_;rw[if_neg (by decide)]
 refine wpAny_bind (wpAny_askSetting (wpAny_ite ?_));split
 ·first
   |exact wpAny_bind (wpAny_pure (wpAny_pure (And.intro rfl h0)))
   |exact wpAny_pure (And.intro rfl h0)
 ·exact wpAny_bind (wpAny_rule (wpAny_bind (wpAny_standAt (wpAny_bind (wpAny_mono h (fun it' s' h'=>wpAny_pure (And.intro rfl h')) fun _ _ x=>x.elim)))))
end
noncomputable abbrev TL:=Addr->St->Hp->(St->Hp->Prop)->Prop
noncomputable def PL(X:Cx)(elt:Expr)(gens:List Comprehension)(scope:Scope)(pos:Pos)(d:Nat)(t:TL):Prop:=
 ∀(pins:List (Addr×Obj)) (s:Shared) (σ:St) (H:Hp) (acc:Addr) (K:St->Hp->Prop),Inv X pins σ H s->t acc σ H K ->
  wpAny (model X.prog X.w) X.A (ji elt gens scope pos d (.ref acc) X.env) (fun _ s'=>∃σ' H',Inv X pins σ' H' s'/\K σ' H') (fun _ _=>False) s
noncomputable def PTs(X:Cx)(ifs:List Expr)(t:TT):Prop:=
 ∀(pins:List (Addr×Obj)) (s:Shared) (σ:St) (H:Hp) (Q:Bool->Hp->Prop),Inv X pins σ H s->t σ H Q ->
  wpAny (model X.prog X.w) X.A (forIn ifs true fun c r=>if r=true then do let ok ← isTrue c X.env (eval c X.env);pure (ForInStep.yield ok) else pure (ForInStep.yield r)) (TP X pins σ Q) X.xe s
noncomputable def C1:TT:=fun _ H Q=>Q true H
noncomputable def Kr(te:TE):TL:=fun acc σ H K=>te σ H fun y H1=>∃xs,H1 acc=some (.lst xs)/\xs.length<sizeLine/\K σ (upd H1 acc (.lst (xs++[y])))
noncomputable def Cl(J:It)(g:TG)(tc:TT)(l:TL):TL:=fun acc σ H K=>∃W:Nat->Nat->St->Hp->Prop,(∃m,W 0 m σ H)/\∀i m σ H,W i m σ H ->
 (J.stop i H/\K σ H)\/(J.go i H/\∀x H',J.yld i H x H'->g x σ H' fun σ2 H2=>tc σ2 H2 fun b H3=>
  if b=true then l acc σ2 H3 (fun σ3 H4=>∃m',m'<m/\W (i+1) m' σ3 H4) else ∃m',m'<m/\W (i+1) m' σ2 H3)
noncomputable def Ni(wi:TI)(g:TG)(tc:TT)(l:TL):TL:=fun acc σ H K=>wi σ H fun J H1=>Cl J g tc l acc σ H1 K
section
variable{X:Cx}{elt:Expr}{gens:List Comprehension}{scope:Scope}{pos:Pos}{d:Nat}{te:TE}{l:TL}{tg iter:Expr}{ifs:List Expr}{wi:TI}{g:TG}{tc:TT}
theorem bK:PTs X [] C1:=fun pins s σ H Q I h=>wpAny_tests_nil ⟨H,I,h⟩
theorem lH{c:Expr}(hc:PT X c tc):PTs X [c] tc:=fun pins s σ H Q I h=>wpAny_tests_one (hc pins s σ H Q I h)
theorem bq(hx:X.xe=fun _ _=>False)(hd:gens[d+1]?=none)(he:PE X elt te):PL X elt gens scope pos d (Kr te):=by
 intro pins s σ H acc K I h;unfold ji;rw[hd];have he':=he pins s σ H _ I h;rw[hx] at he';refine wpAny_bind (thn he' fun u s1 ⟨y,H1,I1,r1,xs,e1,z1,k1⟩=>?_);have ha:=bc pins s1 σ H1 (.ref acc) [y] (.ref acc) [u] (fun v H2=>v=.non/\H2=upd H1 acc (.lst (xs++[y]))) I1 rfl (.cons r1 .nil) ⟨acc,xs,y,rfl,rfl,e1,z1,rfl,rfl⟩;rw[hx] at ha;refine wpAny_bind (thn ha fun v s2 ⟨v',H2,I2,r2,e2,e3⟩=>wpAny_pure ⟨σ,H2,I2,by rw[e3];exact k1⟩)
theorem u6(hx:X.xe=fun _ _=>False)(hc:X.calm=true)(hd:gens[d]?=some ⟨tg,iter,ifs,0⟩)(ha:∀g',gens[d+1]?=some g'->g'.is_async=0)(hg:PG X tg g)(ht:PTs X ifs tc)(hl:PL X elt gens scope pos d l){pins:List (Addr×Obj)}{s:Shared}{σ:St}{H:Hp}{acc it:Addr}{fp:List Addr}{tn:Nat->Heap->Prop}{J:It}{K:St->Hp->Prop}{R:Result->Shared->Prop}(I:Inv X pins σ H s)(T:yQ X.prog X.w X.K tg J fp it tn)(st:tn 0 s.heap)(f2:∀b∈fp,mi X pins H b)(h:Cl J g tc l acc σ H K)(hR:∀σ' H' s',Inv X pins σ' H' s'->K σ' H'->R (.ok .next) s'):
  codeAny (model X.prog X.w) X.A (.compLoop (.ListComp elt gens scope pos) d (.ref it) (.ref acc) X.env) R s:=by
 obtain⟨W,⟨m0,w0⟩,turn⟩:=h;have stat:∀ {H':Hp},(∀b∈fp,H' b=none)->∀b∈fp,mi X pins H' b:=fun hn b hb=>⟨hn b hb,(f2 b hb).2⟩;refine xg (fun n s'=>∃i σ' H',Inv X pins σ' H' s'/\tn i s'.heap/\(∀b∈fp,H' b=none)/\W i n σ' H') hd ha ?_ m0 ⟨0,σ,H,I,st,fun b hb=>(f2 b hb).1,w0⟩;rintro n s3 ⟨i,σ3,H3,I3,st3,fr3,w3⟩;rcases turn i n σ3 H3 w3 with⟨stop,qn⟩|⟨go,step⟩
 ·refine thn (T.done X rfl rfl rfl hc i pins s3 σ3 H3 _ I3 (stat fr3) st3 stop) fun r s4 ⟨hr,I4⟩=>?_
  subst hr;exact hR σ3 H3 s4 I4 qn
 ·refine thn (T.item X rfl rfl rfl hc i pins s3 σ3 H3 _ I3 (stat fr3) st3 go) fun r s4 ⟨u,hr,h4⟩=>?_
  subst hr;refine thn h4 fun _ s5 ⟨x,H5,I5,r5,y5,st5,fr5⟩=>?_;have I5':=I5.pinned (stat fr5) (T.obj _ _ st5)
  have again:∀ {σ7:St} {H7:Hp} {s7:Shared} {m':Nat},Inv X (pins++sn fp s5.heap) σ7 H7 s7->m'<n->W (i+1) m' σ7 H7->∃m,m<n/\∃i σ' H',Inv X pins σ' H' s7/\tn i s7.heap/\(∀b∈fp,H' b=none)/\W i m σ' H':=fun {σ7 H7 s7 m'} I7 hm w7=>by
   refine⟨m',hm,i+1,σ7,H7,I7.unpinned,T.keep _ _ _ st5 fun b hb o e=>(I7.pin (b,o) (List.mem_append_right _ (List.mem_append_right _ (jP hb e)))).1,fun b hb=>?_,w7⟩;obtain⟨o,e,d⟩:=T.obj _ _ st5 b hb;exact(I7.pin (b,o) (List.mem_append_right _ (List.mem_append_right _ (jP hb e)))).2.1
  have hg':=hg _ s5 σ3 H5 x u _ I5' r5 (step x H5 y5);rw[hx] at hg';refine thn hg' fun _ s6 ⟨σ6,H6,I6,q6⟩=>?_;have ht':=ht _ s6 σ6 H6 _ I6 q6;rw[hx] at ht';refine thn ht' fun ok s7 ⟨H7,I7,q7⟩=>?_
  cases ok with
  |false=>
   rw[if_neg Bool.false_ne_true] at q7 ⊢;obtain⟨m',hm,w7⟩:=q7;exact again I7 hm w7
  |true=>
   rw[if_pos rfl] at q7 ⊢;refine thn (hl _ s7 σ6 H7 acc _ I7 q7) fun _ s8 ⟨σ8,H8,I8,m',hm,w8⟩=>?_;exact again I8 hm w8
theorem F5(hx:X.xe=fun _ _=>False)(hc:X.calm=true)(hd:gens[d+1]?=some ⟨tg,iter,ifs,0⟩)(ha:∀g',gens[d+2]?=some g'->g'.is_async=0)(hi:PI X tg iter wi)(hg:PG X tg g)(ht:PTs X ifs tc)(hl:PL X elt gens scope pos (d+1) l)(hs:∀x,foldedSetIterable iter X.env x=pure x:=by intro _;rfl):PL X elt gens scope pos d (Ni wi g tc l):=by
 intro pins s σ H acc K I h;unfold ji;rw[hd];dsimp only;have e0:((0:Int) != 0)=false:=by decide
 simp only[show (((⟨tg,iter,ifs,0⟩:Comprehension).is_async != 0)=false) from rfl,Bool.false_eq_true,if_false]
 have hi':=hi pins s σ H _ I h;rw[hx] at hi';refine wpAny_bind (thn hi' fun v s1 h1=>wpAny_bind (wpAny_standAt (wpAny_bind (wpAny_of_eq (hs v) ?_))));refine wpAny_bind (wpAny_holding (thn h1 fun itv s2 h2=>?_));obtain⟨it,fp,tn,J,H2,e,I2,T,st2,f2,q⟩:=h2;subst e
 have loop:codeAny (model X.prog X.w) X.A (.compLoop (.ListComp elt gens scope pos) (d+1) (.ref it) (.ref acc) X.env) (fun r s'=>match r with|.ok f=>wpAny (model X.prog X.w) X.A (pure ():Sem Unit) (fun _ s'=>∃σ' H',Inv X pins σ' H' s'/\K σ' H') (fun _ _=>False) s'|.error e=>cameBackBy (model X.prog X.w) X.A X.env (fun _ _=>False) e s') s2:=
  u6 hx hc hd ha hg ht hl I2 T st2 f2 q fun σ' H' s' I' k'=>wpAny_pure ⟨σ',H',I',k'⟩
 exact wpAny_bind (wpAny_runOwn (mB hd loop (T.self X.A 0 s2 _ _ st2 loop)))
end
noncomputable def kn(env:Env):List (Str×NameKind)->List (Str×Addr)->List (Str×Addr)
 | [],acc=>acc
 |(n,k)::r,acc=>if k == .free then kn env r ((n,(env.cells.lookup n).getD 0)::acc) else kn env r acc
theorem AF{scope:Scope}{env:Env}(h:∀y∈scope.names,y.2=.free->∃c,env.cells.lookup y.1=some c):closureFor scope env=pure (kn env scope.names []):=by
 have gen:∀(names:List (Str×NameKind)) (acc:List (Str×Addr)),(∀y∈names,y.2=.free->∃c,env.cells.lookup y.1=some c) ->
   (forIn names acc fun(x:Str×NameKind) (r:List (Str×Addr))=>(if (x.2 == NameKind.free)=true then do let a ← cellOf env x.1;pure (ForInStep.yield ((x.1,a)::r)) else pure (ForInStep.yield r):Sem _))=pure (kn env names acc):=by
  intro names
  induction names with
  |nil=>intro acc _;rfl
  |cons y r ih=>
   intro acc hy;obtain⟨n,k⟩:=y;rw[List.forIn_cons];unfold kn
   cases hk:k == NameKind.free with
   |true=>
    obtain⟨c,hc⟩:=hy (n,k) (List.mem_cons_self ..) (by simpa using hk)
    simp only[hk,if_true,cellOf,hc,Option.getD_some];exact ih _ fun y hy'=>hy y (List.mem_cons_of_mem _ hy')
   |false=>
    simp only[hk,Bool.false_eq_true,if_false];exact ih _ fun y hy'=>hy y (List.mem_cons_of_mem _ hy')
 have:=gen scope.names [] h;unfold closureFor;show ((forIn scope.names ([]:List (Str×Addr)) fun(x:Str×NameKind) (r:List (Str×Addr))=>(if (x.2 == NameKind.free)=true then do let a ← cellOf env x.1;pure (ForInStep.yield ((x.1,a)::r)) else pure (ForInStep.yield r):Sem _)) >>= fun z=>pure z)=_
 rw[this];rfl
theorem jm{env:Env}:∀ {names:List (Str×NameKind)} {acc:List (Str×Addr)} {n:Str} {c:Addr},(n,c)∈kn env names acc->(n,c)∈acc\/((n,NameKind.free)∈names/\c=(env.cells.lookup n).getD 0)
 | [],_,_,_,h=>.inl h
 |(m,k)::r,acc,n,c,h=>by
  unfold kn at h;split at h
  ·rename_i hk
   rcases jm h with h|⟨h1,h2⟩
   ·rcases List.mem_cons.mp h with e|e
    ·cases e
     have:k=.free:=by simpa using hk
     subst this;exact .inr ⟨List.mem_cons_self ..,rfl⟩
    ·exact .inl e
   ·exact .inr ⟨List.mem_cons_of_mem _ h1,h2⟩
  ·rcases jm h with h|⟨h1,h2⟩
   ·exact .inl h
   ·exact .inr ⟨List.mem_cons_of_mem _ h1,h2⟩
theorem nK{env:Env}:∀ {names:List (Str×NameKind)} {acc:List (Str×Addr)} {n:Str},((n,NameKind.free)∈names\/∃c,(n,c)∈acc)->∃c,(n,c)∈kn env names acc
 | [],_,_,h=>by
  rcases h with h|h
  ·cases h
  ·exact h
 |(m,k)::r,acc,n,h=>by
  unfold kn;split
  ·rename_i hk
   apply nK;rcases h with h|⟨c,h⟩
   ·rcases List.mem_cons.mp h with e|e
    ·cases e;exact .inr ⟨_,List.mem_cons_self ..⟩
    ·exact .inl e
   ·exact .inr ⟨c,List.mem_cons_of_mem _ h⟩
  ·rename_i hk
   apply nK;rcases h with h|h
   ·rcases List.mem_cons.mp h with e|e
    ·cases e;simp at hk
    ·exact .inl e
   ·exact .inr h
theorem iR:∀ {names:List (Str×NameKind)} {h:Heap} {acc:List (Str×Addr)} {n:Str} {c:Addr},(n,c)∈cellsFrom h.objs.size names acc ->
  (n,c)∈acc\/((n,NameKind.cell)∈names/\h.objs.size<=c/\(pushCells h names).IsCell c none)
 | [],_,_,_,_,m=>.inl m
 |(x,k)::r,h,acc,n,c,m=>by
  unfold cellsFrom at m;unfold pushCells;split at m
  ·rename_i hk
   rw[if_pos hk];have sz:(h.push { cls:=.type "cell",data:=.cell none }).objs.size=h.objs.size+1:=Heap.size_push ..;rw[←sz] at m
   rcases iR m with m|⟨m1,m2,m3⟩
   ·rcases List.mem_cons.mp m with e|e
    ·cases e
     have:k=.cell:=by simpa using hk
     subst this;exact .inr ⟨List.mem_cons_self ..,Nat.le_refl _,⟨_,pushCells_keeps _ _ _ _ (Heap.get?_push_size _ rfl),rfl⟩⟩
    ·exact .inl e
   ·exact .inr ⟨List.mem_cons_of_mem _ m1,by omega,m3⟩
  ·rename_i hk
   rw[if_neg hk];rcases iR m with m|⟨m1,m2,m3⟩
   ·exact .inl m
   ·exact .inr ⟨List.mem_cons_of_mem _ m1,m2,m3⟩
theorem dN:∀ {names:List (Str×NameKind)} {k:Nat} {acc:List (Str×Addr)} {n:Str},((n,NameKind.cell)∈names\/∃c,(n,c)∈acc)->∃c,(n,c)∈cellsFrom k names acc
 | [],_,_,_,h=>by
  rcases h with h|h
  ·cases h
  ·exact h
 |(m,k)::r,j,acc,n,h=>by
  unfold cellsFrom;split
  ·rename_i hk
   apply dN;rcases h with h|⟨c,h⟩
   ·rcases List.mem_cons.mp h with e|e
    ·cases e;exact .inr ⟨_,List.mem_cons_self ..⟩
    ·exact .inl e
   ·exact .inr ⟨c,List.mem_cons_of_mem _ h⟩
  ·rename_i hk
   apply dN;rcases h with h|h
   ·rcases List.mem_cons.mp h with e|e
    ·cases e;simp at hk
    ·exact .inl e
   ·exact .inr h
theorem iF:∀ {names:List (Str×NameKind)} {k:Nat} {acc:List (Str×Addr)},(∀n c,(n,c)∈acc->c<k)->(∀n m c,(n,c)∈acc->(m,c)∈acc->n=m) ->
  ∀n m c,(n,c)∈cellsFrom k names acc->(m,c)∈cellsFrom k names acc->n=m
 | [],_,_,_,h2,n,m,c,a,b=>h2 n m c a b
 |(x,kd)::r,k,acc,h1,h2,n,m,c,a,b=>by
  unfold cellsFrom at a b;split at a
  ·rename_i hk
   rw[if_pos hk] at b;refine iF (k:=k+1) ?_ ?_ n m c a b
   ·intro n c h
    rcases List.mem_cons.mp h with e|e
    ·cases e;exact Nat.lt_succ_self _
    ·exact Nat.lt_succ_of_lt (h1 n c e)
   ·intro n m c h h'
    rcases List.mem_cons.mp h with e|e<;>rcases List.mem_cons.mp h' with e'|e'
    ·cases e;cases e';rfl
    ·cases e;exact absurd (h1 _ _ e') (Nat.lt_irrefl _)
    ·cases e';exact absurd (h1 _ _ e) (Nat.lt_irrefl _)
    ·exact h2 n m c e e'
  ·rename_i hk
   rw[if_neg hk] at b;exact iF h1 h2 n m c a b
theorem dW{α:Type}:∀ {l:List (Str×α)} {n:Str},(∃c,(n,c)∈l)->∃c,l.lookup n=some c
 | [],_,⟨_,h⟩=>by cases h
 |(k,v)::r,n,⟨c,h⟩=>by
  rw[List.lookup_cons]
  cases hb:n == k with
  |true=>exact⟨v,rfl⟩
  |false=>
   rcases List.mem_cons.mp h with e|e
   ·cases e;simp at hb
   ·exact dW ⟨c,e⟩
noncomputable def cg(scope osc:Scope)(N:List Str)(src:List (Option Nat))(ON:List Str):Bool:=
 (scope.kind == .function) && (osc.kind == .function) && decide (src.length=N.length) &&
 (scope.names.all fun y=>(scope.names.lookup y.1 == some y.2) && (if y.2 == .free then osc.names.lookup y.1 == some .cell else true)) &&
 ((N.zip src).all fun p=>match p.2 with|none=>true|some j=>(ON[j]? == some p.1) && (scope.names.lookup p.1 == some .free))
noncomputable def yH(src:List (Option Nat))(σ:St):St:=src.map fun o=>match o with|none=>none|some j=>(σ[j]?).join
noncomputable def Cx.blk(X:Cx)(scope:Scope)(N:List Str)(cs:List (Str×Addr))(C:Addr)(s:Shared)(H:Hp)(ex:List Addr)(pn:List (Addr×Obj)):Cx:=
 { X with N:=N,s₀:=s,H₀:=H,env:=compEnvC scope cs C X.env,outer:=X.stack,stack:=X.stack,ex:=ex,fn:=fun x=>decide (scope.names.lookup x=some .cell),pn:=pn,xe:=fun _ _=>False }
section
variable{X:Cx}{pins:List (Addr×Obj)}{σ:St}{H:Hp}{s:Shared}{scope:Scope}{N:List Str}{src:List (Option Nat)}
theorem uQ{osc:Scope}{ON:List Str}(h:cg scope osc N src ON=true):scope.kind=.function/\osc.kind=.function/\src.length=N.length /\
  (∀y∈scope.names,scope.names.lookup y.1=some y.2)/\(∀y∈scope.names,y.2=.free->osc.names.lookup y.1=some .cell) /\
  (∀(i:Nat)(x:Str)(j:Nat),N[i]?=some x->src[i]?=some (some j)->ON[j]?=some x/\scope.names.lookup x=some .free):=by
 unfold cg at h;simp only[Bool.and_eq_true,decide_eq_true_eq,beq_iff_eq,List.all_eq_true] at h;obtain⟨⟨⟨⟨h1,h2⟩,h3⟩,h4⟩,h5⟩:=h;refine⟨h1,h2,h3,fun y hy=>(h4 y hy).1,fun y hy e=>?_,fun i x j e1 e2=>?_⟩
 ·have:=(h4 y hy).2
  rw[e] at this;simpa using this
 ·have hm:(x,some j)∈N.zip src:=by
   apply List.mem_of_getElem? (i:=i);rw[List.getElem?_zip_eq_some];exact⟨e1,e2⟩
  have:=h5 _ hm;simpa using this
theorem lh{env:Env}(hk:env.scope.kind=.function):∀ {names:List (Str×NameKind)} {x:Str} {k:NameKind},names.lookup x=some k->(k=.free->env.kindOf x=some .cell) ->
  (names.map fun(n,k)=>if (k == NameKind.free && env.scope.kind == .function && env.kindOf n == some .cell) then (n,NameKind.cell) else (n,k)).lookup x=some (if k=.free then .cell else k)
 | [],_,_,h,_=>by simp at h
 |(n,k')::r,x,k,h,hf=>by
  have ih:=@lh env hk r x k;show List.lookup x ((if (k' == NameKind.free && env.scope.kind == .function && env.kindOf n == some .cell)=true then (n,NameKind.cell) else (n,k'))::_)=_
  cases hx:x == n with
  |true=>
   simp only[List.lookup_cons,hx] at h;have e:x=n:=by simpa using hx
   subst e;cases h;by_cases hfr:k'=.free
   ·have:=hf hfr
    subst hfr;rw[if_pos (by rw[this,hk];rfl)]
    simp[List.lookup_cons]
   ·have hfr':(k' == NameKind.free)=false:=by simpa using hfr
    rw[if_neg (by rw[hfr'];simp),if_neg hfr]
    simp[List.lookup_cons]
  |false=>
   simp only[List.lookup_cons,hx] at h;by_cases hc:(k' == NameKind.free && env.scope.kind == .function && env.kindOf n == some .cell)=true
   ·rw[if_pos hc];simp only[List.lookup_cons,hx];exact ih h hf
   ·rw[if_neg hc];simp only[List.lookup_cons,hx];exact ih h hf
theorem zF{env:Env}{names:List (Str×NameKind)}{x:Str}(h:(names.map fun(n,k)=>if (k == NameKind.free && env.scope.kind == .function && env.kindOf n == some .cell) then (n,NameKind.cell) else (n,k)).lookup x=some .cell):
  (x,NameKind.cell)∈names\/(x,NameKind.free)∈names:=by
 have hm:=mem_of_lookup h;obtain⟨⟨n,k⟩,hy,e⟩:=List.mem_map.mp hm;dsimp only at e;split at e
 ·rename_i hc
  cases e;simp only[Bool.and_eq_true,beq_iff_eq] at hc;rw[hc.1.1] at hy;exact .inr hy
 ·cases e;exact .inl hy
theorem wJ{env:Env}{names:List (Str×NameKind)}{x:Str}(hk:env.scope.kind=.function)(hfr:∀y∈names,y.2=.free->env.kindOf y.1=some .cell)(h:(names.map fun(n,k)=>if (k == NameKind.free && env.scope.kind == .function && env.kindOf n == some .cell) then (n,NameKind.cell) else (n,k)).lookup x=some .free):False:=by
 have hm:=mem_of_lookup h;obtain⟨⟨n,k⟩,hy,e⟩:=List.mem_map.mp hm;dsimp only at e;split at e
 ·cases e
 ·rename_i hc
  cases e;have:=hfr _ hy rfl;exact hc (by rw[this,hk];rfl)
theorem Ew{fp:List Addr}(I:Inv X pins σ H s)(hb:cg scope X.env.scope N src X.N=true)(f2:∀b∈fp,mi X pins H b)(fo:∀b∈fp,∃o,s.heap.get? b=some o){t:Nat}:
  Inv (X.blk scope N (cellsFrom (s.heap.objs.size+1) scope.names (kn X.env scope.names [])) s.heap.objs.size s H fp (X.pn++pins)) [] (yH src σ) H { s with heap:=pushCells (s.heap.push { cls:=.type "dict",data:=.dict #[] }) scope.names,toks:=t }:=by
 obtain⟨hk,hok,hlen,hnd,hfr,hsrc⟩:=uQ hb;have keep:∀b o,s.heap.get? b=some o->(pushCells (s.heap.push { cls:=.type "dict",data:=.dict #[] }) scope.names).get? b=some o:=fun b o e=>pushCells_keeps _ _ b o (Heap.get?_push_of_some _ e);have hfr':∀y∈scope.names,y.2=.free->X.env.kindOf y.1=some .cell:=hfr;have sz:(s.heap.push { cls:=.type "dict",data:=.dict #[] }).objs.size=s.heap.objs.size+1:=Heap.size_push ..
 have cell:∀n c,(n,c)∈cellsFrom (s.heap.objs.size+1) scope.names (kn X.env scope.names []) ->
   (X.env.cells.lookup n=some c/\(n,NameKind.free)∈scope.names)\/((n,NameKind.cell)∈scope.names/\s.heap.objs.size<c/\(pushCells (s.heap.push { cls:=.type "dict",data:=.dict #[] }) scope.names).IsCell c none):=by
  intro n c h;rw[←sz] at h
  rcases iR h with h|⟨h1,h2,h3⟩
  ·rcases jm h with h|⟨h1,h2⟩
   ·cases h
   ·obtain⟨c',hc'⟩:=I.ok.has n (.inl (hfr' _ h1 rfl))
    rw[hc'] at h2;exact .inl ⟨by rw[hc',h2];rfl,h1⟩
  ·exact .inr ⟨h1,by rw[sz] at h2;exact h2,h3⟩
 have oldc:∀n c,X.env.cells.lookup n=some c->c<s.heap.objs.size:=fun n c e=>by
  obtain⟨v,o,ho,_⟩:=I.cell n c e;exact Heap.lt_size ho
 have hH:H s.heap.objs.size=none:=I.hok.fresh (Nat.le_refl _)
 have ok:(X.blk scope N (cellsFrom (s.heap.objs.size+1) scope.names (kn X.env scope.names [])) s.heap.objs.size s H fp (X.pn++pins)).Ok:={
  mod:=I.ok.mod
  kind:=hk
  glob:=I.ok.glob
  blt:=I.ok.blt
  above:=Nat.le_refl _
  inj:=fun x y c a b=>by
   refine iF (k:=s.heap.objs.size+1) (acc:=kn X.env scope.names []) ?_ ?_ x y c (mem_of_lookup a) (mem_of_lookup b)
   ·intro n c h
    rcases jm h with h|⟨h1,h2⟩
    ·cases h
    ·obtain⟨c',hc'⟩:=I.ok.has n (.inl (hfr' _ h1 rfl))
     rw[hc'] at h2;rw[h2];exact Nat.lt_succ_of_lt (oldc n c' hc')
   ·intro n m c h h'
    rcases jm h with h|⟨h1,h2⟩
    ·cases h
    ·rcases jm h' with h'|⟨h1',h2'⟩
     ·cases h'
     ·obtain⟨c1,hc1⟩:=I.ok.has n (.inl (hfr' _ h1 rfl))
      obtain⟨c2,hc2⟩:=I.ok.has m (.inl (hfr' _ h1' rfl));rw[hc1] at h2;rw[hc2] at h2';have e1:c=c1:=h2;have e2:c=c2:=h2';exact I.ok.inj n m c (by rw[e1];exact hc1) (by rw[e2];exact hc2)
  has:=fun x h=>by
   have hm:(x,NameKind.cell)∈scope.names\/(x,NameKind.free)∈scope.names:=by
    rcases h with h|h
    ·exact zF (env:=X.env) h
    ·exact(wJ (env:=X.env) hok hfr' h).elim
   have:∃c,(x,c)∈cellsFrom (s.heap.objs.size+1) scope.names (kn X.env scope.names []):=by
    rcases hm with hm|hm
    ·exact dN (.inl hm)
    ·exact dN (.inr (nK (.inl hm)))
   exact dW this
  cab:=fun x c hf e=>by
   have hf':scope.names.lookup x=some .cell:=of_decide_eq_true hf;rcases cell x c (mem_of_lookup e) with⟨_,h⟩|⟨_,h,_⟩
   ·have:=hnd _ h
    rw[hf'] at this;cases this
   ·exact Nat.le_of_lt h
  hd:=I.ok.hd
  frames:=I.ok.frames
  stk:=.inl rfl
  exf:=fun b hb=>by
   obtain⟨o,ho⟩:=fo b hb;have hlt:=Heap.lt_size ho;refine⟨Nat.ne_of_lt hlt,fun x c e=>?_⟩;rcases cell x c (mem_of_lookup e) with⟨h,_⟩|⟨_,h,_⟩
   ·exact(f2 b hb).2.2.2.2.1 x c h
   ·exact Nat.ne_of_gt (Nat.lt_trans hlt h)
  bs:=I.bs
  bsz:=Nat.le_trans I.ok.bsz I.sz
  noex:=fun b o e hb=>by
   rcases(f2 b hb).2.2.2.1 with h|h
   ·exact I.ok.noex b o e h
   ·exact absurd (Nat.lt_of_lt_of_le (Heap.lt_size e) (Nat.le_trans I.ok.bsz h)) (Nat.lt_irrefl _)
  exfs:=fun b hb hm=>by
   rcases List.mem_cons.mp (I.OM b hm) with h|h
   ·exact(f2 b hb).2.1 h
   ·exact(f2 b hb).2.2.1 h
  funs:=I.stack
  frf:=I.OT
  tt:=I.ok.tt.mono I.base.tbls }
 refine⟨ok,rfl,I.bare,Un.kept keep,⟨fun _=>none,(Heap.Ns.new s.heap (.type "dict")).keeps (pushCells_keeps _ _),fun i x v e1 e2 e3=>?_⟩,fun x c e=>?_,hH,fun x c e=>?_,fun p hp=>?_,I.hok.kept keep,?_⟩
 ·-- a captured name
  have e2':(src.map fun o=>match o with|none=>none|some j=>(σ[j]?).join)[i]?=some (some v):=e2
  rw[List.getElem?_map] at e2'
  cases hs:src[i]? with
  |none=>rw[hs] at e2';cases e2'
  |some o=>
   rw[hs] at e2'
   cases o with
   |none=>cases e2'
   |some j=>
    have ej:(σ[j]?).join=some v:=by simpa using e2'
    have ej':σ[j]?=some (some v):=by
     cases hq:σ[j]? with
     |none=>rw[hq] at ej;cases ej
     |some z=>rw[hq] at ej;simpa using ej
    obtain⟨n1,n2⟩:=hsrc i x j e1 hs;have hfree:X.env.kindOf x=some .cell:=hfr' (x,.free) (mem_of_lookup n2) rfl;obtain⟨m,hn,hl⟩:=I.loc;obtain⟨u,r,l⟩:=hl j x v n1 ej' (.inr (.inl hfree));refine⟨u,r,.inr ⟨.inl ?_,?_⟩⟩
    ·have:=lh (env:=X.env) hok n2 (fun _=>hfree)
     exact this
    ·rcases l with⟨h,_⟩|⟨_,c,hc,hcell⟩
     ·rw[hfree] at h;cases h
     ·have:∃c',(x,c')∈cellsFrom (s.heap.objs.size+1) scope.names (kn X.env scope.names []):=dN (.inr (nK (.inl (mem_of_lookup n2))))
      obtain⟨c',hc'⟩:=dW this;refine⟨c',hc',?_⟩;rcases cell x c' (mem_of_lookup hc') with⟨h,_⟩|⟨h,_,_⟩
      ·rw[hc] at h
       cases h;obtain⟨oc,ho,hd⟩:=hcell;exact⟨oc,keep _ _ ho,hd⟩
      ·have:=hnd _ h
       rw[n2] at this;cases this
 ·rcases cell x c (mem_of_lookup e) with⟨h,_⟩|⟨_,_,h⟩
  ·obtain⟨v,o,ho,hd⟩:=I.cell x c h
   exact⟨v,o,keep _ _ ho,hd⟩
  ·exact⟨_,h⟩
 ·rcases cell x c (mem_of_lookup e) with⟨h,_⟩|⟨_,h,_⟩
  ·exact I.freeC x c h
  ·exact I.hok.fresh (Nat.le_of_lt h)
 ·rw[List.append_nil] at hp
  obtain⟨e,n,ne,nf,d⟩:=I.pin p hp;refine⟨keep _ _ e,n,Nat.ne_of_lt (Heap.lt_size e),fun hm=>?_,d⟩;rcases List.mem_cons.mp (I.OM _ hm) with h|h
  ·exact ne h
  ·exact nf h
 ·show (src.map _).length=N.length
  rw[List.length_map];exact hlen
theorem IX{fp:List Addr}{cs:List (Str×Addr)}{C:Addr}{σ':St}{H':Hp}{s':Shared}{pins':List (Addr×Obj)}(I:Inv X pins σ H s)(f2:∀b∈fp,mi X pins H b)(I':Inv (X.blk scope N cs C s H fp (X.pn++pins)) pins' σ' H' s'):Inv X pins σ H' s':=
 I.call' (ch:=fp) I'.os I'.base I'.hok I'.bare fun b hb=>⟨(f2 b hb).2.2.2.1,(f2 b hb).2.1,(f2 b hb).2.2.2.2.1,(f2 b hb).2.2.2.2.2⟩
theorem yx{C:Addr}{h':Heap}(I:Inv X pins σ H s)(hC:H C=none)(hL:C≠X.env.locals)(h1:X.s₀.heap.objs.size<=C)(h2:∀x c,X.env.cells.lookup x=some c->c≠C)(h3:∀p∈X.pn++pins,p.1≠C)(hs:Heap.SameBut C s.heap h'):Inv X pins σ H { s with heap:=h' }:=
 I.turned (t':=s.toks) (fun b o hb e=>(hs.2 b hb).trans e) hC hL (.inr h1) h2 h3
end
section
variable{M:Model}{A:Around}{E:Value->Shared->Prop}{s:Shared}
theorem zp{scope:Scope}{globals:Addr}{cl:List (Str×Addr)}{qual:Str}{env:Env}{Q:Env->Shared->Prop}(hQ:Q (newEnv scope s.heap.objs.size globals (cellsFrom (s.heap.objs.size+1) scope.names cl) qual none .none (some env) builtinsNs) { s with heap:=pushCells (s.heap.push { cls:=.type "dict",data:=.dict #[] }) scope.names }):
  wpAny M A (newFunctionEnv scope globals cl [] qual none .none (some env)) Q E s:=by
 simp only[newFunctionEnv,Option.isSome_some,if_true];refine wpAny_bind (wpAny_alloc ?_);refine wpAny_bind (wpAny_layCells _ (fun name kind cells=>by cases hkc:kind == NameKind.cell<;>simp[hkc]) _ _ _ _ ?_)
 rw[show ({ s with heap:=s.heap.push { cls:=.type "dict",data:=.dict #[] } }:Shared).heap.objs.size=s.heap.objs.size+1 from Heap.size_push ..]
 simp only[List.forIn_nil];exact wpAny_bind (wpAny_pure (wpAny_pure hQ))
end
section
variable{X:Cx}{elt tg iter:Expr}{ifs:List Expr}{bB:List Comprehension}{scope:Scope}{pos:Pos}{N:List Str}{src:List (Option Nat)}{wi:TI}{g:TG}{tc:TT}{l:TL}
noncomputable def uy(src:List (Option Nat))(wi:TI)(g:TG)(tc:TT)(l:TL):TE:=fun σ H Q=>wi σ H fun J H1=>∀acc,H1 acc=none->Cl J g tc l acc (yH src σ) (upd H1 acc (.lst [])) fun _ H'=>Q (.ref acc) H'
theorem zd{use:Option (Value->Sem Unit)}{pins:List (Addr×Obj)}{s:Shared}{σ:St}{H:Hp}{Q:Value->Shared->Prop}{Q':VK}(hc:X.calm=true)(hb:cg scope X.env.scope N src X.N=true)(ha:∀g',bB[0]?=some g'->g'.is_async=0)(hi:PI X tg iter wi)(hg:∀cs C s H ex pn,PG (X.blk scope N cs C s H ex pn) tg g)(ht:∀cs C s H ex pn,PTs (X.blk scope N cs C s H ex pn) ifs tc)(hl:∀cs C s H ex pn,PL (X.blk scope N cs C s H ex pn) elt (⟨tg,iter,ifs,0⟩::bB) scope pos 0 l)(hs:∀x,foldedSetIterable iter X.env x=pure x)(I:Inv X pins σ H s)(h:uy src wi g tc l σ H Q')
  (hQ:∀(acc C:Addr)(H':Hp)(s':Shared)(m:Str->Option Value),Inv X pins σ H' s'->Q' (.ref acc) H'->s'.heap.Ns C m->H' C=none->C≠X.env.locals->X.s₀.heap.objs.size<=C->(∀x c,X.env.cells.lookup x=some c->c≠C)->(∀p∈X.pn++pins,p.1≠C) ->
   compPost (model X.prog X.w) X.A X.xe use Q (.ref acc) C (.ok .next) s') :
  wpAny (model X.prog X.w) X.A (comprehension (.ListComp elt (⟨tg,iter,ifs,0⟩::bB) scope pos) scope X.env (firstIterPos (⟨tg,iter,ifs,0⟩::bB) pos) (newList []) false (firstIter (⟨tg,iter,ifs,0⟩::bB) X.env) use) Q X.xe s:=by
 obtain⟨hk,hok,hlen,hnd,hfr,hsrc⟩:=uQ hb;refine wpAny_comprehension_free (g:=⟨tg,iter,ifs,0⟩) (gs:=bB) rfl hs (AF fun y hy e=>I.ok.has y.1 (.inl (hfr y hy e))) hk (fun y hy e=>by have:=hnd y hy;rw[e] at this;exact this) ?_
 refine thn (hi pins s σ H _ I h) fun v s1 h1=>thn h1 fun itv s2 h2=>?_;obtain⟨it,fp,tn,J,H2,e,I2,T,st2,f2,q⟩:=h2;subst e;have hfresh:H2 s2.heap.objs.size=none:=I2.hok.fresh (Nat.le_refl _);refine wpAny_newObj_type (zp ?_);dsimp only;have old:∀b o,s2.heap.get? b=some o->(s2.heap.push { cls:=.type "list",dict:=none,data:=.seq ([]:List Value).toArray }).get? b=some o:=fun b o e=>Heap.get?_push_of_some _ e
 have I3:Inv X pins σ (upd H2 s2.heap.objs.size (.lst [])) { s2 with heap:=s2.heap.push { cls:=.type "list",dict:=none,data:=.seq ([]:List Value).toArray } }:=
  I2.lnew (its:=[]) (t':=s2.toks) .nil (by decide)
 have f3:∀b∈fp,mi X pins (upd H2 s2.heap.objs.size (.lst [])) b:=fun b hb=>by
  obtain⟨o,ho,_⟩:=T.obj _ _ st2 b hb;exact⟨by rw[aF (Nat.ne_of_lt (Heap.lt_size ho))];exact(f2 b hb).1,(f2 b hb).2⟩
 have fo3:∀b∈fp,∃o,({ s2 with heap:=s2.heap.push { cls:=.type "list",dict:=none,data:=.seq ([]:List Value).toArray } }:Shared).heap.get? b=some o:=fun b hb=>by
  obtain⟨o,ho,_⟩:=T.obj _ _ st2 b hb;exact⟨o,old b o ho⟩
 generalize hs3:({ s2 with heap:=s2.heap.push { cls:=.type "list",dict:=none,data:=.seq ([]:List Value).toArray } }:Shared)=s3 at I3 fo3 ⊢
 have st3:tn 0 s3.heap:=by
  rw[←hs3]
  exact T.keep _ _ _ st2 fun b _ o e=>old b o e
 have IB:=Ew (t:=s3.toks) I3 hb f3 fo3;have stB:tn 0 (pushCells (s3.heap.push { cls:=.type "dict",data:=.dict #[] }) scope.names):=T.keep _ _ _ st3 fun b _ o e=>pushCells_keeps _ _ b o (Heap.get?_push_of_some _ e)
 have fB:∀b∈fp,mi (X.blk scope N (cellsFrom (s3.heap.objs.size+1) scope.names (kn X.env scope.names [])) s3.heap.objs.size s3 (upd H2 s2.heap.objs.size (.lst [])) fp (X.pn++pins)) [] (upd H2 s2.heap.objs.size (.lst [])) b:=fun b hb=>by
  obtain⟨n0,n1,n2,n3,n4,n5⟩:=f3 b hb;refine⟨n0,(IB.ok.exf b hb).1,IB.ok.exfs b hb,.inl hb,(IB.ok.exf b hb).2,fun p hp=>?_⟩;rw[List.append_nil] at hp;exact n5 p hp
 have loop:codeAny (model X.prog X.w) X.A (.compLoop (.ListComp elt (⟨tg,iter,ifs,0⟩::bB) scope pos) 0 (.ref it) (.ref s2.heap.objs.size) (compEnvC scope (cellsFrom (s3.heap.objs.size+1) scope.names (kn X.env scope.names [])) s3.heap.objs.size X.env))
   (compPost (model X.prog X.w) X.A X.xe use Q (.ref s2.heap.objs.size) s3.heap.objs.size) { s3 with heap:=pushCells (s3.heap.push { cls:=.type "dict",data:=.dict #[] }) scope.names }:=by
  refine u6 (X:=X.blk scope N (cellsFrom (s3.heap.objs.size+1) scope.names (kn X.env scope.names [])) s3.heap.objs.size s3 (upd H2 s2.heap.objs.size (.lst [])) fp (X.pn++pins)) rfl hc rfl (by simpa using ha) (hg _ _ _ _ _ _) (ht _ _ _ _ _ _) (hl _ _ _ _ _ _) IB T stB fB (q _ hfresh) fun σ' H' s' I' k'=>?_
  obtain⟨m,hn,_⟩:=I'.loc;refine hQ _ _ H' s' m (IX I3 f3 I') k' hn I'.free ?_ I3.sz ?_ ?_
  ·exact Nat.ne_of_gt I3.lt
  ·intro x c e
   obtain⟨v,o,ho,_⟩:=I3.cell x c e;exact Nat.ne_of_lt (Heap.lt_size ho)
  ·intro p hp
   exact Nat.ne_of_lt (Heap.lt_size (I3.pin p hp).1)
 subst hs3;exact mB (d:=0) rfl loop (T.self X.A 0 _ _ _ stB loop)
theorem bF(hc:X.calm=true)(hb:cg scope X.env.scope N src X.N=true)(ha:∀g',bB[0]?=some g'->g'.is_async=0)(hi:PI X tg iter wi)(hg:∀cs C s H ex pn,PG (X.blk scope N cs C s H ex pn) tg g)(ht:∀cs C s H ex pn,PTs (X.blk scope N cs C s H ex pn) ifs tc)(hl:∀cs C s H ex pn,PL (X.blk scope N cs C s H ex pn) elt (⟨tg,iter,ifs,0⟩::bB) scope pos 0 l)(hs:∀x,foldedSetIterable iter X.env x=pure x:=by intro _;rfl):PE X (.ListComp elt (⟨tg,iter,ifs,0⟩::bB) scope pos) (uy src wi g tc l):=.mk <| by
 intro pins s σ H Q I h;rw[eval_ListComp];refine zd (use:=none) hc hb ha hi hg ht hl hs I h fun acc C H' s' m I' q' hn hC hL h1 h2 h3=>?_;exact⟨m,hn,fun h' hs'=>⟨.ref acc,H',yx I' hC hL h1 h2 h3 hs',rfl,q'⟩⟩
theorem wE{i:Nat}{x:Str}{pos' spos:Pos}(hN:X.N.Nodup)(hi0:X.N[i]?=some x)(hx:Loc X.env.scope x)(hc:X.calm=true)(hb:cg scope X.env.scope N src X.N=true)(ha:∀g',bB[0]?=some g'->g'.is_async=0)(hi:PI X tg iter wi)(hg:∀cs C s H ex pn,PG (X.blk scope N cs C s H ex pn) tg g)(ht:∀cs C s H ex pn,PTs (X.blk scope N cs C s H ex pn) ifs tc)(hl:∀cs C s H ex pn,PL (X.blk scope N cs C s H ex pn) elt (⟨tg,iter,ifs,0⟩::bB) scope pos 0 l)(hs:∀x,foldedSetIterable iter X.env x=pure x:=by intro _;rfl)(hsw:swapsWith (.ListComp elt (⟨tg,iter,ifs,0⟩::bB) scope pos) (some (.Name x pos')) spos.line X.env=pure true:=by rfl)(hf:X.fn x=true\/X.env.scope.names.lookup x=some .local:=by first|exact .inl rfl|exact .inr rfl|assumption):
  PS X (.Assign [.Name x pos'] (.ListComp elt (⟨tg,iter,ifs,0⟩::bB) scope pos) spos) (IR (uy src wi g tc l) (C3 i)):=.mk <| by
 intro pins s σ H D I h;rw[exec_Assign_Name_used _ _ _ _ hsw];refine wpAny_bind (wpAny_standAt (wpAny_bind ?_));show wpAny _ X.A (do let _ ← comprehension (.ListComp elt (⟨tg,iter,ifs,0⟩::bB) scope pos) scope X.env (firstIterPos (⟨tg,iter,ifs,0⟩::bB) pos) (newList []) false (firstIter (⟨tg,iter,ifs,0⟩::bB) X.env) (some (assign (.Name x pos') X.env))) _ _ s
 refine wpAny_bind (wpAny_mono (zd (use:=some (assign (.Name x pos') X.env)) (Q:=fun _ s'=>SP X pins D .next s') hc hb ha hi hg ht hl hs I h fun acc C H' s' m I' q' hn hC hL h1 h2 h3=>?_) (fun _ s' hq=>wpAny_pure (wpAny_pure hq)) fun _ _ e=>e);show wpAny _ X.A (assign (.Name x pos') X.env (.ref acc)) _ _ _;refine wpAny_assign_Name (uv (v:=.ref acc) I' hN hi0 hx rfl (fun s'' I'' ⟨a,hsb,hwh⟩=>?_) hf)
 have hne:C≠a:=by
  rcases hwh with e|e
  ·rw[e];exact hL
  ·exact fun z=>h2 x a e z.symm
 exact⟨m,hn.sameBut hsb hne,fun h' hs'=>⟨σ.set i (some (.ref acc)),H',yx I'' hC hL h1 h2 h3 hs',q'⟩⟩
end
section
variable{X:Cx}
noncomputable def fX(H:Hp):V->Option String
 |.non=>some "NoneType"
 |.bl _=>some "bool"
 |.int _=>some "int"
 |.str _=>some "str"
 |.ref a=>match H a with
  |some (.lst _)=>some "list"
  |some (.tup _)=>some "tuple"
  |some (.dK _)=>some "dict"
  |some (.frz _ (.lst _))=>some "list"
  |_=>none
 |_=>none
noncomputable def isA(H:Hp)(x:V)(T:String):Bool:=match fX H x with
 |some t=>t == T || (t == "bool" && T == "int")
 |none=>false
theorem Ej{K:W.Frag}{H:Hp}{x:V}{t:String}(h:fX H x=some t):oK K H x (.type t):=by
 cases x with
 |non=>cases h;exact .non
 |bl b=>cases h;exact .bl b
 |int i=>cases h;exact .int i
 |str z=>cases h;exact .str z
 |byt b=>cases h
 |flt b=>cases h
 |ty n=>cases h
 |ref a=>
  unfold fX at h;dsimp only at h;split at h
  ·rename_i e;cases h;exact .lst e
  ·rename_i e;cases h;exact .tup e
  ·rename_i e;cases h;exact .dK e
  ·rename_i e;cases h;exact .frz e
  ·cases h
noncomputable def mw:List String:=["NoneType","bool","int","str","list","tuple","dict"]
theorem pR{H:Hp}{x:V}{t:String}(h:fX H x=some t):t∈mw:=by
 cases x with
 |non=>cases h;decide
 |bl b=>cases h;decide
 |int i=>cases h;decide
 |str z=>cases h;decide
 |byt b=>cases h
 |flt b=>cases h
 |ty n=>cases h
 |ref a=>
  unfold fX at h;dsimp only at h;split at h<;>first|(cases h;decide)|cases h
theorem Ms(K:W.Frag){t T:String}(ht:t∈mw)(hT:T∈mw):W.kitOne K (.type t) (.type T)=some (t == T || (t == "bool" && T == "int")):=by
 simp only[mw,List.mem_cons,List.not_mem_nil,or_false] at ht hT;rcases ht with rfl|rfl|rfl|rfl|rfl|rfl|rfl<;>rcases hT with rfl|rfl|rfl|rfl|rfl|rfl|rfl<;>with_unfolding_all rfl
theorem rR:cY X (.builtin "isinstance") (fun xs H Q=>∃x T,xs=[x,.ty T]/\T∈mw/\(fX H x).isSome=true/\Q (.bl (isA H x T)) H):=by
 intro pins s σ H xs us Q I r h;obtain⟨x,T,rfl,hT,hs,q⟩:=h;obtain⟨u,w',rfl,rx,rT⟩:=FN r;cases (show w'=Value.type T from rT)
 obtain⟨t,ht⟩:=Option.isSome_iff_exists.mp hs;refine Et I rx (Ej ht) (Ms X.K (pR ht) hT) fun tk=>⟨.bl (isA H x T),H,I.tok tk,?_,q⟩;show _=Value.bool (isA H x T);unfold isA;rw[ht]
theorem wD:∀ {bs:List Bool} {its:List Value},aR (bs.map V.bl) its->its=bs.map Value.bool
 | [],_,.nil=>rfl
 |_::_,_,.cons r t=>by
  have e:_=Value.bool _:=r;rw[e,wD t];rfl
theorem De(bs:List Bool):(List.range bs.length).all (fun i=>bs.getD i false)=bs.all id:=by
 rw[Bool.eq_iff_iff];simp only[List.all_eq_true,List.mem_range,id];constructor
 ·intro h b hb
  obtain⟨i,hi,e⟩:=List.getElem_of_mem hb;have:=h i hi;rw[List.getD_eq_getElem?_getD,List.getElem?_eq_getElem hi] at this;rw[←e];exact this
 ·intro h i hi
  rw[List.getD_eq_getElem?_getD,List.getElem?_eq_getElem hi];exact h _ (List.getElem_mem hi)
theorem D8(bs:List Bool):(List.range bs.length).any (fun i=>bs.getD i false)=bs.any id:=by
 rw[Bool.eq_iff_iff];simp only[List.any_eq_true,List.mem_range,id];constructor
 ·rintro⟨i,hi,h⟩
  rw[List.getD_eq_getElem?_getD,List.getElem?_eq_getElem hi] at h;exact⟨_,List.getElem_mem hi,h⟩
 ·rintro⟨b,hb,h⟩
  obtain⟨i,hi,e⟩:=List.getElem_of_mem hb;refine⟨i,hi,?_⟩;rw[List.getD_eq_getElem?_getD,List.getElem?_eq_getElem hi,e];exact h
theorem GA(hc:X.calm=true):cY X (.builtin "all") (fun xs H Q=>∃(a:Addr)(bs:List Bool),xs=[.ref a]/\SqL X.K H a (bs.map V.bl)/\Q (.bl (bs.all id)) H):=by
 intro pins s σ H xs us Q I r h;obtain⟨a,bs,rfl,hq,q⟩:=h;obtain⟨u,rfl,rx⟩:=g9 r;cases rx;obtain⟨its,rv,p,hz⟩:=I.list hq;have e:=wD rv;subst e
 have hlt:a<s.heap.objs.size:=by
  obtain⟨o,ho,_⟩:=p.isList;exact Heap.lt_size ho
 refine call_all_walk (wpAny_pyIter_list p.isList ?_);refine⟨s.heap.objs.size,_,_,_,_,_,fun i=>bs.getD i false,rfl,Walks.list (A:=X.A.in1) (I.ok.hd hc) _ a (Nat.ne_of_lt hlt) _,⟨⟨_,Heap.get?_push_size _ rfl,rfl,rfl⟩,p.isList.push _⟩,?_,fun h' tk hk=>?_⟩
 ·intro i v s' Q' E' hP hQ'
  have:(bs.map Value.bool)[i]?=some v:=by simpa using hP
  rw[List.getElem?_map] at this
  cases e:bs[i]? with
  |none=>rw[e] at this;cases this
  |some b=>
   rw[e] at this;cases this;refine wpAny_truthy_bool ?_;dsimp only at hQ';rw[List.getD_eq_getElem?_getD,e] at hQ';exact hQ'
 ·refine⟨.bl (bs.all id),H,I.kept (t':=tk) fun b o e=>hk b o (fun hm=>?_) (Heap.get?_push_of_some _ e),?_,q⟩
  ·have:b=s.heap.objs.size:=by simpa using hm
   exact absurd (this ▸ Heap.lt_size e) (Nat.lt_irrefl _)
  ·show _=Value.bool _
   rw[←De]
   simp
theorem HQ(hc:X.calm=true):cY X (.builtin "any") (fun xs H Q=>∃(a:Addr)(bs:List Bool),xs=[.ref a]/\SqL X.K H a (bs.map V.bl)/\Q (.bl (bs.any id)) H):=by
 intro pins s σ H xs us Q I r h;obtain⟨a,bs,rfl,hq,q⟩:=h;obtain⟨u,rfl,rx⟩:=g9 r;cases rx;obtain⟨its,rv,p,hz⟩:=I.list hq;have e:=wD rv;subst e
 have hlt:a<s.heap.objs.size:=by
  obtain⟨o,ho,_⟩:=p.isList;exact Heap.lt_size ho
 refine call_any_walk (wpAny_pyIter_list p.isList ?_);refine⟨s.heap.objs.size,_,_,_,_,_,fun i=>bs.getD i false,rfl,Walks.list (A:=X.A.in1) (I.ok.hd hc) _ a (Nat.ne_of_lt hlt) _,⟨⟨_,Heap.get?_push_size _ rfl,rfl,rfl⟩,p.isList.push _⟩,?_,fun h' tk hk=>?_⟩
 ·intro i v s' Q' E' hP hQ'
  have:(bs.map Value.bool)[i]?=some v:=by simpa using hP
  rw[List.getElem?_map] at this
  cases e:bs[i]? with
  |none=>rw[e] at this;cases this
  |some b=>
   rw[e] at this;cases this;refine wpAny_truthy_bool ?_;dsimp only at hQ';rw[List.getD_eq_getElem?_getD,e] at hQ';exact hQ'
 ·refine⟨.bl (bs.any id),H,I.kept (t':=tk) fun b o e=>hk b o (fun hm=>?_) (Heap.get?_push_of_some _ e),?_,q⟩
  ·have:b=s.heap.objs.size:=by simpa using hm
   exact absurd (this ▸ Heap.lt_size e) (Nat.lt_irrefl _)
  ·show _=Value.bool _
   rw[←D8]
   simp
end
end L2
set_option autoImplicit false
namespace L2
open PySem PySem.Spec PyProof.Rows
inductive D where
 |non|bl (b:Bool)|int (i:Int)|str (x:Str)|tup (ds:List D)|lst (ds:List D)
mutual
noncomputable def Dat(H:Hp):D->V->Prop
 |.non,v=>v=.non
 |.bl b,v=>v=.bl b
 |.int i,v=>v=.int i
 |.str x,v=>v=.str x
 |.tup ds,v=>∃a xs,v=.ref a/\H a=some (.tup xs)/\aJ H ds xs
 |.lst ds,v=>∃a xs,v=.ref a/\H a=some (.lst xs)/\aJ H ds xs
noncomputable def aJ(H:Hp):List D->List V->Prop
 | [],xs=>xs=[]
 |d::ds,xs=>∃x r,xs=x::r/\Dat H d x/\aJ H ds r
end
mutual
noncomputable def dep:D->Nat
 |.tup ds=>fP ds+1
 |.lst ds=>fP ds+1
 |_=>0
noncomputable def fP:List D->Nat
 | []=>0
 |d::ds=>max (dep d) (fP ds)
end
mutual
noncomputable def eqD:D->D->Bool
 |.non,.non=>true
 |.bl a,.bl b=>a == b
 |.bl a,.int b=>(if a then 1 else 0) == b
 |.int a,.bl b=>a == (if b then 1 else 0)
 |.int a,.int b=>a == b
 |.str a,.str b=>a == b
 |.tup a,.tup b=>hG a b
 |.lst a,.lst b=>hG a b
 |_,_=>false
noncomputable def hG:List D->List D->Bool
 | [],[]=>true
 |x::xs,y::ys=>eqD x y && hG xs ys
 |_,_=>false
end
theorem q8:∀ {ds:List D} {d:D},d∈ds->dep d<=fP ds
 |d::ds,e,h=>by
  unfold fP;rcases List.mem_cons.mp h with rfl|h
  ·exact Nat.le_max_left _ _
  ·exact Nat.le_trans (q8 h) (Nat.le_max_right _ _)
theorem aJ.length:∀ {H:Hp} {ds:List D} {xs:List V},aJ H ds xs->xs.length=ds.length
 |H,[],xs,h=>by
  have e:xs=[]:=by simpa[aJ] using h
  rw[e];rfl
 |H,d::ds,xs,h=>by
  obtain⟨x,r,rfl,_,t⟩:∃x r,xs=x::r/\Dat H d x/\aJ H ds r:=by simpa only[aJ] using h
  rw[List.length_cons,List.length_cons,aJ.length t]
theorem aJ.get:∀ {H:Hp} {ds:List D} {xs:List V} {i:Nat} {d:D},aJ H ds xs->ds[i]?=some d->∃x,xs[i]?=some x/\Dat H d x
 |H,[],xs,i,d,h,e=>by simp at e
 |H,d'::ds,xs,i,d,h,e=>by
  obtain⟨x,r,rfl,hx,t⟩:∃x r,xs=x::r/\Dat H d' x/\aJ H ds r:=by simpa only[aJ] using h
  cases i with
  |zero=>simp at e;subst e;exact⟨x,rfl,hx⟩
  |succ i=>simpa using aJ.get t (i:=i) (by simpa using e)
theorem aJ.of_get:∀ {H:Hp} {ds:List D} {xs:List V},xs.length=ds.length->(∀(i:Nat)(d:D)(x:V),ds[i]?=some d->xs[i]?=some x->Dat H d x)->aJ H ds xs
 |H,[],[],_,_=>by simp[aJ]
 |H,d::ds,x::xs,hl,h=>by
  simp only[aJ];exact⟨x,xs,rfl,h 0 d x rfl rfl,aJ.of_get (by simpa using hl) fun i d x e1 e2=>h (i+1) d x (by simpa using e1) (by simpa using e2)⟩
 |H,[],_::_,hl,_=>by simp at hl
 |H,_::_,[],hl,_=>by simp at hl
theorem aJ.append:∀ {H:Hp} {ds es:List D} {xs ys:List V},aJ H ds xs->aJ H es ys->aJ H (ds++es) (xs++ys)
 |H,[],es,xs,ys,h,h'=>by
  have e:xs=[]:=by simpa[aJ] using h
  rw[e];exact h'
 |H,d::ds,es,xs,ys,h,h'=>by
  obtain⟨x,r,rfl,hx,t⟩:∃x r,xs=x::r/\Dat H d x/\aJ H ds r:=by simpa only[aJ] using h
  show aJ H (d::(ds++es)) (x::(r++ys));simp only[aJ];exact⟨x,r++ys,rfl,hx,aJ.append t h'⟩
theorem aJ.one{H:Hp}{d:D}{x:V}(h:Dat H d x):aJ H [d] [x]:=by
 simp only[aJ];exact⟨x,[],rfl,h,rfl⟩
mutual
theorem Dat.same{H H':Hp}(e:cK H H'):∀ {d:D} {v:V},Dat H d v->Dat H' d v
 |.non,v,h=>by simpa only[Dat] using h
 |.bl b,v,h=>by simpa only[Dat] using h
 |.int i,v,h=>by simpa only[Dat] using h
 |.str x,v,h=>by simpa only[Dat] using h
 |.tup ds,v,h=>by
  simp only[Dat] at h ⊢;obtain⟨a,xs,rfl,h1,h2⟩:=h;exact⟨a,xs,rfl,e a _ h1,aJ.same e h2⟩
 |.lst ds,v,h=>by
  simp only[Dat] at h ⊢;obtain⟨a,xs,rfl,h1,h2⟩:=h;exact⟨a,xs,rfl,e a _ h1,aJ.same e h2⟩
theorem aJ.same{H H':Hp}(e:cK H H'):∀ {ds:List D} {xs:List V},aJ H ds xs->aJ H' ds xs
 | [],xs,h=>by simpa only[aJ] using h
 |d::ds,xs,h=>by
  simp only[aJ] at h ⊢;obtain⟨x,r,rfl,h1,h2⟩:=h;exact⟨x,r,rfl,Dat.same e h1,aJ.same e h2⟩
end
mutual
theorem Dat.inj{H:Hp}:∀ {d e:D} {v:V},Dat H d v->Dat H e v->d=e
 |.non,e,v,h,h'=>by
  simp only[Dat] at h;subst h;cases e<;>simp only[Dat] at h'<;>first|rfl|(obtain⟨_,_,h',_⟩:=h';cases h';done)|(cases h';done)
 |.bl b,e,v,h,h'=>by
  simp only[Dat] at h;subst h;cases e<;>simp only[Dat] at h'<;>first|(obtain⟨_,_,h',_⟩:=h';cases h';done)|(cases h';rfl)|(cases h';done)
 |.int i,e,v,h,h'=>by
  simp only[Dat] at h;subst h;cases e<;>simp only[Dat] at h'<;>first|(obtain⟨_,_,h',_⟩:=h';cases h';done)|(cases h';rfl)|(cases h';done)
 |.str x,e,v,h,h'=>by
  simp only[Dat] at h;subst h;cases e<;>simp only[Dat] at h'<;>first|(obtain⟨_,_,h',_⟩:=h';cases h';done)|(cases h';rfl)|(cases h';done)
 |.tup ds,e,v,h,h'=>by
  simp only[Dat] at h;obtain⟨a,xs,rfl,h1,h2⟩:=h
  cases e with
  |tup es=>
   simp only[Dat] at h';obtain⟨b,ys,e1,h3,h4⟩:=h';cases e1;rw[h1] at h3;cases h3;rw[aJ.inj h2 h4]
  |lst es=>
   simp only[Dat] at h';obtain⟨b,ys,e1,h3,h4⟩:=h';cases e1;rw[h1] at h3;cases h3
  |_=>simp only[Dat] at h';cases h'
 |.lst ds,e,v,h,h'=>by
  simp only[Dat] at h;obtain⟨a,xs,rfl,h1,h2⟩:=h
  cases e with
  |lst es=>
   simp only[Dat] at h';obtain⟨b,ys,e1,h3,h4⟩:=h';cases e1;rw[h1] at h3;cases h3;rw[aJ.inj h2 h4]
  |tup es=>
   simp only[Dat] at h';obtain⟨b,ys,e1,h3,h4⟩:=h';cases e1;rw[h1] at h3;cases h3
  |_=>simp only[Dat] at h';cases h'
theorem aJ.inj{H:Hp}:∀ {ds es:List D} {xs:List V},aJ H ds xs->aJ H es xs->ds=es
 | [],[],_,_,_=>rfl
 | [],e::es,xs,h,h'=>by
  simp only[aJ] at h h';obtain⟨x,r,rfl,_⟩:=h';cases h
 |d::ds,[],xs,h,h'=>by
  simp only[aJ] at h h';obtain⟨x,r,rfl,_⟩:=h;cases h'
 |d::ds,e::es,xs,h,h'=>by
  simp only[aJ] at h h';obtain⟨x,r,rfl,h1,h2⟩:=h;obtain⟨x',r',e1,h3,h4⟩:=h';cases e1;rw[Dat.inj h1 h3,aJ.inj h2 h4]
end
mutual
theorem fT:∀d:D,eqD d d=true
 |.non=>by simp[eqD]
 |.bl b=>by simp[eqD]
 |.int i=>by simp[eqD]
 |.str x=>by simp[eqD]
 |.tup ds=>by simp only[eqD];exact i8 ds
 |.lst ds=>by simp only[eqD];exact i8 ds
theorem i8:∀ds:List D,hG ds ds=true
 | []=>by simp[hG]
 |d::ds=>by simp only[hG,fT d,i8 ds,Bool.and_self]
end
theorem rA:∀ {ds es:List D},ds.length≠es.length->hG ds es=false
 | [],[],h=>absurd rfl h
 | [],_::_,_=>by simp[hG]
 |_::_,[],_=>by simp[hG]
 |d::ds,e::es,h=>by
  simp only[hG,rA (ds:=ds) (es:=es) (by simpa using h),Bool.and_false]
theorem mV:∀ {ds es:List D},ds.length=es.length->(List.range ds.length).all (fun j=>eqD (ds.getD j .non) (es.getD j .non))=hG ds es
 | [],[],_=>by simp[hG]
 | [],_::_,h=>by simp at h
 |_::_,[],h=>by simp at h
 |d::ds,e::es,h=>by
  have ih:=mV (ds:=ds) (es:=es) (by simpa using h)
  rw[List.length_cons,List.range_succ_eq_map,List.all_cons,List.all_map];simp only[hG,←ih]
  rfl
section
variable{X:Cx}{pins:List (Addr×Obj)}{σ:St}{H:Hp}{s:Shared}
theorem CW:∀ {xs:List V} {us:List Value} {j:Nat} {x:V},aR xs us->xs[j]?=some x->∀(h:j<us.toArray.size),bf x us.toArray[j]:=fun {xs us j x} r e h=>by
 obtain⟨u,h1,h2⟩:=r.get e
 have:us[j]?=some us.toArray[j]:=by
  rw[List.getElem?_eq_getElem (by simpa using h)]
  simp
 rw[h1] at this;cases this;exact h2
theorem gN(I:Inv X pins σ H s){a:Addr}{xs:List V}(h:H a=some (.tup xs)):∃its:List Value,aR xs its/\s.heap.IsTuple a its.toArray:=by
 obtain⟨its,r,p,_⟩:=I.tuple (SqT.of (K:=X.K) h);exact⟨its,r,p⟩
theorem mX(I:Inv X pins σ H s){a:Addr}{xs:List V}(h:H a=some (.lst xs)):∃its:List Value,aR xs its/\s.heap.IsList a its.toArray:=by
 obtain⟨its,r,p,_⟩:=I.list (SqL.of (K:=X.K) h);exact⟨its,r,p.isList⟩
theorem Fk{ds es:List D}:((List.range (min ds.length es.length)).all (fun j=>eqD (ds.getD j .non) (es.getD j .non)) && ds.length == es.length)=hG ds es:=by
 by_cases h:ds.length=es.length
 ·rw[←mV h]
  have:min ds.length es.length=ds.length:=by omega
  rw[this];simp[h]
 ·rw[rA h]
  have:(ds.length == es.length)=false:=by simpa using h
  rw[this,Bool.and_false]
theorem sh(I:Inv X pins σ H s)(n:Nat):∀(d e:D)(x y:V)(v u:Value)(A:Around),dep d<=n->A.units+n<cLine->Dat H d x->Dat H e y->bf x v->bf y u ->
  SeqAt.RcAt A s v u (eqD d e)/\SeqAt.EqAt A s v u (eqD d e)/\SeqAt.RcNeAt A s v u (!eqD d e):=by
 induction n with
 |zero=>
  intro d e x y v u A hd hu hx hy rx ry;have hu':A.units<cLine:=by omega
  cases d with
  |tup ds=>simp only[dep] at hd;omega
  |lst ds=>simp only[dep] at hd;omega
  |non=>
   simp only[Dat] at hx;subst hx;cases rx
   cases e with
   |non=>simp only[Dat] at hy;subst hy;cases ry;exact⟨SeqAt.RcAt.none_none,SeqAt.EqAt.same _,SeqAt.RcNeAt.none_none⟩
   |bl b=>simp only[Dat] at hy;subst hy;cases ry;exact⟨SeqAt.RcAt.none_bool b,SeqAt.EqAt.none_bool b,SeqAt.RcNeAt.none_bool b⟩
   |int b=>simp only[Dat] at hy;subst hy;obtain⟨t,rfl⟩:=ry;exact⟨SeqAt.RcAt.none_int b t,SeqAt.EqAt.none_int b t,SeqAt.RcNeAt.none_int b t⟩
   |str b=>simp only[Dat] at hy;subst hy;obtain⟨t,rfl⟩:=ry;exact⟨SeqAt.RcAt.none_str b t,SeqAt.EqAt.none_str b t,SeqAt.RcNeAt.none_str b t⟩
   |tup es=>
    simp only[Dat] at hy;obtain⟨b,ys,rfl,hb,_⟩:=hy;cases ry;obtain⟨its,_,p⟩:=gN I hb;exact⟨SeqAt.RcAt.none_tuple p hu',SeqAt.EqAt.none_tuple p hu',SeqAt.RcNeAt.none_tuple p hu'⟩
   |lst es=>
    simp only[Dat] at hy;obtain⟨b,ys,rfl,hb,_⟩:=hy;cases ry;obtain⟨its,_,p⟩:=mX I hb;exact⟨SeqAt.RcAt.none_list p hu',SeqAt.EqAt.none_list p hu',SeqAt.RcNeAt.none_list p hu'⟩
  |bl a=>
   simp only[Dat] at hx;subst hx;cases rx
   cases e with
   |non=>simp only[Dat] at hy;subst hy;cases ry;exact⟨SeqAt.RcAt.bool_none a,SeqAt.EqAt.bool_none a,SeqAt.RcNeAt.bool_none a⟩
   |bl b=>simp only[Dat] at hy;subst hy;cases ry;exact⟨SeqAt.RcAt.bool_bool a b,SeqAt.EqAt.bool_bool a b,SeqAt.RcNeAt.bool_bool a b⟩
   |int b=>simp only[Dat] at hy;subst hy;obtain⟨t,rfl⟩:=ry;exact⟨SeqAt.RcAt.bool_int a b t,SeqAt.EqAt.bool_int a b t,SeqAt.RcNeAt.bool_int a b t⟩
   |str b=>simp only[Dat] at hy;subst hy;obtain⟨t,rfl⟩:=ry;exact⟨SeqAt.RcAt.bool_str a b t,SeqAt.EqAt.bool_str a b t,SeqAt.RcNeAt.bool_str a b t⟩
   |tup es=>
    simp only[Dat] at hy;obtain⟨b,ys,rfl,hb,_⟩:=hy;cases ry;obtain⟨its,_,p⟩:=gN I hb;exact⟨SeqAt.RcAt.bool_tuple a p hu',SeqAt.EqAt.bool_tuple a p hu',SeqAt.RcNeAt.bool_tuple a p hu'⟩
   |lst es=>
    simp only[Dat] at hy;obtain⟨b,ys,rfl,hb,_⟩:=hy;cases ry;obtain⟨its,_,p⟩:=mX I hb;exact⟨SeqAt.RcAt.bool_list a p hu',SeqAt.EqAt.bool_list a p hu',SeqAt.RcNeAt.bool_list a p hu'⟩
  |int a=>
   simp only[Dat] at hx;subst hx;obtain⟨t',rfl⟩:=rx
   cases e with
   |non=>simp only[Dat] at hy;subst hy;cases ry;exact⟨SeqAt.RcAt.int_none a t',SeqAt.EqAt.int_none a t',SeqAt.RcNeAt.int_none a t'⟩
   |bl b=>simp only[Dat] at hy;subst hy;cases ry;exact⟨SeqAt.RcAt.int_bool a t' b,SeqAt.EqAt.int_bool a t' b,SeqAt.RcNeAt.int_bool a t' b⟩
   |int b=>simp only[Dat] at hy;subst hy;obtain⟨t,rfl⟩:=ry;exact⟨SeqAt.RcAt.int_int a t' b t,SeqAt.EqAt.int_int a t' b t,SeqAt.RcNeAt.int_int a t' b t⟩
   |str b=>simp only[Dat] at hy;subst hy;obtain⟨t,rfl⟩:=ry;exact⟨SeqAt.RcAt.int_str a t' b t,SeqAt.EqAt.int_str a t' b t,SeqAt.RcNeAt.int_str a t' b t⟩
   |tup es=>
    simp only[Dat] at hy;obtain⟨b,ys,rfl,hb,_⟩:=hy;cases ry;obtain⟨its,_,p⟩:=gN I hb;exact⟨SeqAt.RcAt.int_tuple a t' p hu',SeqAt.EqAt.int_tuple a t' p hu',SeqAt.RcNeAt.int_tuple a t' p hu'⟩
   |lst es=>
    simp only[Dat] at hy;obtain⟨b,ys,rfl,hb,_⟩:=hy;cases ry;obtain⟨its,_,p⟩:=mX I hb;exact⟨SeqAt.RcAt.int_list a t' p hu',SeqAt.EqAt.int_list a t' p hu',SeqAt.RcNeAt.int_list a t' p hu'⟩
  |str a=>
   simp only[Dat] at hx;subst hx;obtain⟨t',rfl⟩:=rx
   cases e with
   |non=>simp only[Dat] at hy;subst hy;cases ry;exact⟨SeqAt.RcAt.str_none a t',SeqAt.EqAt.str_none a t',SeqAt.RcNeAt.str_none a t'⟩
   |bl b=>simp only[Dat] at hy;subst hy;cases ry;exact⟨SeqAt.RcAt.str_bool a t' b,SeqAt.EqAt.str_bool a t' b,SeqAt.RcNeAt.str_bool a t' b⟩
   |int b=>simp only[Dat] at hy;subst hy;obtain⟨t,rfl⟩:=ry;exact⟨SeqAt.RcAt.str_int a t' b t,SeqAt.EqAt.str_int a t' b t,SeqAt.RcNeAt.str_int a t' b t⟩
   |str b=>simp only[Dat] at hy;subst hy;obtain⟨t,rfl⟩:=ry;exact⟨SeqAt.RcAt.str_str a t' b t,SeqAt.EqAt.str_str a t' b t,SeqAt.RcNeAt.str_str a t' b t⟩
   |tup es=>
    simp only[Dat] at hy;obtain⟨b,ys,rfl,hb,_⟩:=hy;cases ry;obtain⟨its,_,p⟩:=gN I hb;exact⟨SeqAt.RcAt.str_tuple a t' p hu',SeqAt.EqAt.str_tuple a t' p hu',SeqAt.RcNeAt.str_tuple a t' p hu'⟩
   |lst es=>
    simp only[Dat] at hy;obtain⟨b,ys,rfl,hb,_⟩:=hy;cases ry;obtain⟨its,_,p⟩:=mX I hb;exact⟨SeqAt.RcAt.str_list a t' p hu',SeqAt.EqAt.str_list a t' p hu',SeqAt.RcNeAt.str_list a t' p hu'⟩
 |succ n ih=>
  intro d e x y v u A hd hu hx hy rx ry;have hu':A.units<cLine:=by omega
  by_cases h0:dep d<=n
  ·exact ih d e x y v u A h0 (by omega) hx hy rx ry
  have hin:A.in1.units+n<cLine:=by show A.units+1+n<cLine;omega
  have items:∀(ds es:List D)(xs ys:List V)(its its2:List Value),fP ds<=n->aJ H ds xs->aJ H es ys->aR xs its->aR ys its2 ->
    ∀j (h1:j<its.toArray.size) (h2:j<its2.toArray.size),SeqAt.EqAt A.in1 s its.toArray[j] its2.toArray[j] (eqD (ds.getD j .non) (es.getD j .non)):=by
   intro ds es xs ys its its2 hdp hxs hys r1 r2 j h1 h2;have l1:j<ds.length:=by rw[←hxs.length,r1.length];simpa using h1
   have l2:j<es.length:=by rw[←hys.length,r2.length];simpa using h2
   obtain⟨x',ex,hx'⟩:=hxs.get (List.getElem?_eq_getElem l1);obtain⟨y',ey,hy'⟩:=hys.get (List.getElem?_eq_getElem l2);have g1:ds.getD j .non=ds[j]:=by rw[List.getD_eq_getElem?_getD,List.getElem?_eq_getElem l1];rfl
   have g2:es.getD j .non=es[j]:=by rw[List.getD_eq_getElem?_getD,List.getElem?_eq_getElem l2];rfl
   rw[g1,g2];exact(ih ds[j] es[j] x' y' _ _ A.in1 (Nat.le_trans (q8 (List.getElem_mem l1)) hdp) hin hx' hy' (CW r1 ex h1) (CW r2 ey h2)).2.1
  cases d with
  |non=>simp only[dep] at h0;omega
  |bl a=>simp only[dep] at h0;omega
  |int a=>simp only[dep] at h0;omega
  |str a=>simp only[dep] at h0;omega
  |tup ds=>
   simp only[dep] at hd;have hx0:=hx;simp only[Dat] at hx;obtain⟨a,xs,rfl,ha,hxs⟩:=hx;cases rx;obtain⟨its,r1,p⟩:=gN I ha
   cases e with
   |non=>simp only[Dat] at hy;subst hy;cases ry;exact⟨SeqAt.RcAt.tuple_none p hu',SeqAt.EqAt.tuple_none p hu',SeqAt.RcNeAt.tuple_none p hu'⟩
   |bl b=>simp only[Dat] at hy;subst hy;cases ry;exact⟨SeqAt.RcAt.tuple_bool b p hu',SeqAt.EqAt.tuple_bool b p hu',SeqAt.RcNeAt.tuple_bool b p hu'⟩
   |int b=>simp only[Dat] at hy;subst hy;obtain⟨t,rfl⟩:=ry;exact⟨SeqAt.RcAt.tuple_int b t p hu',SeqAt.EqAt.tuple_int b t p hu',SeqAt.RcNeAt.tuple_int b t p hu'⟩
   |str b=>simp only[Dat] at hy;subst hy;obtain⟨t,rfl⟩:=ry;exact⟨SeqAt.RcAt.tuple_str b t p hu',SeqAt.EqAt.tuple_str b t p hu',SeqAt.RcNeAt.tuple_str b t p hu'⟩
   |lst es=>
    simp only[Dat] at hy;obtain⟨b,ys,rfl,hb,_⟩:=hy;cases ry;obtain⟨its2,_,p2⟩:=mX I hb;exact⟨SeqAt.RcAt.tuple_list p p2 hu',SeqAt.EqAt.tuple_list p p2 hu',SeqAt.RcNeAt.tuple_list p p2 hu'⟩
   |tup es=>
    have hy0:=hy;simp only[Dat] at hy;obtain⟨b,ys,rfl,hb,hys⟩:=hy;cases ry;obtain⟨its2,r2,p2⟩:=gN I hb;have it:=items ds es xs ys its its2 (by omega) hxs hys r1 r2
    have z1:its.toArray.size=ds.length:=by rw[←hxs.length,r1.length];simp
    have z2:its2.toArray.size=es.length:=by rw[←hys.length,r2.length];simp
    have e0:=Fk (ds:=ds) (es:=es)
    have rc:SeqAt.RcAt A s (.ref a) (.ref b) (hG ds es):=by
     have:=SeqAt.RcAt.tuples p p2 hu' it;rw[z1,z2,e0] at this;exact this
    have rn:SeqAt.RcNeAt A s (.ref a) (.ref b) (!hG ds es):=by
     have:=SeqAt.RcNeAt.tuples p p2 hu' it;rw[z1,z2,e0] at this;exact this
    simp only[eqD];refine⟨rc,?_,rn⟩;by_cases hab:a=b
    ·subst hab
     have:D.tup ds=D.tup es:=hx0.inj hy0;cases this;rw[i8];exact SeqAt.EqAt.same _
    ·exact .of_refs hab rc
  |lst ds=>
   simp only[dep] at hd;have hx0:=hx;simp only[Dat] at hx;obtain⟨a,xs,rfl,ha,hxs⟩:=hx;cases rx;obtain⟨its,r1,p⟩:=mX I ha
   cases e with
   |non=>simp only[Dat] at hy;subst hy;cases ry;exact⟨SeqAt.RcAt.list_none p hu',SeqAt.EqAt.list_none p hu',SeqAt.RcNeAt.list_none p hu'⟩
   |bl b=>simp only[Dat] at hy;subst hy;cases ry;exact⟨SeqAt.RcAt.list_bool b p hu',SeqAt.EqAt.list_bool b p hu',SeqAt.RcNeAt.list_bool b p hu'⟩
   |int b=>simp only[Dat] at hy;subst hy;obtain⟨t,rfl⟩:=ry;exact⟨SeqAt.RcAt.list_int b t p hu',SeqAt.EqAt.list_int b t p hu',SeqAt.RcNeAt.list_int b t p hu'⟩
   |str b=>simp only[Dat] at hy;subst hy;obtain⟨t,rfl⟩:=ry;exact⟨SeqAt.RcAt.list_str b t p hu',SeqAt.EqAt.list_str b t p hu',SeqAt.RcNeAt.list_str b t p hu'⟩
   |tup es=>
    simp only[Dat] at hy;obtain⟨b,ys,rfl,hb,_⟩:=hy;cases ry;obtain⟨its2,_,p2⟩:=gN I hb;exact⟨SeqAt.RcAt.list_tuple p p2 hu',SeqAt.EqAt.list_tuple p p2 hu',SeqAt.RcNeAt.list_tuple p p2 hu'⟩
   |lst es=>
    have hy0:=hy;simp only[Dat] at hy;obtain⟨b,ys,rfl,hb,hys⟩:=hy;cases ry;obtain⟨its2,r2,p2⟩:=mX I hb;have it:=items ds es xs ys its its2 (by omega) hxs hys r1 r2
    have z1:its.toArray.size=ds.length:=by rw[←hxs.length,r1.length];simp
    have z2:its2.toArray.size=es.length:=by rw[←hys.length,r2.length];simp
    have both:SeqAt.RcAt A s (.ref a) (.ref b) (hG ds es)/\SeqAt.RcNeAt A s (.ref a) (.ref b) (!hG ds es):=by
     by_cases hl:ds.length=es.length
     ·have r:=SeqAt.RcAt.lists p p2 (by rw[z1,z2];exact hl) hu' it
      have q:=SeqAt.RcNeAt.lists p p2 (by rw[z1,z2];exact hl) hu' it
      rw[z1,mV hl] at r q;exact⟨r,q⟩
     ·have hne:(its.toArray.size != its2.toArray.size)=true:=by rw[z1,z2];simpa using hl
      rw[rA hl];exact⟨SeqAt.RcAt.lists_lengths p p2 hne hu',SeqAt.RcNeAt.lists_lengths p p2 hne hu'⟩
    simp only[eqD];refine⟨both.1,?_,both.2⟩;by_cases hab:a=b
    ·subst hab
     have:D.lst ds=D.lst es:=hx0.inj hy0;cases this;rw[i8];exact SeqAt.EqAt.same _
    ·exact .of_refs hab both.1
noncomputable def LG(neg:Bool):R2:=fun x y H Q=>∃d e,Dat H d x/\Dat H e y/\dep d<=100/\Q (.bl (if neg then !eqD d e else eqD d e)) H
theorem bp(hu:X.A.units+100<cLine):OpR X (compareOp .Eq) (LG false):=by
 intro pins s σ H x y v u Q I rx ry h;obtain⟨d,e,hx,hy,hd,q⟩:=h;exact(sh I 100 d e x y v u X.A hd hu hx hy rx ry).1 X.prog X.w _ _ ⟨.bl _,H,I,rfl,q⟩
theorem kT(hu:X.A.units+100<cLine):OpR X (compareOp .NotEq) (LG true):=by
 intro pins s σ H x y v u Q I rx ry h;obtain⟨d,e,hx,hy,hd,q⟩:=h;exact(sh I 100 d e x y v u X.A hd hu hx hy rx ry).2.2 X.prog X.w _ _ ⟨.bl _,H,I,rfl,q⟩
end
theorem qT{H:Hp}{p:Addr}{o:HO}(h:H p=none):cK H (upd H p o):=fun b u e=>by
 rw[aF (aY e h)];exact e
theorem cR{H:Hp}:∀ {ns:List Int} {xs:List V},aJ H (ns.map D.int) xs->xs=ns.map V.int
 | [],xs,h=>by simpa[aJ] using h
 |n::r,xs,h=>by
  simp only[List.map_cons,aJ] at h;obtain⟨x,t,rfl,h1,h2⟩:=h;rw[cR h2];simp only[Dat] at h1;rw[h1];rfl
section
variable{X:Cx}
theorem DT:MtR X "int.bit_length" (fun x xs H Q=>∃i,x=.int i/\xs=[]/\Q (.int ((Builtin.Int.intBits i:Nat):Int)) H):=by
 intro pins s σ H x xs v us Q I rx rv h;obtain⟨i,rfl,rfl,q⟩:=h;obtain⟨t,rfl⟩:=rx;cases rv;refine call_gives F.slot_int_bit_length (typeIs_int s i t) F.entry_int_bit_length (F.args_int_bit_length_1 _) (AutoIntG2.int_bit_length_int_0 i t) ?_;exact⟨.int _,H,I.tok _,⟨_,rfl⟩,q⟩
end
theorem Gy{e k y:Int}(h:0<k)(h2:k<=2^64):tS (e%k) y:=by
 have h1:=Int.emod_nonneg e (Int.ne_of_gt h);have h3:=Int.emod_lt_of_pos e h;exact .inl ⟨by omega,by omega⟩
theorem vG{x y:Int}(h:-(2^64)<x/\x<2^64):tS x y:=.inl h
theorem L8{x y:Int}(h:-(2^64)<y/\y<2^64):tS x y:=.inr h
section
variable{X:Cx}{tg a b l:Expr}{ta tb tl:TE}{pos:Pos}
theorem am(K:W.Frag)(h:X.K=K):IxR X (rIx K):=h ▸ LQ
theorem ba(K:W.Frag)(h:X.K=K):cY X (.builtin "len") (fun xs H Q=>∃x n,xs=[x]/\Id K x H n/\Q (.int n) H):=h ▸ GU
theorem pK(K:W.Frag)(h:X.K=K)(hc:X.calm=true):cY X (.builtin "all") (fun xs H Q=>∃(a:Addr)(bs:List Bool),xs=[.ref a]/\SqL K H a (bs.map V.bl)/\Q (.bl (bs.all id)) H):=h ▸ GA hc
theorem DY(K:W.Frag)(h:X.K=K)(hc:X.calm=true):cY X (.builtin "any") (fun xs H Q=>∃(a:Addr)(bs:List Bool),xs=[.ref a]/\SqL K H a (bs.map V.bl)/\Q (.bl (bs.any id)) H):=h ▸ HQ hc
theorem bd(K:W.Frag)(h:X.K=K)(ha:PE X a ta)(he:∀whole,isTrue a X.env whole=(do let v ← whole;standAt a.pos;holding [v] (truthy v))):
  PT X a (fun σ H Q=>ta σ H fun x H'=>∃k,xB K x H' k/\Q k H'):=h ▸ EQ ha he
theorem mC(K:W.Frag)(h:X.K=K):cY X (.type "list") (fun xs H Q=>∃p ys,xs=[.ref p]/\(SqL K H p ys\/SqT K H p ys)/\∀l,H l=none->Q (.ref l) (upd H l (.lst ys))):=h ▸ vX
theorem a9(K:W.Frag)(h:X.K=K):cY X (.type "tuple") (fun xs H Q=>∃p ys,xs=[.ref p]/\((SqL K H p ys/\∀l,H l=none->Q (.ref l) (upd H l (.tup ys)))\/(SqT K H p ys/\Q (.ref p) H))):=h ▸ uc
end
noncomputable def Oo(J:It)(g:TG)(tb:TS)(D:mm)(σ:St)(H:Hp):Prop:=∃W:Nat->Nat->St->Hp->Prop,(∃m,W 0 m σ H)/\∀i m σ H,W i m σ H ->
 (J.stop i H/\D.nx σ H)\/(J.go i H/\∃N:St->Hp->Prop,(∀σ' H',N σ' H'->∃m',m'<m/\W (i+1) m' σ' H')/\∀x H',J.yld i H x H'->g x σ H' fun σ2 H2=>tb { D with nx:=N,ct:=N,bk:=D.nx } σ2 H2)
theorem JD(wi:TI)(g:TG)(tb:TS)(D:mm)(σ:St)(H:Hp):Ma wi g tb D σ H=wi σ H fun J H1=>Oo J g tb D σ H1:=rfl
noncomputable def Gb(H H':Hp):Prop:=∀b xs,H b=some (.tup xs)->H' b=some (.tup xs)
mutual
noncomputable def noL:D->Bool
 |.lst _=>false
 |.tup ds=>OJ ds
 |_=>true
noncomputable def OJ:List D->Bool
 | []=>true
 |d::ds=>noL d && OJ ds
end
mutual
theorem Dat.t{H H':Hp}(e:Gb H H'):∀ {d:D} {v:V},noL d=true->Dat H d v->Dat H' d v
 |.non,v,_,h=>by simpa only[Dat] using h
 |.bl b,v,_,h=>by simpa only[Dat] using h
 |.int i,v,_,h=>by simpa only[Dat] using h
 |.str x,v,_,h=>by simpa only[Dat] using h
 |.tup ds,v,n,h=>by
  simp only[Dat] at h ⊢;simp only[noL] at n;obtain⟨a,xs,rfl,h1,h2⟩:=h;exact⟨a,xs,rfl,e a _ h1,aJ.t e n h2⟩
 |.lst ds,v,n,h=>by simp[noL] at n
theorem aJ.t{H H':Hp}(e:Gb H H'):∀ {ds:List D} {xs:List V},OJ ds=true->aJ H ds xs->aJ H' ds xs
 | [],xs,_,h=>by simpa only[aJ] using h
 |d::ds,xs,n,h=>by
  simp only[aJ] at h ⊢;simp only[OJ,Bool.and_eq_true] at n;obtain⟨x,r,rfl,h1,h2⟩:=h;exact⟨x,r,rfl,Dat.t e n.1 h1,aJ.t e n.2 h2⟩
end
theorem oq:∀ {ds:List D},(∀d∈ds,noL d=true)->OJ ds=true
 | [],_=>by simp[OJ]
 |d::ds,h=>by
  simp only[OJ,Bool.and_eq_true];exact⟨h d (List.mem_cons_self ..),oq fun e he=>h e (List.mem_cons_of_mem _ he)⟩
theorem C7(ns:List Int):OJ (ns.map D.int)=true:=oq fun d hd=>by
 obtain⟨n,_,rfl⟩:=List.mem_map.mp hd;simp[noL]
end L2
namespace L2
end L2
namespace L2
open PySem
theorem eJ.OH{k:Nat}{A:Around}(r:eJ k A):A.units+100<cLine:=by have:=r.un;omega
theorem wY:∀ {ds:List D} {n:Nat},(∀d∈ds,dep d<=n)->fP ds<=n
 | [],n,_=>by simp[fP]
 |d::ds,n,h=>by
  simp only[fP];exact Nat.max_le.mpr ⟨h d (List.mem_cons_self ..),wY fun e he=>h e (List.mem_cons_of_mem _ he)⟩
theorem gm(ns:List Int):fP (ns.map D.int)=0:=by
 have:fP (ns.map D.int)<=0:=wY fun d hd=>by
  obtain⟨n,_,rfl⟩:=List.mem_map.mp hd;simp[dep]
 omega
end L2
namespace L2
open PySem PySem.Spec PyProof.Rows
section
variable{X:Cx}
theorem FF(hu:X.A.units+100<cLine):OpR X (compareOp .NotEq) (fun x y H Q=>∃a b xs,x=.ref a/\y=.ref b/\SqL X.K H a xs/\SqL X.K H b []/\Q (.bl (!xs.isEmpty)) H):=by
 intro pins s σ H x y v u Q I rx ry h;obtain⟨a,b,xs,rfl,rfl,ha,hb,q⟩:=h;cases rx;cases ry;obtain⟨its,r1,p1,_⟩:=I.list ha;obtain⟨its2,r2,p2,_⟩:=I.list hb;cases r2;have hu':X.A.units<cLine:=by omega
 cases xs with
 |nil=>
  cases r1;have:=SeqAt.RcNeAt.lists (e:=fun _=>true) p1.isList p2.isList rfl hu' (fun j h1 _=>absurd h1 (by simp))
  exact this X.prog X.w _ _ ⟨.bl _,H,I,rfl,q⟩
 |cons x xs=>
  have hne:(its.toArray.size != ([]:List Value).toArray.size)=true:=by
   have:=r1.length;rw[List.size_toArray,←this]
   simp
  exact SeqAt.RcNeAt.lists_lengths p1.isList p2.isList hne hu' X.prog X.w _ _ ⟨.bl _,H,I,rfl,q⟩
end
end L2
namespace L2
open PySem
theorem aJ.take{H:Hp}:∀ {ds:List D} {xs:List V} (n:Nat),aJ H ds xs->aJ H (ds.take n) (xs.take n):=fun {ds xs} n h=>by
 refine aJ.of_get (by rw[List.length_take,List.length_take,h.length]) fun i d x e1 e2=>?_
 rw[List.getElem?_take] at e1 e2;split at e1
 ·rename_i hi
  rw[if_pos hi] at e2;obtain⟨x',h1,h2⟩:=h.get e1;rw[e2] at h1;cases h1;exact h2
 ·cases e1
theorem aJ.drop{H:Hp}:∀ {ds:List D} {xs:List V} (n:Nat),aJ H ds xs->aJ H (ds.drop n) (xs.drop n):=fun {ds xs} n h=>by
 refine aJ.of_get (by rw[List.length_drop,List.length_drop,h.length]) fun i d x e1 e2=>?_
 rw[List.getElem?_drop] at e1 e2;obtain⟨x',h1,h2⟩:=h.get e1;rw[e2] at h1;cases h1;exact h2
end L2
namespace L2
open PySem PySem.Spec PyProof.Rows
section
variable{X:Cx}{e st:Expr}{te ts:TE}{pos p2:Pos}
noncomputable def MG(K:W.Frag)(te ts:TE):TE:=fun σ H Q=>te σ H fun x H1=>ts σ H1 fun k H2=>k=.int (-1)/\∃a xs,x=.ref a/\SqL K H2 a xs/\∀p,H2 p=none->Q (.ref p) (upd H2 p (.lst xs.reverse))
theorem Aw(K:W.Frag)(hK:X.K=K)(he:PE X e te)(hs:PE X st ts):PE X (.Subscript e (.Slice none none (some st) p2) pos) (MG K te ts):=.mk <| by
 subst hK;intro pins s σ H Q I h;refine Subscript_ (thn (he pins s σ H _ I h) fun v s1 ⟨x,H1,I1,r1,q1⟩=>?_);refine wpAny_Slice ?_;rw[evalPart_none];refine wpAny_pure (wpAny_pure ?_);rw[evalPart_some];refine thn (hs pins s1 σ H1 _ I1 q1) fun u s2 ⟨k,H2,I2,r2,q2⟩=>?_;obtain⟨rfl,a,xs,rfl,hx,q⟩:=q2;obtain⟨t,rfl⟩:=r2;cases r1;have I4:Inv X pins σ H2 { s2 with heap:=s2.heap.push { cls:=.type "slice",data:=.fields #[.none,.none,.int (-1) t] } }:=I2.kept (t':=s2.toks) fun b ob q=>Heap.get?_push_of_some _ q
 obtain⟨its,r,ht,hz⟩:=I4.list hx;have hlen:=r.length;refine tail_any (ops:=[.ref a,.ref s2.heap.objs.size]) (ht.isList.typeIs) slot_list_getitem.lookup ?_ (by with_unfolding_all rfl)
 refine wpAny_getItem_list_slice ht.isList (Heap.IsSliceOf.new ..) .none .none (.int (-1) t) (by simp) ?_ (by rw[List.size_toArray]<;>omega)
 rw[W.krv_pick];refine⟨.ref _,_,I4.laid (t':=s2.toks) (o:=.lst xs.reverse) (fun b ob q=>Heap.get?_push_of_some _ q) (Nat.le_refl _) ?_,rfl,q _ (I4.hok.fresh (Nat.le_refl _))⟩;refine⟨by rw[List.length_reverse];exact hz,its.reverse,0,?_,Heap.get?_push_size _ rfl⟩
 exact r.reverse
end
noncomputable def LD(H:Hp)(l:Addr)(ds:List D):Prop:=OJ ds=true/\∃xs,H l=some (.lst xs)/\aJ H ds xs
theorem yN{ds es:List D}:OJ (ds++es)=(OJ ds && OJ es):=by
 induction ds with
 |nil=>simp[OJ]
 |cons d ds ih=>simp[OJ,ih,Bool.and_assoc]
inductive Tr where
 |lf (x:List D)
 |nd (x:List D) (l r:Tr)
namespace Tr
noncomputable def d:Tr->D
 |.lf x=>.tup x
 |.nd x l r=>.tup (x++[l.d,r.d])
noncomputable def size:Tr->Nat
 |.lf _=>1
 |.nd _ l r=>l.size+r.size+1
noncomputable def lvs:Tr->Nat
 |.lf _=>1
 |.nd _ l r=>l.lvs+r.lvs
noncomputable def dp:Tr->Nat
 |.lf _=>0
 |.nd _ l r=>1+max l.dp r.dp
noncomputable def post:Tr->List Tr
 |.lf x=>[.lf x]
 |.nd x l r=>l.post++r.post++[.nd x l r]
noncomputable def pre:Tr->List Tr
 |.lf x=>[.lf x]
 |.nd x l r=>.nd x l r::(r.pre++l.pre)
noncomputable def ok(lw:Str):Tr->Prop
 |.lf x=>x[0]?=some (.str lw)/\OJ x=true
 |.nd x l r=>(∃w,x[0]?=some (.str w)/\w≠lw)/\OJ x=true/\l.ok lw/\r.ok lw
theorem xn:∀t:Tr,t.pre.reverse=t.post
 |.lf x=>rfl
 |.nd x l r=>by simp[pre,post,xn l,xn r]
theorem nP:∀t:Tr,t.post.length=t.size
 |.lf x=>rfl
 |.nd x l r=>by simp[post,size,nP l,nP r];omega
theorem zk:∀t:Tr,1<=t.size
 |.lf x=>Nat.le_refl _
 |.nd x l r=>by simp only[size];omega
theorem dL:∀t:Tr,t.size+1=2*t.lvs
 |.lf x=>rfl
 |.nd x l r=>by
  have:=dL l;have:=dL r;simp only[size,lvs];omega
theorem ok.noL{lw:Str}:∀ {t:Tr},t.ok lw->noL t.d=true
 |.lf x,h=>by simp only[d,L2.noL];exact h.2
 |.nd x l r,h=>by
  obtain⟨_,h1,h2,h3⟩:=h;simp only[d,L2.noL,yN,Bool.and_eq_true];exact⟨h1,by simp[OJ,ok.noL h2,ok.noL h3]⟩
theorem ok.post{lw:Str}:∀ {t:Tr},t.ok lw->∀u∈t.post,u.ok lw
 |.lf x,h,u,hu=>by simp only[Tr.post,List.mem_singleton] at hu;subst hu;exact h
 |.nd x l r,h,u,hu=>by
  simp only[Tr.post,List.mem_append,List.mem_singleton] at hu;rcases hu with(hu|hu)|hu
  ·exact ok.post h.2.2.1 u hu
  ·exact ok.post h.2.2.2 u hu
  ·subst hu;exact h
theorem ok.OJ{lw:Str}{ts:List Tr}(h:∀t∈ts,t.ok lw):OJ (ts.map d)=true:=oq fun e he=>by
 obtain⟨t,ht,rfl⟩:=List.mem_map.mp he;exact(h t ht).noL
noncomputable def chk(s:Tr):List Tr->List Tr->Prop
 | [],st=>st=[s]
 |.lf x::r,st=>chk s r (st++[.lf x])
 |.nd x a b::r,st=>∃st',st=st'++[a,b]/\chk s r (st'++[.nd x a b])
theorem rS(s:Tr):∀(t:Tr)(r st:List Tr),chk s r (st++[t])->chk s (t.post++r) st
 |.lf x,r,st,h=>h
 |.nd x a b,r,st,h=>by
  simp only[post,List.append_assoc];refine rS s a _ st (rS s b _ _ ?_);refine⟨st,by simp,h⟩
theorem Iq(s:Tr):chk s s.post []:=by
 have:=rS s s [] [] rfl;simpa using this
end Tr
section
variable{X:Cx}
theorem bL:∀ {ns:List Int} {its:List Value},aR (ns.map V.int) its->∀(i:Nat)(v:Value),its[i]?=some v->∃t,v=.int (ns.getD i 0) t
 | [],_,.nil,i,v,h=>by simp at h
 |n::ns,_,.cons r t,0,v,h=>by
  simp at h;subst h;obtain⟨t',e⟩:=r;exact⟨t',by rw[e];rfl⟩
 |n::ns,_,.cons r t,i+1,v,h=>by
  obtain⟨t',e⟩:=bL t i v (by simpa using h)
  exact⟨t',by rw[e];rfl⟩
theorem oO(ns:List Int):∀j,j<=ns.length->preSum (fun i=>ns.getD i 0) j=(ns.take j).sum
 |0,_=>by simp[preSum]
 |j+1,h=>by
  have hj:j<ns.length:=by omega
  have e:ns.getD j 0=ns[j]:=by
   rw[List.getD_eq_getElem?_getD,List.getElem?_eq_getElem hj];rfl
  rw[preSum,oO ns j (by omega),e,List.take_succ,List.getElem?_eq_getElem hj,List.sum_append]
  simp
theorem GQ(hc:X.calm=true):cY X (.builtin "sum") (fun xs H Q=>∃(a:Addr)(ns:List Int),xs=[.ref a]/\SqL X.K H a (ns.map V.int)/\Q (.int ns.sum) H):=by
 intro pins s σ H xs us Q I r h;obtain⟨a,ns,rfl,hq,q⟩:=h;obtain⟨u,rfl,rx⟩:=g9 r;cases rx;obtain⟨its,rv,p,hz⟩:=I.list hq
 have hlt:a<s.heap.objs.size:=by
  obtain⟨o,ho,_⟩:=p.isList;exact Heap.lt_size ho
 have hlen:its.length=ns.length:=by rw[←rv.length,List.length_map]
 refine call_sum_walkG (wpAny_pyIter_list p.isList ?_);refine⟨s.heap.objs.size,_,_,_,_,_,fun i=>ns.getD i 0,rfl,Walks.list (A:=X.A.in1) (I.ok.hd hc) _ a (Nat.ne_of_lt hlt) _,⟨⟨_,Heap.get?_push_size _ rfl,rfl,rfl⟩,p.isList.push _⟩,?_,?_,fun h' tk t' hk=>?_⟩
 ·intro b hb
  show b<(s.heap.push _).objs.size;rw[Heap.size_push];simp only[List.mem_cons,List.not_mem_nil,or_false] at hb;rcases hb with e|e
  ·rw[e];exact Nat.lt_succ_self _
  ·rw[e];exact Nat.lt_succ_of_lt hlt
 ·intro i v hP
  exact bL rv i v (by simpa using hP)
 ·refine⟨.int ns.sum,H,I.kept (t':=tk) fun b o e=>hk b o (fun hm=>?_) (Heap.get?_push_of_some _ e),⟨t',?_⟩,q⟩
  ·have:b=s.heap.objs.size:=by simpa using hm
   exact absurd (this ▸ Heap.lt_size e) (Nat.lt_irrefl _)
  ·rw[List.size_toArray,hlen,oO ns _ (Nat.le_refl _),List.take_length]
theorem mn{prog:Program}{w:World}{A:Around}{E:Value->Shared->Prop}{s:Shared}{t sl:Addr}{items:Array Value}{vl vu:Value}{lo hi:Option Int}{Q:Value->Shared->Prop}(ht:IsTup s.heap t items)(hs:s.heap.IsSliceOf sl vl vu .none)(pl:IsPart vl lo)(pu:IsPart vu hi)(hw:HT.sIx items.size 0 lo=0/\HT.sIx items.size items.size hi=items.size)(h:Q (.ref t) s):wpAny (model prog w) A (getItem (.ref t) (.ref sl)) Q E s:=by
 obtain⟨os,hos,hcs,hds⟩:=id hs;have hTs:s.TypeIs (.ref sl) "slice":=⟨os,hos,hcs⟩;unfold getItem
 try with_reducible refine wpAny_holding ?_
 first|refine wpAny_bind (wpAny_pure ?_)|skip
 refine wpAny_bind (wpAny_sequenceKey ht.typeIs (by decide) ?_)
 refine wpAny_bind (wpAny_callSpecial?_slot (name:=Str.ofString "__getitem__") ht.typeIs PyProof.Rows.slot_tuple_getitem
  (wpAny_call_entry PyProof.Rows.slot_tuple_getitem ht.typeIs PyProof.Rows.entry_tuple_getitem ?_ (PyProof.Rows.args_tuple_getitem _ _)))
 show wpAny _ _ (Builtin.Tuple.tupleItemsOf (.ref t) >>= _) _ _ s;refine wpAny_bind (tupleItemsOf_ ht ?_);refine wpAny_bind (wpAny_typeOf hTs ?_);rw[if_pos (by decide)]
 refine wpAny_bind (HT.sliceApplied_gen hs pl pu ?_)
 have hyes:(((HT.sIx items.size 0 lo:Nat):Int) == 0 && (1:Int) == 1 && (HT.sIx items.size items.size hi-HT.sIx items.size 0 lo) == items.size)=true:=by
  rw[hw.1,hw.2];simp
 show wpAny _ _ (if (((HT.sIx items.size 0 lo:Nat):Int) == 0 && (1:Int) == 1 && (HT.sIx items.size items.size hi-HT.sIx items.size 0 lo) == items.size)=true then _ else _) _ _ s
 rw[if_pos hyes];unfold Builtin.Tuple.tupleIsExact;refine wpAny_bind (wpAny_bind (wpAny_typeOf ht.typeIs (wpAny_pure ?_)));rw[if_pos (by decide)]
 exact wpAny_bind (wpAny_rule (wpAny_pure ⟨_,rfl,wpAny_pure h⟩))
noncomputable def Kf(K:W.Frag):V->Option Int->Option Int->Hp->VK->Prop:=fun x lo hi H Q=>∃a xs,x=.ref a/\SqT K H a xs /\
 if HT.sIx xs.length 0 lo=0/\HT.sIx xs.length xs.length hi=xs.length then Q (.ref a) H else ∀p,H p=none->Q (.ref p) (upd H p (.tup (vW xs lo hi)))
theorem IE:SlR X (Kf X.K):=by
 intro pins s σ H x v vl vu lo hi sl Q I rx hs pl pu h;obtain⟨a,xs,rfl,hx,h⟩:=h;by_cases hw:HT.sIx xs.length 0 lo=0/\HT.sIx xs.length xs.length hi=xs.length
 ·rw[if_pos hw] at h
  cases rx;obtain⟨its,r,ht,hz⟩:=I.tuple hx;have hlen:its.toArray.size=xs.length:=by rw[List.size_toArray];exact r.length.symm
  exact⟨"tuple",_,PyProof.Rows.slot_tuple_getitem.lookup,ht.typeIs,mn ht hs pl pu (by rw[hlen];exact hw) ⟨.ref a,H,I,rfl,h⟩⟩
 ·rw[if_neg hw] at h
  exact Lb pins s σ H (.ref a) v vl vu lo hi sl Q I rx hs pl pu ⟨a,xs,rfl,hx,hw,h⟩
end
noncomputable def wdD(w:List Int):D:=.tup (w.map D.int)
noncomputable def csD(pl:Nat)(ys ns:List (List Int)):D:=.tup [.int pl,.tup (ys.map wdD),.tup (ns.map wdD)]
theorem L4(w:List Int):noL (wdD w)=true:=by simp only[wdD,noL];exact C7 w
theorem sM(ws:List (List Int)):OJ (ws.map wdD)=true:=oq fun d hd=>by
 obtain⟨w,_,rfl⟩:=List.mem_map.mp hd;exact L4 w
structure SN(n:Nat)(H:Hp)(S:Addr)(ad:Nat->Addr)(fs:Nat->List D):Prop where
 s:H S=some (.lst ((List.range n).map fun i=>.ref (ad i)))
 l:∀i,i<n->LD H (ad i) (fs i)
noncomputable def StE(w:World)(e:DictEntry)(p:Str×V):Prop:=e.hash=PyData.keyHash w.params p.1/\(∃t,e.key=.str p.1 t)/\bf p.2 e.val
noncomputable def StD(w:World)(K:W.Frag)(a:Addr)(kvs:List (Str×V)):Prop:=∃(o:Obj)(es:List DictEntry)(ep:Nat),K.lookup a=some o/\o.ExactDict/\o.data=.dict es.toArray ep/\Paired (StE w) es kvs
noncomputable def vU(kvs:List (Str×V))(x:Str):Option V:=(kvs.find? fun p=>decide (p.1=x)).map (·.2)
theorem StE.find{P:Program}{w:World}:∀ {es:List DictEntry} {kvs:List (Str×V)} {x:Str} {v:V},Paired (StE w) es kvs->vU kvs x=some v->∃u,findBy (bx P w).is es.toArray (Sum.inr x)=some u/\bf v u:=by
 intro es
 induction es with
 |nil=>intro kvs x v h hv;cases h;cases hv
 |cons e es ih=>
  intro kvs x v h hv
  cases h with
  | @cons _ p _ kvs r t=>
   obtain⟨h1,⟨tk,h2⟩,h3⟩:=r
   have hf:findBy (bx P w).is (e::es).toArray (Sum.inr x)=if kH (Sum.inr x) e.key=true then some e.val else findBy (bx P w).is es.toArray (Sum.inr x):=by
    unfold findBy;simp only[List.find?_toArray,List.find?_cons,Bb];cases kH (Sum.inr x) e.key<;>simp
   by_cases hx:p.1=x
   ·have hk:kH (Sum.inr x) e.key=true:=by rw[h2,←hx];exact uD _ _
    rw[hf,if_pos hk];unfold vU at hv;rw[List.find?_cons_of_pos (by simp[hx])] at hv
    cases hv;exact⟨_,rfl,h3⟩
   ·have hk:¬ kH (Sum.inr x) e.key=true:=by
     rw[h2];intro z;rcases cf z with⟨i,t',e1,e2⟩|⟨y,t',e1,e2⟩
     ·cases e2
     ·injection e2 with e2 _
      injection e1 with e1;exact hx (e2.trans e1.symm)
    rw[hf,if_neg hk];unfold vU at hv;rw[List.find?_cons_of_neg (by simp[hx])] at hv
    exact ih t hv
theorem StE.keys{P:Program}{w:World}:∀ {es:List DictEntry} {kvs:List (Str×V)},Paired (StE w) es kvs->∀e∈es,∃k,(bx P w).is k e.key=true/\e.hash=(bx P w).hash k
 |_,_,.nil,e,h=>by cases h
 |_,_,.cons (a:=e0) (b:=p) r t,e,h=>by
  rcases List.mem_cons.mp h with rfl|h
  ·obtain⟨h1,⟨tk,h2⟩,_⟩:=r
   exact⟨Sum.inr p.1,by rw[h2];exact kx _ _ _ _,h1⟩
  ·exact StE.keys t e h
section
variable{X:Cx}{o i:Expr}{ty:TE}{pos:Pos}{a:Addr}{kvs:List (Str×V)}
noncomputable def KF(kvs:List (Str×V))(td ty:TE):TE:=fun σ H Q=>td σ H fun _ H0=>ty σ H0 fun y H1=>∃x v,y=.str x/\vU kvs x=some v/\Q v H1
theorem CO(hd:StD X.w X.K a kvs)(ho:PE X o (tC (.ref a)))(hi:PE X i ty)(hs:L0 i):PE X (.Subscript o i pos) (KF kvs (tC (.ref a)) ty):=.mk <| by
 intro pins s σ H Q I h;obtain⟨ob,es,ep,hk,hx,hdat,hp⟩:=hd;refine CK PySem.F.slot_dict_getitem.lookup hs (thn (ho pins s σ H (fun x H1=>x=.ref a/\ty σ H1 fun y H1=>∃x v,y=.str x/\vU kvs x=some v/\Q v H1) I ⟨rfl,h⟩) fun u s1 ⟨x,H1,I1,rx,ex,q1⟩=>thn (hi pins s1 σ H1 _ I1 q1) fun iv s2 ⟨y,H2,I2,ry,k,v,ey,hv,q2⟩=>?_);subst ex;subst ey;obtain rfl:u=Value.ref a:=rx;obtain⟨t,rfl⟩:=ry;obtain⟨u',hf,ru⟩:=StE.find (P:=X.prog) hp hv
 have hg:s2.heap.get? a=some ob:=I2.kIn a ob hk;have hm:s2.heap.MapOf (bx X.prog X.w) a (findBy (bx X.prog X.w).is es.toArray):=⟨ob,es.toArray,ep,hg,hx,hdat,fun e he=>StE.keys hp e (by simpa using he),fun _=>rfl⟩
 exact⟨⟨ob,hg,hx.1⟩,wpAny_getItem_of (knd:=bx X.prog X.w) (kx _ _ _ _) hm hf ⟨v,H2,I2.tok _,ru,q2⟩⟩
end
open Classical in
noncomputable def eqF(H:Hp)(dx:D)(u:Value):Bool:=if h:∃d,∃x,bf x u/\Dat H d x then eqD (Classical.choose h) dx else false
theorem Ae{H:Hp}{dx d:D}{x:V}{u:Value}(r:bf x u)(h:Dat H d x):eqF H dx u=eqD d dx:=by
 have hex:∃d,∃x,bf x u/\Dat H d x:=⟨d,x,r,h⟩;unfold eqF;rw[dif_pos hex];obtain⟨x',r',h'⟩:=Classical.choose_spec hex;have:x'=x:=r'.inj r;subst this;rw[Dat.inj h' h]
theorem on{H:Hp}{dx:D}:∀ {ds:List D} {xs:List V} {its:List Value},aJ H ds xs->aR xs its->its.any (eqF H dx)=ds.any fun d=>eqD d dx
 | [],xs,its,h,r=>by
  simp only[aJ] at h;subst h;cases r;rfl
 |d::ds,xs,its,h,r=>by
  simp only[aJ] at h;obtain⟨x,xr,rfl,h1,h2⟩:=h
  cases r with
  |cons r1 r2=>rw[List.any_cons,List.any_cons,Ae r1 h1,on h2 r2]
theorem sj{H:Hp}:∀ {ds:List D} {xs:List V} {its:List Value},aJ H ds xs->aR xs its->∀u∈its,∃d x,d∈ds/\bf x u/\Dat H d x
 | [],xs,its,h,r,u,hu=>by simp only[aJ] at h;subst h;cases r;cases hu
 |d::ds,xs,its,h,r,u,hu=>by
  simp only[aJ] at h;obtain⟨x,xr,rfl,h1,h2⟩:=h
  cases r with
  |cons r1 r2=>
   rcases List.mem_cons.mp hu with rfl|hu
   ·exact⟨d,x,List.mem_cons_self ..,r1,h1⟩
   ·obtain⟨d',x',m,q⟩:=sj h2 r2 u hu
    exact⟨d',x',List.mem_cons_of_mem _ m,q⟩
theorem xu:∀ {ds:List D} {d:D},d∈ds->dep d<=fP ds
 |e::ds,d,h=>by
  simp only[fP];rcases List.mem_cons.mp h with rfl|h
  ·omega
  ·have:=xu h;omega
noncomputable def inD(dx:D)(ds:List D):Bool:=ds.any fun d=>eqD d dx
noncomputable def Lh(neg:Bool):R2:=fun x y H Q=>∃dx ds,Dat H dx x/\(Dat H (.lst ds) y\/Dat H (.tup ds) y)/\fP ds<=90/\Q (.bl (if neg then !inD dx ds else inD dx ds)) H
section
variable{X:Cx}
theorem wN(hu:X.A.units+100<cLine):OpR X (compareOp .In) (Lh false):=by
 intro pins s σ H x y v u Q I rx ry h;obtain⟨dx,ds,hx,hy,hdp,q⟩:=h
 have he:∀ {xs:List V} {its:List Value},aJ H ds xs->aR xs its->∀w,w∈its.toArray->SeqAt.EqAt X.A.in1 s w v (eqF H dx w):=fun hd r w hw=>by
  obtain⟨d,z,hm,rz,hz⟩:=sj hd r w (by simpa using hw)
  rw[Ae rz hz];exact(sh I 90 d dx z x w v X.A.in1 (Nat.le_trans (xu hm) hdp) (by show X.A.units+1+90<cLine;omega) hz hx rz rx).2.1
 rcases hy with hy|hy
 ·simp only[Dat] at hy
  obtain⟨a,xs,rfl,ha,hd⟩:=hy;cases ry;obtain⟨its,r,pl,_⟩:=I.list (SqL.of ha);refine SeqAt.in_listAt (eqF H dx) pl.isList (he hd r) ⟨.bl _,H,I,rfl,?_⟩;rw[show its.toArray.any (eqF H dx)=its.any (eqF H dx) by simp,on hd r]
  exact q
 ·simp only[Dat] at hy
  obtain⟨a,xs,rfl,ha,hd⟩:=hy;cases ry;obtain⟨its,r,pl,_⟩:=I.tuple (SqT.of ha);refine SeqAt.in_tupleAt (eqF H dx) pl (he hd r) ⟨.bl _,H,I,rfl,?_⟩;rw[show its.toArray.any (eqF H dx)=its.any (eqF H dx) by simp,on hd r]
  exact q
theorem Dr(hu:X.A.units+100<cLine):OpR X (compareOp .NotIn) (Lh true):=by
 intro pins s σ H x y v u Q I rx ry h;obtain⟨dx,ds,hx,hy,hdp,q⟩:=h
 have he:∀ {xs:List V} {its:List Value},aJ H ds xs->aR xs its->∀w,w∈its.toArray->SeqAt.EqAt X.A.in1 s w v (eqF H dx w):=fun hd r w hw=>by
  obtain⟨d,z,hm,rz,hz⟩:=sj hd r w (by simpa using hw)
  rw[Ae rz hz];exact(sh I 90 d dx z x w v X.A.in1 (Nat.le_trans (xu hm) hdp) (by show X.A.units+1+90<cLine;omega) hz hx rz rx).2.1
 rcases hy with hy|hy
 ·simp only[Dat] at hy
  obtain⟨a,xs,rfl,ha,hd⟩:=hy;cases ry;obtain⟨its,r,pl,_⟩:=I.list (SqL.of ha);refine SeqAt.notIn_listAt (eqF H dx) pl.isList (he hd r) ⟨.bl _,H,I,rfl,?_⟩;rw[show its.toArray.any (eqF H dx)=its.any (eqF H dx) by simp,on hd r]
  exact q
 ·simp only[Dat] at hy
  obtain⟨a,xs,rfl,ha,hd⟩:=hy;cases ry;obtain⟨its,r,pl,_⟩:=I.tuple (SqT.of ha);refine SeqAt.notIn_tupleAt (eqF H dx) pl (he hd r) ⟨.bl _,H,I,rfl,?_⟩;rw[show its.toArray.any (eqF H dx)=its.any (eqF H dx) by simp,on hd r]
  exact q
theorem C5(hc:X.calm=true):cY X (.builtin "sum") (fun xs H Q=>∃(a:Addr)(ns:List Int),xs=[.ref a]/\SqT X.K H a (ns.map V.int)/\Q (.int ns.sum) H):=by
 intro pins s σ H xs us Q I r h;obtain⟨a,ns,rfl,hq,q⟩:=h;obtain⟨u,rfl,rx⟩:=g9 r;cases rx;obtain⟨its,rv,p,hz⟩:=I.tuple hq
 have hlt:a<s.heap.objs.size:=by
  obtain⟨o,ho,_⟩:=p;exact Heap.lt_size ho
 have hlen:its.length=ns.length:=by rw[←rv.length,List.length_map]
 have p':s.heap.IsTuple a its.toArray:=p;refine call_sum_walkG (wpAny_pyIter_tuple p' ?_);refine⟨s.heap.objs.size,_,_,_,_,_,fun i=>ns.getD i 0,rfl,Walks.tuple (A:=X.A.in1) (I.ok.hd hc) _ a (Nat.ne_of_lt hlt) _,⟨⟨_,Heap.get?_push_size _ rfl,rfl,rfl⟩,p'.push _⟩,?_,?_,fun h' tk t' hk=>?_⟩
 ·intro b hb
  show b<(s.heap.push _).objs.size;rw[Heap.size_push];simp only[List.mem_cons,List.not_mem_nil,or_false] at hb;rcases hb with e|e
  ·rw[e];exact Nat.lt_succ_self _
  ·rw[e];exact Nat.lt_succ_of_lt hlt
 ·intro i v hP
  exact bL rv i v (by simpa using hP)
 ·refine⟨.int ns.sum,H,I.kept (t':=tk) fun b o e=>hk b o (fun hm=>?_) (Heap.get?_push_of_some _ e),⟨t',?_⟩,q⟩
  ·have:b=s.heap.objs.size:=by simpa using hm
   exact absurd (this ▸ Heap.lt_size e) (Nat.lt_irrefl _)
  ·rw[List.size_toArray,hlen,oO ns _ (Nat.le_refl _),List.take_length]
end
end L2
namespace L2
open PySem PySem.Spec PyProof.Rows
section
variable{X:Cx}{pos:Pos}
theorem Do(K:W.Frag)(h:X.K=K)(hu:X.A.units+100<cLine):OpR X (compareOp .NotEq) (fun x y H Q=>∃a b xs,x=.ref a/\y=.ref b/\SqL K H a xs/\SqL K H b []/\Q (.bl (!xs.isEmpty)) H):=h ▸ FF hu
end
section
variable{X:Cx}
theorem bD{es fs x1 pos te t}(ha:PE X (.Tuple fs x1 pos) te)(hr:PA X es t):PA X (.Tuple fs x1 pos::es) (kO te t):=aa ha hr (by rfl)
theorem fQ{es fs pos te t}(ha:PE X (.List fs pos) te)(hr:PA X es t):PA X (.List fs pos::es) (kO te t):=aa ha hr (by rfl)
theorem av{es c j pos te t}(ha:PE X (.Constant c j pos) te)(hr:PA X es t):PA X (.Constant c j pos::es) (kO te t):=aa ha hr (by rfl)
end
end L2
namespace L2
open PySem PySem.Spec PySem.Calls PyProof.Rows
noncomputable def Frz(H H':Hp):Prop:=∀b o u,H b=some (.frz o u)->H' b=some (.frz o u)
theorem cK.frz{H H':Hp}(h:cK H H'):Frz H H':=fun b o u e=>h b _ e
noncomputable def r8(H:Hp)(f:Addr)(q:Str)(params:Arguments)(body:Expr)(scope:Scope)(clos:List (Str×Addr)):Prop:=
 ∃(pm:Value)(c:Addr)(ctv:Value)(oc:Obj)(vs:Array Value)(t:Tok)(u u':HO),H f=some (.frz (W.kla_obj "<lambda>" q params body scope clos pm c ctv) u)/\H c=some (.frz oc u')/\oc.data=.fields vs/\vs[1]?=some (.str q t)
theorem r8.frz{H H':Hp}{f:Addr}{q:Str}{params:Arguments}{body:Expr}{scope:Scope}{clos:List (Str×Addr)}(x:r8 H f q params body scope clos)(k:Frz H H'):r8 H' f q params body scope clos:=
 let ⟨pm,c,ctv,oc,vs,t,u,u',h1,h2,r⟩:=x;⟨pm,c,ctv,oc,vs,t,u,u',k _ _ _ h1,k _ _ _ h2,r⟩
noncomputable def wK(K:W.Frag)(c P:Addr):Bool:=match K.lookup c with
 | some o=>(o.cls == .type "code") && c != P && (match o.data with
  | .fields vs=>(vs[11]? == some (.ref P)) && (match vs.getD 18 .none,vs.getD 7 .none,vs.getD 9 .none,vs.getD 10 .none with
   |.str _ _,.int _ _,.bool _,.int _ _=>true
   |_,_,_,_=>false)
  |_=>false)
 |none=>false
theorem Ep{K:W.Frag}{h:Heap}{c P:Addr}(X:K.In h)(e:wK K c P=true):W.CodeHd h c P:=by
 unfold wK at e
 cases q:K.lookup c with
 |none=>rw[q] at e;cases e
 |some o=>
  rw[q] at e;simp only[Bool.and_eq_true] at e;obtain⟨⟨e1,e2⟩,e3⟩:=e
  cases d:o.data with
  |fields vs=>
   rw[d] at e3;simp only[Bool.and_eq_true] at e3;obtain⟨e4,e5⟩:=e3;have e4':vs[11]?=some (.ref P):=eq_of_beq e4;split at e5
   ·rename_i f tf g tg b x tt h18 h7 h9 h10
    refine⟨o,vs,f,tf,g,tg,b,x,tt,X _ _ q,eq_of_beq e1,d,e4',?_,h18,h7,h9,h10,by simpa using e2⟩
    simp[Array.getD_eq_getD_getElem?,e4']
   ·cases e5
  |_=>rw[d] at e3;cases e3
theorem zS{pos:Pos}{a b:Int}{c cv:Value}(l:List Value)(h:TriplesOk l)(e:codeAmong pos (l++[rawInt a,rawInt b,c])=some cv):codeAmong pos l=some cv\/cv=c:=by
 fun_induction TriplesOk l with
 |case1=>
  simp only[List.nil_append,rawInt,codeAmong] at e;split at e
  ·exact .inr (Option.some.inj e).symm
  ·cases e
 |case2 a' t b' u x bB ih=>
  simp only[List.cons_append,codeAmong] at e ⊢;split at e
  ·rename_i hc
   rw[if_pos hc];exact .inl e
  ·rename_i hc
   rw[if_neg hc];exact ih h e
 |case3 l h1 h2=>exact h.elim
section
variable{P:Program}{w:World}{H H':Hp}{h h':Heap}{p:Addr}{ps:Array Value}
theorem Un.lam{fs:List Addr}(hok:HOk P w H h)(hP:H p=some (.tbl ps))(k:∀b o,b≠p->h.get? b=some o->h'.get? b=some o)(hp':∃o,h'.get? p=some o)(same:∀b,b<h.objs.size->H' b=H b):Un fs [] H H' h h':=by
 have ne:∀b,H b=none->b≠p:=fun b n z=>by rw[z,hP] at n;cases n
 refine⟨fun b o q n _ _=>k b o (ne b n) q,fun b o q n _ _=>⟨o.slots,k b o (ne b n) q⟩,fun b o q n _=>(same b (Heap.lt_size q)).trans n,fun b o q _=>?_,fun b xs q=>(same b (hok.lt q)).trans q,fun b o u q=>(same b (hok.lt q)).trans q,fun b xs q=>⟨#[],?_⟩⟩
 ·by_cases hb:b=p
  ·rw[hb];exact hp'
  ·exact⟨o,k b o hb q⟩
 ·rw[(same b (hok.lt q)).trans q];simp
theorem HOk.lam(hok:HOk P w H h)(hP:H p=some (.tbl ps))(k:∀b o,b≠p->h.get? b=some o->h'.get? b=some o)(same:∀b,b<h.objs.size->H' b=H b)(newP:bV P w H' h' p (.tbl ps))(new:∀b u,h.objs.size<=b->H' b=some u->bV P w H' h' b u):HOk P w H' h':=fun b u e=>by
 rcases Nat.lt_or_ge b h.objs.size with hb|hb
 ·rw[same b hb] at e
  by_cases hp:b=p
  ·subst hp
   rw[hP] at e;cases e;exact newP
  ·refine(hok b u e).stay (fun c v hc q=>k c v ?_ q) (fun c q=>(same c (hok.lt q)).trans q) (fun c xs q=>(same c (hok.lt q)).trans q) fun c o u q=>(same c (hok.lt q)).trans q
   rcases hc with rfl|hc
   ·exact hp
   ·rintro rfl
    rw[hP] at hc;cases hc
 ·exact new b u hb e
end
noncomputable def MI(q:Str)(args:Arguments)(body:Expr)(scope:Scope)(clos:List (Str×Addr)):TE:=fun _ H Q=>∀f H',cK H H'->H f=none->r8 H' f q args body scope clos->Q (.ref f) H'
section
variable{X:Cx}{args:Arguments}{body:Expr}{scope:Scope}{pos:Pos}{x:Str}{c p:Addr}{clos:List (Str×Addr)}
theorem kY(hcode:X.env.code=.ref c)(hq:X.env.qual=x ++ ".<locals>.")(hm:(x,c,p)∈km X.K)(hh:wK X.K c p=true)(hcl:closureFor scope X.env=pure clos)(hdef:defaultsOf args X.env=([],[]):=by rfl):
  PE X (.Lambda args body scope pos) (MI (x ++ ".<locals>." ++ "<lambda>") args body scope clos):=.mk <| by
 intro pins s σ H Q I h;refine W.kla_eval hdef ?_;rw[hq];obtain⟨ps,eP,z0⟩:=(I.ok.tt.mono I.base.tbls) _ hm;obtain⟨qs,hP,tr,codes⟩:=I.hok _ _ eP;dsimp only at eP z0 hP;have C:W.CodeHd s.heap c p:=(Ep I.ok.mod.kin hh).keeps I.bk;have hg:s.heap.Ns mainGlobals X.mg:=I.ok.mod.glob.keeps I.bk;obtain⟨bm,ob,b1,b2,b3,b4,b5,b6⟩:=I.ok.mod.bm
 have hgP:mainGlobals≠p:=fun q=>by
  obtain⟨o,es,ep,e,hd,_⟩:=hg;rw[q,hP] at e;cases e;cases hd
 have hbP:bm≠p:=fun q=>by
  have e:=I.bk _ _ b3;rw[q,hP] at e;cases e;cases b4
 have hbG:bm≠mainGlobals:=fun q=>by
  obtain⟨o,es,ep,e,hd,_⟩:=I.ok.mod.glob;rw[q,e] at b3;cases b3;rw[hd] at b6;cases b6
 have hB:s.heap.BuiltinsAt X.mg p:=⟨bm,ob,b1,b2,hbG,hbP,I.bk _ _ b3,b4,b5,b6⟩;have hps:p<s.heap.objs.size:=Heap.lt_size hP
 cases e:codeAmong pos qs.toList with
 |none=>
  refine W.kla_makeFunction (mg:=X.mg) hcl I.ok.glob hg hcode C hP tr e hgP hB fun c' ctv h' tk hx hge hlt hrec htb=>?_;obtain⟨c₂,oc,vs,t,e2,hoc,hd,hv⟩:=hrec;cases e2;have hps':p<h'.objs.size:=Heap.lt_size htb
  let H':Hp:=upd (upd H c' (.frz oc (.own p))) h'.objs.size (.frz (W.kla_obj "<lambda>" (x ++ ".<locals>." ++ "<lambda>") args body scope clos ((X.mg "__name__").getD .none) c' ctv) (.own h'.objs.size))
  have ef:H' h'.objs.size=some (.frz (W.kla_obj "<lambda>" (x ++ ".<locals>." ++ "<lambda>") args body scope clos ((X.mg "__name__").getD .none) c' ctv) (.own h'.objs.size)):=bM;have ec:H' c'=some (.frz oc (.own p)):=(aF (Nat.ne_of_lt hlt)).trans bM
  have same:∀b,b<s.heap.objs.size->H' b=H b:=fun b hb=>by
   have h1:b≠h'.objs.size:=Nat.ne_of_lt (Nat.lt_trans (Nat.lt_of_lt_of_le hb hge) hlt);have h2:b≠c':=Nat.ne_of_lt (Nat.lt_of_lt_of_le hb hge);exact(aF h1).trans (aF h2)
  have k:∀b o,b≠p->s.heap.get? b=some o->(h'.push (W.kla_obj "<lambda>" (x ++ ".<locals>." ++ "<lambda>") args body scope clos ((X.mg "__name__").getD .none) c' ctv)).get? b=some o:=fun b o n q=>Heap.get?_push_of_some _ (hx b o n q);have htb':=Heap.get?_push_of_some (W.kla_obj "<lambda>" (x ++ ".<locals>." ++ "<lambda>") args body scope clos ((X.mg "__name__").getD .none) c' ctv) htb;refine⟨.ref h'.objs.size,H',I.un (Un.lam I.hok eP k ⟨_,htb'⟩ same) (I.hok.lam eP k same ⟨_,htb',?_,?_⟩ ?_),rfl,h _ _ (fun b o q=>(same b (I.hok.lt q)).trans q) (I.hok.fresh (Nat.le_trans hge (Nat.le_of_lt hlt))) ⟨_,c',ctv,oc,vs,t,_,_,ef,ec,hd,hv⟩⟩
  ·rw[Array.toList_append]
   exact TriplesOk_snoc _ _ _ _ tr
  ·intro pos' cv q
   rw[Array.toList_append] at q;rcases zS _ tr q with q|rfl
   ·obtain⟨c1,o1,v1,t1,q1,a1,a2,a3,a4,a5⟩:=codes pos' cv q
    exact⟨c1,o1,v1,t1,q1,a1,(same c1 (I.hok.lt a2)).trans a2,a3,a4,a5⟩
   ·exact⟨c',oc,vs,t,_,rfl,ec,hd,hv,z0⟩
  ·intro b u hb q
   by_cases hbf:b=h'.objs.size
   ·subst hbf
    rw[ef] at q;cases q;exact⟨Heap.get?_push_size _ rfl,_,Heap.get?_push_size _ rfl⟩
   ·have q':upd H c' (.frz oc (.own p)) b=some u:=(aF hbf).symm.trans q
    by_cases hbc:b=c'
    ·subst hbc
     rw[bM] at q';cases q';exact⟨Heap.get?_push_of_some _ hoc,_,Heap.get?_push_of_some _ hoc⟩
    ·rw[aF hbc,I.hok.fresh hb] at q';cases q'
 |some cv=>
  obtain⟨c',oc,vs,t,q,rfl,ec,hd,hv,hq0⟩:=codes pos cv e
  have hqq:q=x ++ ".<locals>." ++ "<lambda>":=by
   rw[hq0] at z0;injection z0 with z0;injection z0
  subst hqq;refine W.kla_makeFunctionHit (mg:=X.mg) hcl I.ok.glob hg hcode C hP tr e hB fun ctv h' tk hk hsz=>?_;have hne:∀b u,H b=some u->b≠h'.objs.size:=fun b u q z=>absurd (Nat.lt_of_lt_of_le (I.hok.lt q) hsz) (by rw[z];exact Nat.lt_irrefl _)
  refine⟨.ref h'.objs.size,upd H h'.objs.size (.frz (W.kla_obj "<lambda>" (x ++ ".<locals>." ++ "<lambda>") args body scope clos ((X.mg "__name__").getD .none) c' ctv) (.own h'.objs.size)),I.laid (fun b u q=>Heap.get?_push_of_some _ (hk b u q)) hsz ?_,rfl,h _ _ (fun b o q=>(aF (hne b o q)).trans q) (I.hok.fresh hsz) ⟨_,c',ctv,oc,vs,t,_,_,bM,(aF (hne _ _ ec)).trans ec,hd,hv⟩⟩;exact⟨Heap.get?_push_size _ rfl,_,Heap.get?_push_size _ rfl⟩
end
structure Clo(P:Program)(w:World)(K:W.Frag)(mg:Str->Option Value)(base:Heap)(H₀:Hp)(k:Nat)(f:Addr)(n:Nat)(sp:Sp):Prop where
 fn:(∃(oc:Value)(od:Option Addr)(fd:FuncData) (sl:Array (Option Value)) (u:HO),H₀ f=some (.frz ⟨oc,od,.func fd,sl⟩ u))\/∃(oc:Value)(od:Option Addr)(fd:FuncData) (sl:Array (Option Value)),K.lookup f=some ⟨oc,od,.func fd,sl⟩
 len:∀vs H Q E,sp vs H Q E->vs.length=n
 run:∀(A:Around)(outer:List Env)(s:Shared)(H:Hp)(us:List Value)(vs:List V)(Q:VK)(E:XK),eJ k A->zX P w K mg base A outer s H->Frz H₀ H->aR vs us->sp vs H Q E ->
  codeAny (model P w) A (.call (.ref f) ⟨us,[]⟩) (CR CX0 outer P w H s Q E) s
noncomputable def Fw(X:Cx)(k n i:Nat)(t:TA):TE:=fun σ H Q=>∃f sp,σ[i]?=some (some (.ref f))/\Clo X.prog X.w X.K X.mg X.base X.H₀ k f n sp/\t σ H fun vs H1=>sp vs H1 Q E0
section
variable{X:Cx}{k n i:Nat}{x:Str}{p pos:Pos}{e:Expr}{es:List Expr}{t:TA}
theorem yz(hr:eJ k X.A)(hN:X.N[i]?=some x)(hv:Vis X.env.scope x)(ha:PA X (e::es) t)(hd:(x == ("__debug__":Str))=false:=by decide)(hcd:(x == ("__classdict__":Str))=false:=by decide)(he:starEach (e::es) X.env=(false,eval e X.env)::starEach es X.env:=by rfl)(hpl:(backTo pos (starEach es X.env)).any (·.1)=false:=by rfl):
  PE X (.Call (.Name x p) (e::es) [] pos) (Fw X k n i t):=.mk <| by
 intro pins s σ H Q I h;obtain⟨f,sp,ev,C,h⟩:=h
 have at':∀ {σ1:St} {H1:Hp} {s1:Shared},Inv X pins σ1 H1 s1->W.FnAt f s1.heap:=fun {σ1 H1 s1} J=>by
  rcases C.fn with⟨oc,od,fd,sl,u,q⟩|⟨oc,od,fd,sl,q⟩
  ·exact⟨oc,od,fd,sl,(J.hok _ _ (J.base.frzs _ _ _ q)).1⟩
  ·exact⟨oc,od,fd,sl,J.kIn _ _ q⟩
 refine wpAny_Call_Name_kw (thn (F3 (X:=X) hN hv hd hcd pins s σ H (fun v H1=>v=.ref f/\H1=H) I ⟨_,ev,rfl,rfl⟩) fun u s1 ⟨v,H1,I1,r,e1,e2⟩=>?_);subst e1 e2;obtain rfl:u=Value.ref f:=r;refine W.callWith_F (at' I1) (thn (ha pos pins s1 σ H1 _ I1 h) fun us s2 ⟨vs,H2,I2,r2,q2⟩=>⟨at' I2,?_⟩) he hpl;refine wpAny_call (codeAny_mono (C.run X.A X.stack s2 H2 us vs Q E0 hr I2.env0 (fun b o u q=>I2.base.frzs b o u q) r2 q2) fun r s' hq=>?_)
 cases r with
 |error e=>exact False.elim hq
 |ok fl=>
  cases fl with
  |ret u=>exact I2.after hq
  |next=>exact False.elim hq
  |brk=>exact False.elim hq
  |cont=>exact False.elim hq
end
theorem Mod.mono{K:W.Frag}{mg:Str->Option Value}{b b':Heap}(m:Mod K mg b)(k:∀a o,b.get? a=some o->b'.get? a=some o):Mod K mg b':=
 ⟨m.kin.keeps k,m.glob.keeps k,let ⟨mb,h1,h2⟩:=m.blt;⟨mb,h1.keeps k,h2⟩,m.nolimit.keeps k,let ⟨bm,ob,h1,h2,h3,r⟩:=m.bm;⟨bm,ob,h1,h2,k _ _ h3,r⟩⟩
noncomputable def F9(X:Cx)(σ:St)(b:Heap):Prop:=∀(i:Nat)(x:Str)(v:V),X.N[i]?=some x->σ[i]?=some (some v)->X.env.scope.names.lookup x=some .cell->X.fn x=true->∃c u,X.env.cells.lookup x=some c/\b.IsCell c (some u)/\bf v u
theorem qi{h b b':Heap}:∀ {l:List Env},h.FunFrames b l->(∀a∈frs l,b'.get? a=none)->h.FunFrames b' l
 | [],_,_=>trivial
 |env::r,x,k=>by
  obtain⟨hk,⟨L,o,hf,hn,ho,hd⟩,hr⟩:=x;have hL:L∈frs (env::r):=by unfold frs;rw[List.filterMap_cons,hf];exact List.mem_cons_self
  refine⟨hk,⟨L,o,hf,k L hL,ho,hd⟩,qi hr fun a ha=>k a ?_⟩;unfold frs at ha ⊢;rw[List.filterMap_cons,hf];exact List.mem_cons_of_mem _ ha
theorem Inv.grow{X:Cx}{pins:List (Addr×Obj)}{σ:St}{H:Hp}{s:Shared}(I:Inv X pins σ H s):
  ∃b',(∀a o,X.base.get? a=some o->b'.get? a=some o)/\zX X.prog X.w X.K X.mg b' X.A X.stack s H/\F9 X σ b':=by
 have keep:∀a o,s.heap.get? a=some o->H a=none->a ∉ frs X.stack->(W.hideAll s.heap (trk s.heap H++frs X.stack)).get? a=some o:=fun a o e n hf=>W.hideAll_get _ e fun hm=>by
  rcases List.mem_append.mp hm with z|z
  ·have q:(H a).isSome=true:=(List.mem_filter.mp z).2
   rw[n] at q;simp at q
  ·exact hf z
 have sub:∀a o,X.base.get? a=some o->(W.hideAll s.heap (trk s.heap H++frs X.stack)).get? a=some o:=fun a o e=>keep a o (I.bs a o e).1 (I.bs a o e).2 fun hm=>by
  have:=(I.stack.mem hm).1;rw[e] at this;cases this
 have e0:=I.env0;refine⟨W.hideAll s.heap (trk s.heap H++frs X.stack),sub,⟨e0.frames,e0.mod.mono sub,fun a o e=>⟨W.of_hideAll _ e,?_⟩,Nat.le_of_eq (W.hideAll_size _ _),qi e0.funs fun a ha=>W.hideAll_none _ (List.mem_append_right _ ha),e0.frf,e0.tt,e0.hok,e0.bare⟩,?_⟩
 ·cases q:H a with
  |none=>rfl
  |some u=>
   have hm:a∈trk s.heap H:=List.mem_filter.mpr ⟨List.mem_range.mpr (I.hok.lt q),by simp[q]⟩
   rw[W.hideAll_none _ (List.mem_append_left _ hm)] at e;cases e
 ·intro i x v h1 h2 h3 h4
  obtain⟨m,hn,hl⟩:=I.loc;obtain⟨u,r,l⟩:=hl i x v h1 h2 (.inr (.inl h3));rcases l with⟨k,_⟩|⟨_,c,hc,o,ho,hd⟩
  ·have k':X.env.scope.names.lookup x=some .local:=k
   rw[h3] at k';cases k'
  ·refine⟨c,u,hc,⟨o,keep c o ho (I.freeC x c hc) fun hm=>?_,hd⟩,r⟩
   rcases List.mem_cons.mp (I.OM c hm) with z|z
   ·exact I.cne x c hc z
   ·obtain⟨_,o',ho',_⟩:=I.ok.funs.mem z
    exact absurd (Nat.lt_of_lt_of_le (Heap.lt_size ho') (I.ok.cab x c h4 hc)) (Nat.lt_irrefl _)
noncomputable def Fm(X:Cx)(spf:Heap->Sp)(t:TA):TE:=fun σ H Q=>t σ H fun vs H1=>∀b',(∀a o,X.base.get? a=some o->b'.get? a=some o)->F9 X σ b'->spf b' vs H1 Q E0
section
variable{X:Cx}{k:Nat}{f:Addr}{fd:FuncData}{ps:List Str}{x:Str}{p pos:Pos}{e:Expr}{es:List Expr}{t:TA}{spf:Heap->Sp}
theorem nB(F:∀b',az X.prog X.w X.K X.mg b' CX0 k f fd ps (spf b'))(hr:eJ k X.A)(hg:Gl X x)(hm:X.mg x=some (.ref f))(hk:W.keepIn X.K (.ref f)=true)(hb:aP X.K fd ps [])(ha:PA X (e::es) t)(hdb:(x == ("__debug__":Str))=false:=by decide)(he:starEach (e::es) X.env=(false,eval e X.env)::starEach es X.env:=by rfl)(hpl:(backTo pos (starEach es X.env)).any (·.1)=false:=by rfl):
  PE X (.Call (.Name x p) (e::es) [] pos) (Fm X spf t):=.mk <| by
 intro pins s σ H Q I h;refine wpAny_Call_Name_kw (xm I hg hm ?_ hdb);refine W.callWith_K (h₀:=X.base) I.ok.mod.kin hk (thn (ha pos pins s σ H _ I h) fun us s1 ⟨vs,H1,I1,r,q⟩=>⟨I1.kIn,?_⟩) he hpl;obtain⟨b',sub,e0,cb⟩:=I1.grow;have q:=q b' sub cb;have hl:(us++[]).length=ps.length:=by rw[List.append_nil,←r.length];exact(F b').len _ _ _ _ q
 have hbb:=hb s1 us I1.kIn hl;rw[List.append_nil] at hbb;refine wpAny_call (codeAny_mono ((F b').run X.A X.stack s1 H1 ⟨us,[]⟩ us vs Q E0 hr e0 hbb r q) fun r s' hq=>?_)
 cases r with
 |error e=>exact False.elim hq
 |ok fl=>
  cases fl with
  |ret u=>exact I1.after hq
  |next=>exact False.elim hq
  |brk=>exact False.elim hq
  |cont=>exact False.elim hq
end
noncomputable def Ca(P:Program)(w:World)(K:W.Frag)(mg:Str->Option Value)(base:Heap)(N:List Str)(qual:Str)(scope:Scope)(f:Addr)(cd:Value)(cl:List (Str×Addr))(A:Around)(outer:List Env)(s:Shared)(H:Hp):Cx where
 prog:=P
 w:=w
 K:=K
 mg:=mg
 base:=base
 A:=A.deeper (W.envX qual scope s.heap.objs.size f cd cl)
 N:=N
 s₀:=s
 H₀:=H
 env:=W.envX qual scope s.heap.objs.size f cd cl
 outer:=outer
 stack:=W.envX qual scope s.heap.objs.size f cd cl::outer
 ex:=[]
 calm:=true
 fn:=fun _=>false
 pn:=[]
 xe:=fun _ _=>False
structure yW(ps cs:List Str)(sc:Scope):Prop where
 kind:sc.kind=.function
 co:sc.isCoroutine=false
 gen:sc.isGenerator=false
 nd:(ps++cs).Nodup
 par:∀x∈ps,sc.names.lookup x=some .local
 free:∀x∈cs,sc.names.lookup x=some .free
 has:∀y∈sc.names,y.2≠.cell/\(y.2=.free->y.1∈cs)
noncomputable def B9(b:Heap)(cl:List (Str×Addr))(cs:List Str)(caps:List V):Prop:=caps.length=cs.length/\(∀x c,cl.lookup x=some c->x∈cs)/\(∀x y c,cl.lookup x=some c->cl.lookup y=some c->x=y) /\
 ∀(j:Nat)(x:Str)(v:V),cs[j]?=some x->caps[j]?=some v->∃c u,cl.lookup x=some c/\b.IsCell c (some u)/\bf v u
theorem rL{α:Type}:∀ {ps:List Str} {us:List α} {i:Nat} {x:Str} {u:α},ps.Nodup->ps[i]?=some x->us[i]?=some u->(ps.zip us).reverse.lookup x=some u:=by
 intro ps
 induction ps with
 |nil=>intro us i x u _ h;simp at h
 |cons p ps ih=>
  intro us i x u nd h1 h2
  cases us with
  |nil=>simp at h2
  |cons w us=>
   obtain⟨n1,n2⟩:=List.nodup_cons.mp nd;rw[List.zip_cons_cons,List.reverse_cons,List.lookup_append]
   cases i with
   |zero=>
    simp at h1 h2;subst h1 h2
    have:(ps.zip us).reverse.lookup p=none:=by
     rw[List.lookup_eq_none_iff];intro q hq;rw[List.mem_reverse] at hq;have:=(List.of_mem_zip (a:=q.1) (b:=q.2) hq).1;simp only[beq_eq_false_iff_ne,ne_eq,bne_iff_ne];intro z;exact n1 (z ▸ this)
    rw[this];simp[List.lookup]
   |succ i=>
    rw[ih n2 (by simpa using h1) (by simpa using h2)]
    rfl
theorem MX{P:Program}{w:World}{K:W.Frag}{mg:Str->Option Value}{base:Heap}{H₀:Hp}{k:Nat}{f:Addr}{q:Str}{params:Arguments}{body:Expr}{scope:Scope}{cl:List (Str×Addr)}{ps cs:List Str}{caps:List V}{sp:Sp}(L:r8 H₀ f q params body scope cl)(S:yW ps cs scope)(C:B9 base cl cs caps)(hb:∀(pm:Value)(c:Addr)(ctv:Value)(us:List Value),us.length=ps.length->bindArgs (W.kla_fn "<lambda>" q params body scope cl pm (.ref c) ctv) ⟨us,[]⟩=pure (ps.zip us))(len:∀vs H Q E,sp vs H Q E->vs.length=ps.length)
  (hbody:∀(cd:Value)(A:Around)(outer:List Env)(s:Shared)(H:Hp)(vs:List V)(Q:VK)(E:XK),eJ k (A.deeper (W.envX q scope s.heap.objs.size f cd cl))->sp vs H Q E ->
   ∃t,PE (Ca P w K mg base (ps++cs) q scope f cd cl A outer s H) body t/\t ((vs++caps).map some) H Q):Clo P w K mg base H₀ (k+1) f ps.length sp:=by
 obtain⟨pm,c,ctv,oc,vc,tc,u1,u2,e1,e2,e3,e4⟩:=L;refine⟨.inl ⟨_,_,_,_,_,e1⟩,len,fun A outer s H us vs Q E hr e0 hF r hsp=>?_⟩;have hl:=len _ _ _ _ hsp;have hlu:us.length=ps.length:=r.length.symm.trans hl;have f1:=(e0.hok _ _ (hF _ _ _ e1)).1;have f2:=(e0.hok _ _ (hF _ _ _ e2)).1;have lim:s.heap.NoLimit:=e0.mod.nolimit.keeps fun b o e=>(e0.bs b o e).1;have nps:ps.Nodup:=S.nd.sublist (List.sublist_append_left _ _)
 refine W.kla_callFunE hr.depth f1 rfl S.co S.gen rfl ⟨c,oc,vc,tc,rfl,f2,e3,e4⟩ ?_;rw[hb pm c ctv us hlu];refine wpAny_pure (wpAny_newFunctionEnv (fun y hy=>(S.has y hy).1) (fun y hy=>S.par y.1 (List.of_mem_zip (a:=y.1) (b:=y.2) hy).1) (fun h₁ hns hsb=>⟨lim.fresh _ hsb,?_⟩) S.kind);show codeAny _ _ (.expr body (W.envX q scope s.heap.objs.size f (.ref c) cl)) _ _;have hk₁:∀b o,s.heap.get? b=some o->h₁.get? b=some o:=fun b o e=>hsb.extBut b o (Nat.ne_of_lt (Heap.lt_size e)) (Heap.get?_push_of_some _ e)
 obtain⟨c1,c2,c3,c4⟩:=C;obtain⟨t,ht,hq⟩:=hbody (.ref c) A outer s H vs Q E (hr.deeper _) hsp
 have capC:∀x c,cl.lookup x=some c->∃v,base.IsCell c v:=fun x c e=>by
  obtain⟨j,hj⟩:=List.getElem?_of_mem (c2 x c e);have hj2:j<caps.length:=by rw[c1];exact(List.getElem?_eq_some_iff.mp hj).1
  obtain⟨c',u,z1,z2,_⟩:=c4 j x caps[j] hj (List.getElem?_eq_getElem hj2);rw[e] at z1;cases z1;exact⟨_,z2⟩
 have noA:∀b:Addr,b ∉ (Ca P w K mg base (ps++cs) q scope f (.ref c) cl A outer s H).ex:=fun b z=>absurd (show b∈([]:List Addr) from z) (by simp)
 have I:Inv (Ca P w K mg base (ps++cs) q scope f (.ref c) cl A outer s H) [] ((vs++caps).map some) H { s with heap:=h₁,toks:=s.toks+(ps.zip us).length }:=by
  refine⟨⟨e0.mod,S.kind,rfl,rfl,Nat.le_refl _,c3,fun y hy=>?_,fun y c h=>(nomatch h),fun _=>hr.hd,Around.frames_deeper e0.frames,.inr ⟨rfl,rfl⟩,fun b z=>absurd z (noA b),e0.bs,e0.bsz,fun b _ _=>noA b,fun b z=>absurd z (noA b),e0.funs,e0.frf,e0.tt⟩,
   rfl,e0.bare,Un.kept hk₁,⟨_,hns,fun i y v h1 h2 h3=>?_⟩,fun y c h=>?_,e0.hok.fresh (Nat.le_refl _),fun y c h=>?_,fun p hp=>absurd (show p∈([]:List (Addr×Obj)) from hp) (by simp),e0.hok.kept hk₁,?_⟩
  ·have hy:scope.names.lookup y=some .cell\/scope.names.lookup y=some .free:=hy
   rcases hy with hy|hy
   ·exact absurd rfl (S.has _ (PySem.mem_of_lookup hy)).1
   ·have hm:=(S.has _ (PySem.mem_of_lookup hy)).2 rfl
    obtain⟨j,hj⟩:=List.getElem?_of_mem hm;have hj2:j<caps.length:=by rw[c1];exact(List.getElem?_eq_some_iff.mp hj).1
    obtain⟨c',u,z1,z2,_⟩:=c4 j y caps[j] hj (List.getElem?_eq_getElem hj2);exact⟨c',z1⟩
  ·have h1:(ps++cs)[i]?=some y:=h1
   rw[List.getElem?_map] at h2
   cases hv:(vs++caps)[i]? with
   |none=>rw[hv] at h2;cases h2
   |some v'=>
    rw[hv] at h2;cases h2;rcases Nat.lt_or_ge i ps.length with hi|hi
    ·rw[List.getElem?_append_left hi] at h1
     rw[List.getElem?_append_left (by rw[hl];exact hi)] at hv
     obtain⟨u,hu,ru⟩:=r.get hv;exact⟨u,ru,.inl ⟨S.par y (List.mem_of_getElem? h1),rL nps h1 hu⟩⟩
    ·rw[List.getElem?_append_right hi] at h1
     rw[List.getElem?_append_right (by rw[hl];exact hi),hl] at hv
     obtain⟨c',u,z1,z2,z3⟩:=c4 _ y v h1 hv;refine⟨u,z3,.inr ⟨.inr (S.free y (List.mem_of_getElem? h1)),c',z1,?_⟩⟩;obtain⟨o,ho,hd⟩:=z2;exact⟨o,hk₁ _ _ (e0.bs _ _ ho).1,hd⟩
  ·obtain⟨v,o,ho,hd⟩:=capC y c h
   exact⟨v,o,hk₁ _ _ (e0.bs _ _ ho).1,hd⟩
  ·obtain⟨v,o,ho,hd⟩:=capC y c h
   exact(e0.bs _ _ ho).2
  ·show ((vs++caps).map some).length=(ps++cs).length
   rw[List.length_map,List.length_append,List.length_append,hl,c1]
 refine W.kla_codeExpr (wpAny_mono (ht [] _ _ H _ I hq) (fun v s' ⟨v',H',J,rv,q'⟩=>?_) fun e s' hs=>False.elim hs);exact⟨v',H',J.os,J.bare,J.base,J.hok,rv,q'⟩
structure vK(K:W.Frag)(x qual:Str)(st:Stmt)(f:Addr)(fd:FuncData)(c p:Addr):Prop where
 ex:∃(oc:Value)(od:Option Addr)(kV doc pm:Value)(an:Option Addr)(ct:Value) (osl:Array (Option Value)),
  fd=W.fnOf x qual (defArgs st) (defBody st) (defScope st) .none kV doc pm an (.ref c) ct/\K.lookup f=some ⟨oc,od,.func fd,osl⟩/\W.codeIn K (.ref c) qual=true
 tab:(x,c,p)∈km K
 hd:wK K c p=true
theorem vK.ok{P:Program}{w:World}{K:W.Frag}{mg:Str->Option Value}{base:Heap}{x qual:Str}{st:Stmt}{f c p:Addr}{fd:FuncData}{N ps:List Str}{k:Nat}{sp:Sp}(F:vK K x qual st f fd c p)(S:aA N ps (defScope st))(len:∀vs H Q E,sp vs H Q E->vs.length=ps.length)
  (hbody:∀(A:Around)(outer:List Env)(s:Shared)(H:Hp)(vs:List V)(Q:VK)(E:XK),eJ k (A.deeper (envOfC qual (defScope st) s.heap.objs.size f (.ref c)))->sp vs H Q E ->
   ∃t,PSs (tZ CX0 P w K mg base N qual (defScope st) f (.ref c) A outer s H E).nox (defBody st) t/\t { nx:=fun _ H'=>Q .non H',rt:=Q } (start N vs) H):az P w K mg base CX0 (k+1) f fd ps sp:=by
 obtain⟨oc,od,kV,doc,pm,an,ct,osl,rfl,lk,hcd⟩:=F.ex;refine J3 lk hcd S len fun A outer s H vs Q E hr hsp=>?_;obtain⟨t,h,q⟩:=hbody A outer s H vs Q E hr hsp;exact⟨t,h.nox,q⟩
theorem qC{K:W.Frag}{x qual:Str}{st:Stmt}{f c p:Addr}{oc:Value}{od an:Option Addr}{osl:Array (Option Value)}{kV doc pm cdv ct:Value}(l:K.lookup f=some ⟨oc,od,.func (W.fnOf x qual (defArgs st) (defBody st) (defScope st) .none kV doc pm an cdv ct),osl⟩)(hc:W.codeIn K cdv qual=true)(e:cdv=.ref c)(t:(km K).contains (x,c,p)=true)(h:wK K c p=true):vK K x qual st f (W.fnOf x qual (defArgs st) (defBody st) (defScope st) .none kV doc pm an cdv ct) c p:=by
 subst e;exact⟨⟨oc,od,kV,doc,pm,an,ct,osl,rfl,l,hc⟩,by simpa using t,h⟩
noncomputable def ndB:List Nat->Bool
 | []=>true
 |a::r=>!(r.contains a) && ndB r
theorem BK{α:Type}(f:α->Nat):∀ {l:List α} {q:α},ndB (l.map f)=true->q∈l->l.find? (fun t=>f t == f q)=some q
 | [],_,_,m=>nomatch m
 |a::r,q,h,m=>by
  rw[List.map_cons,ndB,Bool.and_eq_true] at h;obtain⟨h1,h2⟩:=h;rcases List.mem_cons.mp m with e|m
  ·subst e
   rw[List.find?_cons_of_pos (by simp)]
  ·have ne:(f a == f q)=false:=by
    cases z:f a == f q with
    |false=>rfl
    |true=>
     have z':f a=f q:=eq_of_beq z
     have:(r.map f).contains (f a)=true:=by
      rw[z'];simpa using⟨q,m,rfl⟩
     rw[this] at h1;cases h1
   rw[List.find?_cons_of_neg (by rw[ne];simp)]
   exact BK f h2 m
noncomputable def tL(K:W.Frag)(b:Addr):Option HO:=((km K).find? fun t=>t.2.2 == b).map fun t=>HO.tbl #[.str (t.1 ++ ".<locals>." ++ "<lambda>") 0]
theorem rg{K:W.Frag}{b:Addr}{o:HO}(e:tL K b=some o):∃t∈km K,t.2.2=b/\o=HO.tbl #[.str (t.1 ++ ".<locals>." ++ "<lambda>") 0]:=by
 unfold tL at e
 cases q:(km K).find? (fun t=>t.2.2 == b) with
 |none=>rw[q] at e;cases e
 |some t=>
  rw[q] at e;cases e;have:=List.find?_some q;exact⟨t,List.mem_of_find?_eq_some q,eq_of_beq this,rfl⟩
noncomputable def G6(K:W.Frag)(names:List Str):Bool:=W.noTabs K && ndB ((km K).map fun t=>t.2.2) && (km K).all fun t=>names.contains t.1
theorem JE{K:W.Frag}{t:Str×Addr×Addr}(h:t∈km K):W.tabIn K t.1=some t.2:=by
 unfold km at h;split at h
 ·obtain⟨e,_,q⟩:=List.mem_filterMap.mp h
  split at q
  ·rename_i x tk hx
   cases z:W.tabIn K x with
   |none=>rw[z] at q;cases q
   |some r=>rw[z] at q;cases q;exact z
  ·cases q
 ·cases h
theorem Ef{P:Program}{w:World}{K:W.Frag}{mg mb:Str->Option Value}{CX:CXT}{k:Nat}{fa a:Addr}{fd:FuncData}{x:Str}{sp:Sp}{s₁:Shared}{vs:List Value}{ns:List Int}(KX:K.In s₁.heap)(hns:s₁.heap.Ns mainGlobals mg)(hb:s₁.heap.Ns builtinsNs mb)(hbb:∀x:Str,x≠"__name__"->mb x=bootBuiltins x)(hlim:s₁.heap.NoLimit)(hg:s₁.gens=#[])(hbm:∃bm ob,mg "__builtins__"=some (.ref bm)/\bm≠builtinsNs/\s₁.heap.get? bm=some ob/\ob.cls=.type "module"/\ob.dict=some builtinsNs/\ob.data=.plain)(hT:∀t∈km K,W.CodeHd s₁.heap t.2.1 t.2.2/\s₁.heap.get? t.2.2=some (W.tabObj #[]))(nt:W.noTabs K=true)(nd:ndB ((km K).map fun t=>t.2.2)=true)(ha:s₁.heap.get? a=some { cls:=.type "list",data:=.seq vs.toArray })(hi:IntsAre vs ns)(hl:ns.length<=sizeLine)(hr:eJ k callerA)(F:∀base:Heap,az P w K mg base CX k fa fd [x] sp)(hbind:∀(s:Shared)(u:Value),BindsTo s fd ⟨[u],[]⟩ [(x,u)])(hsp:∀H:Hp,SqL K H a (ns.map V.int)->sp [.ref a] H (fun v _=>v=.bl true) fun _ _ _=>False)(hCX:∀H e s',CX [] H s₁ (fun _ _ _=>False) e s'->False):
  codeAny (model P w) callerA (.call (.ref fa) ⟨[.ref a],[]⟩) (fun r s'=>r=.ok (.ret (.bool true))/\OldK s₁.heap s'.heap/\s'.os=s₁.os/\AllBare s'.gens) s₁:=by
 have rv:=vj hi;have lenV:=hi.length
 have tabNot:∀b o,K.lookup b=some o->tL K b=none:=fun b o e=>by
  cases q:tL K b with
  |none=>rfl
  |some u=>
   obtain⟨t,ht,rfl,_⟩:=rg q;have e1:=(hT t ht).2;rw[KX _ _ e] at e1;cases e1;have h2:=List.all_eq_true.mp nt _ (W.mem_of_lookupK e);exact absurd (show false=true from h2) Bool.false_ne_true
 have tabA:tL K a=none:=by
  cases q:tL K a with
  |none=>rfl
  |some u=>
   obtain⟨t,ht,e,_⟩:=rg q;have e1:=(hT t ht).2;rw[e,ha] at e1;cases e1
 have core:∀H:Hp,(∀b,b≠a->H b=tL K b)->(H a=none\/(K.lookup a=none/\H a=some (.frz { cls:=.type "list",data:=.seq vs.toArray } (.lst (ns.map V.int)))))->SqL K H a (ns.map V.int) ->
   codeAny (model P w) callerA (.call (.ref fa) ⟨[.ref a],[]⟩) (fun r s'=>r=.ok (.ret (.bool true))/\OldK s₁.heap s'.heap/\s'.os=s₁.os/\AllBare s'.gens) s₁:=by
  intro H hH hA hS
  have what:∀b u,H b=some u->(b=a/\K.lookup a=none/\u=.frz { cls:=.type "list",data:=.seq vs.toArray } (.lst (ns.map V.int)))\/∃t∈km K,t.2.2=b/\u=HO.tbl #[.str (t.1 ++ ".<locals>." ++ "<lambda>") 0]:=fun b u e=>by
   by_cases hb:b=a
   ·subst hb
    rcases hA with z|⟨z1,z2⟩
    ·rw[z] at e;cases e
    ·rw[z2] at e;cases e
     exact .inl ⟨rfl,z1,rfl⟩
   ·rw[hH b hb] at e
    exact .inr (rg e)
  have hok:HOk P w H s₁.heap:=fun b u e=>by
   rcases what b u e with⟨rfl,_,rfl⟩|⟨t,ht,rfl,rfl⟩
   ·exact⟨ha,by rw[List.length_map];exact hl,vs,_,rv,ha⟩
   ·exact⟨#[],(hT t ht).2,trivial,fun pos cv q=>by cases q⟩
  have tt:Ey K H:=fun t ht=>by
   refine⟨#[.str (t.1 ++ ".<locals>." ++ "<lambda>") 0],?_,rfl⟩
   have ne:t.2.2≠a:=fun z=>by
    have e1:=(hT t ht).2;rw[z,ha] at e1;cases e1
   rw[hH _ ne];unfold tL;rw[BK (fun t:Str×Addr×Addr=>t.2.2) nd ht];rfl
  have base_of:∀ {b:Addr} {o:Obj},s₁.heap.get? b=some o->H b=none->(w9 s₁.heap H).get? b=some o:=fun e n=>FB e n
  have freeB:∀ {b:Addr} {o:Obj},s₁.heap.get? b=some o->o.cls≠.none->o.cls≠.type "list"->H b=none:=fun {b o} e c1 c2=>by
   cases q:H b with
   |none=>rfl
   |some u=>
    rcases what b u q with⟨rfl,_,_⟩|⟨t,ht,rfl,_⟩
    ·rw[ha] at e;cases e;exact absurd rfl c2
    ·rw[(hT t ht).2] at e;cases e;exact absurd rfl c1
  have noD:∀ {b:Addr} {o:Obj} {es:Array DictEntry} {ep:Nat},s₁.heap.get? b=some o->o.data=.dict es ep->H b=none:=fun {b o es ep} e d=>by
   cases q:H b with
   |none=>rfl
   |some u=>
    rcases what b u q with⟨rfl,_,_⟩|⟨t,ht,rfl,_⟩
    ·rw[ha] at e;cases e;cases d
    ·rw[(hT t ht).2] at e;cases e;cases d
  have nsK:∀ {b:Addr} {m:Str->Option Value},s₁.heap.Ns b m->(w9 s₁.heap H).Ns b m:=fun {b m} ⟨o,es,ep,e,d,r⟩=>⟨o,es,ep,base_of e (noD e d),d,r⟩
  have hKb : K.In (w9 s₁.heap H):=fun b o e=>base_of (KX b o e) (by
   cases q:H b with
   |none=>rfl
   |some u=>
    by_cases hb:b=a
    ·subst hb
     rcases hA with z|⟨z1,_⟩
     ·rw[z] at q;cases q
     ·rw[e] at z1;cases z1
    ·rw[hH b hb,tabNot b o e] at q;cases q)
  have hM:Mod K mg (w9 s₁.heap H):=⟨hKb,nsK hns,⟨mb,nsK hb,hbb⟩,let ⟨mc,h1,h2⟩:=hlim;⟨mc,nsK h1,h2⟩,
   let ⟨bm,ob,b1,b2,b3,b4,b5,b6⟩:=hbm;⟨bm,ob,b1,b2,base_of b3 (freeB b3 (by rw[b4];nofun) (by rw[b4];decide)),b4,b5,b6⟩⟩
  have e0:zX P w K mg (w9 s₁.heap H) callerA [] s₁ H:=⟨rfl,hM,fun b o e=>Io e,Nat.le_of_eq (Df _ _),trivial,fun b hb=>absurd (show b∈([]:List Addr) from hb) (by simp),tt,hok,.of_eq hg⟩
  refine codeAny_mono ((F _).run callerA [] s₁ H ⟨[.ref a],[]⟩ [.ref a] [.ref a] _ _ hr e0 (hbind s₁ (.ref a)) (.cons rfl .nil) (hsp H hS)) fun r s' h=>?_
  cases r with
  |error e=>exact(hCX H e s' h).elim
  |ok fl=>
   cases fl with
   |next=>exact False.elim h
   |brk=>exact False.elim h
   |cont=>exact False.elim h
   |ret u=>
    obtain⟨v,H',os,bare,un,hok',r',q⟩:=h;have q':v=.bl true:=q;subst q';obtain rfl:u=Value.bool true:=r';refine⟨rfl,⟨fun b o e=>?_,fun b o e=>un.there b o e (by simp)⟩,os,bare⟩
    cases q:H b with
    |none=>exact .inl (un.keep b o e q (by intro z;exact absurd (show b∈([]:List Addr) from z) (by simp)) (by simp))
    |some u=>
     rcases what b u q with⟨rfl,_,rfl⟩|⟨t,ht,rfl,rfl⟩
     ·have z2:=un.frzs _ _ _ q
      obtain⟨e1,_⟩:=hok _ _ q;obtain⟨e2,_⟩:=hok' _ _ z2;rw[e] at e1;cases e1;exact .inl e2
     ·obtain⟨more,z2⟩:=un.tbls _ _ q
      obtain⟨qs,e2,_⟩:=hok' _ _ z2;have e1:=(hT t ht).2;rw[e] at e1;obtain rfl:=Option.some.inj e1;exact .inr (.inl ⟨((hT t ht).1.tab (hT t ht).2).isCodeTable,rfl,#[],qs,rfl,by rw[Array.empty_append];exact e2⟩)
 cases hk:K.lookup a with
 |some o=>
  have e:=KX a o hk;rw[ha] at e;cases e;exact core (fun b=>tL K b) (fun _ _=>rfl) (.inl tabA) (.inr ⟨_,vs.toArray,_,hk,rfl,rfl,rfl,by rw[List.size_toArray,lenV];exact hl,by simpa using rv⟩)
 |none=>
  refine core (fun b=>if b=a then some (.frz { cls:=.type "list",data:=.seq vs.toArray } (.lst (ns.map V.int))) else tL K b) (fun b hb=>if_neg hb) (.inr ⟨hk,if_pos rfl⟩) (.inl (.inr ⟨_,if_pos rfl⟩))
theorem E8{l:W.OpenLaw}{n k:Nat}{q:Program}{loose:List Str}{XP:(Str->Option Value)->Heap->Prop}{YP:World->Heap->Prop}{d:DefRec}{K:Params->W.Frag}{CX:CXT}{sp:W.Frag->Sp}{x:Str}(hn:l.most=some n)(hn2:n<=sizeLine)(hdf:d.params.defaults=[])(hr:eJ k callerA)(hY:∀(w:World)(h:Heap),YP w h->(K w.params).In h)(tabs:∀w:World,G6 (K w.params) ((recsOf q).map (·.name))=true)
  (F:∀(w:World)(mg:Str->Option Value)(fa:Addr)(h:Heap),(K w.params).In h->h.Ns mainGlobals mg->mg d.name=some (.ref fa) ->
   ∃fd:FuncData,(∀(s:Shared)(u:Value),BindsTo s fd ⟨[u],[]⟩ [(x,u)])/\∀base:Heap,az l.prog w (K w.params) mg base CX k fa fd [x] (sp (K w.params)))
  (hsp:∀(K:W.Frag)(H:Hp)(a:Addr)(ns:List Int),ns.length<=n->NN H->SqL K H a (ns.map V.int)->sp K [.ref a] H (fun v _=>v=.bl true) fun _ _ _=>False)
  (hCX:∀(H:Hp)(s:Shared)(e:Value)(s':Shared),CX [] H s (fun _ _ _=>False) e s'->False) :
  W.WalkO q loose XP YP l.row.toRowW d [] (fun f vs=>PySem.call f vs):=by
 refine Att.zB hn hdf fun w s₀ s₁ mg mb fa o pm cd doc a vs ns G Y ho hd hcd hmg hobj hints hlen hg=>?_;have KX:=hY w _ Y;have tb:=tabs w;unfold G6 at tb;rw[Bool.and_eq_true,Bool.and_eq_true] at tb;obtain⟨⟨t1,t2⟩,t3⟩:=tb;obtain⟨fd,hb,hF⟩:=F w mg fa _ KX G.T.g hmg;refine Ef KX G.T.g G.T.b G.T.builtins G.T.nolimit hg G.T.bmain (fun t ht=>?_) t1 t2 hobj hints (Nat.le_trans hlen hn2) hr hF hb (fun H hS=>hsp _ H a ns hlen trivial hS) fun H e s'=>hCX H s₁ e s'
 have hc:=List.all_eq_true.mp t3 t ht;have hm:t.1∈(recsOf q).map (·.name):=by simpa using hc
 obtain⟨r,hr1,hr2⟩:=List.mem_map.mp hm
 cases z:(recsOf q).find? (fun e=>e.name == t.1) with
 |none=>
  have:=List.find?_eq_none.mp z r hr1;rw[hr2] at this;simp at this
 |some d'=>exact W.tab_of G.T KX z (JE ht)
end L2
namespace L2
open PySem PySem.Spec PySem.Calls PyProof.Rows
open AutoSeq1 (wpAny_loadPart')
section
variable{prog:Program}{w:World}{A:Around}{E:Value->Shared->Prop}{S:Shared}
theorem qX{j t:Addr}{k:Nat}{its:Array Value}{v:Value}{Q:Value->Shared->Prop}(hj:S.heap.IsTupleIter j t k)(ht:S.heap.IsTuple t its)(hv:its[k]?=some v)(hQ:∀h1,h1.IsTupleIter j t (k+1)->Heap.SameBut j S.heap h1->Q v { S with heap:=h1 }):wpAny (model prog w) A (Builtin.SmallTypes.nextOf (.ref j)) Q E S:=by
 obtain⟨oj,hoj,hcj,hdj⟩:=id hj;obtain⟨ot,hot,_,nt,hdt⟩:=ht;unfold Builtin.SmallTypes.nextOf;refine wpAny_bind (wpAny_callSpecial?_slot (name:=Str.ofString "__next__") hj.typeIs F.slot_tuple_iterator_next (wpAny_call_entry F.slot_tuple_iterator_next hj.typeIs F.entry_tuple_iterator_next ?_ (F.args_tuple_iterator_next_1 _)));show wpAny _ _ (field (.ref j) 0 >>= _) _ _ S;refine wpAny_bind (wpAny_field hoj hdj (x:=.ref t) rfl ?_)
 show wpAny _ _ (if (Value.ref t == Value.none)=true then _ else _) _ _ S
 rw[if_neg (show ¬ (Value.ref t == Value.none)=true by intro z;cases z)]
 show wpAny _ _ (field (.ref j) 1 >>= _) _ _ S;refine wpAny_bind (wpAny_field hoj hdj (x:=.int k 0) rfl ?_);show wpAny _ _ (seqItems? (.ref t) >>= _) _ _ S;refine wpAny_bind (wpAny_seqItems hot hdt ?_);simp only[Int.toNat_natCast,hv];refine wpAny_bind (wpAny_setField hoj hdj (by simp) (wpAny_pure ⟨v,rfl,wpAny_pure (hQ _ ?_ (Heap.SameBut.update ..))⟩))
 refine⟨_,Heap.get?_update_self _ hoj (Obj.isFreed_of_fields (Obj.data_mapFields hdj _)),(Obj.cls_mapFields ..).trans hcj,?_⟩;rw[Obj.data_mapFields hdj];simp[rawInt]
theorem vg{j t:Addr}{k:Nat}{its:Array Value}{Q:Value->Shared->Prop}(hh:A.handled=none)(hj:S.heap.IsTupleIter j t k)(ht:S.heap.IsTuple t its)(hv:its[k]?=none)(hE:∀h1 e,Heap.ExtBut j S.heap h1->(∃o,h1.get? e=some o/\o.cls=.type "StopIteration")->E (.ref e) { S with heap:=h1 }):wpAny (model prog w) A (Builtin.SmallTypes.nextOf (.ref j)) Q E S:=by
 obtain⟨oj,hoj,hcj,hdj⟩:=id hj;obtain⟨ot,hot,_,nt,hdt⟩:=ht;unfold Builtin.SmallTypes.nextOf;refine wpAny_bind (wpAny_callSpecial?_slot (name:=Str.ofString "__next__") hj.typeIs F.slot_tuple_iterator_next (wpAny_call_entry F.slot_tuple_iterator_next hj.typeIs F.entry_tuple_iterator_next ?_ (F.args_tuple_iterator_next_1 _)));show wpAny _ _ (field (.ref j) 0 >>= _) _ _ S;refine wpAny_bind (wpAny_field hoj hdj (x:=.ref t) rfl ?_)
 show wpAny _ _ (if (Value.ref t == Value.none)=true then _ else _) _ _ S
 rw[if_neg (show ¬ (Value.ref t == Value.none)=true by intro z;cases z)]
 show wpAny _ _ (field (.ref j) 1 >>= _) _ _ S;refine wpAny_bind (wpAny_field hoj hdj (x:=.int k 0) rfl ?_);show wpAny _ _ (seqItems? (.ref t) >>= _) _ _ S;refine wpAny_bind (wpAny_seqItems hot hdt ?_);simp only[Int.toNat_natCast,hv];refine wpAny_bind (wpAny_rule (wpAny_bind (wpAny_setField hoj hdj (by simp) ?_)))
 show wpAny _ _ (newExc (Value.type "StopIteration") [] >>= _) _ _ _;refine wpAny_bind ?_;simp only[newTuple,newExc];refine wpAny_bind (wpAny_newObj_type ?_ (by size_fits))
 refine wpAny_bind (m:=firstArgMember _ _) (wpAny_of_eq (a:=Value.none) (by first|rfl|(unfold firstArgMember;rfl)) ?_)
 refine wpAny_newObj_type ?_ (hd:=by size_fits)
 unfold raiseNew;refine wpAny_bind (wpAny_handled ?_)
 first|rw[show A.in1.handled=none from hh]|rw[hh]
 refine wpAny_bind (wpAny_pure (wpAny_throw (hE _ _ ?_ ⟨_,Heap.get?_push_size _ rfl,rfl⟩)));exact((Heap.SameBut.update ..).extBut.push _).push _
theorem HA(hh:A.handled=none)(j t:Addr)(hne:t≠j)(its:Array Value):
  Draws prog w A j [j,t] its.size (fun k v=>its[k]?=some v) (fun k h=>h.IsTupleIter j t k/\h.IsTuple t its) where
 live:=fun _ _ x=>let ⟨o,ho,_⟩:=x.1;⟨o,ho⟩
 frame:=fun _ _ _ x kk=>⟨x.1.at fun o e=>kk j (by simp) o e,let ⟨o,e,r⟩:=x.2;⟨o,kk t (by simp) o e,r⟩⟩
 item:=fun k S Q E hk x hQ=>qX x.1 x.2 (v:=its[k]) (by simp[hk]) fun h1 y sb=>hQ _ h1 S.toks (by simp[hk]) ⟨y,let ⟨o,e,r⟩:=x.2;⟨o,(sb.2 t hne).trans e,r⟩⟩ sb
 done:=fun S Q E x hE=>vg hh x.1 x.2 (by simp) hE
theorem HP(hh:A.handled=none)(j l:Addr)(hne:l≠j)(its:Array Value):
  Draws prog w A j [j,l] its.size (fun k v=>its[k]?=some v) (fun k h=>h.IsListIter j l k/\h.IsList l its) where
 live:=fun _ _ x=>let ⟨o,ho,_⟩:=x.1;⟨o,ho⟩
 frame:=fun _ _ _ x kk=>⟨x.1.at fun o e=>kk j (by simp) o e,let ⟨o,e,r⟩:=x.2;⟨o,kk l (by simp) o e,r⟩⟩
 item:=fun k S Q E hk x hQ=>wpAny_nextOf_list_item x.1 x.2 (x:=its[k]) (by simp[hk]) fun h1 y sb=>hQ _ h1 S.toks (by simp[hk]) ⟨y,let ⟨o,e,r⟩:=x.2;⟨o,(sb.2 l hne).trans e,r⟩⟩ sb
 done:=fun S Q E x hE=>wpAny_nextOf_list_end hh x.1 x.2 (by simp) hE
set_option maxHeartbeats 2000000 in
theorem Eu(t:Addr)(its:Array Value):
  Meets (Builtin.«enumerate.__new__» ⟨[.type "enumerate",.ref t],[]⟩) (fun _ R S=>S.heap.IsTuple t its /\
   R (.ok (.ret (.ref (S.heap.push { cls:=.type "tuple_iterator",data:=.fields #[.ref t,.int 0 0] }).objs.size)))
    { S with heap:=(S.heap.push { cls:=.type "tuple_iterator",data:=.fields #[.ref t,.int 0 0] }).push { cls:=.type "enumerate",data:=.fields #[.none,.bool false,.ref S.heap.objs.size,rawInt 0,.none,.none] } }):=
 .of_wp fun prog w A R S h=>by
  obtain⟨hp,g,d,tk,os⟩:=S;obtain⟨⟨ot,hot,hct,nt,hdt⟩,h⟩:=h;have hsub:=sub_enumerate;have hTT:Heap.IsTuple (Shared.heap ⟨hp,g,d,tk,os⟩) t its:=⟨ot,hot,hct,nt,hdt⟩;obtain⟨c,dd,dt,sl⟩:=ot
  replace hct:c=.type "tuple":=hct
  replace hdt:dt=.seq its nt:=hdt
  subst hct hdt
  wp_walk using wpAny_loadPart' hot
  refine wpAny_stack_any fun st=>wpAny_pure ?_;split
  ·rename_i c _ _ _ _ _
   cases (c == Value.type "enumerate")<;>(wp_walk using wpAny_loadPart' hot,wpAny_pyIter_tuple hTT;exact⟨_,rfl,h⟩)
  ·wp_walk using wpAny_loadPart' hot,wpAny_pyIter_tuple hTT
   exact⟨_,rfl,h⟩
theorem Bq{t:Addr}{its:Array Value}{Q:Value->Shared->Prop}(hT:S.heap.IsTuple t its)(h:∀h1,IsEnum h1 (S.heap.objs.size+1) S.heap.objs.size 0 .none->h1.IsTupleIter S.heap.objs.size t 0->h1.objs.size=S.heap.objs.size+2->(∀b o,S.heap.get? b=some o->h1.get? b=some o)->Q (.ref (S.heap.objs.size+1)) { S with heap:=h1 }):
  wpAny (model prog w) A (call (.type "enumerate") [.ref t]) Q E S:=by
 refine callType_new F.called_enumerate (by decide) (F.typeCall_enumerate_1 _) (F.newCall_enumerate_1 _) (fun obj=>F.args_object_init_2 obj _) F.entry_enumerate_new (Eu t its) ⟨hT,?_⟩
 have hz:(S.heap.push { cls:=.type "tuple_iterator",data:=.fields #[.ref t,.int 0 0] }).objs.size=S.heap.objs.size+1:=Heap.size_push ..;show _/\_;have he:=Heap.get?_push_size (S.heap.push { cls:=.type "tuple_iterator",data:=.fields #[.ref t,.int 0 0] }) (o:={ cls:=.type "enumerate",data:=.fields #[.none,.bool false,.ref S.heap.objs.size,rawInt 0,.none,.none] }) rfl;rw[hz] at he ⊢;exact⟨⟨_,he,rfl⟩,h _ he ⟨_,Heap.get?_push_of_some _ (Heap.get?_push_size _ rfl),rfl,rfl⟩ (by rw[Heap.size_push,hz]) fun b o y=>Heap.get?_push_of_some _ (Heap.get?_push_of_some _ y)⟩
end
theorem Inv.OQ{X:Cx}{pins:List (Addr×Obj)}{σ:St}{H:Hp}{s:Shared}{h':Heap}{tk:Nat}{ch:List Addr}{T:Addr}{o:HO}(I:Inv X pins σ H s)(hch:∀b∈ch,mi X pins H b)(k:∀b ob,b ∉ ch->s.heap.get? b=some ob->h'.get? b=some ob)(hT:s.heap.objs.size<=T)(new:bV X.prog X.w (upd H T o) h' T o):Inv X pins σ (upd H T o) { s with heap:=h',toks:=tk }:=by
 have hn:=I.hok.fresh hT;have nc:∀b u,H b=some u->b ∉ ch:=fun b u e hb=>by rw[(hch b hb).1] at e;cases e
 have nT:∀b u,H b=some u->b≠T:=fun b u e=>aY e hn;have lT:∀b ob,s.heap.get? b=some ob->b≠T:=fun b ob e=>Nat.ne_of_lt (Nat.lt_of_lt_of_le (Heap.lt_size e) hT)
 refine I.step (g':=s.gens) (d':=s.drawn) (ch:=ch) (fun b hb=>?_) (fun b ob _ _ hc e _=>k b ob hc e) (fun b ob _ _ hc e _=>⟨ob.slots,k b ob hc e⟩) (fun b ob _ e n=>by rw[aF (lT b ob e)];exact n)
  (fun b ob hc e=>⟨ob,k b ob hc e⟩) (fun b xs e=>by rw[aF (nT b _ e)];exact e) (fun b ob u e=>by rw[aF (nT b _ e)];exact e) (fun b ps e=>⟨#[],by rw[aF (nT b _ e),e];simp⟩) (fun m hm=>?_) (fun b u e=>?_) I.bare
 ·obtain⟨f0,f1,f2,f3,f4,f5⟩:=hch b hb
  exact⟨f3,f1,f4,f5⟩
 ·obtain⟨ob,es,ep,ho,r⟩:=hm
  exact⟨ob,es,ep,k _ ob (fun z=>(hch _ z).2.1 rfl) ho,r⟩
 ·by_cases hb:b=T
  ·subst hb;rw[bM] at e;cases e;exact new
  ·rw[aF hb] at e
   refine(I.hok b u e).stay (fun c v hc q=>k c v ?_ q) (fun c q=>by rw[aF (nT c _ q)];exact q) (fun c xs q=>by rw[aF (nT c _ q)];exact q) fun c ob u' q=>by rw[aF (nT c _ q)];exact q
   rcases hc with rfl|hc
   ·exact nc _ _ e
   ·exact nc _ _ hc
theorem Inv.OZ{X:Cx}{pins:List (Addr×Obj)}{σ:St}{H:Hp}{s:Shared}{h':Heap}{tk:Nat}{ch:List Addr}(I:Inv X pins σ H s)(hch:∀b∈ch,mi X pins H b)(k:∀b ob,b ∉ ch->s.heap.get? b=some ob->h'.get? b=some ob):Inv X pins σ H { s with heap:=h',toks:=tk }:=by
 have nc:∀b u,H b=some u->b ∉ ch:=fun b u e hb=>by rw[(hch b hb).1] at e;cases e
 refine I.step (g':=s.gens) (d':=s.drawn) (ch:=ch) (fun b hb=>?_) (fun b ob _ _ hc e _=>k b ob hc e) (fun b ob _ _ hc e _=>⟨ob.slots,k b ob hc e⟩) (fun b ob _ e n=>n)
  (fun b ob hc e=>⟨ob,k b ob hc e⟩) (fun b xs e=>e) (fun b ob u e=>e) (fun b ps e=>⟨#[],by rw[e];simp⟩) (fun m hm=>?_) (fun b u e=>?_) I.bare
 ·obtain⟨f0,f1,f2,f3,f4,f5⟩:=hch b hb
  exact⟨f3,f1,f4,f5⟩
 ·obtain⟨ob,es,ep,ho,r⟩:=hm
  exact⟨ob,es,ep,k _ ob (fun z=>(hch _ z).2.1 rfl) ho,r⟩
 ·refine(I.hok b u e).stay (fun c v hc q=>k c v ?_ q) (fun c q=>q) (fun c xs q=>q) fun c ob u' q=>q
  rcases hc with rfl|hc
  ·exact nc _ _ e
  ·exact nc _ _ hc
end L2
namespace L2
open PySem PySem.Spec PySem.Calls PyProof.Rows
noncomputable def Ent(K:W.Frag)(a:Addr):It:=
 ⟨fun i H=>∃xs x,SqT K H a xs/\xs[i]?=some x,fun i H v H'=>∃T x,H T=none/\v=.ref T/\H'=upd H T (.tup [.int i,x])/\∀xs,SqT K H a xs->xs[i]?=some x,fun i H=>∃xs,SqT K H a xs/\xs.length=i⟩
noncomputable def Enl(K:W.Frag)(a:Addr):It:=
 ⟨fun i H=>∃xs x,SqL K H a xs/\xs[i]?=some x,fun i H v H'=>∃T x,H T=none/\v=.ref T/\H'=upd H T (.tup [.int i,x])/\∀xs,SqL K H a xs->xs[i]?=some x,fun i H=>∃xs,SqL K H a xs/\xs.length=i⟩
theorem zO{P:Program}{w:World}{K:W.Frag}{elts:List Expr}{kk:Nat}{pp:Pos}(a e it:Addr)(hne:e≠it):
  yQ P w K (.Tuple elts kk pp) (Ent K a) [e,it] e (fun i h=>(∃old,IsEnum h e it i old)/\h.IsTupleIter it a i) where
 mem:=by simp
 obj:=fun i h st b hb=>by
  obtain⟨⟨old,he⟩,o,ho,c,d⟩:=st;rcases(by simpa using hb:b=e\/b=it) with rfl|rfl
  ·exact⟨_,he,fun v z=>by cases z⟩
  ·exact⟨o,ho,fun v z=>by rw[d] at z;cases z⟩
 keep:=fun i h h' st k=>by
  obtain⟨⟨old,he⟩,hi⟩:=st;exact⟨⟨old,k e (by simp) _ he⟩,hi.at fun o q=>k it (by simp) o q⟩
 item:=by
  intro X hP hw hK hc i pins s σ H E I hf st hg;subst hP hw hK;obtain⟨xs,x,hq,hx⟩:=hg;obtain⟨its,rv,p,hz⟩:=I.tuple hq;obtain⟨u,hu,ru⟩:=rv.get hx;obtain⟨⟨old,he⟩,hi⟩:=st;have pT:s.heap.IsTuple a its.toArray:=p
  have nai:a≠it:=fun z=>by
   obtain⟨o1,e1,c1,_⟩:=hi;obtain⟨o2,e2,c2,_⟩:=pT;rw[z,e1] at e2;cases e2;rw[c1] at c2;injection c2 with z2;exact absurd z2 (by decide)
  have nae:a≠e:=fun z=>by
   obtain⟨o2,e2,c2,_⟩:=pT;rw[z,he] at e2;cases e2;injection c2 with z2;exact absurd z2 (by decide)
  have hil:i<its.toArray.size:=by
   have:=(List.getElem?_eq_some_iff.mp hu).1;simpa using this
  refine wpAny_pyNext_enum_itemD (HA (prog:=X.prog) (w:=X.w) (A:=X.A.in1) (I.ok.hd hc) it a nai its.toArray) he ⟨hi,pT⟩ hil hne (by simp[hne,Ne.symm nae]) fun v h1 tk hv hout hst' hT hsz hk=>?_
  have hvu:v=u:=by
   have:its.toArray[i]?=some u:=by simpa using hu
   rw[this] at hv;exact(Option.some.inj hv).symm
  subst hvu;refine⟨_,rfl,wpAny_letOwnedTupleGo_enum hout fun h2 he2 sb2=>?_⟩;have hes:e<s.heap.objs.size:=Heap.lt_size he;have his:it<s.heap.objs.size:=by obtain⟨_,e1,_⟩:=hi;exact Heap.lt_size e1
  have hT2:h2.get? s.heap.objs.size=some { cls:=.type "tuple",data:=.seq #[.int i tk,v] }:=(sb2.2 _ (Nat.ne_of_gt hes)).trans hT
  have k2:∀b ob,b ∉ [e,it]->s.heap.get? b=some ob->h2.get? b=some ob:=fun b ob hb q=>by
   have h1':b≠e:=fun z=>hb (by simp[z])
   exact(sb2.2 b h1').trans (hk b ob h1' (fun z=>hb (by simp[z])) q)
  have i2:h2.IsTupleIter it a (i+1):=hst'.1.at fun o q=>(sb2.2 it (Ne.symm hne)).trans q;have J:=I.OQ (h':=h2) (tk:=tk+1) (ch:=[e,it]) (T:=s.heap.objs.size) (o:=.tup [.int i,x]) hf k2 (Nat.le_refl _) ⟨(show 2<=sizeLine by decide),[.int i tk,v],.cons ⟨tk,rfl⟩ (.cons ru .nil),⟨⟨_,hT2,rfl,_,rfl⟩,_,hT2,rfl⟩⟩
  refine⟨.ref s.heap.objs.size,_,J,rfl,⟨_,x,I.hok.fresh (Nat.le_refl _),rfl,rfl,fun ys hy=>by rw[I.OL hy hq];exact hx⟩,⟨⟨_,by simpa using he2⟩,i2⟩,fun b hb=>?_⟩
  have hlt:b<s.heap.objs.size:=by
   rcases(by simpa using hb:b=e\/b=it) with rfl|rfl
   ·exact hes
   ·exact his
  rw[aF (Nat.ne_of_lt hlt)];exact(hf b hb).1
 done:=by
  intro X hP hw hK hc i pins s σ H E I hf st hg;subst hP hw hK;obtain⟨xs,hq,hx⟩:=hg;obtain⟨its,rv,p,hz⟩:=I.tuple hq;obtain⟨⟨old,he⟩,hi⟩:=st;have pT:s.heap.IsTuple a its.toArray:=p
  have nai:a≠it:=fun z=>by
   obtain⟨o1,e1,c1,_⟩:=hi;obtain⟨o2,e2,c2,_⟩:=pT;rw[z,e1] at e2;cases e2;rw[c1] at c2;injection c2 with z2;exact absurd z2 (by decide)
  have hsz:i=its.toArray.size:=by
   have:=rv.length;simp;omega
  refine wpAny_pyNext_enum_endD (HA (prog:=X.prog) (w:=X.w) (A:=X.A.in1) (I.ok.hd hc) it a nai its.toArray) he ⟨by rw[←hsz];exact hi,pT⟩ fun h1 eb=>⟨rfl,?_⟩
  obtain⟨f0,f1,f2,f3,f4,f5⟩:=hf it (by simp)
  exact I.turned (t':=s.toks) (fun b o hb q=>eb b o hb q) f0 f1 f3 f4 f5
 self:=fun A i s Q E st h=>by
  obtain⟨⟨old,he⟩,_⟩:=st;exact wpAny_pyIter_enum he h
theorem C6:bootBuiltins "enumerate"=some (.type "enumerate"):=by kernel_rfl
theorem Bg{P:Program}{w:World}{K:W.Frag}{elts:List Expr}{kk:Nat}{pp:Pos}(a e it:Addr)(hne:e≠it):
  yQ P w K (.Tuple elts kk pp) (Enl K a) [e,it] e (fun i h=>(∃old,IsEnum h e it i old)/\h.IsListIter it a i) where
 mem:=by simp
 obj:=fun i h st b hb=>by
  obtain⟨⟨old,he⟩,o,ho,c,d⟩:=st;rcases(by simpa using hb:b=e\/b=it) with rfl|rfl
  ·exact⟨_,he,fun v z=>by cases z⟩
  ·exact⟨o,ho,fun v z=>by rw[d] at z;cases z⟩
 keep:=fun i h h' st k=>by
  obtain⟨⟨old,he⟩,hi⟩:=st;exact⟨⟨old,k e (by simp) _ he⟩,hi.at fun o q=>k it (by simp) o q⟩
 item:=by
  intro X hP hw hK hc i pins s σ H E I hf st hg;subst hP hw hK;obtain⟨xs,x,hq,hx⟩:=hg;obtain⟨its,rv,p,hz⟩:=I.list hq;obtain⟨u,hu,ru⟩:=rv.get hx;obtain⟨⟨old,he⟩,hi⟩:=st;have pT:s.heap.IsList a its.toArray:=p.isList
  have nai:a≠it:=fun z=>by
   obtain⟨o1,e1,c1,_⟩:=hi;obtain⟨o2,e2,c2,_⟩:=pT;rw[z,e1] at e2;cases e2;rw[c1] at c2;injection c2 with z2;exact absurd z2 (by decide)
  have nae:a≠e:=fun z=>by
   obtain⟨o2,e2,c2,_⟩:=pT;rw[z,he] at e2;cases e2;injection c2 with z2;exact absurd z2 (by decide)
  have hil:i<its.toArray.size:=by
   have:=(List.getElem?_eq_some_iff.mp hu).1;simpa using this
  refine wpAny_pyNext_enum_itemD (HP (prog:=X.prog) (w:=X.w) (A:=X.A.in1) (I.ok.hd hc) it a nai its.toArray) he ⟨hi,pT⟩ hil hne (by simp[hne,Ne.symm nae]) fun v h1 tk hv hout hst' hT hsz hk=>?_
  have hvu:v=u:=by
   have:its.toArray[i]?=some u:=by simpa using hu
   rw[this] at hv;exact(Option.some.inj hv).symm
  subst hvu;refine⟨_,rfl,wpAny_letOwnedTupleGo_enum hout fun h2 he2 sb2=>?_⟩;have hes:e<s.heap.objs.size:=Heap.lt_size he;have his:it<s.heap.objs.size:=by obtain⟨_,e1,_⟩:=hi;exact Heap.lt_size e1
  have hT2:h2.get? s.heap.objs.size=some { cls:=.type "tuple",data:=.seq #[.int i tk,v] }:=(sb2.2 _ (Nat.ne_of_gt hes)).trans hT
  have k2:∀b ob,b ∉ [e,it]->s.heap.get? b=some ob->h2.get? b=some ob:=fun b ob hb q=>by
   have h1':b≠e:=fun z=>hb (by simp[z])
   exact(sb2.2 b h1').trans (hk b ob h1' (fun z=>hb (by simp[z])) q)
  have i2:h2.IsListIter it a (i+1):=hst'.1.at fun o q=>(sb2.2 it (Ne.symm hne)).trans q;have J:=I.OQ (h':=h2) (tk:=tk+1) (ch:=[e,it]) (T:=s.heap.objs.size) (o:=.tup [.int i,x]) hf k2 (Nat.le_refl _) ⟨(show 2<=sizeLine by decide),[.int i tk,v],.cons ⟨tk,rfl⟩ (.cons ru .nil),⟨⟨_,hT2,rfl,_,rfl⟩,_,hT2,rfl⟩⟩
  refine⟨.ref s.heap.objs.size,_,J,rfl,⟨_,x,I.hok.fresh (Nat.le_refl _),rfl,rfl,fun ys hy=>by rw[I.OO hy hq];exact hx⟩,⟨⟨_,by simpa using he2⟩,i2⟩,fun b hb=>?_⟩
  have hlt:b<s.heap.objs.size:=by
   rcases(by simpa using hb:b=e\/b=it) with rfl|rfl
   ·exact hes
   ·exact his
  rw[aF (Nat.ne_of_lt hlt)];exact(hf b hb).1
 done:=by
  intro X hP hw hK hc i pins s σ H E I hf st hg;subst hP hw hK;obtain⟨xs,hq,hx⟩:=hg;obtain⟨its,rv,p,hz⟩:=I.list hq;obtain⟨⟨old,he⟩,hi⟩:=st;have pT:s.heap.IsList a its.toArray:=p.isList
  have nai:a≠it:=fun z=>by
   obtain⟨o1,e1,c1,_⟩:=hi;obtain⟨o2,e2,c2,_⟩:=pT;rw[z,e1] at e2;cases e2;rw[c1] at c2;injection c2 with z2;exact absurd z2 (by decide)
  have hsz:i=its.toArray.size:=by
   have:=rv.length;simp;omega
  refine wpAny_pyNext_enum_endD (HP (prog:=X.prog) (w:=X.w) (A:=X.A.in1) (I.ok.hd hc) it a nai its.toArray) he ⟨by rw[←hsz];exact hi,pT⟩ fun h1 eb=>⟨rfl,?_⟩
  obtain⟨f0,f1,f2,f3,f4,f5⟩:=hf it (by simp)
  exact I.turned (t':=s.toks) (fun b o hb q=>eb b o hb q) f0 f1 f3 f4 f5
 self:=fun A i s Q E st h=>by
  obtain⟨⟨old,he⟩,_⟩:=st;exact wpAny_pyIter_enum he h
structure Src(prog:Program)(w:World)(A:Around)(j q:Addr)(its:Array Value)(It1:Nat->Heap->Prop)(Sq1:Heap->Prop):Prop where
 item:∀(n:Nat)(v:Value)(S:Shared)(Q:Value->Shared->Prop)(E:Value->Shared->Prop),It1 n S.heap->Sq1 S.heap->its[n]?=some v->(∀h1,It1 (n+1) h1->Heap.SameBut j S.heap h1->Q v { S with heap:=h1 })->wpAny (model prog w) A (Builtin.SmallTypes.nextOf (.ref j)) Q E S
 stop:∀(n:Nat)(S:Shared)(Q:Value->Shared->Prop)(E:Value->Shared->Prop),It1 n S.heap->Sq1 S.heap->its[n]?=none->(∀h1 e,Heap.ExtBut j S.heap h1->(∃o,h1.get? e=some o/\o.cls=.type "StopIteration")->E (.ref e) { S with heap:=h1 })->wpAny (model prog w) A (Builtin.SmallTypes.nextOf (.ref j)) Q E S
 mv:∀(n:Nat)(h h1:Heap),It1 n h->(∀o,h.get? j=some o->h1.get? j=some o)->It1 n h1
 sv:∀(h h1:Heap),Sq1 h->(∀o,h.get? q=some o->h1.get? q=some o)->Sq1 h1
 live:∀(n:Nat)(h:Heap),It1 n h->∃o vs,h.get? j=some o/\o.data=.fields vs
theorem Of{prog:Program}{w:World}{A:Around}(hh:A.handled=none)(j q:Addr)(its:Array Value):Src prog w A j q its (fun n h=>h.IsTupleIter j q n) (fun h=>h.IsTuple q its):=
 ⟨fun n v S Q E a b c d=>qX a b c d,fun n S Q E a b c d=>vg hh a b c d,fun n h h1 a k=>a.at k,fun h h1 a k=>let ⟨o,e,r⟩:=a;⟨o,k o e,r⟩,fun n h a=>let ⟨o,e,_,d⟩:=a;⟨o,_,e,d⟩⟩
theorem Os{prog:Program}{w:World}{A:Around}(hh:A.handled=none)(j q:Addr)(its:Array Value):Src prog w A j q its (fun n h=>h.IsListIter j q n) (fun h=>h.IsList q its):=
 ⟨fun n v S Q E a b c d=>wpAny_nextOf_list_item a b c d,fun n S Q E a b c d=>wpAny_nextOf_list_end hh a b c d,fun n h h1 a k=>a.at k,fun h h1 a k=>let ⟨o,e,r⟩:=a;⟨o,k o e,r⟩,fun n h a=>let ⟨o,e,_,d⟩:=a;⟨o,_,e,d⟩⟩
section
variable{prog:Program}{w:World}{A:Around}{E:Value->Shared->Prop}{S:Shared}{z u o i j p q:Addr}{m n:Nat}{xs ys:Array Value}{x y a b:Value}{Ii Ij:Nat->Heap->Prop}{Sp Sq:Heap->Prop}
theorem Dg{Q:Value->Shared->Prop}(D:ZipApart z u o i j p q)(Gi:Src prog w A i p xs Ii Sp)(Gj:Src prog w A j q ys Ij Sq)(hz:IsZip S.heap z u o .none)(hu:IsPair S.heap u (.ref i) (.ref j))(ho:IsPair S.heap o a b)(hi:Ii m S.heap)(hj:Ij n S.heap)(hp:Sp S.heap)(hq:Sq S.heap)(hx:xs[m]?=some x)(hy:ys[n]?=some y)(hQ:∀h1,IsZip h1 z u o (rawInt S.heap.objs.size)->IsPair h1 o x y->Ii (m+1) h1->Ij (n+1) h1->IsPair h1 S.heap.objs.size x y->(∀c ob,c≠z->c≠o->c≠i->c≠j->S.heap.get? c=some ob->h1.get? c=some ob)->Q (.ref S.heap.objs.size) { S with heap:=h1 }):
  wpAny (model prog w) A (Builtin.«zip.__next__» ⟨[.ref z],[]⟩) (fun fin s1=>∃v,fin=.done (.ret v)/\Q v s1) E S:=by
 show wpAny _ _ (field (.ref z) 2 >>= _) _ _ S;refine wpAny_bind (wpAny_field hz (x:=.bool false) rfl rfl ?_);show wpAny _ _ (field (.ref z) 3 >>= _) _ _ S;refine wpAny_bind (wpAny_field hz (x:=.ref u) rfl rfl ?_);refine wpAny_bind (wpAny_seqItems hu rfl ?_);show wpAny _ _ (Builtin.SmallTypes.ownedTupleIsFree (.ref z) >>= _) _ _ S;refine wpAny_bind ?_;unfold Builtin.SmallTypes.ownedTupleIsFree;refine wpAny_bind (wpAny_field hz (x:=.none) rfl rfl (wpAny_pure ?_))
 simp only[if_true];refine wpAny_bind (wpAny_rule (wpAny_bind (wpAny_field hz (x:=.ref o) rfl rfl ?_)));refine wpAny_bind (wpAny_setField_rec hz (by simp) fun k1 z1 b1=>?_)
 replace z1:IsZip k1 z u o .ellipsis:=z1
 refine wpAny_bind ?_;simp only[List.zipIdx_cons,List.forIn_cons,List.zipIdx_nil,List.forIn_nil];refine wpAny_bind (wpAny_bind (wpAny_onRaise ?_));show wpAny _ _ (Builtin.SmallTypes.nextOf (.ref i) >>= _) _ _ _;refine wpAny_bind (Gi.item m x _ _ _ (Gi.mv _ _ _ hi fun ob e=>b1.extBut _ _ D.i1z e) (Gi.sv _ _ hp fun ob e=>b1.extBut _ _ D.l1z e) hx fun k2 i2 b2=>wpAny_pure ?_);have o2:IsPair k2 o a b:=b2.extBut _ _ D.TOi1 (b1.extBut _ _ D.TOz ho)
 refine wpAny_bind (wpAny_seqItems o2 rfl ?_);refine wpAny_bind (wpAny_updateSeq_pair o2 fun k3 o3 b3=>?_)
 replace o3:IsPair k3 o x b:=o3
 refine wpAny_bind (wpAny_letGo (wpAny_pure ?_));refine wpAny_bind (wpAny_bind (wpAny_onRaise ?_));show wpAny _ _ (Builtin.SmallTypes.nextOf (.ref j) >>= _) _ _ _;refine wpAny_bind (Gj.item n y _ _ _ (Gj.mv _ _ _ hj fun ob e=>b3.extBut _ _ D.TOi2.symm (b2.extBut _ _ D.i12.symm (b1.extBut _ _ D.i2z e))) (Gj.sv _ _ hq fun ob e=>b3.extBut _ _ D.l2TO (b2.extBut _ _ D.l2i1 (b1.extBut _ _ D.l2z e))) hy fun k4 j4 b4=>wpAny_pure ?_)
 have o4:IsPair k4 o x b:=b4.extBut _ _ D.TOi2 o3;refine wpAny_bind (wpAny_seqItems o4 rfl ?_);refine wpAny_bind (wpAny_updateSeq_pair o4 fun k5 o5 b5=>?_)
 replace o5:IsPair k5 o x y:=o5
 refine wpAny_bind (wpAny_letGo (wpAny_pure (wpAny_pure ?_)));refine wpAny_bind (wpAny_seqItems o5 rfl (wpAny_bind (wpAny_newTuple ?_)));have hsz:k5.objs.size=S.heap.objs.size:=by rw[b5.1,b4.1,b3.1,b2.1,b1.1]
 have z5:IsZip k5 z u o .ellipsis:=b5.extBut _ _ D.TOz.symm (b4.extBut _ _ D.i2z.symm (b3.extBut _ _ D.TOz.symm (b2.extBut _ _ D.i1z.symm z1)));have all5:∀c ob,c≠z->c≠o->c≠i->c≠j->S.heap.get? c=some ob->k5.get? c=some ob:=fun c ob c1 c2 c3 c4 e=>b5.extBut _ _ c2 (b4.extBut _ _ c4 (b3.extBut _ _ c2 (b2.extBut _ _ c3 (b1.extBut _ _ c1 e))));have i5:Ii (m+1) k5:=Gi.mv _ _ _ i2 fun ob e=>b5.extBut _ _ D.TOi1.symm (b4.extBut _ _ D.i12 (b3.extBut _ _ D.TOi1.symm e))
 have j5:Ij (n+1) k5:=Gj.mv _ _ _ j4 fun ob e=>b5.extBut _ _ D.TOi2.symm e;have zlt:z<k5.objs.size:=Heap.lt_size z5;show wpAny _ _ (Builtin.SmallTypes.ownedTupleHandOut (.ref z) (.ref k5.objs.size) >>= _) _ _ _;refine wpAny_bind ?_;unfold Builtin.SmallTypes.ownedTupleHandOut;have z6:IsZip (k5.push { cls:=.type "tuple",data:=.seq #[x,y] }) z u o .ellipsis:=Heap.get?_push_of_some _ z5;refine wpAny_bind (wpAny_setField_rec z6 (by simp) fun k7 z7 b7=>?_)
 replace z7:IsZip k7 z u o (rawInt k5.objs.size):=z7
 refine wpAny_setField_rec z7 (by simp) fun k8 z8 b8=>?_
 replace z8:IsZip k8 z u o (rawInt k5.objs.size):=z8
 have up:∀c ob,c≠z->k5.get? c=some ob->k8.get? c=some ob:=fun c ob c1 e=>b8.extBut _ _ c1 (b7.extBut _ _ c1 (Heap.get?_push_of_some _ e));have t8:IsPair k8 k5.objs.size x y:=b8.extBut _ _ (Nat.ne_of_gt zlt) (b7.extBut _ _ (Nat.ne_of_gt zlt) (Heap.get?_push_size _ rfl));rw[hsz] at z8 t8;refine wpAny_pure ⟨_,rfl,?_⟩;show Q (.ref k5.objs.size) _;rw[hsz];exact hQ k8 z8 (up _ _ D.TOz o5) (Gi.mv _ _ _ i5 fun ob e=>up _ ob D.i1z e) (Gj.mv _ _ _ j5 fun ob e=>up _ ob D.i2z e) t8 fun c ob c1 c2 c3 c4 e=>up c ob c1 (all5 c ob c1 c2 c3 c4 e)
theorem GX{Q:Fin->Shared->Prop}(D:ZipApart z u o i j p q)(Gi:Src prog w A i p xs Ii Sp)(Gj:Src prog w A j q ys Ij Sq)(hz:IsZip S.heap z u o .none)(hu:IsPair S.heap u (.ref i) (.ref j))(ho:IsPair S.heap o a b)(hi:Ii m S.heap)(hj:Ij n S.heap)(hp:Sp S.heap)(hq:Sq S.heap)(he:xs[m]?=none\/ys[n]?=none)(hE:∀h1 e,(∀c ob,c≠z->c≠o->c≠i->c≠j->S.heap.get? c=some ob->h1.get? c=some ob)->(∃ob,h1.get? e=some ob/\ob.cls=.type "StopIteration")->E (.ref e) { S with heap:=h1 }):
  wpAny (model prog w) A (Builtin.«zip.__next__» ⟨[.ref z],[]⟩) Q E S:=by
 show wpAny _ _ (field (.ref z) 2 >>= _) _ _ S;refine wpAny_bind (wpAny_field hz (x:=.bool false) rfl rfl ?_);show wpAny _ _ (field (.ref z) 3 >>= _) _ _ S;refine wpAny_bind (wpAny_field hz (x:=.ref u) rfl rfl ?_);refine wpAny_bind (wpAny_seqItems hu rfl ?_);show wpAny _ _ (Builtin.SmallTypes.ownedTupleIsFree (.ref z) >>= _) _ _ S;refine wpAny_bind ?_;unfold Builtin.SmallTypes.ownedTupleIsFree;refine wpAny_bind (wpAny_field hz (x:=.none) rfl rfl (wpAny_pure ?_))
 simp only[if_true];refine wpAny_bind (wpAny_rule (wpAny_bind (wpAny_field hz (x:=.ref o) rfl rfl ?_)));refine wpAny_bind (wpAny_setField_rec hz (by simp) fun k1 z1 b1=>?_)
 replace z1:IsZip k1 z u o .ellipsis:=z1
 refine wpAny_bind ?_;simp only[List.zipIdx_cons,List.forIn_cons,List.zipIdx_nil,List.forIn_nil];refine wpAny_bind (wpAny_bind (wpAny_onRaise ?_));show wpAny _ _ (Builtin.SmallTypes.nextOf (.ref i) >>= _) _ _ _;have i1:=Gi.mv _ _ _ hi fun ob e=>b1.extBut _ _ D.i1z e;have p1:=Gi.sv _ _ hp fun ob e=>b1.extBut _ _ D.l1z e
 cases hx:xs[m]? with
 |none=>
  refine wpAny_bind (Gi.stop m _ _ _ i1 p1 hx fun k2 e b2 x2=>?_);obtain⟨oe,eoe,ece⟩:=x2;have z2:IsZip k2 z u o .ellipsis:=b2 _ _ D.i1z.symm z1;have ez:e≠z:=fun w1=>by subst w1;rw[z2] at eoe;cases eoe;simp at ece
  exact wpAny_setField_rec z2 (by simp) fun k3 _ b3=>hE k3 e (fun c ob c1 _ c3 _ e1=>b3.extBut _ _ c1 (b2 _ _ c3 (b1.extBut _ _ c1 e1))) ⟨oe,b3.extBut _ _ ez eoe,ece⟩
 |some x=>
  have hy:ys[n]?=none:=he.resolve_left (by rw[hx];simp)
  refine wpAny_bind (Gi.item m x _ _ _ i1 p1 hx fun k2 i2 b2=>wpAny_pure ?_);have o2:IsPair k2 o a b:=b2.extBut _ _ D.TOi1 (b1.extBut _ _ D.TOz ho);refine wpAny_bind (wpAny_seqItems o2 rfl ?_);refine wpAny_bind (wpAny_updateSeq_pair o2 fun k3 o3 b3=>?_);refine wpAny_bind (wpAny_letGo (wpAny_pure ?_));refine wpAny_bind (wpAny_bind (wpAny_onRaise ?_));show wpAny _ _ (Builtin.SmallTypes.nextOf (.ref j) >>= _) _ _ _
  refine wpAny_bind (Gj.stop n _ _ _ (Gj.mv _ _ _ hj fun ob e=>b3.extBut _ _ D.TOi2.symm (b2.extBut _ _ D.i12.symm (b1.extBut _ _ D.i2z e))) (Gj.sv _ _ hq fun ob e=>b3.extBut _ _ D.l2TO (b2.extBut _ _ D.l2i1 (b1.extBut _ _ D.l2z e))) hy fun k4 e b4 x4=>?_);obtain⟨oe,eoe,ece⟩:=x4;have z4:IsZip k4 z u o .ellipsis:=b4 _ _ D.i2z.symm (b3.extBut _ _ D.TOz.symm (b2.extBut _ _ D.i1z.symm z1));have ez:e≠z:=fun w1=>by subst w1;rw[z4] at eoe;cases eoe;simp at ece
  exact wpAny_setField_rec z4 (by simp) fun k5 _ b5=>hE k5 e (fun c ob c1 c2 c3 c4 e1=>b5.extBut _ _ c1 (b4 _ _ c4 (b3.extBut _ _ c2 (b2.extBut _ _ c3 (b1.extBut _ _ c1 e1))))) ⟨oe,b5.extBut _ _ ez eoe,ece⟩
end
noncomputable def Zp(Sa Sb:Hp->Addr->List V->Prop)(a b:Addr):It:=
  ⟨fun i H=>∃xs ys x y,Sa H a xs/\Sb H b ys/\xs[i]?=some x/\ys[i]?=some y,fun i H v H'=>∃T x y,H T=none/\v=.ref T/\H'=upd H T (.tup [x,y])/\∀xs ys,Sa H a xs->Sb H b ys->xs[i]?=some x/\ys[i]?=some y,
   fun i H=>∃xs ys,Sa H a xs/\Sb H b ys/\min xs.length ys.length=i⟩
structure Kd(cls:String)(Sa:W.Frag->Hp->Addr->List V->Prop)(Iti:Heap->Addr->Addr->Nat->Prop)(Is:Heap->Addr->Array Value->Prop):Prop where
 got:∀ {X:Cx} {pins:List (Addr×Obj)} {σ:St} {H:Hp} {s:Shared} {a:Addr} {xs:List V},Inv X pins σ H s->Sa X.K H a xs->∃its:List Value,aR xs its/\Is s.heap a its.toArray
 inj:∀ {X:Cx} {pins:List (Addr×Obj)} {σ:St} {H:Hp} {s:Shared} {a:Addr} {xs ys:List V},Inv X pins σ H s->Sa X.K H a xs->Sa X.K H a ys->xs=ys
 src:∀(prog:Program)(w:World)(A:Around)(j q:Addr)(its:Array Value),A.handled=none->Src prog w A j q its (fun n h=>Iti h j q n) (fun h=>Is h q its)
 seq:∀ {h:Heap} {a:Addr} {its:Array Value},Is h a its->∃o n,h.get? a=some o/\o.data=.seq its n
 ne:∀ {X:Cx} {pins:List (Addr×Obj)} {σ:St} {H:Hp} {s:Shared} {a b:Addr} {xs:List V},Inv X pins σ H s->Sa X.K H a xs->mi X pins H b->a≠b
 itr:∀ {prog:Program} {w:World} {A:Around} {E:Value->Shared->Prop} {S:Shared} {a:Addr} {its:Array Value} {Q:Value->Shared->Prop},Is S.heap a its->Q (.ref S.heap.objs.size) { S with heap:=S.heap.push { cls:=.type cls,data:=.fields #[.ref a,.int 0 0] } }->wpAny (model prog w) A (pyIter (.ref a)) Q E S
 sv:∀ {h h1:Heap} {a:Addr} {its:Array Value},Is h a its->(∀ob,h.get? a=some ob->h1.get? a=some ob)->Is h1 a its
 new:∀ {h:Heap} {j q:Addr},h.get? j=some { cls:=.type cls,data:=.fields #[.ref q,.int 0 0] }->Iti h j q 0
theorem Nn{X:Cx}{pins:List (Addr×Obj)}{σ:St}{H:Hp}{s:Shared}{a b:Addr}{ob:Obj}(I:Inv X pins σ H s)(e:X.K.lookup a=some ob)(f:mi X pins H b):a≠b:=fun z=>by
 subst z;have hb:=I.ok.mod.kin a ob e;rcases f.2.2.2.1 with h|h
 ·exact I.ok.noex a ob hb h
 ·exact absurd (Nat.lt_of_lt_of_le (Heap.lt_size hb) (Nat.le_trans I.ok.bsz h)) (Nat.lt_irrefl _)
theorem kdT:Kd "tuple_iterator" SqT (fun h j q n=>h.IsTupleIter j q n) (fun h q its=>h.IsTuple q its) where
 got:=fun I h=>let ⟨its,rv,p,_⟩:=I.tuple h;⟨its,rv,p⟩
 inj:=fun I h h'=>I.OL h h'
 src:=fun prog w A j q its hh=>Of hh j q its
 seq:=fun x=>let ⟨o,e,_,n,d⟩:=x;⟨o,n,e,d⟩
 ne:=fun I h f=>by
  rcases h with(h|⟨ob,h⟩)|⟨ob,its,n,hk,_⟩
  ·exact aY h f.1
  ·exact aY h f.1
  ·exact Nn I hk f
 itr:=fun h hQ=>wpAny_pyIter_tuple h hQ
 sv:=fun x k=>let ⟨o,e,r⟩:=x;⟨o,k o e,r⟩
 new:=fun e=>⟨_,e,rfl,rfl⟩
theorem kdL:Kd "list_iterator" SqL (fun h j q n=>h.IsListIter j q n) (fun h q its=>h.IsList q its) where
 got:=fun I h=>let ⟨its,rv,p,_⟩:=I.list h;⟨its,rv,p.isList⟩
 inj:=fun I h h'=>I.OO h h'
 src:=fun prog w A j q its hh=>Os hh j q its
 seq:=fun x=>let ⟨o,e,_,n,d⟩:=x;⟨o,n,e,d⟩
 ne:=fun I h f=>by
  rcases h with(h|⟨ob,h⟩)|⟨ob,its,n,hk,_⟩
  ·exact aY h f.1
  ·exact aY h f.1
  ·exact Nn I hk f
 itr:=fun h hQ=>wpAny_pyIter_list h hQ
 sv:=fun x k=>let ⟨o,e,r⟩:=x;⟨o,k o e,r⟩
 new:=fun e=>⟨_,e,rfl,rfl⟩
section
variable{c1 c2:String}{Sa Sb:W.Frag->Hp->Addr->List V->Prop}{Ia Ib:Heap->Addr->Addr->Nat->Prop}{Isa Isb:Heap->Addr->Array Value->Prop}
theorem GI{P:Program}{w:World}{K:W.Frag}{elts:List Expr}{kk:Nat}{pp:Pos}(k1:Kd c1 Sa Ia Isa)(k2:Kd c2 Sb Ib Isb)(a b z u o i j:Addr)(huz:u≠z)(hoz:o≠z)(hiz:i≠z)(hjz:j≠z)(huo:u≠o)(hui:u≠i)(huj:u≠j)(hoi:o≠i)(hoj:o≠j)(hij:i≠j):
  yQ P w K (.Tuple elts kk pp) (Zp (Sa K) (Sb K) a b) [z,u,o,i,j] z (fun n h=>IsZip h z u o .none/\IsPair h u (.ref i) (.ref j)/\(∃x y,IsPair h o x y)/\Ia h i a n/\Ib h j b n) where
 mem:=by simp
 obj:=fun n h st c hc=>by
  obtain⟨h1,h2,⟨x,y,h3⟩,h4,h5⟩:=st;obtain⟨o4,v4,e4,d4⟩:=(k1.src default w callerA i a #[] rfl).live _ _ h4;obtain⟨o5,v5,e5,d5⟩:=(k2.src default w callerA j b #[] rfl).live _ _ h5;rcases(by simpa using hc:c=z\/c=u\/c=o\/c=i\/c=j) with rfl|rfl|rfl|rfl|rfl
  ·exact⟨_,h1,fun v q=>by cases q⟩
  ·exact⟨_,h2,fun v q=>by cases q⟩
  ·exact⟨_,h3,fun v q=>by cases q⟩
  ·exact⟨_,e4,fun v q=>by rw[d4] at q;cases q⟩
  ·exact⟨_,e5,fun v q=>by rw[d5] at q;cases q⟩
 keep:=fun n h h' st k=>by
  obtain⟨h1,h2,⟨x,y,h3⟩,h4,h5⟩:=st;exact⟨k z (by simp) _ h1,k u (by simp) _ h2,⟨x,y,k o (by simp) _ h3⟩,(k1.src default w callerA i a #[] rfl).mv _ _ _ h4 fun ob e=>k i (by simp) ob e,(k2.src default w callerA j b #[] rfl).mv _ _ _ h5 fun ob e=>k j (by simp) ob e⟩
 item:=by
  intro X hP hw hK hc n pins s σ H E I hf st hg;subst hP hw hK;obtain⟨xs,ys,x,y,ha,hb,hx,hy⟩:=hg;obtain⟨its,rv,pa⟩:=k1.got I ha;obtain⟨jts,rw',pb⟩:=k2.got I hb;obtain⟨vx,hvx,rx⟩:=rv.get hx;obtain⟨vy,hvy,ry⟩:=rw'.get hy;obtain⟨h1,h2,⟨x0,y0,h3⟩,h4,h5⟩:=st;have na:=fun c (hc:c∈[z,u,o,i,j])=>k1.ne I ha (hf c hc);have nb:=fun c (hc:c∈[z,u,o,i,j])=>k2.ne I hb (hf c hc);have D:ZipApart z u o i j a b:=⟨huz,hoz,hiz,hjz,huo,hui,huj,hoi,hoj,hij,na z (by simp),na o (by simp),na i (by simp),na j (by simp),nb z (by simp),nb o (by simp),nb i (by simp),nb j (by simp)⟩
  have hT:s.TypeIs (.ref z) "zip":=⟨_,h1,rfl⟩;unfold pyNext
  refine wpAny_bind (wpAny_attempt (wpAny_callSpecial?_slot (name:=Str.ofString "__next__") hT F.slot_zip_next (wpAny_call_entry F.slot_zip_next hT F.entry_zip_next
   (Dg D (k1.src X.prog X.w _ i a its.toArray (I.ok.hd hc)) (k2.src X.prog X.w _ j b jts.toArray (I.ok.hd hc)) h1 h2 h3 h4 h5 pa pb (x:=vx) (y:=vy) (by simpa using hvx) (by simpa using hvy) fun q1 a1 a2 a3 a4 a5 a6=>wpAny_pure ?_) (F.args_zip_next_1 _))))
  refine⟨_,rfl,wpAny_letOwnedTupleGo_zip a1 fun q2 b1 sb=>?_⟩;have lt:∀ {c ob},s.heap.get? c=some ob->c<s.heap.objs.size:=fun e=>Heap.lt_size e;have zl:=lt h1;have kp:∀c ob,c ∉ [z,u,o,i,j]->s.heap.get? c=some ob->q2.get? c=some ob:=fun c ob hc' e=>(sb.2 c fun w1=>hc' (by simp[w1])).trans (a6 c ob (fun w1=>hc' (by simp[w1])) (fun w1=>hc' (by simp[w1])) (fun w1=>hc' (by simp[w1])) (fun w1=>hc' (by simp[w1])) e)
  have hT2:q2.get? s.heap.objs.size=some { cls:=.type "tuple",data:=.seq #[vx,vy] }:=(sb.2 _ (Nat.ne_of_gt zl)).trans a5;have J:=I.OQ (h':=q2) (tk:=s.toks) (ch:=[z,u,o,i,j]) (T:=s.heap.objs.size) (o:=.tup [x,y]) hf kp (Nat.le_refl _) ⟨(show 2<=sizeLine by decide),[vx,vy],.cons rx (.cons ry .nil),⟨⟨_,hT2,rfl,_,rfl⟩,_,hT2,rfl⟩⟩
  refine⟨.ref s.heap.objs.size,_,J,rfl,⟨_,x,y,I.hok.fresh (Nat.le_refl _),rfl,rfl,fun xs' ys' e1 e2=>⟨by rw[k1.inj I e1 ha];exact hx,by rw[k2.inj I e2 hb];exact hy⟩⟩,⟨b1,(sb.2 u huz).trans (a6 u _ huz huo hui huj h2),⟨vx,vy,(sb.2 o hoz).trans a2⟩,?_,?_⟩,fun c hc'=>?_⟩
  ·exact(k1.src default X.w callerA i a #[] rfl).mv _ _ _ a3 fun ob e=>(sb.2 i hiz).trans e
  ·exact(k2.src default X.w callerA j b #[] rfl).mv _ _ _ a4 fun ob e=>(sb.2 j hjz).trans e
  ·have hlt:c<s.heap.objs.size:=by
    obtain⟨o4,v4,e4,d4⟩:=(k1.src default X.w callerA i a #[] rfl).live _ _ h4;obtain⟨o5,v5,e5,d5⟩:=(k2.src default X.w callerA j b #[] rfl).live _ _ h5;rcases(by simpa using hc':c=z\/c=u\/c=o\/c=i\/c=j) with rfl|rfl|rfl|rfl|rfl
    ·exact lt h1
    ·exact lt h2
    ·exact lt h3
    ·exact lt e4
    ·exact lt e5
   rw[aF (Nat.ne_of_lt hlt)];exact(hf c hc').1
 done:=by
  intro X hP hw hK hc n pins s σ H E I hf st hg;subst hP hw hK;obtain⟨xs,ys,ha,hb,hm⟩:=hg;obtain⟨its,rv,pa⟩:=k1.got I ha;obtain⟨jts,rw',pb⟩:=k2.got I hb;obtain⟨h1,h2,⟨x0,y0,h3⟩,h4,h5⟩:=st;have na:=fun c (hc:c∈[z,u,o,i,j])=>k1.ne I ha (hf c hc);have nb:=fun c (hc:c∈[z,u,o,i,j])=>k2.ne I hb (hf c hc);have D:ZipApart z u o i j a b:=⟨huz,hoz,hiz,hjz,huo,hui,huj,hoi,hoj,hij,na z (by simp),na o (by simp),na i (by simp),na j (by simp),nb z (by simp),nb o (by simp),nb i (by simp),nb j (by simp)⟩
  have hT:s.TypeIs (.ref z) "zip":=⟨_,h1,rfl⟩;have l1:=rv.length;have l2:=rw'.length;unfold pyNext
  refine wpAny_bind (wpAny_attempt (wpAny_callSpecial?_slot (name:=Str.ofString "__next__") hT F.slot_zip_next (wpAny_call_entry F.slot_zip_next hT F.entry_zip_next
   (GX D (k1.src X.prog X.w _ i a its.toArray (I.ok.hd hc)) (k2.src X.prog X.w _ j b jts.toArray (I.ok.hd hc)) h1 h2 h3 h4 h5 pa pb ?_ fun q1 e ke xe=>?_) (F.args_zip_next_1 _))))
  ·rcases Nat.le_total xs.length ys.length with h|h
   ·exact .inl (Array.getElem?_eq_none (by simp;omega))
   ·exact .inr (Array.getElem?_eq_none (by simp;omega))
  ·obtain⟨ob,eob,cob⟩:=xe
   refine wpAny_bind (wpAny_isInstance (T:="StopIteration") (b:=true) ⟨ob,eob,cob⟩ isSubtype_stop (wpAny_pure ⟨rfl,?_⟩));exact I.OZ (h':=q1) (tk:=s.toks) (ch:=[z,u,o,i,j]) hf fun c ob' hc' e1=>ke c ob' (fun w1=>hc' (by simp[w1])) (fun w1=>hc' (by simp[w1])) (fun w1=>hc' (by simp[w1])) (fun w1=>hc' (by simp[w1])) e1
 self:=fun A n s Q E st h=>wpAny_pyIter_zip st.1 h
end
section
variable{c1 c2:String}{Sa Sb:W.Frag->Hp->Addr->List V->Prop}{Ia Ib:Heap->Addr->Addr->Nat->Prop}{Isa Isb:Heap->Addr->Array Value->Prop}
noncomputable abbrev zk1(c1:String)(h:Heap)(a:Addr):Heap:=h.push { cls:=.type c1,data:=.fields #[.ref a,.int 0 0] }
noncomputable abbrev zk2(c1 c2:String)(h:Heap)(a b:Addr):Heap:=(zk1 c1 h a).push { cls:=.type c2,data:=.fields #[.ref b,.int 0 0] }
noncomputable abbrev zk3(c1 c2:String)(h:Heap)(a b:Addr):Heap:=(zk2 c1 c2 h a b).push { cls:=.type "tuple",data:=.seq #[.ref h.objs.size,.ref (zk1 c1 h a).objs.size] }
noncomputable abbrev zk4(c1 c2:String)(h:Heap)(a b:Addr):Heap:=(zk3 c1 c2 h a b).push { cls:=.type "tuple",data:=.seq #[.none,.none] }
noncomputable abbrev zk5(c1 c2:String)(h:Heap)(a b:Addr):Heap:=(zk4 c1 c2 h a b).push { cls:=.type "zip",data:=.fields #[.none,.bool false,.bool false,.ref (zk2 c1 c2 h a b).objs.size,.ref (zk3 c1 c2 h a b).objs.size] }
theorem Hn(k1:Kd c1 Sa Ia Isa)(k2:Kd c2 Sb Ib Isb)(a b:Addr)(its jts:Array Value):
  Meets (Builtin.«zip.__new__» ⟨[.type "zip",.ref a,.ref b],[]⟩) (fun _ R S=>Isa S.heap a its/\Isb S.heap b jts/\R (.ok (.ret (.ref (zk4 c1 c2 S.heap a b).objs.size))) { S with heap:=zk5 c1 c2 S.heap a b }):=
 .of_wp fun prog w A R S h=>by
  obtain⟨hp,g,d,tk,os⟩:=S;obtain⟨h1,h2,h⟩:=h;have hsub:=sub_zip;have g1:Isa (Shared.heap ⟨hp,g,d,tk,os⟩) a its:=h1;have g2:Isb (Shared.heap ⟨zk1 c1 hp a,g,d,tk,os⟩) b jts:=k2.sv h2 fun ob e=>Heap.get?_push_of_some _ e
  wp_walk using k1.itr g1,k2.itr g2
  exact⟨_,rfl,h⟩
theorem Er{prog:Program}{w:World}{A:Around}{E:Value->Shared->Prop}{S:Shared}{a b:Addr}{its jts:Array Value}{Q:Value->Shared->Prop}(k1:Kd c1 Sa Ia Isa)(k2:Kd c2 Sb Ib Isb)(h1:Isa S.heap a its)(h2:Isb S.heap b jts)
  (h:∀q,IsZip q (S.heap.objs.size+4) (S.heap.objs.size+2) (S.heap.objs.size+3) .none->IsPair q (S.heap.objs.size+2) (.ref S.heap.objs.size) (.ref (S.heap.objs.size+1))->IsPair q (S.heap.objs.size+3) .none .none ->
   Ia q S.heap.objs.size a 0->Ib q (S.heap.objs.size+1) b 0->(∀c ob,S.heap.get? c=some ob->q.get? c=some ob)->Q (.ref (S.heap.objs.size+4)) { S with heap:=q }):wpAny (model prog w) A (call (.type "zip") [.ref a,.ref b]) Q E S:=by
 refine callType_new F.called_zip (by decide) (F.typeCall_zip_2 _ _) (F.newCall_zip_2 _ _) (fun obj=>F.args_object_init_3 obj _ _) F.entry_zip_new (Hn k1 k2 a b its jts) ⟨h1,h2,?_⟩
 have n1:(zk1 c1 S.heap a).objs.size=S.heap.objs.size+1:=Heap.size_push ..;have n2:(zk2 c1 c2 S.heap a b).objs.size=S.heap.objs.size+2:=by rw[Heap.size_push,n1]
 have n3:(zk3 c1 c2 S.heap a b).objs.size=S.heap.objs.size+3:=by rw[Heap.size_push,n2]
 have n4:(zk4 c1 c2 S.heap a b).objs.size=S.heap.objs.size+4:=by rw[Heap.size_push,n3]
 have g5:(zk5 c1 c2 S.heap a b).get? (zk4 c1 c2 S.heap a b).objs.size=some _:=Heap.get?_push_size _ rfl;have g4:(zk5 c1 c2 S.heap a b).get? (zk3 c1 c2 S.heap a b).objs.size=some _:=Heap.get?_push_of_some _ (Heap.get?_push_size _ rfl);have g3:(zk5 c1 c2 S.heap a b).get? (zk2 c1 c2 S.heap a b).objs.size=some _:=Heap.get?_push_of_some _ (Heap.get?_push_of_some _ (Heap.get?_push_size _ rfl))
 have g2:(zk5 c1 c2 S.heap a b).get? (zk1 c1 S.heap a).objs.size=some _:=Heap.get?_push_of_some _ (Heap.get?_push_of_some _ (Heap.get?_push_of_some _ (Heap.get?_push_size _ rfl)));have g1:(zk5 c1 c2 S.heap a b).get? S.heap.objs.size=some _:=Heap.get?_push_of_some _ (Heap.get?_push_of_some _ (Heap.get?_push_of_some _ (Heap.get?_push_of_some _ (Heap.get?_push_size _ rfl))));show _/\_;rw[n2,n3,n4] at g5
 rw[n1,n2] at g3;rw[n3] at g4;rw[n1] at g2;rw[n4];exact⟨⟨_,g5,rfl⟩,h _ g5 g3 g4 (k1.new g1) (k2.new g2) fun c ob e=>Heap.get?_push_of_some _ (Heap.get?_push_of_some _ (Heap.get?_push_of_some _ (Heap.get?_push_of_some _ (Heap.get?_push_of_some _ e))))⟩
variable{X:Cx}
end
theorem dS{X:Cx}(K:W.Frag)(h:X.K=K){ts:List Expr}{k n:Nat}{pos:Pos}{t:TGs}(hc:X.calm=true)(hts:PGs X ts t)(hn:(assignEach ts X.env).length=n:=by rfl)(hst:(assignEach ts X.env).findIdx? (·.1)=none:=by rfl):PG X (.Tuple ts k pos) (Ln K n t):=h ▸ Mf hc hts hn hst
noncomputable def bI{α:Type}(c:Nat->Nat->Bool):W.KasT α->α
 |.ret a=>a
 |.ask i j k=>bI c (k (c i j))
noncomputable def KG{α:Type}(n:Nat)(R:α->Prop):W.KasT α->Prop
 |.ret a=>R a
 |.ask i j k=>i<n/\j<n/\∀b,KG n R (k b)
theorem KG.fin{α:Type}{n:Nat}{R:α->Prop}(c:Nat->Nat->Bool):∀ {t:W.KasT α},KG n R t->R (bI c t)
 |.ret _,h=>h
 |.ask i j k,h=>KG.fin c (t:=k (c i j)) (h.2.2 (c i j))
theorem KG.mono{α:Type}{n:Nat}{R S:α->Prop}(q:∀a,R a->S a):∀ {t:W.KasT α},KG n R t->KG n S t
 |.ret a,h=>q a h
 |.ask _ _ k,h=>⟨h.1,h.2.1,fun b=>KG.mono q (t:=k b) (h.2.2 b)⟩
theorem KG.bind{α β:Type}{n:Nat}{R:β->Prop}{f:α->W.KasT β}:∀ {t:W.KasT α},KG n (fun a=>KG n R (f a)) t->KG n R (t.bind f)
 |.ret _,h=>h
 |.ask _ _ k,h=>⟨h.1,h.2.1,fun b=>KG.bind (t:=k b) (h.2.2 b)⟩
theorem KG.wp{α:Type}{n:Nat}{R:α->Prop}{c:Nat->Nat->Bool}{cmp:Nat->Nat->(Bool->Shared->Prop)->Shared->Prop}{Q:α->Shared->Prop}{s:Shared}(hc:∀i j C,i<n->j<n->C (c i j) s->cmp i j C s):
  ∀ {t:W.KasT α},KG n R t->Q (bI c t) s->t.kasWp cmp Q s
 |.ret _,_,q=>q
 |.ask i j k,h,q=>hc i j _ h.1 h.2.1 (KG.wp hc (t:=k (c i j)) (h.2.2 (c i j)) q)
noncomputable def Ord(n:Nat)(p:Array Nat):Prop:=p.Perm (List.range n).toArray
theorem Ord.lt{n:Nat}{p:Array Nat}(hn:0<n)(h:Ord n p)(k:Nat):p.getD k 0<n:=by
 by_cases hk:k<p.size
 ·have hm:p[k]∈p:=Array.getElem_mem hk
  have h2:=(h.mem_iff (a:=p[k])).mp hm;simp at h2;simp[Array.getD,hk];exact h2
 ·simp[Array.getD,hk]
  exact hn
theorem Ord.rev{n i j:Nat}{p:Array Nat}(h:Ord n p):Ord n (W.kas_rev p i j):=(mirror_perm p i j _).trans h
theorem Ord.bub{n i j:Nat}{p:Array Nat}(h:Ord n p):Ord n (bubble p i j):=(bubble_perm p i j).trans h
section
variable{n:Nat}(hn:0<n)
include hn
theorem Ap{p:Array Nat}(hp:Ord n p):∀f k,KG n (fun _=>True) (W.kas_asc p f k)
 |0,_=>trivial
 |f+1,k=>⟨hp.lt hn _,hp.lt hn _,fun b=>by
  cases b
  ·exact Ap hp f (k+1)
  ·exact trivial⟩
theorem qu:∀f (p:Array Nat) k q,Ord n p->KG n (fun r=>Ord n r.1) (W.kas_desc f p k q)
 |0,_,_,_,hp=>hp
 |f+1,p,k,q,hp=>by
  refine⟨hp.lt hn _,hp.lt hn _,fun b=>?_⟩;cases b
  ·refine⟨hp.lt hn _,hp.lt hn _,fun d=>?_⟩
   cases d
   ·exact qu f _ _ _ hp
   ·exact hp
  ·show KG n _ (if q>0 then _ else _)
   split
   ·exact qu f _ _ _ hp.rev
   ·exact qu f _ _ _ hp
theorem yI{p:Array Nat}(hp:Ord n p)(a b:Nat):KG n (fun r=>Ord n r.2) (W.kas_tail3 a b p):=KG.bind ((Ap hn hp.rev _ _).mono fun _ _=>hp.rev)
theorem qb{p:Array Nat}(hp:Ord n p)(a b:Nat):KG n (fun r=>Ord n r.2) (W.kas_descPart a b p):=KG.bind ((qu hn _ _ _ _ hp).mono fun r hr=>by
 split
 ·exact yI hn hr.rev _ _
 ·exact yI hn hr _ _)
theorem FU{p:Array Nat}(hp:Ord n p)(a:Nat):KG n (fun r=>Ord n r.2) (W.kas_count a p):=KG.bind ((Ap hn hp _ _).mono fun k _=>by
 split
 ·exact hp
 ·split
  ·refine⟨hp.lt hn _,hp.lt hn _,fun b=>?_⟩
   cases b
   ·exact qb hn hp.rev _ _
   ·exact hp
  ·exact qb hn hp _ _)
theorem rm{p:Array Nat}(hp:Ord n p)(k:Nat):∀f l r,KG n (fun _=>True) (W.kas_place p k f l r)
 |0,_,_=>trivial
 |f+1,l,r=>by
  show KG n _ (if l ≥ r then _ else _)
  split
  ·exact trivial
  ·refine⟨hp.lt hn _,hp.lt hn _,fun b=>?_⟩
   cases b
   ·exact rm hp k f _ _
   ·exact rm hp k f _ _
theorem GC:∀f (p:Array Nat) k,Ord n p->KG n (Ord n) (W.kas_bin f p k)
 |0,_,_,hp=>hp
 |f+1,_,k,hp=>KG.bind ((rm hn hp _ _ _ _).mono fun _ _=>GC f _ _ hp.bub)
theorem BO:KG n (Ord n) (W.kas_sort n):=KG.bind ((FU hn (.refl _) n).mono fun r hr=>by
 split
 ·exact GC hn _ _ _ hr
 ·exact hr)
end
noncomputable def Zs:List Value->List Int->Prop
 | [],[]=>True
 |v::vs,n::ns=>(∃t,v=.int n t)/\Zs vs ns
 |_,_=>False
noncomputable def ltF(e:Bool):List Int->List Int->Bool
 |x::xs,y::ys=>if x=y then ltF e xs ys else decide (x<y)
 |_,_=>e
noncomputable def ltZ(x y:List Int):Bool:=ltF (decide (x.length<y.length)) x y
theorem Zs.len:∀ {vs:List Value} {ns:List Int},Zs vs ns->vs.length=ns.length
 | [],[],_=>rfl
 |_::_,_::_,h=>congrArg (·+1) (Zs.len h.2)
 | [],_::_,h=>h.elim
 |_::_,[],h=>h.elim
section
variable{prog:Program}{w:World}{A:Around}{E:Value->Shared->Prop}{s:Shared}
theorem IW{b:Bool}{x y:Int}{t u:Tok}{Q:Bool->Shared->Prop}(h:Q (decide (x<y)) s):wpAny (model prog w) A (oneLt' b (.int x t) (.int y u)) Q E s:=by
 cases b
 ·exact W.kat_one _ _ (wpAny_lt_int h)
 ·exact oneLt_int h
theorem By{b e:Bool}{Q:Bool->Shared->Prop}:∀ {xs ys:List Value} {ns ms:List Int} (i:Nat),Zs xs ns->Zs ys ms->Q (ltF e ns ms) s->W.KatLex prog w A b e Q (xs.zip ys) i s
 | [],_,[],_,_,_,_,q=>W.kat_nil (by simpa[ltF] using q)
 |_::_,[],_::_,[],_,_,_,q=>W.kat_nil (by simpa[ltF] using q)
 |x::xs,y::ys,n::ns,m::ms,i,hx,hy,q=>by
  obtain⟨⟨t,rfl⟩,hx⟩:=hx;obtain⟨⟨u,rfl⟩,hy⟩:=hy;refine W.kat_cons (wpAny_eqBool_int ?_);unfold ltF at q;by_cases h:n=m
  ·rw[if_pos h] at q
   rw[show (n == m)=true by simpa using h]
   exact W.kat_yes (By (i+1) hx hy q)
  ·rw[if_neg h] at q
   rw[show (n == m)=false by simpa using h]
   exact W.kat_no (IW q)
 | [],_,_::_,_,_,h,_,_=>h.elim
 |_::_,_,[],_,_,h,_,_=>h.elim
 |_::_,[],_,_::_,_,_,h,_=>h.elim
 |_::_,_::_,_,[],_,_,h,_=>h.elim
end
noncomputable def TW(h:Heap):List Value->List (List Int)->Prop
 | [],[]=>True
 |v::vs,x::xs=>(∃a o its n,v=.ref a/\h.get? a=some o/\o.cls=.type "tuple"/\o.data=.seq its n/\Zs its.toList x)/\TW h vs xs
 |_,_=>False
theorem TW.len{h:Heap}:∀ {vs:List Value} {W:List (List Int)},TW h vs W->vs.length=W.length
 | [],[],_=>rfl
 |_::_,_::_,q=>congrArg (·+1) (TW.len q.2)
 | [],_::_,q=>q.elim
 |_::_,[],q=>q.elim
theorem TW.keep{h h':Heap}(k:∀b o,h.get? b=some o->o.cls=.type "tuple"->h'.get? b=some o):∀ {vs:List Value} {W:List (List Int)},TW h vs W->TW h' vs W
 | [],[],_=>trivial
 |_::_,_::_,⟨⟨a,o,its,n,e1,e2,e3,e4⟩,q⟩=>⟨⟨a,o,its,n,e1,k _ _ e2 e3,e3,e4⟩,TW.keep k q⟩
 | [],_::_,q=>q.elim
 |_::_,[],q=>q.elim
theorem TW.at{h:Heap}:∀ {vs:List Value} {W:List (List Int)} {i:Nat},TW h vs W->i<vs.length->∃a o its n,vs.getD i Value.none=.ref a/\h.get? a=some o/\o.data=.seq its n/\Zs its.toList (W.getD i [])
 |_::_,_::_,0,⟨⟨a,o,its,n,e1,e2,e3,e4,e5⟩,_⟩,_=>⟨a,o,its,n,by simpa using e1,e2,e4,by simpa using e5⟩
 |_::_,_::_,i+1,⟨_,q⟩,hi=>by
  obtain⟨a,o,its,n,e1,e2,e3,e4⟩:=TW.at (i:=i) q (by simpa using hi)
  exact⟨a,o,its,n,by simpa using e1,e2,e3,by simpa using e4⟩
 | [],_,_,_,hi=>absurd hi (by simp)
 |_::_,[],_,q,_=>q.elim
theorem TW.tups{h:Heap}:∀ {vs:List Value} {W:List (List Int)},TW h vs W->(∀x∈W,x≠[])->∃fs,PySem.W.KatTups h vs fs/\fs.length=vs.length/\∀v∈fs,∃n t,v=.int n t
 | [],[],_,_=>⟨[],trivial,rfl,by simp⟩
 |_::vs,x::xs,⟨⟨a,o,its,n,rfl,e2,e3,e4,e5⟩,q⟩,ne=>by
  obtain⟨fs,g1,g2,g3⟩:=TW.tups q fun y hy=>ne y (List.mem_cons_of_mem _ hy);have e6:=ne x List.mem_cons_self
  match hi:its.toList,x,e5,e6 with
  | [],[],_,e6=>exact absurd rfl e6
  | [],_::_,e5,_=>exact e5.elim
  |_::_,[],e5,_=>exact e5.elim
  |f::r,m::ms,e5,_=>
   obtain⟨t,ht⟩:=e5.1;refine⟨f::fs,PySem.W.KatTups.cons e2 e3 e4 ?_ g1,by simp[g2],?_⟩
   ·rw[←Array.getElem?_toList,hi];rfl
   ·intro v hv
    rcases List.mem_cons.mp hv with rfl|hv
    ·exact⟨m,t,ht⟩
    ·exact g3 v hv
 | [],_::_,q,_=>q.elim
 |_::_,[],q,_=>q.elim
noncomputable def fY(W:List (List Int)):Array Nat:=if W.length<2 then (List.range W.length).toArray else bI (fun i j=>ltZ (W.getD i []) (W.getD j [])) (PySem.W.kas_sort W.length)
theorem gn(W:List (List Int)):Ord W.length (fY W):=by
 unfold fY;split
 ·exact .refl _
 ·exact KG.fin _ (BO (by omega))
section
variable{prog:Program}{w:World}{A:Around}{E:Value->Shared->Prop}{s:Shared}
noncomputable def xk(vs:List Value)(W:List (List Int)):Array Value:=List.toArray ((fY W).toList.map fun i=>vs.getD i Value.none)
theorem DU{h:Heap}{vs:List Value}{W:List (List Int)}(tw:TW h vs W):(xk vs W).size=vs.length:=by
 have a:=(gn W).size_eq;have b:=tw.len;simp[xk];simp at a;omega
theorem Dq{vs:List Value}{W:List (List Int)}{b:Bool}{s:Shared}(tw:TW s.heap vs W){Q:Array Nat->Shared->Prop}(h2:0<vs.length)(q:Q (bI (fun i j=>ltZ (W.getD i []) (W.getD j [])) (PySem.W.kas_sort vs.length)) s):
  (PySem.W.kas_sort vs.length).kasWp (PySem.W.kas_ask prog w A (tuples' b) vs) Q s:=by
 refine KG.wp (fun i j C hi hj hC=>?_) (BO h2) q;obtain⟨a1,o1,i1,n1,e1,e2,e3,e4⟩:=tw.at hi;obtain⟨a2,o2,i2,n2,f1,f2,f3,f4⟩:=tw.at hj;show wpAny (model prog w) A (keyLt' (tuples' b) (vs.getD i Value.none) (vs.getD j Value.none)) C _ s;rw[e1,f1];refine PySem.W.kat_lt e2 e3 f2 f3 (By 0 e4 f4 ?_);have g1:=e4.len;have g2:=f4.len;rw[Array.length_toList] at g1 g2;rw[g1,g2];exact hC
theorem DJ:∀(vs:List Value),vs.length<2->Array.map (·.2) (vs.toArray.zip vs.toArray)=List.toArray ((List.range vs.length).map fun i=>vs.getD i Value.none)
 | [],_=>by simp
 | [v],_=>by simp
 |_::_::_,h=>absurd h (by simp)
theorem Dh{a:Addr}{vs:List Value}{W:List (List Int)}{k:Nat}{P:PySem.Fin->Shared->Prop}(g:s.heap.get? a=some (seqObj "list" vs.toArray k))(tw:TW s.heap vs W)(ne:2<=W.length->∀x∈W,x≠[])(hs:vs.length<64)(q:P (.done (.ret .none)) { s with heap:=sortedHeap s.heap a vs (xk vs W) }):wpAny (model prog w) A (Builtin.«list.sort» ⟨[.ref a],[]⟩) P E s:=by
 have line:64<=sizeLine:=by rw[sizeLine_eq];omega
 have room:vs.toArray.size<=sizeLine:=by rw[List.size_toArray];omega
 have la:a<s.heap.objs.size:=Heap.lt_size g;have osz:=DU tw;rw[list_sort_plain];obtain⟨e1,g1⟩:∃e1,(s.heap.update a (Obj.mapSeq fun _=>(#[]:Array Value))).get? a=some (seqObj "list" #[] e1):=⟨_,get?_update_seq g fun _=>#[]⟩;refine wpAny_bind (listItems_at g rfl (wpAny_bind (listUpdate_at g rfl (wpAny_bind (seqEpoch_at g1 rfl (wpAny_bind (wpAny_newTuple (wpAny_bind (wpAny_newList (wpAny_holding ?_) (Nat.zero_le _))) ?_)))) room (Nat.zero_le _))))
 case refine_2=>show vs.length<=_;omega
 have g3:(((s.heap.update a (Obj.mapSeq fun _=>(#[]:Array Value))).push (seqObj "tuple" vs.toArray 0)).push (seqObj "list" #[] 0)).get? a=some (seqObj "list" #[] e1):=Heap.get?_push_of_some _ (Heap.get?_push_of_some _ g1)
 have tw3:TW (((s.heap.update a (Obj.mapSeq fun _=>(#[]:Array Value))).push (seqObj "tuple" vs.toArray 0)).push (seqObj "list" #[] 0)) vs W:=tw.keep fun b o e c=>by
  have nb:b≠a:=fun z=>by
   subst z;rw[g] at e;cases e;exact absurd (show Value.type "list"=Value.type "tuple" from c) (fun z=>by injection z with z;exact absurd z (by decide))
  exact Heap.get?_push_of_some _ (Heap.get?_push_of_some _ ((Heap.get?_update_ne _ _ _ _ nb).trans e))
 show wpAny (model prog w) A _ P E { s with heap:=((s.heap.update a (Obj.mapSeq fun _=>(#[]:Array Value))).push (seqObj "tuple" vs.toArray 0)).push (seqObj "list" #[] 0) }
 have fin:∀out:Array Value,out=xk vs W->P (.done (.ret .none)) { s with heap:=(((s.heap.update a (Obj.mapSeq fun _=>(#[]:Array Value))).push (seqObj "tuple" vs.toArray 0)).push (seqObj "list" #[] 0)).update a (Obj.mapSeq fun _=>out) }:=fun out e=>by
  subst e;exact q
 generalize hh:((s.heap.update a (Obj.mapSeq fun _=>(#[]:Array Value))).push (seqObj "tuple" vs.toArray 0)).push (seqObj "list" #[] 0)=hp at g3 tw3 fin ⊢;dsimp only;by_cases h2:vs.toArray.size<2
 ·rw[if_pos h2,if_pos h2]
  refine wpAny_bind (wpAny_pure ?_);rw[StateT.run_pure];refine wpAny_bind (wpAny_pure ?_);dsimp only
  have same:(arrOf (SortSt.mk' general' (vs.toArray.zip vs.toArray) #[] 7 none)).map (·.2)=xk vs W:=by
   have hl:=tw.len;rw[List.size_toArray] at h2;unfold xk fY;rw[if_pos (by omega),←hl]
   exact DJ vs h2
  rw[same];refine wpAny_bind (seqEpoch_at g3 rfl (wpAny_bind (listUpdate_at g3 rfl ?_ (Nat.zero_le _) (by omega))))
  simp only[bne_self_eq_false,Bool.false_eq_true,if_false];exact wpAny_pure (fin _ rfl)
 ·rw[if_neg h2,if_neg h2]
  rw[List.size_toArray] at h2;obtain⟨fs,t1,t2,t3⟩:=tw3.tups (ne (by have:=tw.len;omega))
  refine wpAny_bind (PySem.W.kat_kind (T:=.type "int") t1 (by omega) (fun v hv=>?_) rfl ?_)
  ·obtain⟨n,t,rfl⟩:=t3 v hv
   exact PySem.W.Looks.now
  refine wpAny_bind (wpAny_mono (PySem.W.kat_run (E:=E) (Q:=fun st' s'=>failedOf st'=none/\(arrOf st').map (·.2)=xk vs W/\s'={ s with heap:=hp }) (G:=fun p s'=>p=fY W/\s'={ s with heap:=hp }) rfl (by omega) hs (fun p st' s' _ b1 b2 b3=>⟨b2,?_,b3.2⟩) (Dq tw3 (by omega) ⟨?_,rfl⟩)) ?_ fun _ _ e=>e)
  ·rw[PySem.W.kat_snds rfl b1,b3.1]
   rfl
  ·have hl:=tw.len
   unfold fY;rw[if_neg (by omega),←hl]
  ·rintro⟨⟨⟩,st'⟩ s' ⟨b1,b2,rfl⟩
   dsimp only at b1 b2 ⊢;rw[b2];refine wpAny_bind (seqEpoch_at g3 rfl (wpAny_bind (listUpdate_at g3 rfl ?_ (Nat.zero_le _) (by omega))))
   rw[b1];simp only[bne_self_eq_false,Bool.false_eq_true,if_false];exact wpAny_pure (fin _ rfl)
theorem xz{l:Addr}{vs:List Value}{W:List (List Int)}{Q:Value->Shared->Prop}(g:s.heap.IsList l vs.toArray)(tw:TW s.heap vs W)(ne:2<=W.length->∀x∈W,x≠[])(hs:vs.length<64)(q:Q (.ref (s.heap.objs.size+1)) { s with heap:=sortedAll s.heap vs (xk vs W) }):wpAny (model prog w) A (call (.builtin "sorted") [.ref l]) Q E s:=by
 have line:64<=sizeLine:=by rw[sizeLine_eq];omega
 refine Calls.call_function_entry kind_sorted plain_sorted entry_sorted (args_sorted1 _) ?_;unfold Builtin.«sorted»;have n1:((s.heap.push (seqObj "list" #[] 0)).update s.heap.objs.size (Obj.mapSeq (·++vs.toArray))).objs.size=s.heap.objs.size+1:=by rw[Heap.size_update,size_push']
 refine wpAny_bind (m:=checkCount "sorted" 1 1 _) (wpAny_pure (wpAny_bind (collect_list g (wpAny_bind (wpAny_newList ?_ (by omega))) (by omega))))
 have g2:(((s.heap.push (seqObj "list" #[] 0)).update s.heap.objs.size (Obj.mapSeq (·++vs.toArray))).push (seqObj "list" vs.toArray 0)).get? (s.heap.objs.size+1)=some (seqObj "list" vs.toArray 0):=by
  rw[←n1];exact Heap.get?_push_size _ rfl
 have tw2:TW (((s.heap.push (seqObj "list" #[] 0)).update s.heap.objs.size (Obj.mapSeq (·++vs.toArray))).push (seqObj "list" vs.toArray 0)) vs W:=tw.keep fun b o e _=>by
  have lt:=Heap.lt_size e;exact Heap.get?_push_of_some _ ((Heap.get?_update_ne _ _ _ _ (Nat.ne_of_lt lt)).trans (Heap.get?_push_of_some _ e))
 show wpAny _ _ _ _ _ { s with heap:=((s.heap.push (seqObj "list" #[] 0)).update s.heap.objs.size (Obj.mapSeq (·++vs.toArray))).push (seqObj "list" vs.toArray 0) }
 rw[n1];exact wpAny_bind (wpAny_holding (wpAny_call_entry slot_list_sort ⟨_,g2,rfl⟩ entry_list_sort (Dh g2 tw2 ne hs ⟨_,rfl,wpAny_pure ⟨_,rfl,q⟩⟩) (args_list_sort _)))
end
noncomputable def srt(xs:List V)(W:List (List Int)):List V:=(fY W).toList.map fun i=>xs.getD i .non
noncomputable def TWv(H:Hp):List V->List (List Int)->Prop
 | [],[]=>True
 |v::vs,x::xs=>(∃a,v=.ref a/\H a=some (.tup (x.map V.int)))/\TWv H vs xs
 |_,_=>False
section
variable{X:Cx}
theorem Zs.of:∀ {ns:List Int} {its:List Value},aR (ns.map V.int) its->Zs its ns
 | [],[],_=>trivial
 |n::ns,v::vs,h=>by
  cases h with
  |cons r rr=>
   exact⟨r,Zs.of rr⟩
 | [],_::_,h=>by cases h
 |_::_,[],h=>by cases h
theorem TWv.tw{pins:List (Addr×Obj)}{σ:St}{H:Hp}{s:Shared}(I:Inv X pins σ H s):∀ {xs:List V} {W:List (List Int)} {us:List Value},TWv H xs W->aR xs us->TW s.heap us W
 | [],[],[],_,_=>trivial
 |v::vs,x::ys,u::us,⟨⟨a,e1,e2⟩,q⟩,h=>by
  subst e1
  cases h with
  |cons r rr=>
   cases r;obtain⟨_,its,e4,⟨o,e5,e6,n,e7⟩,_⟩:=I.hok a _ e2;exact⟨⟨a,o,its.toArray,n,rfl,e5,e6,e7,Zs.of e4⟩,TWv.tw I q rr⟩
 | [],[],_::_,_,h=>by cases h
 |_::_,_,[],_,h=>by cases h
 | [],_::_,_,q,_=>q.elim
 |_::_,[],_,q,_=>q.elim
theorem zC{α:Type}{f:α->V}{g:α->Value}:∀ {l:List α},(∀i∈l,bf (f i) (g i))->aR (l.map f) (l.map g)
 | [],_=>.nil
 |_::_,h=>.cons (h _ (List.mem_cons_self ..)) (zC fun j hj=>h j (List.mem_cons_of_mem _ hj))
theorem Ord.mem{n:Nat}{p:Array Nat}(h:Ord n p){i:Nat}(hi:i∈p.toList):i<n:=by
 have:=(h.mem_iff (a:=i)).mp (Array.mem_toList_iff.mp hi);simpa using this
theorem xl:cY X (.builtin "sorted") (fun xs H Q=>∃p ys W,xs=[.ref p]/\SqL X.K H p ys/\TWv H ys W/\(2<=W.length->∀x∈W,x≠[])/\W.length<64/\∀l,H l=none->Q (.ref l) (upd H l (.lst (srt ys W)))):=by
 intro pins s σ H xs us Q I r h;obtain⟨p,ys,W,rfl,hq,hT,hne,hW,q⟩:=h;obtain⟨u,rfl,rx⟩:=g9 r;cases rx;obtain⟨its,r',pl,hz⟩:=I.list hq;have tw:=TWv.tw I hT r';have e1:=tw.len;have e2:=r'.length;obtain⟨e,he⟩:=sortedAll_at s.heap its (xk its W)
 have hv:aR (srt ys W) ((fY W).toList.map fun i=>its.getD i Value.none):=zC fun i hi=>by
  have hi':=(gn W).mem hi;obtain⟨u,hu,ru⟩:=r'.get (List.getElem?_eq_getElem (by omega:i<ys.length))
  rw[List.getD_eq_getElem?_getD,List.getD_eq_getElem?_getD,hu,List.getElem?_eq_getElem (by omega:i<ys.length)]
  exact ru
 have hl:(srt ys W).length<=sizeLine:=by
  have a:=(gn W).size_eq;have b:64<=sizeLine:=by rw[sizeLine_eq];omega
  simp[srt] at a ⊢;omega
 exact xz pl.isList tw hne (by omega) ⟨.ref (s.heap.objs.size+1),_,I.laid (t':=s.toks) (fun b o e=>sortedAll_old e) (Nat.le_succ _) (show bV X.prog X.w _ _ _ (.lst (srt ys W)) from ⟨hl,_,e,hv,he⟩),rfl,q _ (I.hok.fresh (Nat.le_succ _))⟩
end
noncomputable def ic(W:List (List Int)):List (List Int):=(fY W).toList.map fun i=>W.getD i []
theorem l4(W:List (List Int)):(ic W).Perm W:=by
 have h:(fY W).toList.Perm (List.range W.length):=by
  have:=(gn W).toList;simpa using this
 have:=h.map fun i=>W.getD i [];refine this.trans (.of_eq ?_);apply List.ext_getElem?;intro i;by_cases hi:i<W.length
 ·rw[List.getElem?_map,List.getElem?_range hi,List.getElem?_eq_getElem hi]
  simp[hi]
 ·rw[List.getElem?_eq_none (by simpa using hi),List.getElem?_eq_none (by simpa using hi)]
theorem Cd{H:Hp}:∀ {ns:List Int} {xs:List V},aJ H (ns.map D.int) xs->xs=ns.map V.int
 | [],xs,h=>by simpa[aJ] using h
 |n::ns,xs,h=>by
  simp only[List.map_cons,aJ,Dat] at h;obtain⟨x,r,rfl,rfl,h2⟩:=h;rw[Cd h2];rfl
theorem TWv.of{H:Hp}:∀ {W:List (List Int)} {xs:List V},aJ H (W.map wdD) xs->TWv H xs W
 | [],xs,h=>by
  have:xs=[]:=by simpa[aJ] using h
  subst this;exact trivial
 |x::W,xs,h=>by
  simp only[List.map_cons,aJ] at h;obtain⟨v,r,rfl,hv,h2⟩:=h;simp only[wdD,Dat] at hv;obtain⟨a,ys,rfl,ha,hy⟩:=hv;rw[Cd hy] at ha;exact⟨⟨a,rfl,ha⟩,TWv.of h2⟩
theorem um{H:Hp}{W:List (List Int)}{xs:List V}(h:aJ H (W.map wdD) xs):∀ {l:List Nat},(∀i∈l,i<W.length)->aJ H ((l.map fun i=>W.getD i []).map wdD) (l.map fun i=>xs.getD i .non)
 | [],_=>by simp[aJ]
 |i::l,q=>by
  simp only[List.map_cons,aJ];have hi:=q i (List.mem_cons_self ..);obtain⟨x,e,hx⟩:=h.get (i:=i) (d:=wdD (W.getD i [])) (by rw[List.getElem?_map,List.getD_eq_getElem?_getD,List.getElem?_eq_getElem hi];rfl)
  refine⟨_,_,rfl,?_,um h fun j hj=>q j (List.mem_cons_of_mem _ hj)⟩;rw[show xs.getD i V.non=x by rw[List.getD_eq_getElem?_getD,e];rfl]
  exact hx
theorem Gx{H:Hp}{W:List (List Int)}{xs:List V}(h:aJ H (W.map wdD) xs):aJ H ((ic W).map wdD) (srt xs W):=um h fun i hi=>(gn W).mem hi
theorem nX(W:List (List Int)):(ic W).length=W.length:=(l4 W).length_eq
theorem xN{W:List (List Int)}{x:List Int}:x∈ic W↔x∈W:=(l4 W).mem_iff
section
variable{X:Cx}
theorem xI:cY X (.builtin "sorted") (fun xs H Q=>∃p W,xs=[.ref p]/\LD H p (W.map wdD)/\(∀x∈W,x≠[])/\W.length<64/\∀l H',H l=none->cK H H'->LD H' l ((ic W).map wdD)->Q (.ref l) H'):=by
 intro pins s σ H xs us Q I r h;obtain⟨p,W,rfl,⟨hn,ys,hy,hd⟩,ne,hl,q⟩:=h;exact xl pins s σ H _ us Q I r ⟨p,ys,W,rfl,SqL.of hy,TWv.of hd,fun _=>ne,hl,fun l hl=>q l _ hl (qT hl) ⟨sM _,_,bM,(Gx hd).same (qT hl)⟩⟩
end
structure Je(c:Nat->Nat->Bool):Prop where
 as:∀i j,c i j=true->c j i=false
 tr:∀i j k,c j i=false->c k j=false->c k i=false
theorem gi{α β:Type}(c:Nat->Nat->Bool){f:α->W.KasT β}:∀t:W.KasT α,bI c (t.bind f)=bI c (f (bI c t))
 |.ret _=>rfl
 |.ask i j k=>gi c (k (c i j))
section
variable{c:Nat->Nat->Bool}(L:Je c)
noncomputable def Up(c:Nat->Nat->Bool)(p:Array Nat)(k:Nat):Prop:=∀i j,i<=j->j<k->c (p.getD j 0) (p.getD i 0)=false
noncomputable def Dn(c:Nat->Nat->Bool)(p:Array Nat)(k:Nat):Prop:=∀i j,i<=j->j<k->c (p.getD i 0) (p.getD j 0)=false
include L
theorem Je.rf(i:Nat):c i i=false:=by
 cases h:c i i with
 |false=>rfl
 |true=>rw[L.as i i h] at h;cases h
theorem Mc(p:Array Nat):Up c p 1:=fun i j h1 h2=>by
 have:i=j:=by omega
 subst this;exact L.rf _
theorem Jo{p:Array Nat}{k:Nat}(h:Up c p k)(hk:1<=k)(q:c (p.getD k 0) (p.getD (k-1) 0)=false):Up c p (k+1):=fun i j h1 h2=>by
 by_cases hj:j<k
 ·exact h i j h1 hj
 ·have:j=k:=by omega
  subst this;by_cases hi:i=j
  ·subst hi;exact L.rf _
  ·exact L.tr _ (p.getD (j-1) 0) _ (h i (j-1) (by omega) (by omega)) q
theorem nA{p:Array Nat}{k:Nat}(h:Dn c p k)(hk:1<=k)(q:c (p.getD (k-1) 0) (p.getD k 0)=false):Dn c p (k+1):=fun i j h1 h2=>by
 by_cases hj:j<k
 ·exact h i j h1 hj
 ·have:j=k:=by omega
  subst this;by_cases hi:i=j
  ·subst hi;exact L.rf _
  ·exact L.tr _ (p.getD (j-1) 0) _ q (h i (j-1) (by omega) (by omega))
theorem Aj{p:Array Nat}:∀f k,1<=k->Up c p k->Up c p (bI c (W.kas_asc p f k))/\k<=bI c (W.kas_asc p f k)/\bI c (W.kas_asc p f k)<=k+f
 |0,k,_,h=>⟨h,Nat.le_refl _,Nat.le_refl _⟩
 |f+1,k,hk,h=>by
  unfold W.kas_asc;simp only[bI]
  cases q:c (p.getD k 0) (p.getD (k-1) 0) with
  |true=>exact⟨h,Nat.le_refl _,by simp[bI]⟩
  |false=>
   have:=Aj f (k+1) (by omega) (Jo L h hk q)
   simp only[Bool.false_eq_true,if_false];exact⟨this.1,by omega,by omega⟩
end
theorem dM{p:Array Nat}{i j:Nat}(hj:j<=p.size)(k:Nat):(W.kas_rev p i j).getD k 0=if i<=k/\k<j then p.getD (i+j-1-k) 0 else p.getD k 0:=by
 have:=getElem?_mirror_all (xs:=p) (i:=i) hj k;simp only[Array.getD_eq_getD_getElem?];unfold W.kas_rev;rw[this];split<;>rfl
theorem xS{p:Array Nat}{s d:Nat}(hs:s<p.size)(hd:d<=s)(k:Nat):(bubble p s d).getD k 0=if k=s-d then p.getD s 0 else if s-d<k/\k<=s then p.getD (k-1) 0 else p.getD k 0:=by
 have:=getElem?_bubble hs d hd k;simp only[Array.getD_eq_getD_getElem?];rw[this];split
 ·rfl
 ·split<;>rfl
section
variable{c:Nat->Nat->Bool}(L:Je c)
include L
theorem JC{p:Array Nat}{k:Nat}(hk:k<=p.size)(h:Dn c p k):Up c (W.kas_rev p 0 k) k:=fun i j h1 h2=>by
 rw[dM hk,dM hk,if_pos (by omega),if_pos (by omega)]
 exact h _ _ (by omega) (by omega)
theorem rj{p:Array Nat}{k:Nat}(hu:Up c p k):∀f l r,r-l<=f->l<=r->r<=k->(∀i,i<l->c (p.getD k 0) (p.getD i 0)=false)->(∀i,r<=i->i<k->c (p.getD k 0) (p.getD i 0)=true) ->
  bI c (W.kas_place p k f l r)<=k/\(∀i,i<bI c (W.kas_place p k f l r)->c (p.getD k 0) (p.getD i 0)=false)/\(∀i,bI c (W.kas_place p k f l r)<=i->i<k->c (p.getD k 0) (p.getD i 0)=true)
 |0,l,r,hf,hl,hr,h1,h2=>by
  have:l=r:=by omega
  subst this;exact⟨hr,h1,h2⟩
 |f+1,l,r,hf,hl,hr,h1,h2=>by
  unfold W.kas_place;by_cases h:l ≥ r
  ·rw[if_pos h]
   have:l=r:=by omega
   subst this;exact⟨hr,h1,h2⟩
  ·rw[if_neg h]
   simp only[bI]
   cases q:c (p.getD k 0) (p.getD ((l+r) / 2) 0) with
   |true=>
    simp only[if_true];refine rj hu f l ((l+r) / 2) (by omega) (by omega) (by omega) h1 fun i hi hik=>?_
    cases e:c (p.getD k 0) (p.getD i 0) with
    |true=>rfl
    |false=>
     have:=L.tr (p.getD ((l+r) / 2) 0) (p.getD i 0) (p.getD k 0) (hu _ _ hi hik) e;rw[this] at q;cases q
   |false=>
    simp only[Bool.false_eq_true,if_false];refine rj hu f ((l+r) / 2+1) r (by omega) (by omega) hr (fun i hi=>?_) h2
    exact L.tr (p.getD i 0) (p.getD ((l+r) / 2) 0) (p.getD k 0) (hu _ _ (by omega) (by omega)) q
theorem Ff:∀f (p:Array Nat) k,k+f<=p.size->Up c p k->Up c (bI c (W.kas_bin f p k)) (k+f)
 |0,_,_,_,h=>h
 |f+1,p,k,hz,h=>by
  unfold W.kas_bin;rw[gi];obtain⟨h1,h2,h3⟩:=rj L h k 0 k (by omega) (by omega) (Nat.le_refl _) (fun i hi=>absurd hi (by omega)) (fun i hi hik=>absurd hik (by omega))
  generalize bI c (W.kas_place p k k 0 k)=l at h1 h2 h3 ⊢
  have:=Ff f (bubble p k (k - l)) (k + 1) (by rw [bubble_size];omega) (fun i j hij hj=>by
   rw[xS (by omega) (by omega),xS (by omega) (by omega),show k-(k-l)=l by omega]
   by_cases j1:j=l
   ·rw[if_pos j1]
    by_cases i1:i=l
    ·rw[if_pos i1];exact L.rf _
    ·rw[if_neg i1,if_neg (by omega)];exact h2 i (by omega)
   ·rw[if_neg j1]
    by_cases j2:l<j/\j<=k
    ·rw[if_pos j2]
     by_cases i1:i=l
     ·rw[if_pos i1];exact L.as _ _ (h3 (j-1) (by omega) (by omega))
     ·rw[if_neg i1]
      by_cases i2:l<i/\i<=k
      ·rw[if_pos i2];exact h _ _ (by omega) (by omega)
      ·rw[if_neg i2];exact h _ _ (by omega) (by omega)
    ·rw[if_neg j2,if_neg (by omega),if_neg (by omega)];exact h _ _ hij (by omega))
  rw[show k+(f+1)=k+1+f by omega]
  exact this
noncomputable def B0(c:Nat->Nat->Bool)(p:Array Nat)(a b:Nat):Prop:=∀i j,a<=i->i<b->a<=j->j<b->c (p.getD i 0) (p.getD j 0)=false
theorem G0{p:Array Nat}{a k:Nat}(hk:k<=p.size)(h:Dn c p k)(al:B0 c p a k):Dn c (W.kas_rev p a k) k:=fun i j hij hj=>by
 rw[dM hk,dM hk];by_cases j1:a<=j/\j<k
 ·rw[if_pos j1]
  by_cases i1:a<=i/\i<k
  ·rw[if_pos i1];exact al _ _ (by omega) (by omega) (by omega) (by omega)
  ·rw[if_neg i1]
   exact h _ _ (by omega) (by omega)
 ·rw[if_neg j1,if_neg (by omega)];exact h _ _ hij hj
theorem qO:∀f (p:Array Nat) n q,1<=n->q+1<=n->n+f<=p.size->Dn c p n->B0 c p (n-(q+1)) n ->
  (bI c (W.kas_desc f p n q)).1.size=p.size/\1<=(bI c (W.kas_desc f p n q)).2.1/\(bI c (W.kas_desc f p n q)).2.1<=n+f/\(bI c (W.kas_desc f p n q)).2.2+1<=(bI c (W.kas_desc f p n q)).2.1 /\
  Dn c (bI c (W.kas_desc f p n q)).1 (bI c (W.kas_desc f p n q)).2.1/\B0 c (bI c (W.kas_desc f p n q)).1 ((bI c (W.kas_desc f p n q)).2.1-((bI c (W.kas_desc f p n q)).2.2+1)) (bI c (W.kas_desc f p n q)).2.1
 |0,p,n,q,h1,h2,h3,h4,h5=>⟨rfl,h1,Nat.le_refl _,h2,h4,h5⟩
 |f+1,p,n,q,h1,h2,h3,h4,h5=>by
  have single:∀p':Array Nat,B0 c p' (n+1-(0+1)) (n+1):=fun p' i j a1 a2 a3 a4=>by
   have:i=j:=by omega
   subst this;exact L.rf _
  unfold W.kas_desc;simp only[bI]
  cases e:c (p.getD n 0) (p.getD (n-1) 0) with
  |true=>
   simp only[if_true];by_cases hq:q>0
   ·rw[if_pos hq]
    have d1:=G0 L (by omega:n<=p.size) h4 h5
    have d2 : Dn c (W.kas_rev p (n - (q + 1)) n) (n + 1):=nA L d1 h1 (by
     rw[dM (by omega),dM (by omega),if_pos (by omega),if_neg (by omega)]
     exact L.tr _ (p.getD (n-1) 0) _ (L.as _ _ e) (h5 _ _ (by omega) (by omega) (by omega) (by omega)))
    have:=qO f (W.kas_rev p (n-(q+1)) n) (n+1) 0 (by omega) (by omega) (by rw[W.kas_rev_size];omega) d2 (single _)
    rw[W.kas_rev_size] at this;exact⟨this.1,this.2.1,by omega,this.2.2.2⟩
   ·rw[if_neg hq]
    have:=qO f p (n+1) 0 (by omega) (by omega) (by omega) (nA L h4 h1 (L.as _ _ e)) (single _)
    exact⟨this.1,this.2.1,by omega,this.2.2.2⟩
  |false=>
   simp only[Bool.false_eq_true,if_false,bI]
   cases e2:c (p.getD (n-1) 0) (p.getD n 0) with
   |true=>exact⟨rfl,h1,by simp[bI],h2,h4,h5⟩
   |false=>
    simp only[Bool.false_eq_true,if_false]
    have:=qO f p (n + 1) (q + 1) (by omega) (by omega) (by omega) (nA L h4 h1 e2) (fun i j a1 a2 a3 a4=>by
     have low:∀i,n-(q+1)<=i->i<n+1->c (p.getD i 0) (p.getD n 0)=false:=fun i b1 b2=>by
      by_cases hi:i=n
      ·subst hi;exact L.rf _
      ·exact L.tr _ (p.getD (n-1) 0) _ e2 (h5 _ _ (by omega) (by omega) (by omega) (by omega))
     have high:∀i,n-(q+1)<=i->i<n+1->c (p.getD n 0) (p.getD i 0)=false:=fun i b1 b2=>by
      by_cases hi:i=n
      ·subst hi;exact L.rf _
      ·exact L.tr _ (p.getD (n-1) 0) _ (h5 _ _ (by omega) (by omega) (by omega) (by omega)) e
     exact L.tr _ (p.getD n 0) _ (high j (by omega) a4) (low i (by omega) a2))
    exact⟨this.1,this.2.1,by omega,this.2.2.2⟩
theorem yo{p:Array Nat}{n z:Nat}(h1:1<=n)(h2:n<=z)(hz:z=p.size)(h:Dn c p n):(bI c (W.kas_tail3 n z p)).2.size=z/\1<=(bI c (W.kas_tail3 n z p)).1/\(bI c (W.kas_tail3 n z p)).1<=z/\Up c (bI c (W.kas_tail3 n z p)).2 (bI c (W.kas_tail3 n z p)).1:=by
 unfold W.kas_tail3;rw[gi];simp only[bI];have:=Aj L (p:=W.kas_rev p 0 n) (z-n) n h1 (JC L (by omega) h)
 exact⟨by rw[W.kas_rev_size];exact hz.symm,by omega,by omega,this.1⟩
theorem pV{p:Array Nat}{n z:Nat}(h1:1<=n)(h2:n<z)(hz:z=p.size)(h:Dn c p (n+1)):(bI c (W.kas_descPart n z p)).2.size=z/\1<=(bI c (W.kas_descPart n z p)).1/\(bI c (W.kas_descPart n z p)).1<=z/\Up c (bI c (W.kas_descPart n z p)).2 (bI c (W.kas_descPart n z p)).1:=by
 unfold W.kas_descPart;rw[gi]
 obtain ⟨a1,a2,a3,a4,a5,a6⟩:=qO L (z - (n + 1)) p (n + 1) 0 (by omega) (by omega) (by omega) h (fun i j b1 b2 b3 b4=>by
  have:i=j:=by omega
  subst this
  exact L.rf _)
 generalize bI c (W.kas_desc (z-(n+1)) p (n+1) 0)=r at a1 a2 a3 a4 a5 a6 ⊢;split
 ·exact yo L a2 (by omega) (by rw[W.kas_rev_size];omega) (G0 L (by omega) a5 a6)
 ·exact yo L a2 (by omega) (by omega) a5
theorem y4{p:Array Nat}:∀f k,bI c (W.kas_asc p f k)=k+f\/c (p.getD (bI c (W.kas_asc p f k)) 0) (p.getD (bI c (W.kas_asc p f k)-1) 0)=true
 |0,k=>.inl rfl
 |f+1,k=>by
  unfold W.kas_asc;simp only[bI]
  cases q:c (p.getD k 0) (p.getD (k-1) 0) with
  |true=>exact .inr (by simpa[bI] using q)
  |false=>
   simp only[Bool.false_eq_true,if_false];rcases y4 f (k+1) with h|h
   ·exact .inl (by rw[h];omega)
   ·exact .inr h
theorem Hm{p:Array Nat}{z:Nat}(h1:1<=z)(hz:z=p.size):(bI c (W.kas_count z p)).2.size=z/\1<=(bI c (W.kas_count z p)).1/\(bI c (W.kas_count z p)).1<=z/\Up c (bI c (W.kas_count z p)).2 (bI c (W.kas_count z p)).1:=by
 unfold W.kas_count;rw[gi];obtain⟨a1,a2,a3⟩:=Aj L (p:=p) (z-1) 1 (Nat.le_refl _) (Mc L p);have a4:=y4 L (p:=p) (z-1) 1;generalize bI c (W.kas_asc p (z-1) 1)=n at a1 a2 a3 a4 ⊢;by_cases e:(n == z)=true
 ·rw[if_pos e]
  have:n=z:=by simpa using e
  exact⟨hz.symm,a2,by show n<=z;omega,a1⟩
 ·rw[if_neg e]
  have hne:n≠z:=by simpa using e
  have st:c (p.getD n 0) (p.getD (n-1) 0)=true:=by
   rcases a4 with h|h
   ·exact absurd h (by omega)
   ·exact h
  by_cases h2:n>1
  ·rw[if_pos h2]
   simp only[bI]
   cases q:c (p.getD 0 0) (p.getD (n-1) 0) with
   |true=>exact⟨hz.symm,a2,by show n<=z;omega,a1⟩
   |false=>
    simp only[Bool.false_eq_true,if_false]
    have al:∀i j,i<n->j<n->c (p.getD i 0) (p.getD j 0)=false:=fun i j hi hj=>by
     have b1:c (p.getD i 0) (p.getD 0 0)=false->True:=fun _=>trivial;have b2:=a1 j (n-1) (by omega) (by omega)
     have b3:=a1 0 i (by omega) (by omega)
     have b4:=a1 i (n-1) (by omega) (by omega)
     have b5:=a1 0 j (by omega) (by omega)
     have up1:c (p.getD (n-1) 0) (p.getD j 0)=false:=a1 j (n-1) (by omega) (by omega)
     have x1:c (p.getD 0 0) (p.getD j 0)=false:=L.tr (p.getD j 0) (p.getD (n-1) 0) (p.getD 0 0) up1 q;exact L.tr (p.getD j 0) (p.getD 0 0) (p.getD i 0) x1 b3
    have d0:Dn c (W.kas_rev p 0 n) n:=fun i j hij hj=>by
     rw[dM (by omega),dM (by omega),if_pos (by omega),if_pos (by omega)]
     exact al _ _ (by omega) (by omega)
    have d1 : Dn c (W.kas_rev p 0 n) (n + 1):=nA L d0 (by omega) (by
     rw[dM (by omega),dM (by omega),if_pos (by omega),if_neg (by omega)]
     exact L.tr _ (p.getD (n-1) 0) _ (L.as _ _ st) (al _ _ (by omega) (by omega)))
    exact pV L (by omega) (by omega) (by rw[W.kas_rev_size];exact hz) d1
  ·rw[if_neg h2]
   have n1:n=1:=by omega
   subst n1
   have d0:Dn c p 1:=fun i j hij hj=>by
    have:i=j:=by omega
    subst this;exact L.rf _
   exact pV L (by omega) (by omega) hz (nA L d0 (by omega) (L.as _ _ st))
theorem ID{z:Nat}(h1:1<=z):Up c (bI c (W.kas_sort z)) z:=by
 unfold W.kas_sort;rw[gi];obtain⟨a1,a2,a3,a4⟩:=Hm L (p:=List.toArray (List.range z)) h1 (by simp)
 generalize bI c (W.kas_count z (List.toArray (List.range z)))=r at a1 a2 a3 a4 ⊢;split
 ·rw[show max r.1 1=r.1 by omega]
  have:=Ff L (z-r.1) r.2 r.1 (by omega) a4
  rwa [show r.1+(z-r.1)=z by omega] at this
 ·have:r.1=z:=by omega
  rw[this] at a4;exact a4
end
noncomputable def eU:List Int->List Int->Bool
 | [],[]=>false
 | [],_::_=>true
 |_::_,[]=>false
 |x::xs,y::ys=>if x=y then eU xs ys else decide (x<y)
theorem qw:∀x y:List Int,ltZ x y=eU x y
 | [],[]=>rfl
 | [],_::_=>by simp[ltZ,ltF,eU]
 |_::_,[]=>by simp[ltZ,ltF,eU]
 |x::xs,y::ys=>by
  have:=qw xs ys;unfold ltZ at this ⊢;unfold ltF eU;have e:decide ((x::xs).length<(y::ys).length)=decide (xs.length<ys.length):=by simp
  rw[e,this]
theorem GN:∀x y:List Int,eU x y=true->eU y x=false
 | [],[],h=>by simp[eU] at h
 | [],_::_,_=>rfl
 |_::_,[],h=>by simp[eU] at h
 |x::xs,y::ys,h=>by
  unfold eU at h ⊢;by_cases e:x=y
  ·rw[if_pos e] at h;rw[if_pos e.symm];exact GN xs ys h
  ·rw[if_neg e] at h;rw[if_neg (Ne.symm e)]
   simp at h ⊢;omega
theorem FC:∀x y z:List Int,eU y x=false->eU z y=false->eU z x=false
 | [],_,[],_,_=>rfl
 | [],_,_::_,_,_=>rfl
 |_::_,[],_,h,_=>by simp[eU] at h
 |_::_,_::_,[],_,h=>by simp[eU] at h
 |x::xs,y::ys,z::zs,h1,h2=>by
  unfold eU at h1 h2 ⊢;by_cases e1:y=x
  ·subst e1
   rw[if_pos rfl] at h1;by_cases e2:z=y
   ·subst e2
    rw[if_pos rfl] at h2 ⊢;exact FC xs ys zs h1 h2
   ·rw[if_neg e2] at h2 ⊢;exact h2
  ·rw[if_neg e1] at h1
   simp at h1;by_cases e2:z=y
   ·subst e2
    rw[if_neg e1];simpa using h1
   ·rw[if_neg e2] at h2
    simp at h2;rw[if_neg (by omega)]
    simp;omega
theorem AB:∀x y:List Int,eU y x=false->eU x y=false->x=y
 | [],[],_,_=>rfl
 | [],_::_,_,h=>by simp[eU] at h
 |_::_,[],h,_=>by simp[eU] at h
 |x::xs,y::ys,h1,h2=>by
  unfold eU at h1 h2;by_cases e:x=y
  ·subst e
   rw[if_pos rfl] at h1 h2;rw[AB xs ys h1 h2]
  ·rw[if_neg e] at h2
   rw[if_neg (Ne.symm e)] at h1;simp at h1 h2;omega
theorem zT(W:List (List Int)):Je fun i j=>ltZ (W.getD i []) (W.getD j []) where
 as i j h:=by rw[qw] at h ⊢;exact GN _ _ h
 tr i j k h1 h2:=by rw[qw] at h1 h2 ⊢;exact FC _ _ _ h1 h2
noncomputable def Ris(W:List (List Int)):Prop:=W.Pairwise fun a b=>eU b a=false
theorem yf(W:List (List Int)):Ris (ic W):=by
 have hs:(fY W).size=W.length:=by
  have:=(gn W).size_eq;simpa using this
 unfold Ris;rw[List.pairwise_iff_getElem];intro i j hi hj hij;have hl:(ic W).length=W.length:=nX W
 have at_:∀k (hk:k<(ic W).length),(ic W)[k]=W.getD ((fY W).getD k 0) []:=fun k hk=>by
  have hk2:k<(fY W).size:=by omega
  have q:(ic W)[k]?=some (W.getD ((fY W).getD k 0) []):=by
   unfold ic;rw[List.getElem?_map,Array.getElem?_toList,Array.getElem?_eq_getElem hk2,Array.getD_eq_getD_getElem?,Array.getElem?_eq_getElem hk2];rfl
  exact(List.getElem?_eq_some_iff.mp q).2
 rw[at_ i hi,at_ j hj];by_cases h2:W.length<2
 ·omega
 ·have:=ID (zT W) (z:=W.length) (by omega) i j (by omega) (by omega)
  have e:fY W=bI (fun i j=>ltZ (W.getD i []) (W.getD j [])) (PySem.W.kas_sort W.length):=by unfold fY;rw[if_neg h2]
  rw[←e] at this
  rw[←qw]
  exact this
theorem E3:∀ {A B:List (List Int)},A.Perm B->Ris A->Ris B->A=B
 | [],B,p,_,_=>by rw[List.nil_perm.mp p]
 |a::A,[],p,_,_=>by simp at p
 |a::A,b::B,p,h1,h2=>by
  have ma:a∈b::B:=p.mem_iff.mp (List.mem_cons_self ..);have mb:b∈a::A:=p.mem_iff.mpr (List.mem_cons_self ..)
  have e:a=b:=by
   rcases List.mem_cons.mp ma with h|h
   ·exact h
   ·rcases List.mem_cons.mp mb with h'|h'
    ·exact h'.symm
    ·exact AB _ _ (List.rel_of_pairwise_cons h1 h') (List.rel_of_pairwise_cons h2 h)
  subst e;rw[E3 (List.Perm.cons_inv p) h1.of_cons h2.of_cons]
theorem HX{W V:List (List Int)}(p:W.Perm V)(h:Ris V):ic W=V:=E3 ((l4 W).trans p) (yf W) h
end L2
namespace L2
open PySem PySem.Spec PyProof.Rows
inductive AV where
 |d (x:D)
 |r (v:V)
 |p (v:V) (P:Hp->Prop)
inductive OC where
 |own (xs:List AV)
 |frz (ds:List D)
 |dic (kvs:List (Str×AV))
noncomputable abbrev Om:=Addr->Option OC
noncomputable abbrev SA:=List (Option AV)
noncomputable abbrev Fs:=Addr->Bool
noncomputable def Om.put(Z:Om)(l:Addr)(c:OC):Om:=fun b=>if b=l then some c else Z b
theorem Om.OD{Z:Om}{l:Addr}{c:OC}:Z.put l c l=some c:=by unfold Om.put;rw[if_pos rfl]
theorem Om.OB{Z:Om}{l b:Addr}{c:OC}(h:b≠l):Z.put l c b=Z b:=by unfold Om.put;rw[if_neg h]
theorem Om.OE{Z:Om}{l:Addr}{c e:OC}:(Z.put l c).put l e=Z.put l e:=by funext b;unfold Om.put;split<;>rfl
theorem Om.OF{Z:Om}{l p:Addr}{c e:OC}(h:p≠l):(Z.put l c).put p e=(Z.put p e).put l c:=by
 funext b;unfold Om.put;split<;>split<;>simp_all
noncomputable def ow:Option OC->Bool
 |some (.own _)=>true
 |some (.dic _)=>true
 |_=>false
noncomputable def Fs.add(F:Fs)(l:Addr):Fs:=fun b=>decide (b=l) || F b
noncomputable def cut(F:Fs)(H:Hp)(Z:Om):Hp:=fun b=>if (ow (Z b) || F b)=true then none else H b
noncomputable def RV(G:Hp):AV->V->Prop
 |.d x,v=>Dat G x v
 |.r u,v=>v=u
 |.p u P,v=>v=u/\∀G',cK G G'->P G'
noncomputable def RVs(G:Hp):List AV->List V->Prop
 | [],vs=>vs=[]
 |a::as,vs=>∃v r,vs=v::r/\RV G a v/\RVs G as r
noncomputable def RS(G:Hp)(ρ:SA)(σ:St):Prop:=ρ.length=σ.length/\∀(i:Nat)(a:AV),ρ[i]?=some (some a)->∃v,σ[i]?=some (some v)/\RV G a v
noncomputable def RKs(G:Hp):List (Str×AV)->List (Key×V)->Prop
 | [],ks=>ks=[]
 |p::r,ks=>∃v r',ks=((Sum.inr p.1:Key),v)::r'/\RV G p.2 v/\RKs G r r'
structure Rep(F:Fs)(H:Hp)(Z:Om):Prop where
 own:∀l xs,Z l=some (.own xs)->∃vs,H l=some (.lst vs)/\RVs (cut F H Z) xs vs
 frz:∀l ds,Z l=some (.frz ds)->Dat (cut F H Z) (.lst ds) (.ref l)
 hid:∀b,F b=true->Z b=none/\∃vs,H b=some (.lst vs)
 dic:∀l kvs,Z l=some (.dic kvs)->∃ks,H l=some (.dK ks)/\RKs (cut F H Z) kvs ks
structure Fr(F:Fs)(H:Hp)(Z:Om)(H':Hp)(Z':Om):Prop where
 st:∀b o,ow (Z b)=false->F b=false->H b=some o->H' b=some o/\ow (Z' b)=false
 hd:∀b,F b=true->H' b=H b
section
variable{F:Fs}{H H1 H2 H':Hp}{Z Z1 Z2 Z':Om}{G G':Hp}
theorem Fr.refl:Fr F H Z H Z:=⟨fun _ _ h _ e=>⟨e,h⟩,fun _ _=>rfl⟩
theorem Fr.trans(a:Fr F H Z H1 Z1)(b:Fr F H1 Z1 H2 Z2):Fr F H Z H2 Z2:=
 ⟨fun c o h f e=>let ⟨x,y⟩:=a.st c o h f e;b.st c o y f x,fun c h=>(b.hd c h).trans (a.hd c h)⟩
theorem bY{b:Addr}{o:HO}:cut F H Z b=some o↔ow (Z b)=false/\F b=false/\H b=some o:=by
 unfold cut;cases ow (Z b)<;>cases F b<;>simp
theorem Fr.same(a:Fr F H Z H' Z'):cK (cut F H Z) (cut F H' Z'):=fun b o e=>by
 obtain⟨h,f,e⟩:=bY.mp e;obtain⟨x,y⟩:=a.st b o h f e;exact bY.mpr ⟨y,f,x⟩
theorem a8:cK (cut F H Z) H:=fun b o e=>(bY.mp e).2.2
theorem RV.same(e:cK G G'):∀ {a:AV} {v:V},RV G a v->RV G' a v
 |.d _,_,h=>Dat.same e h
 |.r _,_,h=>h
 |.p _ _,_,h=>⟨h.1,fun G2 s=>h.2 G2 (e.trans s)⟩
theorem RVs.same(e:cK G G'):∀ {as:List AV} {vs:List V},RVs G as vs->RVs G' as vs
 | [],_,h=>h
 |_::_,_,⟨v,r,h1,h2,h3⟩=>⟨v,r,h1,h2.same e,h3.same e⟩
theorem RKs.same(e:cK G G'):∀ {as:List (Str×AV)} {vs:List (Key×V)},RKs G as vs->RKs G' as vs
 | [],_,h=>h
 |_::_,_,⟨v,r,h1,h2,h3⟩=>⟨v,r,h1,h2.same e,h3.same e⟩
theorem RS.same(e:cK G G'){ρ:SA}{σ:St}(h:RS G ρ σ):RS G' ρ σ:=⟨h.1,fun i a q=>let ⟨v,x,y⟩:=h.2 i a q;⟨v,x,y.same e⟩⟩
theorem RVs.length:∀ {as:List AV} {vs:List V},RVs G as vs->vs.length=as.length
 | [],_,h=>by cases h;rfl
 |_::_,_,⟨v,r,h1,_,h3⟩=>by subst h1;simp[h3.length]
theorem RVs.get:∀ {as:List AV} {vs:List V} {i:Nat} {a:AV},RVs G as vs->as[i]?=some a->∃v,vs[i]?=some v/\RV G a v
 | [],_,_,_,_,e=>by simp at e
 |_::_,_,0,_,⟨v,r,h1,h2,_⟩,e=>by subst h1;simp at e;subst e;exact⟨v,rfl,h2⟩
 |_::_,_,i+1,_,⟨v,r,h1,_,h3⟩,e=>by subst h1;simp at e;obtain⟨v',e1,e2⟩:=h3.get e;exact⟨v',by simpa using e1,e2⟩
theorem RVs.append:∀ {as bs:List AV} {vs us:List V},RVs G as vs->RVs G bs us->RVs G (as++bs) (vs++us)
 | [],_,_,_,h,k=>by cases h;exact k
 |_::_,_,_,_,⟨v,r,h1,h2,h3⟩,k=>by subst h1;exact⟨v,_,rfl,h2,h3.append k⟩
theorem RVs.one{a:AV}{v:V}(h:RV G a v):RVs G [a] [v]:=⟨v,[],rfl,h,rfl⟩
theorem RVs.dats:∀ {ds:List D} {vs:List V},RVs G (ds.map AV.d) vs↔aJ G ds vs
 | [],_=>by simp[RVs,aJ]
 |d::ds,vs=>by
  simp only[List.map_cons,RVs,aJ,RV];constructor
  ·rintro⟨v,r,h1,h2,h3⟩;exact⟨v,r,h1,h2,RVs.dats.mp h3⟩
  ·rintro⟨v,r,h1,h2,h3⟩;exact⟨v,r,h1,h2,RVs.dats.mpr h3⟩
theorem RVs.set{as:List AV}{vs:List V}(i:Nat){a:AV}{v:V}(h:RVs G as vs)(k:RV G a v):RVs G (as.set i a) (vs.set i v):=by
 induction as generalizing vs i with
 |nil=>cases h;exact rfl
 |cons b as ih=>
  obtain⟨u,r,rfl,h2,h3⟩:=h
  cases i with
  |zero=>exact⟨v,r,rfl,k,h3⟩
  |succ i=>exact⟨u,_,rfl,h2,ih i h3⟩
theorem RVs.dropLast:∀ {as:List AV} {vs:List V},RVs G as vs->RVs G as.dropLast vs.dropLast
 | [],_,h=>by cases h;exact rfl
 | [a],_,⟨v,r,h1,h2,h3⟩=>by cases h3;subst h1;exact rfl
 |a::b::as,_,⟨v,r,h1,h2,h3⟩=>by
  obtain⟨u,r',rfl,k2,k3⟩:=id h3;subst h1;exact⟨v,_,rfl,h2,h3.dropLast⟩
theorem Rep.free(R:Rep F H Z){p:Addr}(h:H p=none):Z p=none/\F p=false:=by
 constructor
 ·cases e:Z p with
  |none=>rfl
  |some c=>cases c with
   |own xs=>obtain⟨vs,q,_⟩:=R.own p xs e;rw[h] at q;cases q
   |frz ds=>
    have q:=R.frz p ds e;simp only[Dat] at q;obtain⟨a,xs,e1,e2,_⟩:=q;cases e1;rw[a8 _ _ e2] at h;cases h
   |dic kvs=>obtain⟨vs,q,_⟩:=R.dic p kvs e;rw[h] at q;cases q
 ·cases e:F p with
  |false=>rfl
  |true=>obtain⟨_,o,q⟩:=R.hid p e;rw[h] at q;cases q
theorem Rep.lay(R:Rep F H Z){p:Addr}{o:HO}(h:H p=none):Rep F (upd H p o) Z/\Fr F H Z (upd H p o) Z/\cut F (upd H p o) Z p=some o:=by
 have hs:=qT (o:=o) h
 have fr:Fr F H Z (upd H p o) Z:=⟨fun b u x f e=>⟨hs _ _ e,x⟩,fun b f=>by
  obtain⟨_,u,q⟩:=R.hid b f
  rw[aF (aY q h)]⟩
 obtain⟨f1,f2⟩:=R.free h;refine⟨⟨fun l xs e=>?_,fun l ds e=>(R.frz l ds e).same fr.same,fun b f=>?_,fun l ks e=>(by obtain⟨vs,e1,e2⟩:=R.dic l ks e;exact⟨vs,hs _ _ e1,e2.same fr.same⟩)⟩,fr,bY.mpr ⟨by rw[f1];rfl,f2,bM⟩⟩
 ·obtain⟨vs,e1,e2⟩:=R.own l xs e
  exact⟨vs,hs _ _ e1,e2.same fr.same⟩
 ·obtain⟨x,u,q⟩:=R.hid b f
  exact⟨x,u,hs _ _ q⟩
theorem DS{l:Addr}{xs ys:List AV}{o:HO}(h:Z l=some (.own xs)):cut F (upd H l o) (Z.put l (.own ys))=cut F H Z:=by
 funext b
 unfold cut Om.put;by_cases hb:b=l
 ·subst hb;rw[if_pos rfl,h];simp[ow]
 ·rw[if_neg hb,aF hb]
theorem Rep.write(R:Rep F H Z){l:Addr}{xs ys:List AV}{vs:List V}(h:Z l=some (.own xs))(hv:RVs (cut F H Z) ys vs):
  Rep F (upd H l (.lst vs)) (Z.put l (.own ys))/\Fr F H Z (upd H l (.lst vs)) (Z.put l (.own ys)):=by
 have c:=DS (F:=F) (H:=H) (ys:=ys) (o:=.lst vs) h
 refine ⟨⟨fun k zs e=>?_,fun k ds e=>?_,fun b f=>?_,fun k ks e=>(by
  have hk:k≠l:=fun z=>(by subst z;rw[Om.OD] at e;cases e)
  rw[Om.OB hk] at e;rw[c,aF hk];exact R.dic k ks e)⟩,fun b o x f e=>?_,fun b f=>?_⟩
 ·rw[c]
  by_cases hk:k=l
  ·subst hk;rw[Om.OD] at e;cases e;exact⟨vs,bM,hv⟩
  ·rw[Om.OB hk] at e;rw[aF hk];exact R.own k zs e
 ·rw[c]
  by_cases hk:k=l
  ·subst hk;rw[Om.OD] at e;cases e
  ·rw[Om.OB hk] at e;exact R.frz k ds e
 ·obtain⟨x,o,q⟩:=R.hid b f
  have hb:b≠l:=fun z=>by subst z;rw[h] at x;cases x
  exact⟨by rw[Om.OB hb];exact x,o,by rw[aF hb];exact q⟩
 ·have hb:b≠l:=fun z=>by subst z;rw[h] at x;cases x
  rw[Om.OB hb,aF hb];exact⟨e,x⟩
 ·obtain⟨x,o,q⟩:=R.hid b f
  have hb:b≠l:=fun z=>by subst z;rw[h] at x;cases x
  exact aF hb
theorem Rep.mk'(R:Rep F H Z){l:Addr}{xs:List AV}{vs:List V}(h:H l=none)(hv:RVs (cut F H Z) xs vs):
  Rep F (upd H l (.lst vs)) (Z.put l (.own xs))/\Fr F H Z (upd H l (.lst vs)) (Z.put l (.own xs)):=by
 obtain⟨f1,f2⟩:=R.free h
 have c:cut F (upd H l (.lst vs)) (Z.put l (.own xs))=cut F H Z:=by
  funext b
  unfold cut Om.put;by_cases hb:b=l
  ·subst hb;rw[if_pos rfl,f1,f2,h];simp[ow]
  ·rw[if_neg hb,aF hb]
 refine ⟨⟨fun k zs e=>?_,fun k ds e=>?_,fun b f=>?_,fun k ks e=>(by
  have hk:k≠l:=fun z=>(by subst z;rw[Om.OD] at e;cases e)
  rw[Om.OB hk] at e;rw[c,aF hk];exact R.dic k ks e)⟩,fun b o x f e=>?_,fun b f=>?_⟩
 ·rw[c]
  by_cases hk:k=l
  ·subst hk;rw[Om.OD] at e;cases e;exact⟨vs,bM,hv⟩
  ·rw[Om.OB hk] at e;rw[aF hk];exact R.own k zs e
 ·rw[c]
  by_cases hk:k=l
  ·subst hk;rw[Om.OD] at e;cases e
  ·rw[Om.OB hk] at e;exact R.frz k ds e
 ·obtain⟨x,o,q⟩:=R.hid b f
  have hb:b≠l:=aY q h;exact⟨by rw[Om.OB hb];exact x,o,by rw[aF hb];exact q⟩
 ·have hb:b≠l:=aY e h
  rw[Om.OB hb,aF hb];exact⟨e,x⟩
 ·obtain⟨x,o,q⟩:=R.hid b f
  exact aF (aY q h)
theorem Rep.freeze(R:Rep F H Z){l:Addr}{ds:List D}(h:Z l=some (.own (ds.map AV.d))):
  Rep F H (Z.put l (.frz ds))/\Fr F H Z H (Z.put l (.frz ds))/\Dat (cut F H (Z.put l (.frz ds))) (.lst ds) (.ref l):=by
 have fr:Fr F H Z H (Z.put l (.frz ds)):=⟨fun b o x f e=>⟨e,by
  by_cases hb:b=l
  ·subst hb;rw[h] at x;cases x
  ·rw[Om.OB hb];exact x⟩,fun _ _=>rfl⟩
 obtain⟨vs,e1,e2⟩:=R.own l _ h
 have hF:F l=false:=by
  cases e:F l with
  |false=>rfl
  |true=>have:=(R.hid l e).1;rw[h] at this;cases this
 have dl:Dat (cut F H (Z.put l (.frz ds))) (.lst ds) (.ref l):=by
  simp only[Dat];exact⟨l,vs,rfl,bY.mpr ⟨by rw[Om.OD];rfl,hF,e1⟩,(RVs.dats.mp e2).same fr.same⟩
 refine ⟨⟨fun k zs e=>?_,fun k es e=>?_,fun b f=>?_,fun k ks e=>(by
  have hk:k≠l:=fun z=>(by subst z;rw[Om.OD] at e;cases e)
  rw[Om.OB hk] at e;obtain⟨us,q1,q2⟩:=R.dic k ks e;exact⟨us,q1,q2.same fr.same⟩)⟩,fr,dl⟩
 ·by_cases hk:k=l
  ·subst hk;rw[Om.OD] at e;cases e
  ·rw[Om.OB hk] at e
   obtain⟨us,q1,q2⟩:=R.own k zs e;exact⟨us,q1,q2.same fr.same⟩
 ·by_cases hk:k=l
  ·subst hk;rw[Om.OD] at e;cases e;exact dl
  ·rw[Om.OB hk] at e;exact(R.frz k es e).same fr.same
 ·obtain⟨x,o,q⟩:=R.hid b f
  have hb:b≠l:=fun z=>by subst z;rw[h] at x;cases x
  exact⟨by rw[Om.OB hb];exact x,o,q⟩
theorem Rep.hide(R:Rep F H Z){l:Addr}{vs:List V}(h:H l=none):Rep (F.add l) (upd H l (.lst vs)) Z/\cut (F.add l) (upd H l (.lst vs)) Z=cut F H Z:=by
 obtain⟨f1,f2⟩:=R.free h
 have c:cut (F.add l) (upd H l (.lst vs)) Z=cut F H Z:=by
  funext b
  unfold cut Fs.add;by_cases hb:b=l
  ·subst hb;simp[h]
  ·rw[aF hb];simp[hb]
 refine⟨⟨fun k zs e=>?_,fun k ds e=>?_,fun b f=>?_,fun k ks e=>(by rw[c];obtain⟨us,q1,q2⟩:=R.dic k ks e;exact⟨us,by rw[aF (aY q1 h)];exact q1,q2⟩)⟩,c⟩
 ·rw[c]
  obtain⟨us,q1,q2⟩:=R.own k zs e;exact⟨us,by rw[aF (aY q1 h)];exact q1,q2⟩
 ·rw[c];exact R.frz k ds e
 ·by_cases hb:b=l
  ·subst hb;exact⟨f1,_,bM⟩
  ·have f':F b=true:=by simpa[Fs.add,hb] using f
   obtain⟨x,o,q⟩:=R.hid b f';exact⟨x,o,by rw[aF hb];exact q⟩
theorem Rep.hwrite(R:Rep F H Z){l:Addr}{vs:List V}(h:F l=true):Rep F (upd H l (.lst vs)) Z/\cut F (upd H l (.lst vs)) Z=cut F H Z:=by
 have c:cut F (upd H l (.lst vs)) Z=cut F H Z:=by
  funext b
  unfold cut;by_cases hb:b=l
  ·subst hb;simp[h]
  ·rw[aF hb]
 refine ⟨⟨fun k zs e=>?_,fun k ds e=>?_,fun b f=>?_,fun k ks e=>(by
  have hk:k≠l:=fun z=>(by subst z;rw[(R.hid _ h).1] at e;cases e)
  rw[c,aF hk];exact R.dic k ks e)⟩,c⟩
 ·rw[c]
  obtain⟨us,q1,q2⟩:=R.own k zs e;have hk:k≠l:=fun z=>by subst z;rw[(R.hid _ h).1] at e;cases e
  exact⟨us,by rw[aF hk];exact q1,q2⟩
 ·rw[c];exact R.frz k ds e
 ·by_cases hb:b=l
  ·subst hb;exact⟨(R.hid _ h).1,_,bM⟩
  ·obtain⟨x,o,q⟩:=R.hid b f
   exact⟨x,o,by rw[aF hb];exact q⟩
theorem Rep.unhide{l:Addr}{vs:List V}(R:Rep (F.add l) H Z)(hF:F l=false)(h:H l=some (.lst vs)):
  Rep F H Z/\cK (cut (F.add l) H Z) (cut F H Z)/\cut F H Z l=some (.lst vs):=by
 have hl:Z l=none:=(R.hid l (by simp[Fs.add])).1
 have sm:cK (cut (F.add l) H Z) (cut F H Z):=fun b o e=>by
  obtain⟨x,f,e⟩:=bY.mp e;refine bY.mpr ⟨x,?_,e⟩;unfold Fs.add at f
  cases q:F b with
  |false=>rfl
  |true=>rw[q] at f;simp at f
 refine⟨⟨fun k zs e=>?_,fun k ds e=>(R.frz k ds e).same sm,fun b f=>R.hid b (by simp[Fs.add,f]),fun k ks e=>(by obtain⟨us,q1,q2⟩:=R.dic k ks e;exact⟨us,q1,q2.same sm⟩)⟩,sm,bY.mpr ⟨by rw[hl];rfl,hF,h⟩⟩
 obtain⟨us,q1,q2⟩:=R.own k zs e;exact⟨us,q1,q2.same sm⟩
theorem Rep.O0{l:Addr}{vs:List V}{xs:List AV}(R:Rep (F.add l) H Z)(hF:F l=false)(h:H l=some (.lst vs))(hv:RVs (cut (F.add l) H Z) xs vs):
  Rep F H (Z.put l (.own xs))/\cK (cut (F.add l) H Z) (cut F H (Z.put l (.own xs))):=by
 have hl:Z l=none:=(R.hid l (by simp[Fs.add])).1
 have sm:cK (cut (F.add l) H Z) (cut F H (Z.put l (.own xs))):=fun b o e=>by
  obtain⟨x,f,e⟩:=bY.mp e;have hb:b≠l:=fun z=>by subst z;simp[Fs.add] at f
  refine bY.mpr ⟨by rw[Om.OB hb];exact x,?_,e⟩
  unfold Fs.add at f
  cases q:F b with
  |false=>rfl
  |true=>rw[q] at f;simp at f
 refine ⟨⟨fun k zs e=>?_,fun k ds e=>?_,fun b f=>?_,fun k ks e=>(by
  have hk:k≠l:=fun z=>(by subst z;rw[Om.OD] at e;cases e)
  rw[Om.OB hk] at e;obtain⟨us,q1,q2⟩:=R.dic k ks e;exact⟨us,q1,q2.same sm⟩)⟩,sm⟩
 ·by_cases hk:k=l
  ·subst hk;rw[Om.OD] at e;cases e;exact⟨vs,h,hv.same sm⟩
  ·rw[Om.OB hk] at e
   obtain⟨us,q1,q2⟩:=R.own k zs e;exact⟨us,q1,q2.same sm⟩
 ·by_cases hk:k=l
  ·subst hk;rw[Om.OD] at e;cases e
  ·rw[Om.OB hk] at e;exact(R.frz k ds e).same sm
 ·have hb:b≠l:=fun z=>by subst z;rw[f] at hF;cases hF
  rw[Om.OB hb];exact R.hid b (by simp[Fs.add,f])
end
noncomputable def LP{α β:Type}(R:Hp->α->β->Prop)(F:Fs)(H:Hp)(Z:Om)(Q':α->Om->Prop)(Q:β->Hp->Prop):Prop:=
 ∀a Z' v H',Rep F H' Z'->Fr F H Z H' Z'->R (cut F H' Z') a v->Q' a Z'->Q v H'
theorem LP.fr{α β:Type}{R:Hp->α->β->Prop}{F:Fs}{H H1:Hp}{Z Z1:Om}{Q':α->Om->Prop}{Q:β->Hp->Prop}(k:LP R F H Z Q' Q)(f:Fr F H Z H1 Z1):LP R F H1 Z1 Q' Q:=
 fun a Z' v H' rp fr rv q=>k a Z' v H' rp (f.trans fr) rv q
structure Ref{α β:Type}(R:Hp->α->β->Prop)(t:St->Hp->(β->Hp->Prop)->Prop)(t':SA->Om->(α->Om->Prop)->Prop):Prop where
 run:∀(F:Fs)(H:Hp)(Z:Om)(σ:St)(ρ:SA)(Q:β->Hp->Prop)(Q':α->Om->Prop),Rep F H Z->RS (cut F H Z) ρ σ->t' ρ Z Q'->LP R F H Z Q' Q->t σ H Q
theorem Ref.go{α β:Type}{R:Hp->α->β->Prop}{t:St->Hp->(β->Hp->Prop)->Prop}{t':SA->Om->(α->Om->Prop)->Prop}(h:Ref R t t'){F:Fs}{H:Hp}{Z:Om}{σ:St}{ρ:SA}{Q:β->Hp->Prop}{Q':α->Om->Prop}(rp:Rep F H Z)(rs:RS (cut F H Z) ρ σ)(w:t' ρ Z Q')(k:∀a Z1 v H1,Rep F H1 Z1->Fr F H Z H1 Z1->RS (cut F H1 Z1) ρ σ->R (cut F H1 Z1) a v->Q' a Z1->Q v H1):t σ H Q:=
 h.run F H Z σ ρ Q Q' rp rs w fun a Z1 v H1 rp1 fr1 rv q=>k a Z1 v H1 rp1 fr1 (rs.same fr1.same) rv q
noncomputable abbrev AE:=SA->Om->(AV->Om->Prop)->Prop
noncomputable abbrev AT:=SA->Om->(Bool->Om->Prop)->Prop
noncomputable abbrev AA:=SA->Om->(List AV->Om->Prop)->Prop
noncomputable def REq{α:Type}(_:Hp)(a b:α):Prop:=a=b
noncomputable abbrev bi(t:TE)(t':AE):Prop:=Ref RV t t'
noncomputable abbrev jU(t:TT)(t':AT):Prop:=Ref REq t t'
noncomputable abbrev mQ(t:TA)(t':AA):Prop:=Ref RVs t t'
structure cB where
 nx:SA->Om->Prop
 rt:AV->Om->Prop
 bk:SA->Om->Prop:=fun _ _=>False
 ct:SA->Om->Prop:=fun _ _=>False
noncomputable abbrev AS:=cB->SA->Om->Prop
structure LE(F:Fs)(H:Hp)(Z:Om)(D':cB)(D:mm):Prop where
 nx:LP RS F H Z D'.nx D.nx
 rt:LP RV F H Z D'.rt D.rt
 bk:LP RS F H Z D'.bk D.bk
 ct:LP RS F H Z D'.ct D.ct
theorem LE.fr{F:Fs}{H H1:Hp}{Z Z1:Om}{D':cB}{D:mm}(k:LE F H Z D' D)(f:Fr F H Z H1 Z1):LE F H1 Z1 D' D:=⟨k.nx.fr f,k.rt.fr f,k.bk.fr f,k.ct.fr f⟩
structure iN(t:TS)(t':AS):Prop where
 run:∀(F:Fs)(H:Hp)(Z:Om)(σ:St)(ρ:SA)(D:mm)(D':cB),Rep F H Z->RS (cut F H Z) ρ σ->t' D' ρ Z->LE F H Z D' D->t D σ H
noncomputable abbrev AG:=AV->SA->Om->(SA->Om->Prop)->Prop
noncomputable abbrev AGs:=List AV->SA->Om->(SA->Om->Prop)->Prop
structure sN(g:TG)(g':AG):Prop where
 run:∀(F:Fs)(H:Hp)(Z:Om)(σ:St)(ρ:SA)(v:V)(a:AV)(Q:St->Hp->Prop)(Q':SA->Om->Prop),Rep F H Z->RS (cut F H Z) ρ σ->RV (cut F H Z) a v->g' a ρ Z Q'->LP RS F H Z Q' Q->g v σ H Q
structure Cm(g:TGs)(g':AGs):Prop where
 run:∀(F:Fs)(H:Hp)(Z:Om)(σ:St)(ρ:SA)(v:List V)(a:List AV)(Q:St->Hp->Prop)(Q':SA->Om->Prop),Rep F H Z->RS (cut F H Z) ρ σ->RVs (cut F H Z) a v->g' a ρ Z Q'->LP RS F H Z Q' Q->g v σ H Q
noncomputable abbrev ASp:=List AV->Om->(AV->Om->Prop)->Prop
noncomputable def bg(sp:ASp):Sp:=fun vs H Q _=>∃(F:Fs)(xs:List AV)(Z:Om)(Q':AV->Om->Prop),Rep F H Z/\RVs (cut F H Z) xs vs/\sp xs Z Q'/\LP RV F H Z Q' Q
noncomputable def KA:AS:=fun D ρ Z=>D.nx ρ Z
noncomputable def Au(t u:AS):AS:=fun D ρ Z=>t { D with nx:=u D } ρ Z
noncomputable def JM:AS:=fun D ρ Z=>D.ct ρ Z
noncomputable def uP(te:AE):AS:=fun D ρ Z=>te ρ Z fun _ Z1=>D.nx ρ Z1
noncomputable def Nv(te:AE):AS:=fun D ρ Z=>te ρ Z D.rt
noncomputable def HW(c:AT)(t u:AS):AS:=fun D ρ Z=>c ρ Z fun b Z1=>if b=true then t D ρ Z1 else u D ρ Z1
noncomputable def Lj:AS:=fun _ _ _=>False
noncomputable def KY(te:AE)(g:AG):AS:=fun D ρ Z=>te ρ Z fun x Z1=>g x ρ Z1 D.nx
noncomputable def L7(c:AT)(tb:AS):AS:=fun D ρ Z=>∃W:Nat->SA->Om->Prop,(∃m,W m ρ Z)/\∀m ρ Z,W m ρ Z ->
 c ρ Z fun b Z1=>if b=true then ∃N:SA->Om->Prop,(∀ρ' Z',N ρ' Z'->∃m',m'<m/\W m' ρ' Z')/\tb { D with nx:=N,ct:=N,bk:=D.nx } ρ Z1 else D.nx ρ Z1
noncomputable def dX(i:Nat):AG:=fun v ρ Z Q=>Q (ρ.set i (some v)) Z
noncomputable def x5:AGs:=fun vs ρ Z Q=>vs=[]/\Q ρ Z
noncomputable def kL(t:AG)(u:AGs):AGs:=fun vs ρ Z Q=>∃v r,vs=v::r/\t v ρ Z fun ρ' Z'=>u r ρ' Z' Q
section
variable{t u:TS}{t' u':AS}{te:TE}{te':AE}{tc:TT}{tc':AT}{g:TG}{g':AG}{gs:TGs}{gs':AGs}
theorem RS.set{G:Hp}{ρ:SA}{σ:St}{i:Nat}{a:AV}{v:V}(h:RS G ρ σ)(r:RV G a v):RS G (ρ.set i (some a)) (σ.set i (some v)):=by
 refine⟨by simp[h.1],fun j b e=>?_⟩
 by_cases hj:j=i
 ·subst hj
  rw[List.getElem?_set] at e;rw[List.getElem?_set];simp only[if_true] at e ⊢;split at e
  ·rename_i hl
   cases e;rw[if_pos (h.1 ▸ hl)];exact⟨v,rfl,r⟩
  ·cases e
 ·rw[List.getElem?_set_ne (Ne.symm hj)] at e
  rw[List.getElem?_set_ne (Ne.symm hj)];exact h.2 j b e
theorem bj:iN Ko KA:=⟨fun F H Z σ ρ D D' rp rs h k=>k.nx ρ Z σ H rp .refl rs h⟩
theorem au(h1:iN t t')(h2:iN u u'):iN (NX t u) (Au t' u'):=⟨fun F H Z σ ρ D D' rp rs h k=>
 h1.run F H Z σ ρ _ _ rp rs h ⟨fun ρ1 Z1 σ1 H1 rp1 fr1 rs1 q=>h2.run F H1 Z1 σ1 ρ1 D D' rp1 rs1 q (k.fr fr1),k.rt,k.bk,k.ct⟩⟩
theorem LN:iN JX JM:=⟨fun F H Z σ ρ D D' rp rs h k=>k.ct ρ Z σ H rp .refl rs h⟩
theorem cC(h:bi te te'):iN (KC te) (uP te'):=⟨fun F H Z σ ρ D D' rp rs w k=>h.go rp rs w fun a Z1 v H1 rp1 fr1 rs1 rv q=>k.nx ρ Z1 σ H1 rp1 fr1 rs1 q⟩
theorem aL(h:bi te te'):iN (N8 te) (Nv te'):=⟨fun F H Z σ ρ D D' rp rs w k=>h.run F H Z σ ρ _ _ rp rs w k.rt⟩
theorem cI(hc:jU tc tc')(h1:iN t t')(h2:iN u u'):iN (NA tc t u) (HW tc' t' u'):=⟨fun F H Z σ ρ D D' rp rs w k=>
 hc.go rp rs w fun a Z1 v H1 rp1 fr1 rs1 rv q=>by
  cases (show a=v from rv)
  cases a with
  |true=>rw[if_pos rfl] at q ⊢;exact h1.run F H1 Z1 σ ρ D D' rp1 rs1 q (k.fr fr1)
  |false=>rw[if_neg Bool.false_ne_true] at q ⊢;exact h2.run F H1 Z1 σ ρ D D' rp1 rs1 q (k.fr fr1)⟩
theorem ga:iN t Lj:=⟨fun F H Z σ ρ D D' rp rs w k=>w.elim⟩
theorem aH(h:bi te te')(hg:sN g g'):iN (IR te g) (KY te' g'):=⟨fun F H Z σ ρ D D' rp rs w k=>h.go rp rs w fun a Z1 v H1 rp1 fr1 rs1 rv q=>
 hg.run F H1 Z1 σ ρ v a _ _ rp1 rs1 rv q (k.nx.fr fr1)⟩
theorem ao{i:Nat}:sN (C3 i) (dX i):=⟨fun F H Z σ ρ v a Q Q' rp rs rv w k=>k _ Z _ H rp .refl (rs.set rv) w⟩
theorem kg:Cm N2 x5:=⟨fun F H Z σ ρ vs as Q Q' rp rs rv w k=>by
 obtain⟨rfl,w⟩:=w
 exact⟨rv,k ρ Z σ H rp .refl rs w⟩⟩
theorem bH(h1:sN g g')(h2:Cm gs gs'):Cm (JS g gs) (kL g' gs'):=⟨fun F H Z σ ρ vs as Q Q' rp rs rv w k=>by
 obtain⟨a,r,rfl,w⟩:=w;obtain⟨v,us,rfl,rv1,rv2⟩:=rv
 exact⟨v,us,rfl,h1.run F H Z σ ρ v a _ _ rp rs rv1 w fun ρ1 Z1 σ1 H1 rp1 fr1 rs1 q=>h2.run F H1 Z1 σ1 ρ1 us r Q Q' rp1 rs1 (rv2.same fr1.same) q (k.fr fr1)⟩⟩
theorem qE(hc:jU tc tc')(hb:iN t t'):iN (Gz tc t) (L7 tc' t'):=⟨fun F H Z σ ρ D D' rp rs w k=>by
 obtain⟨W,⟨m0,w0⟩,turn⟩:=w;refine⟨fun m σ1 H1=>∃ρ1 Z1,Rep F H1 Z1/\RS (cut F H1 Z1) ρ1 σ1/\Fr F H Z H1 Z1/\W m ρ1 Z1,⟨m0,ρ,Z,rp,rs,.refl,w0⟩,?_⟩;rintro m σ1 H1 ⟨ρ1,Z1,rp1,rs1,fr1,w1⟩;refine hc.go rp1 rs1 (turn m ρ1 Z1 w1) fun a Z2 v H2 rp2 fr2 rs2 rv q=>?_;cases (show a=v from rv)
 have k2:=k.fr (fr1.trans fr2)
 cases a with
 |true=>
  rw[if_pos rfl] at q ⊢;obtain⟨N,hN,q⟩:=q;refine⟨fun σ' H'=>∃ρ' Z',Rep F H' Z'/\RS (cut F H' Z') ρ' σ'/\Fr F H Z H' Z'/\N ρ' Z',?_,hb.run F H2 Z2 σ1 ρ1 _ _ rp2 rs2 q ⟨?_,k2.rt,k2.nx,?_⟩⟩
  ·rintro σ' H' ⟨ρ',Z',e1,e2,e3,e4⟩
   obtain⟨m',hm,z⟩:=hN _ _ e4;exact⟨m',hm,ρ',Z',e1,e2,e3,z⟩
  ·exact fun ρ' Z' σ' H' e1 e2 e3 e4=>⟨ρ',Z',e1,e3,(fr1.trans fr2).trans e2,e4⟩
  ·exact fun ρ' Z' σ' H' e1 e2 e3 e4=>⟨ρ',Z',e1,e3,(fr1.trans fr2).trans e2,e4⟩
 |false=>
  rw[if_neg Bool.false_ne_true] at q ⊢
  exact k2.nx ρ1 Z2 σ1 H2 rp2 .refl rs2 q⟩
end
noncomputable def vS(G:Hp)(as:List AV)(J:It):Prop:=∀(F:Fs)(H:Hp)(Z:Om),Rep F H Z->cK G (cut F H Z)->J.stop as.length H /\
 ∀(i:Nat)(a:AV),as[i]?=some a->J.go i H/\∀x H',J.yld i H x H'->Rep F H' Z/\Fr F H Z H' Z/\RV (cut F H' Z) a x
noncomputable abbrev AI:=SA->Om->(List AV->Om->Prop)->Prop
noncomputable abbrev wk(t:TI)(t':AI):Prop:=Ref vS t t'
noncomputable def kh(g:AG)(tb:AS)(D:cB):List AV->SA->Om->Prop
 | [],ρ,Z=>D.nx ρ Z
 |a::as,ρ,Z=>g a ρ Z fun ρ1 Z1=>tb { nx:=kh g tb D as,ct:=kh g tb D as,bk:=D.nx,rt:=D.rt } ρ1 Z1
noncomputable def N9(wi:AI)(g:AG)(tb:AS):AS:=fun D ρ Z=>wi ρ Z fun as Z1=>kh g tb D as ρ Z1
theorem lI{α:Type}{as:List α}{i:Nat}(h:i<as.length):∃a,as[i]?=some a/\as.drop i=a::as.drop (i+1):=
 ⟨as[i],List.getElem?_eq_getElem h,List.drop_eq_getElem_cons h⟩
theorem ja{wi:TI}{wi':AI}{g:TG}{g':AG}{t:TS}{t':AS}(hi:wk wi wi')(hg:sN g g')(hb:iN t t'):iN (Ma wi g t) (N9 wi' g' t'):=⟨fun F H Z σ ρ D D' rp rs w k=>by
 rw[JD];refine hi.go rp rs w fun as Z1 J H1 rp1 fr1 rs1 it q=>?_;refine⟨fun i m σ2 H2=>m+i=as.length/\∃ρ2 Z2,Rep F H2 Z2/\RS (cut F H2 Z2) ρ2 σ2/\Fr F H1 Z1 H2 Z2/\kh g' t' D' (as.drop i) ρ2 Z2,⟨as.length,rfl,ρ,Z1,rp1,rs1,.refl,q⟩,?_⟩;rintro i m σ2 H2 ⟨hm,ρ2,Z2,rp2,rs2,fr2,q2⟩;obtain⟨stop,go⟩:=it F H2 Z2 rp2 fr2.same;by_cases hl:i<as.length
 ·obtain⟨a,ha,hd⟩:=lI hl
  rw[hd] at q2;obtain⟨g1,y1⟩:=go i a ha;refine .inr ⟨g1,fun σ' H'=>m-1+(i+1)=as.length/\∃ρ' Z',Rep F H' Z'/\RS (cut F H' Z') ρ' σ'/\Fr F H1 Z1 H' Z'/\kh g' t' D' (as.drop (i+1)) ρ' Z',fun σ' H' z=>⟨m-1,by omega,z⟩,fun x H' hy=>?_⟩
  obtain⟨rp3,fr3,rv3⟩:=y1 x H' hy;have fr13:=(fr2.trans fr3);refine hg.run F H' Z2 σ2 ρ2 x a _ _ rp3 (rs2.same fr3.same) rv3 q2 fun ρ4 Z4 σ4 H4 rp4 fr4 rs4 q4=>?_;have k4:=k.fr ((fr1.trans fr13).trans fr4);refine hb.run F H4 Z4 σ4 ρ4 _ _ rp4 rs4 q4 ⟨?_,k4.rt,k4.nx,?_⟩
  ·exact fun ρ' Z' σ' H'' e1 e2 e3 e4=>⟨by omega,ρ',Z',e1,e3,(fr13.trans fr4).trans e2,e4⟩
  ·exact fun ρ' Z' σ' H'' e1 e2 e3 e4=>⟨by omega,ρ',Z',e1,e3,(fr13.trans fr4).trans e2,e4⟩
 ·have hi:i=as.length:=by omega
  subst hi;rw[List.drop_length] at q2
  exact .inl ⟨stop,k.nx ρ2 Z2 σ2 H2 rp2 (fr1.trans fr2) rs2 q2⟩⟩
noncomputable abbrev AL:=List AV->SA->Om->(List AV->SA->Om->Prop)->Prop
structure Fa(l:Addr)(F:Fs)(H:Hp)(Z:Om)(H':Hp)(Z':Om):Prop where
 st:∀b o,ow (Z b)=false->F b=false->H b=some o->H' b=some o/\ow (Z' b)=false
 hd:∀b,F b=true->b≠l->H' b=H b
theorem Fr.fa{l:Addr}{F:Fs}{H H':Hp}{Z Z':Om}(h:Fr F H Z H' Z'):Fa l F H Z H' Z':=⟨h.st,fun b f _=>h.hd b f⟩
theorem Fa.trans{l:Addr}{F:Fs}{H H1 H2:Hp}{Z Z1 Z2:Om}(a:Fa l F H Z H1 Z1)(b:Fa l F H1 Z1 H2 Z2):Fa l F H Z H2 Z2:=
 ⟨fun c o h f e=>let ⟨x,y⟩:=a.st c o h f e;b.st c o y f x,fun c h n=>(b.hd c h n).trans (a.hd c h n)⟩
theorem Fa.same{l:Addr}{F:Fs}{H H':Hp}{Z Z':Om}(a:Fa l F H Z H' Z'):cK (cut F H Z) (cut F H' Z'):=fun b o e=>by
 obtain⟨h,f,e⟩:=bY.mp e;obtain⟨x,y⟩:=a.st b o h f e;exact bY.mpr ⟨y,f,x⟩
noncomputable def LL(l:Addr)(F:Fs)(H:Hp)(Z:Om)(K':List AV->SA->Om->Prop)(K:St->Hp->Prop):Prop:=
 ∀xs vs ρ Z' σ H',Rep F H' Z'->Fa l F H Z H' Z'->RS (cut F H' Z') ρ σ->H' l=some (.lst vs)->RVs (cut F H' Z') xs vs->K' xs ρ Z'->K σ H'
theorem LL.fa{l:Addr}{F:Fs}{H H1:Hp}{Z Z1:Om}{K':List AV->SA->Om->Prop}{K:St->Hp->Prop}(k:LL l F H Z K' K)(f:Fa l F H Z H1 Z1):LL l F H1 Z1 K' K:=
 fun xs vs ρ Z' σ H' e1 e2 e3 e4 e5 e6=>k xs vs ρ Z' σ H' e1 (f.trans e2) e3 e4 e5 e6
structure Bi(l:TL)(l':AL):Prop where
 run:∀(F:Fs)(H:Hp)(Z:Om)(σ:St)(ρ:SA)(acc:Addr)(vs:List V)(xs:List AV)(K:St->Hp->Prop)(K':List AV->SA->Om->Prop),Rep F H Z->RS (cut F H Z) ρ σ->F acc=true->H acc=some (.lst vs)->RVs (cut F H Z) xs vs ->
  l' xs ρ Z K'->LL acc F H Z K' K->l acc σ H K
noncomputable def io:AT:=fun _ Z Q=>Q true Z
noncomputable def jk(te:AE):AL:=fun xs ρ Z K=>te ρ Z fun y Z1=>xs.length<sizeLine/\K (xs++[y]) ρ Z1
noncomputable def cy(g:AG)(tc:AT)(l:AL):List AV->AL
 | [],xs,ρ,Z,K=>K xs ρ Z
 |a::as,xs,ρ,Z,K=>g a ρ Z fun ρ1 Z1=>tc ρ1 Z1 fun b Z2=>if b=true then l xs ρ1 Z2 (fun xs' ρ' Z'=>cy g tc l as xs' ρ' Z' K) else cy g tc l as xs ρ1 Z2 K
noncomputable def JN(wi:AI)(g:AG)(tc:AT)(l:AL):AL:=fun xs ρ Z K=>wi ρ Z fun as Z1=>cy g tc l as xs ρ Z1 K
noncomputable def ud(src:List (Option Nat))(ρ:SA):SA:=src.map fun o=>match o with|none=>none|some j=>(ρ[j]?).join
noncomputable def und:List AV->Option (List D)
 | []=>some []
 |.d x::r=>(und r).map (x::·)
 |_=>none
theorem aS:∀ds:List D,und (ds.map AV.d)=some ds
 | []=>rfl
 |d::ds=>by simp[und,aS ds]
theorem gO:∀ {xs:List AV} {ds:List D},und xs=some ds->xs=ds.map AV.d
 | [],ds,h=>by cases h;rfl
 |.d x::r,ds,h=>by
  simp only[und,Option.map_eq_some_iff] at h;obtain⟨es,e1,rfl⟩:=h;rw[gO e1];rfl
 |.r _::_,_,h=>by simp[und] at h
 |.p _ _::_,_,h=>by simp[und] at h
noncomputable def Kx(src:List (Option Nat))(wi:AI)(g:AG)(tc:AT)(l:AL):AE:=fun ρ Z Q=>wi ρ Z fun as Z1=>cy g tc l as [] (ud src ρ) Z1 fun xs _ Z'=>∃ds,und xs=some ds/\Q (.d (.lst ds)) Z'
noncomputable def Gn(src:List (Option Nat))(wi:AI)(g:AG)(tc:AT)(l:AL):AE:=fun ρ Z Q=>wi ρ Z fun as Z1=>cy g tc l as [] (ud src ρ) Z1 fun xs _ Z'=>∀p,Z' p=none->Q (.r (.ref p)) (Z'.put p (.own xs))
section
variable{te:TE}{te':AE}{tc:TT}{tc':AT}{g:TG}{g':AG}{wi:TI}{wi':AI}{l:TL}{l':AL}{src:List (Option Nat)}
theorem gZ:jU C1 io:=⟨fun F H Z σ ρ Q Q' rp rs w k=>k true Z true H rp .refl rfl w⟩
theorem bS(h:bi te te'):Bi (Kr te) (jk te'):=⟨fun F H Z σ ρ acc vs xs K K' rp rs fa ha rx w k=>by
 refine h.go rp rs w fun y Z1 v H1 rp1 fr1 rs1 rv q=>?_;obtain⟨q1,q2⟩:=q;have ha1:H1 acc=some (.lst vs):=(fr1.hd acc fa).trans ha;obtain⟨rp2,c2⟩:=rp1.hwrite (vs:=vs++[v]) fa;refine⟨vs,ha1,by rw[rx.length];exact q1,k (xs++[y]) (vs++[v]) ρ Z1 σ _ rp2 ?_ ?_ bM ?_ q2⟩
 ·refine fr1.fa.trans ⟨fun b o e1 e2 e3=>⟨?_,e1⟩,fun b f n=>aF n⟩
  have hb:b≠acc:=fun z=>by subst z;rw[fa] at e2;cases e2
  rw[aF hb];exact e3
 ·rw[c2];exact rs1
 ·rw[c2];exact(rx.same fr1.same).append (.one rv)⟩
theorem EC(hg:sN g g')(hc:jU tc tc')(hl:Bi l l'){G:Hp}{as:List AV}{J:It}(it:vS G as J){F:Fs}{H:Hp}{Z:Om}{σ:St}{ρ:SA}{acc:Addr}{vs:List V}{xs:List AV}{K:St->Hp->Prop}{K':List AV->SA->Om->Prop}(rp:Rep F H Z)(rs:RS (cut F H Z) ρ σ)(fa:F acc=true)(ha:H acc=some (.lst vs))(rx:RVs (cut F H Z) xs vs)(sG:cK G (cut F H Z))(w:cy g' tc' l' as xs ρ Z K')(k:LL acc F H Z K' K):Cl J g tc l acc σ H K:=by
 refine⟨fun i m σ2 H2=>m+i=as.length/\∃ρ2 Z2 vs2 xs2,Rep F H2 Z2/\RS (cut F H2 Z2) ρ2 σ2/\Fa acc F H Z H2 Z2/\H2 acc=some (.lst vs2)/\RVs (cut F H2 Z2) xs2 vs2/\cy g' tc' l' (as.drop i) xs2 ρ2 Z2 K',
  ⟨as.length,rfl,ρ,Z,vs,xs,rp,rs,Fr.refl.fa,ha,rx,w⟩,?_⟩
 rintro i m σ2 H2 ⟨hm,ρ2,Z2,vs2,xs2,rp2,rs2,fr2,ha2,rx2,q2⟩;obtain⟨stop,go⟩:=it F H2 Z2 rp2 (sG.trans fr2.same);by_cases hl':i<as.length
 ·obtain⟨a,hai,hd⟩:=lI hl'
  rw[hd] at q2;obtain⟨g1,y1⟩:=go i a hai;refine .inr ⟨g1,fun x H' hy=>?_⟩;obtain⟨rp3,fr3,rv3⟩:=y1 x H' hy;refine hg.run F H' Z2 σ2 ρ2 x a _ _ rp3 (rs2.same fr3.same) rv3 q2 fun ρ4 Z4 σ4 H4 rp4 fr4 rs4 q4=>?_;refine hc.go rp4 rs4 q4 fun b Z5 b' H5 rp5 fr5 rs5 rb q5=>?_;cases (show b=b' from rb)
  have fr25:Fr F H2 Z2 H5 Z5:=(fr3.trans fr4).trans fr5;have ha5:H5 acc=some (.lst vs2):=(fr25.hd acc fa).trans ha2;have rx5:=rx2.same fr25.same
  cases b with
  |true=>
   rw[if_pos rfl] at q5 ⊢;refine hl.run F H5 Z5 σ4 ρ4 acc vs2 xs2 _ _ rp5 rs5 fa ha5 rx5 q5 fun xs6 vs6 ρ6 Z6 σ6 H6 e1 e2 e3 e4 e5 e6=>?_;exact⟨m-1,by omega,by omega,ρ6,Z6,vs6,xs6,e1,e3,(fr2.trans fr25.fa).trans e2,e4,e5,e6⟩
  |false=>
   rw[if_neg Bool.false_ne_true] at q5 ⊢;exact⟨m-1,by omega,by omega,ρ4,Z5,vs2,xs2,rp5,rs5,fr2.trans fr25.fa,ha5,rx5,q5⟩
 ·have hi:i=as.length:=by omega
  subst hi;rw[List.drop_length] at q2;exact .inl ⟨stop,k xs2 vs2 ρ2 Z2 σ2 H2 rp2 fr2 rs2 ha2 rx2 q2⟩
theorem JZ(hi:wk wi wi')(hg:sN g g')(hc:jU tc tc')(hl:Bi l l'):Bi (Ni wi g tc l) (JN wi' g' tc' l'):=⟨fun F H Z σ ρ acc vs xs K K' rp rs fa ha rx w k=>
 hi.go rp rs w fun as Z1 J H1 rp1 fr1 rs1 it q=>EC hg hc hl it rp1 rs1 fa ((fr1.hd acc fa).trans ha) (rx.same fr1.same) (cK.refl _) q (k.fa fr1.fa)⟩
theorem RS.blk{G:Hp}{ρ:SA}{σ:St}(h:RS G ρ σ):RS G (ud src ρ) (yH src σ):=by
 refine⟨by simp[ud,yH],fun i a e=>?_⟩
 unfold ud at e;unfold yH;rw[List.getElem?_map] at e ⊢
 cases q:src[i]? with
 |none=>rw[q] at e;simp at e
 |some o=>
  rw[q] at e
  cases o with
  |none=>simp at e
  |some j=>
   simp only[Option.map_some,Option.some.injEq] at e ⊢
   have e':ρ[j]?=some (some a):=by
    cases z:ρ[j]? with
    |none=>rw[z] at e;simp at e
    |some y=>rw[z] at e;simp at e;rw[e]
   obtain⟨v,e1,e2⟩:=h.2 j a e';exact⟨v,by rw[e1];rfl,e2⟩
theorem Cq(hi:wk wi wi')(hg:sN g g')(hc:jU tc tc')(hl:Bi l l'){F:Fs}{H:Hp}{Z:Om}{σ:St}{ρ:SA}{Q:VK}{K':List AV->SA->Om->Prop}(rp:Rep F H Z)(rs:RS (cut F H Z) ρ σ)(w:wi' ρ Z fun as Z1=>cy g' tc' l' as [] (ud src ρ) Z1 K')(k:∀p xs vs ρ' Z' H',F p=false->(∀b o,ow (Z b)=false->F b=false->H b=some o->b≠p)->Rep (F.add p) H' Z'->Fr F H Z H' Z'->H' p=some (.lst vs)->RVs (cut (F.add p) H' Z') xs vs->K' xs ρ' Z'->Q (.ref p) H'):uy src wi g tc l σ H Q:=by
 refine hi.go rp rs w fun as Z1 J H1 rp1 fr1 rs1 it q=>fun acc hacc=>?_;obtain⟨rp2,c2⟩:=rp1.hide (vs:=[]) hacc;obtain⟨f1,f2⟩:=rp1.free hacc;have hb1:∀b,b≠acc->F b=false->(F.add acc) b=false:=fun b h f=>by simp[Fs.add,h,f]
 have hne:∀b o,ow (Z b)=false->F b=false->H b=some o->b≠acc:=fun b o h f e=>aY (fr1.st b o h f e).1 hacc;refine EC (xs:=[]) hg hc hl it rp2 (by rw[c2];exact rs1.blk) (by simp[Fs.add]) bM rfl (by rw[c2];exact cK.refl _) q fun xs vs ρ' Z' σ' H' e1 e2 e3 e4 e5 e6=>?_
 refine k acc xs vs ρ' Z' H' f2 hne e1 ⟨fun b o h f e=>?_,fun b f=>?_⟩ e4 e5 e6
 ·obtain⟨x,y⟩:=fr1.st b o h f e
  have hb:=hne b o h f e;exact e2.st b o y (hb1 b hb f) (by rw[aF hb];exact x)
 ·have hb:b≠acc:=fun z=>by subst z;rw[f] at f2;cases f2
  rw[e2.hd b (by simp[Fs.add,f]) hb,aF hb,fr1.hd b f]
theorem bW(hi:wk wi wi')(hg:sN g g')(hc:jU tc tc')(hl:Bi l l'):bi (uy src wi g tc l) (Kx src wi' g' tc' l'):=⟨fun F H Z σ ρ Q Q' rp rs w k=>by
 refine Cq hi hg hc hl rp rs w fun p xs vs ρ' Z' H' f hne rp1 fr1 e1 e2 q=>?_;obtain⟨ds,hu,q⟩:=q;cases gO hu;obtain⟨rp2,sm,hp⟩:=rp1.unhide f e1;refine k (.d (.lst ds)) Z' _ H' rp2 fr1 ?_ q;simp only[RV,Dat]
 exact⟨p,vs,rfl,hp,RVs.dats.mp (e2.same sm)⟩⟩
theorem HV(hi:wk wi wi')(hg:sN g g')(hc:jU tc tc')(hl:Bi l l'):bi (uy src wi g tc l) (Gn src wi' g' tc' l'):=⟨fun F H Z σ ρ Q Q' rp rs w k=>by
 refine Cq hi hg hc hl rp rs w fun p xs vs ρ' Z' H' f hne rp1 fr1 e1 e2 q=>?_;have hp:Z' p=none:=(rp1.hid p (by simp[Fs.add])).1
 obtain⟨rp2,sm⟩:=rp1.O0 f e1 e2;refine k (.r (.ref p)) (Z'.put p (.own xs)) _ H' rp2 ⟨fun b o h f e=>?_,fr1.hd⟩ rfl (q p hp);obtain⟨x,y⟩:=fr1.st b o h f e;rw[Om.OB (hne b o h f e)]
 exact⟨x,y⟩⟩
end
noncomputable def bn(Z:Om):AV->Option D
 |.d x=>some x
 |.r (.ref l)=>match Z l with
  |some (.own xs)=>(und xs).map D.lst
  |some (.frz ds)=>some (.lst ds)
  |_=>none
 |_=>none
noncomputable def eT(Z:Om):AV->Option (List AV)
 |.d (.lst ds)=>some (ds.map AV.d)
 |.r (.ref l)=>match Z l with
  |some (.own xs)=>some xs
  |some (.frz ds)=>some (ds.map AV.d)
  |_=>none
 |_=>none
noncomputable def e8:AV->Option (List AV)
 |.d (.tup ds)=>some (ds.map AV.d)
 |_=>none
noncomputable def kj(Z:Om)(x:AV)(K:D->Om->Prop):Prop:=match x with
 |.d x=>K x Z
 |.r (.ref l)=>match Z l with
  |some (.own xs)=>∃ds,und xs=some ds/\K (.lst ds) (Z.put l (.frz ds))
  |some (.frz ds)=>K (.lst ds) Z
  |_=>False
 |_=>False
section
variable{F:Fs}{H:Hp}{Z:Om}{x:AV}{v:V}
theorem vR(rp:Rep F H Z)(rv:RV (cut F H Z) x v){xs:List AV}(h:eT Z x=some xs):∃a vs,v=.ref a/\H a=some (.lst vs)/\RVs (cut F H Z) xs vs:=by
 cases x with
 |d x=>cases x with
  |lst ds=>
   simp only[eT,Option.some.injEq] at h;subst h;simp only[RV,Dat] at rv;obtain⟨a,vs,rfl,e1,e2⟩:=rv;exact⟨a,vs,rfl,a8 _ _ e1,RVs.dats.mpr e2⟩
  |_=>simp[eT] at h
 |p u P=>simp[eT] at h
 |r u=>
  cases (show v=u from rv)
  cases v with
  |ref l=>
   simp only[eT] at h
   cases e:Z l with
   |none=>rw[e] at h;simp at h
   |some c=>
    rw[e] at h
    cases c with
    |own ys=>
     simp only[Option.some.injEq] at h;subst h;obtain⟨vs,e1,e2⟩:=rp.own l _ e;exact⟨l,vs,rfl,e1,e2⟩
    |frz ds=>
     simp only[Option.some.injEq] at h;subst h;have q:=rp.frz l ds e;simp only[Dat] at q;obtain⟨a,vs,e1,e2,e3⟩:=q;cases e1;exact⟨l,vs,rfl,a8 _ _ e2,RVs.dats.mpr e3⟩
    |dic ks=>simp at h
  |_=>simp[eT] at h
theorem FT(rv:RV (cut F H Z) x v){xs:List AV}(h:e8 x=some xs):∃a vs,v=.ref a/\cut F H Z a=some (.tup vs)/\RVs (cut F H Z) xs vs:=by
 cases x with
 |d x=>cases x with
  |tup ds=>
   simp only[e8,Option.some.injEq] at h;subst h;simp only[RV,Dat] at rv;obtain⟨a,vs,rfl,e1,e2⟩:=rv;exact⟨a,vs,rfl,e1,RVs.dats.mpr e2⟩
  |_=>simp[e8] at h
 |p u P=>simp[e8] at h
 |r u=>simp[e8] at h
theorem fW(rp:Rep F H Z)(rv:RV (cut F H Z) x v){d:D}(h:bn Z x=some d):Dat H d v:=by
 cases x with
 |d x=>
  simp only[bn,Option.some.injEq] at h;subst h;exact Dat.same a8 rv
 |p u P=>simp[bn] at h
 |r u=>
  cases (show v=u from rv)
  cases v with
  |ref l=>
   simp only[bn] at h
   cases e:Z l with
   |none=>rw[e] at h;simp at h
   |some c=>
    rw[e] at h
    cases c with
    |own ys=>
     simp only[Option.map_eq_some_iff] at h;obtain⟨ds,h1,rfl⟩:=h;cases gO h1;obtain⟨vs,e1,e2⟩:=rp.own l _ e;simp only[Dat];exact⟨l,vs,rfl,e1,(RVs.dats.mp e2).same a8⟩
    |frz ds=>
     simp only[Option.some.injEq] at h;subst h;exact(rp.frz l ds e).same a8
    |dic ks=>simp at h
  |_=>simp[bn] at h
theorem fK(rp:Rep F H Z)(rv:RV (cut F H Z) x v){ds:List D}(h:bn Z x=some (.lst ds)):∃a vs,v=.ref a/\H a=some (.lst vs)/\aJ (cut F H Z) ds vs:=by
 have:eT Z x=some (ds.map AV.d):=by
  cases x with
  |d x=>simp only[bn,Option.some.injEq] at h;subst h;rfl
  |p u P=>simp[bn] at h
  |r u=>cases u with
   |ref l=>
    simp only[bn] at h;simp only[eT]
    cases e:Z l with
    |none=>rw[e] at h;simp at h
    |some c=>
     rw[e] at h
     cases c with
     |own ys=>
      simp only[Option.map_eq_some_iff] at h;obtain⟨es,h1,h2⟩:=h;cases h2;rw[gO h1]
     |frz es=>simp only[Option.some.injEq] at h;cases h;rfl
     |dic ks=>simp at h
   |_=>simp[bn] at h
 obtain⟨a,vs,e1,e2,e3⟩:=vR rp rv this;exact⟨a,vs,e1,e2,RVs.dats.mp e3⟩
theorem oV(rp:Rep F H Z)(rv:RV (cut F H Z) x v){K:D->Om->Prop}(h:kj Z x K):∃d Z',Rep F H Z'/\Fr F H Z H Z'/\Dat (cut F H Z') d v/\K d Z':=by
 cases x with
 |d x=>exact⟨x,Z,rp,.refl,rv,h⟩
 |p u P=>exact h.elim
 |r u=>
  cases (show v=u from rv)
  cases v with
  |ref l=>
   simp only[kj] at h
   cases e:Z l with
   |none=>rw[e] at h;exact h.elim
   |some c=>
    rw[e] at h
    cases c with
    |own ys=>
     obtain⟨ds,h1,h2⟩:=h;cases gO h1;obtain⟨q1,q2,q3⟩:=rp.freeze e;exact⟨_,_,q1,q2,q3,h2⟩
    |frz ds=>exact⟨_,_,rp,.refl,rp.frz l ds e,h⟩
    |dic ks=>exact h.elim
  |_=>exact h.elim
end
noncomputable abbrev A2:=AV->AV->Om->(AV->Om->Prop)->Prop
structure jq(r:R2)(r':A2):Prop where
 run:∀(F:Fs)(H:Hp)(Z:Om)(v u:V)(x y:AV)(Q:VK)(Q':AV->Om->Prop),Rep F H Z->RV (cut F H Z) x v->RV (cut F H Z) y u->r' x y Z Q'->LP RV F H Z Q' Q->r v u H Q
structure Ng(r:V->Hp->VK->Prop)(r':AV->Om->(AV->Om->Prop)->Prop):Prop where
 run:∀(F:Fs)(H:Hp)(Z:Om)(v:V)(x:AV)(Q:VK)(Q':AV->Om->Prop),Rep F H Z->RV (cut F H Z) x v->r' x Z Q'->LP RV F H Z Q' Q->r v H Q
structure nC(r:List V->Hp->VK->Prop)(r':List AV->Om->(AV->Om->Prop)->Prop):Prop where
 run:∀(F:Fs)(H:Hp)(Z:Om)(vs:List V)(xs:List AV)(Q:VK)(Q':AV->Om->Prop),Rep F H Z->RVs (cut F H Z) xs vs->r' xs Z Q'->LP RV F H Z Q' Q->r vs H Q
noncomputable def gE(i:Nat):AE:=fun ρ Z Q=>∃a,ρ[i]?=some (some a)/\Q a Z
noncomputable def JR(i:Nat):AE:=fun ρ Z Q=>∃a,ρ[i]?=some (some a)/\kj Z a fun d Z'=>Q (.d d) Z'
noncomputable def aC(d:D):AE:=fun _ Z Q=>Q (.d d) Z
noncomputable def aOp(r:A2)(ta tb:AE):AE:=fun ρ Z Q=>ta ρ Z fun x Z1=>tb ρ Z1 fun y Z2=>r x y Z2 Q
noncomputable def aUn(r:AV->Om->(AV->Om->Prop)->Prop)(ta:AE):AE:=fun ρ Z Q=>ta ρ Z fun x Z1=>r x Z1 Q
noncomputable def wH:AA:=fun _ Z Q=>Q [] Z
noncomputable def kf(ta:AE)(tr:AA):AA:=fun ρ Z Q=>ta ρ Z fun x Z1=>tr ρ Z1 fun xs Z2=>Q (x::xs) Z2
noncomputable def Nl(t:AA):AE:=fun ρ Z Q=>t ρ Z fun xs Z1=>xs.length<=sizeLine/\∃ds,und xs=some ds/\Q (.d (.tup ds)) Z1
noncomputable def NZ(t:AA):AE:=fun ρ Z Q=>t ρ Z fun xs Z1=>xs.length<=sizeLine/\∃ds,und xs=some ds/\Q (.d (.lst ds)) Z1
noncomputable def Kn(t:AA):AE:=fun ρ Z Q=>t ρ Z fun xs Z1=>xs.length<=sizeLine/\∀p,Z1 p=none->Q (.r (.ref p)) (Z1.put p (.own xs))
noncomputable def E1(sp:ASp)(t:AA):AE:=fun ρ Z Q=>t ρ Z fun xs Z1=>sp xs Z1 Q
noncomputable def aCB(r:List AV->Om->(AV->Om->Prop)->Prop)(t:AA):AE:=fun ρ Z Q=>t ρ Z fun xs Z1=>r xs Z1 Q
noncomputable def uG(t:AE):AT:=fun ρ Z Q=>t ρ Z fun x Z1=>∃k,x=.d (.bl k)/\Q k Z1
noncomputable def NF(t u:AT):AT:=fun ρ Z Q=>t ρ Z fun c Z1=>if c=true then u ρ Z1 Q else Q false Z1
noncomputable def aOr(t u:AT):AT:=fun ρ Z Q=>t ρ Z fun c Z1=>if c=true then Q true Z1 else u ρ Z1 Q
noncomputable def NY(t:AT):AT:=fun ρ Z Q=>t ρ Z fun c Z1=>Q (!c) Z1
noncomputable def aIf(t:AT)(ta tb:AE):AE:=fun ρ Z Q=>t ρ Z fun c Z1=>if c=true then ta ρ Z1 Q else tb ρ Z1 Q
section
variable{ta tb tc:TE}{ta' tb' tc':AE}{t u:TT}{t' u':AT}{r r2:R2}{r' r2':A2}{s:TA}{s':AA}
theorem ac{i:Nat}:bi (FG i) (gE i):=⟨fun F H Z σ ρ Q Q' rp rs h k=>by
 obtain⟨a,e,q⟩:=h;obtain⟨v,e1,e2⟩:=rs.2 i a e
 exact⟨v,e1,k a Z v H rp .refl e2 q⟩⟩
theorem zW{i:Nat}:bi (FG i) (JR i):=⟨fun F H Z σ ρ Q Q' rp rs h k=>by
 obtain⟨a,e,q⟩:=h;obtain⟨v,e1,e2⟩:=rs.2 i a e;obtain⟨d,Z',q1,q2,q3,q4⟩:=oV rp e2 q
 exact⟨v,e1,k (.d d) Z' v H q1 q2 q3 q4⟩⟩
theorem ak{i:Int}:bi (tC (.int i)) (aC (.int i)):=⟨fun F H Z σ ρ Q Q' rp rs h k=>k _ Z _ H rp .refl (by simp[RV,Dat]) h⟩
theorem be{x:Str}:bi (tC (.str x)) (aC (.str x)):=⟨fun F H Z σ ρ Q Q' rp rs h k=>k _ Z _ H rp .refl (by simp[RV,Dat]) h⟩
theorem yu{b:Bool}:bi (tC (.bl b)) (aC (.bl b)):=⟨fun F H Z σ ρ Q Q' rp rs h k=>k _ Z _ H rp .refl (by simp[RV,Dat]) h⟩
theorem qd:bi (tC .non) (aC .non):=⟨fun F H Z σ ρ Q Q' rp rs h k=>k _ Z _ H rp .refl (by simp[RV,Dat]) h⟩
noncomputable def N6(v:V):AE:=fun _ Z Q=>Q (.r v) Z
theorem yT{v:V}:bi (tC v) (N6 v):=⟨fun F H Z σ ρ Q Q' rp rs h k=>k (.r v) Z _ H rp .refl rfl h⟩
theorem aq(h2:jq r r')(ha:bi ta ta')(hb:bi tb tb'):bi (tOp r ta tb) (aOp r' ta' tb'):=⟨fun F H Z σ ρ Q Q' rp rs h k=>
 ha.go rp rs h fun x Z1 v H1 rp1 fr1 rs1 rv1 q1=>hb.go rp1 rs1 q1 fun y Z2 u H2 rp2 fr2 rs2 rv2 q2=>h2.run F H2 Z2 v u x y Q Q' rp2 (rv1.same fr2.same) rv2 q2 (k.fr (fr1.trans fr2))⟩
theorem NP{r:V->Hp->VK->Prop}{r':AV->Om->(AV->Om->Prop)->Prop}(h2:Ng r r')(ha:bi ta ta'):bi (tUn r ta) (aUn r' ta'):=⟨fun F H Z σ ρ Q Q' rp rs h k=>
 ha.go rp rs h fun x Z1 v H1 rp1 fr1 rs1 rv1 q1=>h2.run F H1 Z1 v x Q Q' rp1 rv1 q1 (k.fr fr1)⟩
theorem af:mQ Ig wH:=⟨fun F H Z σ ρ Q Q' rp rs h k=>k [] Z _ H rp .refl rfl h⟩
theorem ab(ha:bi ta ta')(hs:mQ s s'):mQ (kO ta s) (kf ta' s'):=⟨fun F H Z σ ρ Q Q' rp rs h k=>
 ha.go rp rs h fun x Z1 v H1 rp1 fr1 rs1 rv1 q1=>hs.go rp1 rs1 q1 fun y Z2 u H2 rp2 fr2 rs2 rv2 q2=>k (x::y) Z2 (v::u) H2 rp2 (fr1.trans fr2) ⟨v,u,rfl,rv1.same fr2.same,rv2⟩ q2⟩
theorem bo(hs:mQ s s'):bi (LY s) (Nl s'):=⟨fun F H Z σ ρ Q Q' rp rs h k=>
 hs.go rp rs h fun xs Z1 vs H1 rp1 fr1 rs1 rv1 ⟨z,ds,hu,q1⟩=>⟨by rw[rv1.length];exact z,fun p hp=>by
  cases gO hu;obtain⟨rp2,fr2,hc⟩:=rp1.lay (o:=.tup vs) hp;refine k _ Z1 _ _ rp2 (fr1.trans fr2) ?_ q1;simp only[RV,Dat]
  exact⟨p,vs,rfl,hc,(RVs.dats.mp rv1).same fr2.same⟩⟩⟩
theorem dP(hs:mQ s s'):bi (Lw s) (NZ s'):=⟨fun F H Z σ ρ Q Q' rp rs h k=>
 hs.go rp rs h fun xs Z1 vs H1 rp1 fr1 rs1 rv1 ⟨z,ds,hu,q1⟩=>⟨by rw[rv1.length];exact z,fun p hp=>by
  cases gO hu;obtain⟨rp2,fr2,hc⟩:=rp1.lay (o:=.lst vs) hp;refine k _ Z1 _ _ rp2 (fr1.trans fr2) ?_ q1;simp only[RV,Dat]
  exact⟨p,vs,rfl,hc,(RVs.dats.mp rv1).same fr2.same⟩⟩⟩
theorem dJ(hs:mQ s s'):bi (Lw s) (Kn s'):=⟨fun F H Z σ ρ Q Q' rp rs h k=>
 hs.go rp rs h fun xs Z1 vs H1 rp1 fr1 rs1 rv1 ⟨z,q1⟩=>⟨by rw[rv1.length];exact z,fun p hp=>by
  obtain⟨rp2,fr2⟩:=rp1.mk' (vs:=vs) hp rv1
  exact k (.r (.ref p)) _ _ _ rp2 (fr1.trans fr2) rfl (q1 p (rp1.free hp).1)⟩⟩
theorem ap{sp:ASp}{E:XK}(hs:mQ s s'):bi (J2 (bg sp) [] E s) (E1 sp s'):=⟨fun F H Z σ ρ Q Q' rp rs h k=>
 hs.go rp rs h fun xs Z1 vs H1 rp1 fr1 rs1 rv1 q=>⟨F,xs,Z1,Q',rp1,by rw[List.append_nil];exact rv1,q,k.fr fr1⟩⟩
theorem bz{r:List V->Hp->VK->Prop}{r':List AV->Om->(AV->Om->Prop)->Prop}(hr:nC r r')(hs:mQ s s'):bi (tCB r s) (aCB r' s'):=⟨fun F H Z σ ρ Q Q' rp rs h k=>
 hs.go rp rs h fun xs Z1 vs H1 rp1 fr1 rs1 rv1 q=>hr.run F H1 Z1 vs xs Q Q' rp1 rv1 q (k.fr fr1)⟩
theorem aZ(ha:bi ta ta'):jU (GB ta) (uG ta'):=⟨fun F H Z σ ρ Q Q' rp rs h k=>
 ha.go rp rs h fun x Z1 v H1 rp1 fr1 rs1 rv1 ⟨c,e,q⟩=>by subst e;exact⟨c,by simpa[RV,Dat] using rv1,k c Z1 c H1 rp1 fr1 rfl q⟩⟩
theorem NT(h1:jU t t')(h2:jU u u'):jU (N5 t u) (NF t' u'):=⟨fun F H Z σ ρ Q Q' rp rs h k=>
 h1.go rp rs h fun c Z1 c' H1 rp1 fr1 rs1 rv1 q=>by
  cases (show c=c' from rv1)
  cases c with
  |true=>rw[if_pos rfl] at q ⊢;exact h2.run F H1 Z1 σ ρ Q Q' rp1 rs1 q (k.fr fr1)
  |false=>rw[if_neg Bool.false_ne_true] at q ⊢;exact k false Z1 false H1 rp1 fr1 rfl q⟩
theorem xU(h1:jU t t')(h2:jU u u'):jU (tOr t u) (aOr t' u'):=⟨fun F H Z σ ρ Q Q' rp rs h k=>
 h1.go rp rs h fun c Z1 c' H1 rp1 fr1 rs1 rv1 q=>by
  cases (show c=c' from rv1)
  cases c with
  |true=>rw[if_pos rfl] at q ⊢;exact k true Z1 true H1 rp1 fr1 rfl q
  |false=>rw[if_neg Bool.false_ne_true] at q ⊢;exact h2.run F H1 Z1 σ ρ Q Q' rp1 rs1 q (k.fr fr1)⟩
theorem eV(h1:jU t t'):jU (NV t) (NY t'):=⟨fun F H Z σ ρ Q Q' rp rs h k=>
 h1.go rp rs h fun c Z1 c' H1 rp1 fr1 rs1 rv1 q=>by
  cases (show c=c' from rv1)
  exact k _ Z1 _ H1 rp1 fr1 rfl q⟩
theorem E5{G:Hp}{c:Bool}{v:V}(h:RV G (.d (.bl c)) v):v=.bl c:=by simpa[RV,Dat] using h
theorem EA(h1:jU t t')(ha:bi ta ta')(hb:bi tb tb'):bi (tIf t ta tb) (aIf t' ta' tb'):=⟨fun F H Z σ ρ Q Q' rp rs h k=>
 h1.go rp rs h fun c Z1 c' H1 rp1 fr1 rs1 rv1 q=>by
  cases (show c=c' from rv1)
  cases c with
  |true=>rw[if_pos rfl] at q ⊢;exact ha.run F H1 Z1 σ ρ Q Q' rp1 rs1 q (k.fr fr1)
  |false=>rw[if_neg Bool.false_ne_true] at q ⊢;exact hb.run F H1 Z1 σ ρ Q Q' rp1 rs1 q (k.fr fr1)⟩
noncomputable def kE(Z:Om)(x:AV):Option Bool:=match x with
 |.d .non=>some false
 |.d (.bl b)=>some b
 |.d (.int i)=>some (i != 0)
 |.d (.tup ds)=>some (!ds.isEmpty)
 |x=>(eT Z x).map fun xs=>!xs.isEmpty
noncomputable def LR(ta:AE):AT:=fun ρ Z Q=>ta ρ Z fun x Z1=>∃k,kE Z1 x=some k/\Q k Z1
theorem pS{α β:Type}{xs:List α}{ys:List β}(h:xs.length=ys.length):xs.isEmpty=ys.isEmpty:=by
 cases xs<;>cases ys<;>simp_all
theorem A8{K:W.Frag}{F:Fs}{H1:Hp}{Z1:Om}{x:AV}{v:V}{c:Bool}(rp1:Rep F H1 Z1)(rv1:RV (cut F H1 Z1) x v)(e:kE Z1 x=some c):xB K v H1 c:=by
  have ls:∀ {xs:List AV},eT Z1 x=some xs->c=(!xs.isEmpty)->xB K v H1 c:=fun {xs} e1 e2=>by
   obtain⟨a,vs,rfl,e3,e4⟩:=vR rp1 rv1 e1;exact .inl ⟨vs,.inl (.inl e3),by rw[e2,pS e4.length.symm]⟩
  cases x with
  |d x=>cases x with
   |non=>simp only[kE,Option.some.injEq] at e;simp only[RV,Dat] at rv1;subst rv1;exact e.symm
   |bl b=>simp only[kE,Option.some.injEq] at e;simp only[RV,Dat] at rv1;subst rv1;exact e.symm
   |int b=>simp only[kE,Option.some.injEq] at e;simp only[RV,Dat] at rv1;subst rv1;exact e.symm
   |str b=>simp[kE,eT] at e
   |tup ds=>
    simp only[kE,Option.some.injEq] at e;simp only[RV,Dat] at rv1;obtain⟨a,vs,rfl,e1,e2⟩:=rv1;exact .inr (.inl ⟨vs,.inl (.inl (a8 _ _ e1)),by rw[←e,pS e2.length]⟩)
   |lst ds=>
    simp only[kE,Option.map_eq_some_iff] at e;obtain⟨xs,e1,e2⟩:=e;exact ls e1 e2.symm
  |r u=>
   simp only[kE,Option.map_eq_some_iff] at e;obtain⟨xs,e1,e2⟩:=e;exact ls e1 e2.symm
  |p u P=>simp[kE,eT] at e
theorem dI{K:W.Frag}(ha:bi ta ta'):jU (fun σ H Q=>ta σ H fun x H'=>∃k,xB K x H' k/\Q k H') (LR ta'):=⟨fun F H Z σ ρ Q Q' rp rs h k=>
 ha.go rp rs h fun x Z1 v H1 rp1 fr1 rs1 rv1 ⟨c,e,q⟩=>⟨c,A8 rp1 rv1 e,k c Z1 c H1 rp1 fr1 rfl q⟩⟩
end
noncomputable def aI0(f:Int->Int->D):A2:=fun x y Z Q=>∃i j,x=.d (.int i)/\y=.d (.int j)/\Q (.d (f i j)) Z
noncomputable def aI(C:Int->Int->Prop)(f:Int->Int->D):A2:=fun x y Z Q=>∃i j,x=.d (.int i)/\y=.d (.int j)/\C i j/\Q (.d (f i j)) Z
noncomputable def aU(f:Int->D):AV->Om->(AV->Om->Prop)->Prop:=fun x Z Q=>∃i,x=.d (.int i)/\Q (.d (f i)) Z
section
variable{F:Fs}{H:Hp}{Z:Om}{Q:VK}{Q':AV->Om->Prop}
theorem LP.int(k:LP RV F H Z Q' Q)(rp:Rep F H Z){i:Int}(q:Q' (.d (.int i)) Z):Q (.int i) H:=k (.d (.int i)) Z _ H rp .refl (by simp[RV,Dat]) q
theorem LP.bl(k:LP RV F H Z Q' Q)(rp:Rep F H Z){i:Bool}(q:Q' (.d (.bl i)) Z):Q (.bl i) H:=k (.d (.bl i)) Z _ H rp .refl (by simp[RV,Dat]) q
theorem cc{G:Hp}{i:Int}{v:V}(h:RV G (.d (.int i)) v):v=.int i:=by simpa[RV,Dat] using h
theorem xo{G:Hp}{i:Str}{v:V}(h:RV G (.d (.str i)) v):v=.str i:=by simpa[RV,Dat] using h
theorem K8{G:Hp}{v:V}(h:RV G (.d .non) v):v=.non:=by simpa[RV,Dat] using h
theorem LP.tup(k:LP RV F H Z Q' Q)(rp:Rep F H Z){ds:List D}{vs:List V}(hd:aJ (cut F H Z) ds vs)(q:Q' (.d (.tup ds)) Z):∀p,H p=none->Q (.ref p) (upd H p (.tup vs)):=fun p hp=>by
 obtain⟨rp2,fr2,hc⟩:=rp.lay (o:=.tup vs) hp;refine k (.d (.tup ds)) Z _ _ rp2 fr2 ?_ q;simp only[RV,Dat];exact⟨p,vs,rfl,hc,hd.same fr2.same⟩
theorem LP.lst(k:LP RV F H Z Q' Q)(rp:Rep F H Z){ds:List D}{vs:List V}(hd:aJ (cut F H Z) ds vs)(q:Q' (.d (.lst ds)) Z):∀p,H p=none->Q (.ref p) (upd H p (.lst vs)):=fun p hp=>by
 obtain⟨rp2,fr2,hc⟩:=rp.lay (o:=.lst vs) hp;refine k (.d (.lst ds)) Z _ _ rp2 fr2 ?_ q;simp only[RV,Dat];exact⟨p,vs,rfl,hc,hd.same fr2.same⟩
theorem LP.own(k:LP RV F H Z Q' Q)(rp:Rep F H Z){xs:List AV}{vs:List V}(hd:RVs (cut F H Z) xs vs)(q:∀p,Z p=none->Q' (.r (.ref p)) (Z.put p (.own xs))):∀p,H p=none->Q (.ref p) (upd H p (.lst vs)):=fun p hp=>by
 obtain⟨rp2,fr2⟩:=rp.mk' (vs:=vs) hp hd;exact k (.r (.ref p)) _ _ _ rp2 fr2 rfl (q p (rp.free hp).1)
end
theorem eR{f:Int->Int->Int}:jq (rI0 fun i j=>.int (f i j)) (aI0 fun i j=>.int (f i j)):=⟨fun F H Z v u x y Q Q' rp h1 h2 ⟨i,j,e1,e2,q⟩ k=>by
 subst e1 e2;exact⟨i,j,cc h1,cc h2,k.int rp q⟩⟩
theorem g8{f:Int->Int->Bool}:jq (rI0 fun i j=>.bl (f i j)) (aI0 fun i j=>.bl (f i j)):=⟨fun F H Z v u x y Q Q' rp h1 h2 ⟨i,j,e1,e2,q⟩ k=>by
 subst e1 e2;exact⟨i,j,cc h1,cc h2,k.bl rp q⟩⟩
theorem kr{C:Int->Int->Prop}{f:Int->Int->Int}:jq (rI C fun i j=>.int (f i j)) (aI C fun i j=>.int (f i j)):=⟨fun F H Z v u x y Q Q' rp h1 h2 ⟨i,j,e1,e2,c,q⟩ k=>by
 subst e1 e2;exact⟨i,j,cc h1,cc h2,c,k.int rp q⟩⟩
theorem u_i{f:Int->Int}:Ng (rU fun i=>.int (f i)) (aU fun i=>.int (f i)):=⟨fun F H Z v x Q Q' rp h1 ⟨i,e1,q⟩ k=>by
 subst e1;exact⟨i,cc h1,k.int rp q⟩⟩
noncomputable def Hf(neg:Bool):A2:=fun x y Z Q=>∃a b,bn Z x=some a/\bn Z y=some b/\dep a<=100/\Q (.d (.bl (if neg then !eqD a b else eqD a b))) Z
theorem bw{neg:Bool}:jq (LG neg) (Hf neg):=⟨fun F H Z v u x y Q Q' rp h1 h2 ⟨a,b,e1,e2,s,q⟩ k=>⟨a,b,fW rp h1 e1,fW rp h2 e2,s,k.bl rp q⟩⟩
noncomputable def aIn(neg:Bool):A2:=fun x y Z Q=>∃a b ds,bn Z x=some a/\bn Z y=some b/\(b=.lst ds\/b=.tup ds)/\fP ds<=90/\Q (.d (.bl (if neg then !inD a ds else inD a ds))) Z
theorem Ha{neg:Bool}:jq (Lh neg) (aIn neg):=⟨fun F H Z v u x y Q Q' rp h1 h2 ⟨a,b,ds,e1,e2,e3,s,q⟩ k=>⟨a,ds,fW rp h1 e1,by
 have:=fW rp h2 e2;rcases e3 with rfl|rfl
 ·exact .inl this
 ·exact .inr this,s,k.bl rp q⟩⟩
noncomputable def Oa:A2:=fun x y Z Q=>∃ds es,x=.d (.tup ds)/\y=.d (.tup es)/\ds.length+es.length<=sizeLine/\Q (.d (.tup (ds++es))) Z
noncomputable def CA:R2:=fun x y H Q=>∃a b xs ys,x=.ref a/\y=.ref b/\H a=some (.tup xs)/\H b=some (.tup ys)/\xs.length+ys.length<=sizeLine /\
 (xs=[]->Q (.ref b) H)/\(ys=[]->Q (.ref a) H)/\∀p,H p=none->Q (.ref p) (upd H p (.tup (xs++ys)))
theorem bN{X:Cx}:OpR X (binaryOp .Add) CA:=by
 intro pins s σ H x y v u Q I rx ry h;obtain⟨a,b,xs,ys,rfl,rfl,ha,hb,hz,g1,g2,g3⟩:=h;by_cases hn:xs=[]
 ·subst hn
  cases rx;cases ry;obtain⟨its,r1,ht⟩:=gN I ha;obtain⟨its2,r2,hb2⟩:=gN I hb;cases r1;obtain⟨⟨cls,dd,data,sl⟩,ho,hc,n,hd⟩:=id ht;obtain⟨⟨cls2,dd2,data2,sl2⟩,ho2,hc2,n2,hd2⟩:=id hb2;simp only at hc hd hc2 hd2;subst hc hd hc2 hd2
  exact concat_meets ⟨_,ho,rfl⟩ ⟨_,ho2,rfl⟩ noFill_tuple_add seq_tuple_add PySem.F.slot_tuple_add PySem.F.entry_tuple_add (PySem.F.args_tuple_add_2 _ _)
   (tuple_addW0 a b _ _ n n2 dd dd2 sl sl2 (by simp)) ⟨ho,ho2,⟨.ref b,H,I,rfl,g1 rfl⟩⟩
 ·exact JB pins s σ H (.ref a) (.ref b) v u Q I rx ry ⟨a,b,xs,ys,rfl,rfl,SqT.of ha,SqT.of hb,hn,hz,g2,fun _ p hp=>g3 p hp⟩
theorem Lu:jq CA Oa:=⟨fun F H Z v u x y Q Q' rp h1 h2 ⟨ds,es,e1,e2,z,q⟩ k=>by
 subst e1 e2;have h1':=h1;have h2':=h2;simp only[RV,Dat] at h1 h2;obtain⟨a,xs,rfl,ha,hxs⟩:=h1;obtain⟨b,ys,rfl,hb,hys⟩:=h2;refine⟨a,b,xs,ys,rfl,rfl,a8 _ _ ha,a8 _ _ hb,by rw[hxs.length,hys.length];exact z,fun e=>?_,fun e=>?_,k.tup rp (hxs.append hys) q⟩
 ·have:ds=[]:=List.length_eq_zero_iff.mp (by rw[←hxs.length,e];rfl)
  subst this;exact k _ Z _ H rp .refl h2' q
 ·have:es=[]:=List.length_eq_zero_iff.mp (by rw[←hys.length,e];rfl)
  subst this;rw[List.append_nil] at q
  exact k _ Z _ H rp .refl h1' q⟩
theorem Rep.later{F:Fs}{H H':Hp}{Z:Om}(rp:Rep F H Z)(s:cK H H'):Rep F H' Z/\Fr F H Z H' Z:=by
 have fr:Fr F H Z H' Z:=⟨fun b o x f e=>⟨s _ _ e,x⟩,fun b f=>by
  obtain⟨_,o,q⟩:=rp.hid b f
  rw[q,s _ _ q]⟩
 refine⟨⟨fun l xs e=>?_,fun l ds e=>(rp.frz l ds e).same fr.same,fun b f=>?_,fun l ks e=>(by obtain⟨vs,e1,e2⟩:=rp.dic l ks e;exact⟨vs,s _ _ e1,e2.same fr.same⟩)⟩,fr⟩
 ·obtain⟨vs,e1,e2⟩:=rp.own l xs e
  exact⟨vs,s _ _ e1,e2.same fr.same⟩
 ·obtain⟨x,o,q⟩:=rp.hid b f
  exact⟨x,o,s _ _ q⟩
noncomputable def Op:A2:=fun x y Z Q=>∃xs i a,eT Z x=some xs/\y=.d (.int i)/\atI xs i=some a/\Q a Z
noncomputable def Oi:A2:=fun x y Z Q=>∃xs i a,e8 x=some xs/\y=.d (.int i)/\atI xs i=some a/\Q a Z
theorem RVs.atI{G:Hp}{xs:List AV}{vs:List V}{i:Int}{a:AV}(h:RVs G xs vs)(e:atI xs i=some a):∃v,L2.atI vs i=some v/\RV G a v:=by
 unfold L2.atI at e ⊢;rw[h.length]
 cases z:ixN xs.length i with
 |none=>rw[z] at e;cases e
 |some j=>
  rw[z] at e;exact h.get e
theorem NH{K:W.Frag}:jq (Ml K) Op:=⟨fun F H Z v u x y Q Q' rp h1 h2 ⟨xs,i,a,e1,e2,e3,q⟩ k=>by
 subst e2;obtain⟨l,vs,rfl,q1,q2⟩:=vR rp h1 e1;obtain⟨w,z1,z2⟩:=q2.atI e3
 exact⟨l,vs,i,w,rfl,cc h2,.inl (.inl q1),z1,k a Z w H rp .refl z2 q⟩⟩
theorem Nq{K:W.Frag}:jq (LH K) Oi:=⟨fun F H Z v u x y Q Q' rp h1 h2 ⟨xs,i,a,e1,e2,e3,q⟩ k=>by
 subst e2;obtain⟨l,vs,rfl,q1,q2⟩:=FT h1 e1;obtain⟨w,z1,z2⟩:=q2.atI e3
 exact⟨l,vs,i,w,rfl,cc h2,.inl (.inl (a8 _ _ q1)),z1,k a Z w H rp .refl z2 q⟩⟩
noncomputable def aIx:A2:=fun x y Z Q=>∃xs i a,(eT Z x=some xs\/e8 x=some xs)/\y=.d (.int i)/\atI xs i=some a/\Q a Z
theorem aK{K:W.Frag}:jq (rIx K) aIx:=⟨fun F H Z v u x y Q Q' rp h1 h2 ⟨xs,i,a,e1,e2,e3,q⟩ k=>by
 rcases e1 with e1|e1
 ·exact .inl (NH.run F H Z v u x y Q Q' rp h1 h2 ⟨xs,i,a,e1,e2,e3,q⟩ k)
 ·exact .inr (.inl (Nq.run F H Z v u x y Q Q' rp h1 h2 ⟨xs,i,a,e1,e2,e3,q⟩ k))⟩
noncomputable def NB(neg:Bool):A2:=fun x y Z Q=>∃a,x=.d a/\y=.d .non/\Q (.d (.bl (if neg then !eqD a .non else eqD a .non))) Z
theorem MR{G:Hp}{a:D}{v:V}(h:RV G (.d a) v):decide (v=.non)=eqD a .non:=by
 cases a<;>simp only[RV,Dat] at h
 all_goals first
  |(subst h;simp[eqD])
  |(obtain⟨_,_,rfl,_⟩:=h;simp[eqD])
theorem vk:jq (fun x y H Q=>y=.non/\Q (.bl (decide (x=.non))) H) (NB false):=⟨fun F H Z v u x y Q Q' rp h1 h2 ⟨a,e1,e2,q⟩ k=>by
 subst e1 e2;exact⟨K8 h2,by rw[MR h1];exact k.bl rp q⟩⟩
noncomputable abbrev AC:=List AV->Om->(AV->Om->Prop)->Prop
theorem mf{G:Hp}{a:AV}{vs:List V}(h:RVs G [a] vs):∃v,vs=[v]/\RV G a v:=by
 obtain⟨v,r,rfl,h1,h2⟩:=h;cases h2;exact⟨v,rfl,h1⟩
theorem Lv{G:Hp}{a b:AV}{vs:List V}(h:RVs G [a,b] vs):∃v u,vs=[v,u]/\RV G a v/\RV G b u:=by
 obtain⟨v,r,rfl,h1,h2⟩:=h;obtain⟨u,rfl,h3⟩:=mf h2;exact⟨v,u,rfl,h1,h3⟩
noncomputable def ia(Z:Om)(x:AV):Option Nat:=match e8 x with
 |some xs=>some xs.length
 |none=>(eT Z x).map List.length
noncomputable def No:AC:=fun xs Z Q=>∃x n,xs=[x]/\ia Z x=some n/\Q (.d (.int n)) Z
theorem eA{K:W.Frag}:nC (fun xs H Q=>∃x n,xs=[x]/\Id K x H n/\Q (.int n) H) No:=⟨fun F H Z vs xs Q Q' rp rv ⟨x,n,e1,e2,q⟩ k=>by
 subst e1;obtain⟨v,rfl,r⟩:=mf rv;refine⟨v,n,rfl,?_,k.int rp q⟩;unfold ia at e2
 cases z:e8 x with
 |some xs=>
  rw[z] at e2;cases e2;obtain⟨a,us,rfl,q1,q2⟩:=FT r z;exact .inr ⟨us,.inl (.inl (a8 _ _ q1)),q2.length.symm⟩
 |none=>
  rw[z] at e2;simp only[Option.map_eq_some_iff] at e2;obtain⟨ys,e3,rfl⟩:=e2;obtain⟨a,us,rfl,q1,q2⟩:=vR rp r e3
  exact .inl ⟨us,.inl (.inl q1),q2.length.symm⟩⟩
theorem Cy{G:Hp}:∀ {bs:List Bool} {vs:List V},aJ G (bs.map D.bl) vs->vs=bs.map V.bl
 | [],_,h=>by simpa[aJ] using h
 |b::bs,vs,h=>by
  simp only[List.map_cons,aJ,Dat] at h;obtain⟨x,r,rfl,rfl,h⟩:=h;rw[Cy h];rfl
noncomputable def ND(f:List Bool->Bool):AC:=fun xs Z Q=>∃x bs,xs=[x]/\bn Z x=some (.lst (bs.map D.bl))/\Q (.d (.bl (f bs))) Z
theorem BF{K:W.Frag}{f:List Bool->Bool}:nC (fun xs H Q=>∃(a:Addr)(bs:List Bool),xs=[.ref a]/\SqL K H a (bs.map V.bl)/\Q (.bl (f bs)) H) (ND f):=⟨fun F H Z vs xs Q Q' rp rv ⟨x,bs,e1,e2,q⟩ k=>by
 subst e1;obtain⟨v,rfl,r⟩:=mf rv;obtain⟨a,us,rfl,q1,q2⟩:=fK rp r e2;cases Cy q2
 exact⟨a,bs,rfl,.inl (.inl q1),k.bl rp q⟩⟩
noncomputable def aF2(f:Int->Int->Int):AC:=fun xs Z Q=>∃i j,xs=[.d (.int i),.d (.int j)]/\Q (.d (.int (f i j))) Z
theorem vO{f:Int->Int->Int}:nC (fun xs H Q=>∃i j,xs=[.int i,.int j]/\Q (.int (f i j)) H) (aF2 f):=⟨fun F H Z vs xs Q Q' rp rv ⟨i,j,e1,q⟩ k=>by
 subst e1;obtain⟨v,u,rfl,r1,r2⟩:=Lv rv
 exact⟨i,j,by rw[cc r1,cc r2],k.int rp q⟩⟩
noncomputable def aF1(f:Int->Int):AC:=fun xs Z Q=>∃i,xs=[.d (.int i)]/\Q (.d (.int (f i))) Z
theorem MN{f:Int->Int}:nC (fun xs H Q=>∃i,xs=[.int i]/\Q (.int (f i)) H) (aF1 f):=⟨fun F H Z vs xs Q Q' rp rv ⟨i,e1,q⟩ k=>by
 subst e1;obtain⟨v,rfl,r1⟩:=mf rv
 exact⟨i,by rw[cc r1],k.int rp q⟩⟩
noncomputable def D9:D->Option Int
 |.int i=>some i
 |.bl k=>some (if k then 1 else 0)
 |_=>none
noncomputable def Nu:AC:=fun xs Z Q=>∃d i,xs=[.d d]/\D9 d=some i/\Q (.d (.int i)) Z
theorem GJ:nC (fun xs H Q=>(∃i,xs=[.int i]/\Q (.int i) H)\/∃k,xs=[.bl k]/\Q (.int (if k then 1 else 0)) H) Nu:=⟨fun F H Z vs xs Q Q' rp rv ⟨d,i,e1,e2,q⟩ k=>by
 subst e1;obtain⟨v,rfl,r1⟩:=mf rv
 cases d with
 |int j=>simp only[D9,Option.some.injEq] at e2;subst e2;exact .inl ⟨_,by rw[cc r1],k.int rp q⟩
 |bl j=>simp only[D9,Option.some.injEq] at e2;subst e2;exact .inr ⟨j,by rw[E5 r1],k.int rp q⟩
 |_=>cases e2⟩
noncomputable def GT:AC:=fun xs Z Q=>∃x ds,xs=[x]/\(bn Z x=some (.lst ds)\/x=.d (.tup ds))/\Q (.d (.tup ds)) Z
theorem dA{K:W.Frag}:nC (fun xs H Q=>∃p ys,xs=[.ref p]/\((SqL K H p ys/\∀l,H l=none->Q (.ref l) (upd H l (.tup ys)))\/(SqT K H p ys/\Q (.ref p) H))) GT:=⟨fun F H Z vs xs Q Q' rp rv ⟨x,ds,e1,e2,q⟩ k=>by
 subst e1;obtain⟨v,rfl,r1⟩:=mf rv;rcases e2 with e2|rfl
 ·obtain⟨a,us,rfl,q1,q2⟩:=fK rp r1 e2
  exact⟨a,us,rfl,.inl ⟨.inl (.inl q1),k.tup rp q2 q⟩⟩
 ·have r2:=r1
  simp only[RV,Dat] at r2;obtain⟨a,us,rfl,q1,q2⟩:=r2
  exact⟨a,us,rfl,.inr ⟨.inl (.inl (a8 _ _ q1)),k _ Z _ H rp .refl r1 q⟩⟩⟩
noncomputable def Hi:AC:=fun xs Z Q=>∃x ds,xs=[x]/\(bn Z x=some (.lst ds)\/x=.d (.tup ds))/\∀p,Z p=none->Q (.r (.ref p)) (Z.put p (.own (ds.map AV.d)))
theorem Cf{K:W.Frag}:nC (fun xs H Q=>∃p ys,xs=[.ref p]/\(SqL K H p ys\/SqT K H p ys)/\∀l,H l=none->Q (.ref l) (upd H l (.lst ys))) Hi:=⟨fun F H Z vs xs Q Q' rp rv ⟨x,ds,e1,e2,q⟩ k=>by
 subst e1;obtain⟨v,rfl,r1⟩:=mf rv;rcases e2 with e2|rfl
 ·obtain⟨a,us,rfl,q1,q2⟩:=fK rp r1 e2
  exact⟨a,us,rfl,.inl (.inl (.inl q1)),k.own rp (RVs.dats.mpr q2) q⟩
 ·have r2:=r1
  simp only[RV,Dat] at r2;obtain⟨a,us,rfl,q1,q2⟩:=r2
  exact⟨a,us,rfl,.inr (.inl (.inl (a8 _ _ q1))),k.own rp (RVs.dats.mpr q2) q⟩⟩
noncomputable def ml(lo:Int)(n:Nat):List AV:=(List.range n).map fun i=>AV.d (.int (lo+(i:Nat)))
noncomputable def GL(ta:AA):AI:=fun ρ Z R=>ta ρ Z fun xs Z1=>∃j:Int,xs=[.d (.int j)]/\-(2^62)<=j/\j<2^62/\R (ml 0 j.toNat) Z1
noncomputable def ku(ds:List D):List AV:=ds.zipIdx.map fun p=>AV.d (.tup [.int (p.2:Nat),p.1])
noncomputable def qm(ds es:List D):List AV:=(ds.zip es).map fun p=>AV.d (.tup [p.1,p.2])
section
variable{te:TE}{te':AE}{ta:TA}{ta':AA}{K:W.Frag}
theorem IY{G:Hp}{ds:List D}{a:Addr}(h:Dat G (.lst ds) (.ref a)):vS G (ds.map AV.d) (Itl K a):=fun F H Z rp s=>by
 have h2:=h.same s;simp only[Dat] at h2;obtain⟨_,vs,e,ha,hd⟩:=h2;cases e;have hq:SqL K H a vs:=.inl (.inl (a8 _ _ ha));have hl:=hd.length;refine⟨⟨vs,hq,by simp;omega⟩,fun i x hx=>?_⟩
 obtain⟨v,e1,e2⟩:=(RVs.dats.mpr hd).get hx;refine⟨⟨vs,v,hq,e1⟩,fun y H' hy=>?_⟩;obtain⟨rfl,hy⟩:=hy;have:=hy vs hq;rw[e1] at this;cases this;exact⟨rp,.refl,e2⟩
theorem K6{G:Hp}{ds:List D}{a:Addr}(h:Dat G (.tup ds) (.ref a)):vS G (ds.map AV.d) (Itt K a):=fun F H Z rp s=>by
 have h2:=h.same s;simp only[Dat] at h2;obtain⟨_,vs,e,ha,hd⟩:=h2;cases e;have hq:SqT K H a vs:=.inl (.inl (a8 _ _ ha));have hl:=hd.length;refine⟨⟨vs,hq,by simp;omega⟩,fun i x hx=>?_⟩
 obtain⟨v,e1,e2⟩:=(RVs.dats.mpr hd).get hx;refine⟨⟨vs,v,hq,e1⟩,fun y H' hy=>?_⟩;obtain⟨rfl,hy⟩:=hy;have:=hy vs hq;rw[e1] at this;cases this;exact⟨rp,.refl,e2⟩
theorem o6{G:Hp}{ds:List D}{v:V}(h:Dat G (.lst ds) v):∃a vs,v=.ref a/\G a=some (.lst vs):=by
 simp only[Dat] at h;obtain⟨a,vs,e,h,_⟩:=h;exact⟨a,vs,e,h⟩
theorem ph{G:Hp}{ds:List D}{v:V}(h:Dat G (.tup ds) v):∃a vs,v=.ref a/\G a=some (.tup vs):=by
 simp only[Dat] at h;obtain⟨a,vs,e,h,_⟩:=h;exact⟨a,vs,e,h⟩
theorem MO{G:Hp}{lo:Int}{n:Nat}:vS G (ml lo n) (Itr lo n):=fun F H Z rp s=>by
 refine⟨by simp[ml,Itr],fun i x hx=>?_⟩
 unfold ml at hx;rw[List.getElem?_map] at hx;by_cases hi:i<n
 ·rw[List.getElem?_range hi] at hx
  simp only[Option.map_some,Option.some.injEq] at hx;subst hx;refine⟨hi,fun y H' hy=>?_⟩;obtain⟨rfl,rfl⟩:=hy;exact⟨rp,.refl,by simp[RV,Dat]⟩
 ·rw[List.getElem?_eq_none (by simp;omega)] at hx
  cases hx
theorem m8(h:mQ ta ta'):wk (JT ta) (GL ta'):=⟨fun F H Z σ ρ R R' rp rs w k=>h.go rp rs w fun xs Z1 vs H1 rp1 fr1 rs1 rv ⟨j,e,h1,h2,q⟩=>by
 subst e;obtain⟨v,rfl,r⟩:=mf rv
 exact⟨j,by rw[cc r],h1,h2,k _ Z1 _ H1 rp1 fr1 MO q⟩⟩
theorem u8(ds:List D):(ku ds).length=ds.length:=by simp[ku]
theorem oI{ds:List D}{i:Nat}{x:AV}(h:(ku ds)[i]?=some x):∃d,ds[i]?=some d/\x=.d (.tup [.int (i:Nat),d]):=by
 unfold ku at h;rw[List.getElem?_map,List.getElem?_zipIdx] at h
 cases e:ds[i]? with
 |none=>rw[e] at h;simp at h
 |some d=>rw[e] at h;simp at h;exact⟨d,rfl,h.symm⟩
theorem zV{F:Fs}{H:Hp}{Z:Om}(rp:Rep F H Z){T:Addr}(hT:H T=none){a b:V}{d e:D}(ha:Dat (cut F H Z) d a)(hb:Dat (cut F H Z) e b):
  Rep F (upd H T (.tup [a,b])) Z/\Fr F H Z (upd H T (.tup [a,b])) Z/\RV (cut F (upd H T (.tup [a,b])) Z) (.d (.tup [d,e])) (.ref T):=by
 obtain⟨rp2,fr2,hc⟩:=rp.lay (o:=.tup [a,b]) hT;refine⟨rp2,fr2,?_⟩;simp only[RV,Dat,aJ];exact⟨T,_,rfl,hc,_,_,rfl,ha.same fr2.same,_,_,rfl,hb.same fr2.same,rfl⟩
theorem GY{G:Hp}{ds:List D}{a:Addr}(h:Dat G (.lst ds) (.ref a)):vS G (ku ds) (Enl K a):=fun F H Z rp s=>by
 have h2:=h.same s;simp only[Dat] at h2;obtain⟨_,vs,e,ha,hd⟩:=h2;cases e;have hq:SqL K H a vs:=.inl (.inl (a8 _ _ ha));have hl:=hd.length;refine⟨⟨vs,hq,by rw[u8];omega⟩,fun i x hx=>?_⟩
 obtain⟨d,h1,rfl⟩:=oI hx;obtain⟨v,e1,e2⟩:=hd.get h1;refine⟨⟨vs,v,hq,e1⟩,fun y H' hy=>?_⟩;obtain⟨T,z,hT,rfl,rfl,hz⟩:=hy;have:=hz vs hq;rw[e1] at this;cases this;exact zV rp hT (by simp[Dat]) e2
theorem EJ{G:Hp}{ds:List D}{a:Addr}(h:Dat G (.tup ds) (.ref a)):vS G (ku ds) (Ent K a):=fun F H Z rp s=>by
 have h2:=h.same s;simp only[Dat] at h2;obtain⟨_,vs,e,ha,hd⟩:=h2;cases e;have hq:SqT K H a vs:=.inl (.inl (a8 _ _ ha));have hl:=hd.length;refine⟨⟨vs,hq,by rw[u8];omega⟩,fun i x hx=>?_⟩
 obtain⟨d,h1,rfl⟩:=oI hx;obtain⟨v,e1,e2⟩:=hd.get h1;refine⟨⟨vs,v,hq,e1⟩,fun y H' hy=>?_⟩;obtain⟨T,z,hT,rfl,rfl,hz⟩:=hy;have:=hz vs hq;rw[e1] at this;cases this;exact zV rp hT (by simp[Dat]) e2
theorem xV{ds es:List D}{i:Nat}{x:AV}(h:(qm ds es)[i]?=some x):∃d e,ds[i]?=some d/\es[i]?=some e/\x=.d (.tup [d,e]):=by
 unfold qm at h;rw[List.getElem?_map,Option.map_eq_some_iff] at h;obtain⟨⟨d,e⟩,h1,rfl⟩:=h;obtain⟨h1,h2⟩:=List.getElem?_zip_eq_some.mp h1;exact⟨d,e,h1,h2,rfl⟩
noncomputable def kt:D->Option (List D)
 |.tup ds=>some ds
 |.lst ds=>some ds
 |_=>none
theorem Le{G:Hp}{ds es:List D}{a b:Addr}{Sa Sb:Hp->Addr->List V->Prop}(ha:∀F H Z,Rep F H Z->cK G (cut F H Z)->∃vs,Sa H a vs/\aJ (cut F H Z) ds vs)(hb:∀F H Z,Rep F H Z->cK G (cut F H Z)->∃vs,Sb H b vs/\aJ (cut F H Z) es vs):vS G (qm ds es) (Zp Sa Sb a b):=fun F H Z rp s=>by
 obtain⟨vs,a1,a2⟩:=ha F H Z rp s;obtain⟨us,b1,b2⟩:=hb F H Z rp s;refine⟨⟨vs,us,a1,b1,by simp[qm,a2.length,b2.length]⟩,fun i x hx=>?_⟩
 obtain⟨d,e,h1,h2,rfl⟩:=xV hx;obtain⟨v,e1,e2⟩:=a2.get h1;obtain⟨u,e3,e4⟩:=b2.get h2;refine⟨⟨vs,us,v,u,a1,b1,e1,e3⟩,fun y H' hy=>?_⟩;obtain⟨T,z1,z2,hT,rfl,rfl,hz⟩:=hy;obtain⟨q1,q2⟩:=hz vs us a1 b1;rw[e1] at q1;rw[e3] at q2;cases q1;cases q2;exact zV rp hT e2 e4
end
noncomputable def xZ(n:Nat)(t:AGs):AG:=fun v ρ Z Q=>∃ds,v=.d (.tup ds)/\ds.length=n/\t (ds.map AV.d) ρ Z Q
noncomputable def Kq(to ti:AE):AG:=fun v ρ Z Q=>to ρ Z fun o Z1=>ti ρ Z1 fun i Z2=>∃l k xs j,o=.r (.ref l)/\i=.d (.int k)/\Z2 l=some (.own xs)/\ixN xs.length k=some j/\Q ρ (Z2.put l (.own (xs.set j v)))
section
variable{K:W.Frag}{n:Nat}{gs:TGs}{gs':AGs}{to ti:TE}{to' ti':AE}
theorem kb(h:Cm gs gs'):sN (Ln K n gs) (xZ n gs'):=⟨fun F H Z σ ρ v a Q Q' rp rs rv ⟨ds,e,hn,q⟩ k=>by
 subst e;simp only[RV,Dat] at rv;obtain⟨b,vs,rfl,h1,h2⟩:=rv
 exact⟨b,vs,rfl,.inl (.inl (a8 _ _ h1)),by rw[h2.length];exact hn,h.run F H Z σ ρ vs _ Q Q' rp rs (RVs.dats.mpr h2) q k⟩⟩
theorem N3(ho:bi to to')(hi:bi ti ti'):sN (NJ to ti KJ) (Kq to' ti'):=⟨fun F H Z σ ρ v a Q Q' rp rs rv w k=>
 ho.go rp rs w fun x Z1 u H1 rp1 fr1 rs1 rv1 q1=>hi.go rp1 rs1 q1 fun y Z2 u2 H2 rp2 fr2 rs2 rv2 ⟨l,j,xs,i,e1,e2,e3,e4,q⟩=>by
  subst e1 e2;have e5:u=.ref l:=rv1;obtain⟨vs,z1,z2⟩:=rp2.own l xs e3;have rv':=rv.same (fr1.trans fr2).same;obtain⟨rp3,fr3⟩:=rp2.write e3 (z2.set i rv');have fr:=(fr1.trans fr2).trans fr3
  exact⟨l,vs,j,i,e5,cc rv2,z1,by rw[z2.length];exact e4,k ρ _ σ _ rp3 fr (rs.same fr.same) q⟩⟩
end
noncomputable def ib{α:Type}(xs:List α)(lo hi:Option Int):List α:=(xs.drop (HT.sIx xs.length 0 lo)).take (HT.sIx xs.length xs.length hi-HT.sIx xs.length 0 lo)
noncomputable abbrev AO:=SA->Om->(Option Int->Om->Prop)->Prop
noncomputable def Hq:AO:=fun _ Z Q=>Q none Z
noncomputable def ED(t:AE):AO:=fun ρ Z Q=>t ρ Z fun x Z1=>∃i,x=.d (.int i)/\Q (some i) Z1
theorem aJ.cut{G:Hp}{ds:List D}{vs:List V}{lo hi:Option Int}(h:aJ G ds vs):aJ G (ib ds lo hi) (vW vs lo hi):=by
 unfold ib vW;rw[h.length];exact(h.drop _).take _
section
variable{K:W.Frag}{te ts:TE}{te' ts':AE}{tl th:TO}{tl' th':AO}
theorem Ak:Ref REq BR Hq:=⟨fun F H Z σ ρ Q Q' rp rs w k=>k none Z none H rp .refl rfl w⟩
theorem Bc(h:bi te te'):Ref REq (KO te) (ED te'):=⟨fun F H Z σ ρ Q Q' rp rs w k=>h.go rp rs w fun x Z1 v H1 rp1 fr1 rs1 rv ⟨i,e,q⟩=>by
 subst e;exact⟨i,cc rv,k _ Z1 _ H1 rp1 fr1 rfl q⟩⟩
noncomputable def NI(te:AE):AE:=fun ρ Z Q=>te ρ Z fun x Z1=>∃ds,bn Z1 x=some (.lst ds)/\Q (.d (.lst ds.reverse)) Z1
theorem aJ.rev{G:Hp}:∀ {ds:List D} {vs:List V},aJ G ds vs->aJ G ds.reverse vs.reverse
 | [],_,h=>by simp only[aJ] at h;subst h;simp[aJ]
 |d::ds,vs,h=>by
  simp only[aJ] at h;obtain⟨x,r,rfl,h1,h2⟩:=h;simp only[List.reverse_cons];exact h2.rev.append (.one h1)
theorem Kz(he:bi te te'):bi (MG K te (tUn (rU fun i=>.int (-i)) (tC (.int 1)))) (NI te'):=⟨fun F H Z σ ρ Q Q' rp rs w k=>
 he.go rp rs w fun x Z1 v H1 rp1 fr1 rs1 rv1 ⟨ds,e,q⟩=>⟨1,rfl,rfl,by
  obtain⟨a,vs,rfl,z1,z2⟩:=fK rp1 rv1 e
  exact⟨a,vs,rfl,.inl (.inl z1),(k.fr fr1).lst rp1 z2.rev q⟩⟩⟩
end
noncomputable def lX(to:AE)(t:AA):AE:=fun ρ Z Q=>to ρ Z fun x Z1=>∃l,x=.r (.ref l)/\(∃zs,Z1 l=some (.own zs))/\t ρ Z1 fun ys Z2=>∃xs y,ys=[y]/\Z2 l=some (.own xs)/\xs.length<sizeLine/\Q (.d .non) (Z2.put l (.own (xs++[y])))
noncomputable def Ji(to:AE):AE:=fun ρ Z Q=>to ρ Z fun x Z1=>∃l xs y,x=.r (.ref l)/\Z1 l=some (.own xs)/\xs[xs.length-1]?=some y/\Q y (Z1.put l (.own xs.dropLast))
section
variable{K:W.Frag}{to:TE}{to':AE}{t:TA}{t':AA}
theorem bu(ho:bi to to')(ht:mQ t t'):bi (tBM K "list" BJ to t) (lX to' t'):=⟨fun F H Z σ ρ Q Q' rp rs w k=>
 ho.go rp rs w fun x Z1 v H1 rp1 fr1 rs1 rv1 ⟨l,e,⟨zs,hz⟩,q1⟩=>by
  subst e;cases (show v=.ref l from rv1)
  obtain⟨us,z1,_⟩:=rp1.own l zs hz;refine⟨.inl ⟨rfl,us,.inl (.inl z1)⟩,ht.go rp1 rs1 q1 fun ys Z2 vs H2 rp2 fr2 rs2 rv2 ⟨xs,y,e1,e2,e3,q⟩=>?_⟩;subst e1;obtain⟨u,rfl,r⟩:=mf rv2;obtain⟨ws,z3,z4⟩:=rp2.own l xs e2;obtain⟨rp3,fr3⟩:=rp2.write e2 (z4.append (.one r))
  exact⟨l,ws,u,rfl,rfl,z3,by rw[z4.length];exact e3,k _ _ _ _ rp3 ((fr1.trans fr2).trans fr3) (by simp[RV,Dat]) q⟩⟩
theorem mt(ho:bi to to'):bi (KS K "list" NR to) (Ji to'):=⟨fun F H Z σ ρ Q Q' rp rs w k=>
 ho.go rp rs w fun x Z1 v H1 rp1 fr1 rs1 rv1 ⟨l,xs,y,e,hz,hy,q⟩=>by
  subst e;cases (show v=.ref l from rv1)
  obtain⟨us,z1,z2⟩:=rp1.own l xs hz;obtain⟨u,z3,z4⟩:=z2.get hy;obtain⟨rp3,fr3⟩:=rp1.write hz z2.dropLast
  exact⟨.inl ⟨rfl,us,.inl (.inl z1)⟩,l,us,u,rfl,rfl,z1,by rw[z2.length];exact z3,k y _ u _ rp3 (fr1.trans fr3) (z4.same fr3.same) q⟩⟩
end
noncomputable def Bu:AC:=fun xs Z Q=>∃(x:AV) (W:List (List Int)),xs=[x]/\bn Z x=some (.lst (W.map wdD))/\(∀y∈W,y≠[])/\W.length<64/\Q (.d (.lst ((ic W).map wdD))) Z
theorem Rep.stays{F:Fs}{H:Hp}{Z:Om}(rp:Rep F H Z):Gb H (cut F H Z):=fun b xs e=>by
 refine bY.mpr ⟨?_,?_,e⟩
 ·cases y:Z b with
  |none=>rfl
  |some c=>cases c with
   |frz ds=>rfl
   |own ys=>
    obtain⟨vs,e1,_⟩:=rp.own b ys y;rw[e] at e1;cases e1
   |dic ys=>
    obtain⟨vs,e1,_⟩:=rp.dic b ys y;rw[e] at e1;cases e1
 ·cases z:F b with
  |false=>rfl
  |true=>
   obtain⟨_,vs,q⟩:=rp.hid b z;rw[e] at q;cases q
theorem G8:nC (fun xs H Q=>∃p W,xs=[.ref p]/\LD H p (W.map wdD)/\(∀x∈W,x≠[])/\W.length<64/\∀l H',H l=none->cK H H'->LD H' l ((ic W).map wdD)->Q (.ref l) H') Bu:=⟨fun F H Z vs xs Q Q' rp rv ⟨x,W,e1,e2,e3,e4,q⟩ k=>by
 subst e1;obtain⟨v,rfl,r⟩:=mf rv;obtain⟨a,us,rfl,z1,z2⟩:=fK rp r e2;refine⟨a,W,rfl,⟨sM _,us,z1,z2.same a8⟩,e3,e4,fun l H' hl s ld=>?_⟩;obtain⟨rp2,fr2⟩:=rp.later s;obtain⟨hn,ws,y1,y2⟩:=ld;obtain⟨f1,f2⟩:=rp.free hl;refine k _ Z _ H' rp2 fr2 ?_ q;simp only[RV,Dat]
 exact⟨l,ws,rfl,bY.mpr ⟨by rw[f1];rfl,f2,y1⟩,aJ.t rp2.stays hn y2⟩⟩
noncomputable def tyD:D->String
 |.non=>"NoneType"|.bl _=>"bool"|.int _=>"int"|.str _=>"str"|.tup _=>"tuple"|.lst _=>"list"
noncomputable def isD(T:String)(d:D):Bool:=tyD d == T || (tyD d == "bool" && T == "int")
noncomputable def Nj:AC:=fun xs Z Q=>∃x d T,xs=[x,.r (.ty T)]/\bn Z x=some d/\T∈mw/\Q (.d (.bl (isD T d))) Z
theorem JL{H:Hp}{d:D}{v:V}(h:Dat H d v):fX H v=some (tyD d):=by
 cases d<;>simp only[Dat] at h
 all_goals first
  |(subst h;rfl)
  |(obtain⟨a,xs,rfl,h,_⟩:=h;simp[fX,h,tyD])
theorem EG:nC (fun xs H Q=>∃x T,xs=[x,.ty T]/\T∈mw/\(fX H x).isSome=true/\Q (.bl (isA H x T)) H) Nj:=⟨fun F H Z vs xs Q Q' rp rv ⟨x,d,T,e1,e2,e3,q⟩ k=>by
 subst e1;obtain⟨v,u,rfl,r1,r2⟩:=Lv rv;cases (show u=.ty T from r2)
 have ht:=JL (fW rp r1 e2);refine⟨v,T,rfl,e3,by rw[ht];rfl,?_⟩
 have:isA H v T=isD T d:=by simp[isA,ht,isD]
 rw[this]
 exact k.bl rp q⟩
noncomputable def NG:A2:=fun x y Z Q=>∃ds es,bn Z x=some (.lst ds)/\bn Z y=some (.lst es)/\ds.length+es.length<=sizeLine/\Q (.d (.lst (ds++es))) Z
theorem Mp:jq Jq NG:=⟨fun F H Z v u x y Q Q' rp h1 h2 ⟨ds,es,e1,e2,z,q⟩ k=>by
 obtain⟨a,vs,rfl,z1,z2⟩:=fK rp h1 e1;obtain⟨b,us,rfl,z3,z4⟩:=fK rp h2 e2
 exact⟨a,b,vs,us,rfl,rfl,z1,z3,by rw[z2.length,z4.length];exact z,k.lst rp (z2.append z4) q⟩⟩
noncomputable def zy:A2:=fun x y Z Q=>∃ds k,bn Z x=some (.lst ds)/\y=.d (.int k)/\-(2^63)<=k/\k<2^63/\ds.length*k.toNat<=sizeLine/\Q (.d (.lst (List.replicate k.toNat ds).flatten)) Z
theorem aJ.rep{G:Hp}{ds:List D}{vs:List V}(h:aJ G ds vs):∀n:Nat,aJ G (List.replicate n ds).flatten (List.replicate n vs).flatten
 |0=>by simp[aJ]
 |n+1=>by
  simp only[List.replicate_succ,List.flatten_cons];exact h.append (h.rep n)
theorem MD:jq Ie zy:=⟨fun F H Z v u x y Q Q' rp h1 h2 ⟨ds,k',e1,e2,b1,b2,z,q⟩ k=>by
 subst e2;obtain⟨a,vs,rfl,z1,z2⟩:=fK rp h1 e1
 exact⟨a,k',vs,rfl,cc h2,z1,b1,b2,by rw[z2.length];exact z,k.lst rp (z2.rep _) q⟩⟩
noncomputable def EM(r r':A2)(ta tb tc:AE):AE:=fun ρ Z Q=>ta ρ Z fun x Z1=>tb ρ Z1 fun y Z2=>r x y Z2 fun z Z3=>∃k,z=.d (.bl k)/\(if k=true then tc ρ Z3 fun w Z4=>r' y w Z4 Q else Q (.d (.bl false)) Z3)
theorem wW{r r2:R2}{r' r2':A2}{ta tb tc:TE}{ta' tb' tc':AE}(h1:jq r r')(h2:jq r2 r2')(ha:bi ta ta')(hb:bi tb tb')(hc:bi tc tc'):bi (Bj r r2 ta tb tc) (EM r' r2' ta' tb' tc'):=⟨fun F H Z σ ρ Q Q' rp rs w k=>
 ha.go rp rs w fun x Z1 v H1 rp1 fr1 rs1 rv1 q1=>hb.go rp1 rs1 q1 fun y Z2 u H2 rp2 fr2 rs2 rv2 q2=>h1.run F H2 Z2 v u x y _ _ rp2 (rv1.same fr2.same) rv2 q2 fun z Z3 zv H3 rp3 fr3 rv3 ⟨c,e,q⟩=>by
  subst e;refine⟨c,E5 rv3,?_⟩;have fr:=(fr1.trans fr2).trans fr3
  cases c with
  |true=>
   rw[if_pos rfl] at q ⊢;exact hc.go rp3 (rs2.same fr3.same) q fun w' Z4 wv H4 rp4 fr4 rs4 rv4 q4=>h2.run F H4 Z4 u wv y w' Q Q' rp4 (rv2.same (fr3.trans fr4).same) rv4 q4 (k.fr (fr.trans fr4))
  |false=>
   rw[if_neg Bool.false_ne_true] at q ⊢
   exact k _ Z3 _ H3 rp3 fr (by simp[RV,Dat]) q⟩
section
variable{X:Cx}{tg:Expr}
noncomputable def rOr(r1 r2:R2):R2:=fun x y H Q=>r1 x y H Q\/r2 x y H Q
theorem aQ{f:Value->Value->Sem Value}{r1 r2:R2}(h1:OpR X f r1)(h2:OpR X f r2):OpR X f (rOr r1 r2):=fun pins s σ H x y v u Q I rx ry h=>by
 rcases h with h|h
 ·exact h1 pins s σ H x y v u Q I rx ry h
 ·exact h2 pins s σ H x y v u Q I rx ry h
noncomputable def Ad(K:W.Frag):V->Option Int->Option Int->Hp->VK->Prop:=fun x lo hi H Q=>M3 K x lo hi H Q\/Kf K x lo hi H Q
theorem Al(K:W.Frag)(hK:X.K=K):SlR X (Ad K):=by
 subst hK;intro pins s σ H x v vl vu lo hi sl Q I rx hs pl pu h;rcases h with h|h
 ·exact JI pins s σ H x v vl vu lo hi sl Q I rx hs pl pu h
 ·exact IE pins s σ H x v vl vu lo hi sl Q I rx hs pl pu h
noncomputable def Na(K:W.Frag)(tl:TE):TI:=fun σ H R=>tl σ H fun x H1=>(∃a,x=.ref a/\(∃xs,SqL K H1 a xs)/\R (Itl K a) H1)\/∃a,x=.ref a/\(∃xs,SqT K H1 a xs)/\R (Itt K a) H1
theorem bG(K:W.Frag)(hK:X.K=K){l:Expr}{tl:TE}(hl:PE X l tl):PI X tg l (Na K tl):=by
 subst hK;intro pins s σ H R I h;refine thn (hl pins s σ H _ I h) fun v s1 ⟨x,H1,I1,r1,q1⟩=>?_;rcases q1 with q1|q1
 ·obtain⟨a,e,⟨xs,hq⟩,q⟩:=q1
  subst e;cases r1;obtain⟨its,rv,p,hz⟩:=I1.list hq;refine wpAny_pyIter_list p.isList ?_;refine⟨s1.heap.objs.size,[s1.heap.objs.size],_,_,H1,rfl,I1.kept (t':=s1.toks) fun b o e=>Heap.get?_push_of_some _ e,Ee a _,⟨_,Heap.get?_push_size _ rfl,rfl,rfl⟩,fun b hb=>?_,q⟩;have e:b=s1.heap.objs.size:=by simpa using hb
  subst e;exact I1.OR (Nat.le_refl _) (I1.hok.fresh (Nat.le_refl _))
 ·obtain⟨a,e,⟨xs,hq⟩,q⟩:=q1
  subst e;cases r1;obtain⟨its,rv,p,hz⟩:=I1.tuple hq;refine wpAny_pyIter_tuple (show s1.heap.IsTuple a its.toArray from p) ?_
  refine⟨s1.heap.objs.size,[s1.heap.objs.size],_,_,H1,rfl,I1.kept (t':=s1.toks) fun b o e=>Heap.get?_push_of_some _ e,z9 a _,⟨_,Heap.get?_push_size _ rfl,rfl,rfl⟩,fun b hb=>?_,q⟩;have e:b=s1.heap.objs.size:=by simpa using hb
  subst e;exact I1.OR (Nat.le_refl _) (I1.hok.fresh (Nat.le_refl _))
noncomputable def J6(K:W.Frag)(ta:TA):TI:=fun σ H R=>ta σ H fun vs H1=>(∃a,vs=[.ref a]/\(∃xs,SqT K H1 a xs)/\R (Ent K a) H1)\/∃a,vs=[.ref a]/\(∃xs,SqL K H1 a xs)/\R (Enl K a) H1
theorem BZ(K:W.Frag)(hK:X.K=K){a:Expr}{p pos pp:Pos}{elts:List Expr}{kk:Nat}{ta:TA}(hg:Gl X "enumerate")(hm:X.mg "enumerate"=none)(ha:PA X [a] ta)(hs:starEach [a] X.env=[(false,eval a X.env)]:=by rfl):PI X (.Tuple elts kk pp) (.Call (.Name "enumerate" p) [a] [] pos) (J6 K ta):=by
 subst hK;intro pins s σ H R I h;refine Call_ (o9 I hg hm C6 (PyProof.Rows.callWith_type1 (thn (ha pos pins s σ H _ I h) fun us s1 ⟨vs,H1,I1,r1,q1⟩=>?_) hs rfl));rcases q1 with q1|q1
 ·obtain⟨l,e,⟨xs,hq⟩,q⟩:=q1
  subst e;obtain⟨u,rfl,ru⟩:=g9 r1;cases ru;obtain⟨its,rv,p',hz⟩:=I1.tuple hq;refine Bq (show s1.heap.IsTuple l its.toArray from p') fun h1 he hi hsz hk=>?_
  refine wpAny_pyIter_enum he ⟨_,[s1.heap.objs.size+1,s1.heap.objs.size],_,_,H1,rfl,I1.kept (t':=s1.toks) hk,zO l _ _ (Nat.succ_ne_self _),⟨⟨_,he⟩,hi⟩,fun b hb=>?_,q⟩;rcases(by simpa using hb:b=s1.heap.objs.size+1\/b=s1.heap.objs.size) with rfl|rfl
  ·exact I1.OR (Nat.le_succ _) (I1.hok.fresh (Nat.le_succ _))
  ·exact I1.OR (Nat.le_refl _) (I1.hok.fresh (Nat.le_refl _))
 ·obtain⟨l,e,⟨xs,hq⟩,q⟩:=q1
  subst e;obtain⟨u,rfl,ru⟩:=g9 r1;cases ru;obtain⟨its,rv,p',hz⟩:=I1.list hq;refine call_enumerate_list p'.isList fun h1 he hi hsz hk=>?_;refine wpAny_pyIter_enum he ⟨_,[s1.heap.objs.size+1,s1.heap.objs.size],_,_,H1,rfl,I1.kept (t':=s1.toks) hk,Bg l _ _ (Nat.succ_ne_self _),⟨⟨_,he⟩,hi⟩,fun b hb=>?_,q⟩;rcases(by simpa using hb:b=s1.heap.objs.size+1\/b=s1.heap.objs.size) with rfl|rfl
  ·exact I1.OR (Nat.le_succ _) (I1.hok.fresh (Nat.le_succ _))
  ·exact I1.OR (Nat.le_refl _) (I1.hok.fresh (Nat.le_refl _))
noncomputable abbrev ZK:=W.Frag->Hp->Addr->List V->Prop
noncomputable def zAt(K:W.Frag)(Sa Sb:ZK)(vs:List V)(H1:Hp)(R:It->Hp->Prop):Prop:=∃a b,vs=[.ref a,.ref b]/\(∃xs,Sa K H1 a xs)/\(∃ys,Sb K H1 b ys)/\R (Zp (Sa K) (Sb K) a b) H1
noncomputable def KH(K:W.Frag)(ta:TA):TI:=fun σ H R=>ta σ H fun vs H1=>zAt K SqT SqT vs H1 R\/zAt K SqT SqL vs H1 R\/zAt K SqL SqT vs H1 R\/zAt K SqL SqL vs H1 R
theorem n6{c1 c2:String}{Sa Sb:ZK}{Ia Ib:Heap->Addr->Addr->Nat->Prop}{Isa Isb:Heap->Addr->Array Value->Prop}(k1:Kd c1 Sa Ia Isa)(k2:Kd c2 Sb Ib Isb){pp:Pos}{elts:List Expr}{kk:Nat}{pins:List (Addr×Obj)}{σ:St}{H1:Hp}{s1:Shared}{R:It->Hp->Prop}{us:List Value}{vs:List V}(I1:Inv X pins σ H1 s1)(r1:aR vs us)(q1:zAt X.K Sa Sb vs H1 R):wpAny (model X.prog X.w) X.A (call (Value.type "zip") us) (fun v s1=>wpAny (model X.prog X.w) X.A (pyIter v) (PIE X pins σ (.Tuple elts kk pp) R) X.xe s1) X.xe s1:=by
 obtain⟨l,m,e,⟨xs,hq⟩,⟨ys,hy⟩,q⟩:=q1;subst e
 cases r1 with
 |cons ra rr=>
  cases rr with
  |cons rb rr=>
   cases rr;cases ra;cases rb;obtain⟨its,_,pa⟩:=k1.got I1 hq;obtain⟨jts,_,pb⟩:=k2.got I1 hy;refine Er k1 k2 pa pb fun h1 z1 z2 z3 z4 z5 hk=>?_
   refine wpAny_pyIter_zip z1 ⟨_,[s1.heap.objs.size+4,s1.heap.objs.size+2,s1.heap.objs.size+3,s1.heap.objs.size,s1.heap.objs.size+1],_,_,H1,rfl,I1.kept (t':=s1.toks) hk,
    GI k1 k2 l m (s1.heap.objs.size+4) (s1.heap.objs.size+2) (s1.heap.objs.size+3) s1.heap.objs.size (s1.heap.objs.size+1) (by simp) (by simp) (by simp) (by simp) (by simp) (by simp) (by simp) (by simp) (by simp) (by simp),⟨z1,z2,⟨_,_,z3⟩,z4,z5⟩,fun c hc=>?_,q⟩
   have hge:s1.heap.objs.size<=c:=by
    rcases(by simpa using hc:c=s1.heap.objs.size+4\/c=s1.heap.objs.size+2\/c=s1.heap.objs.size+3\/c=s1.heap.objs.size\/c=s1.heap.objs.size+1) with rfl|rfl|rfl|rfl|rfl<;>omega
   exact I1.OR hge (I1.hok.fresh hge)
theorem vP(K:W.Frag)(hK:X.K=K){a b:Expr}{p pos pp:Pos}{elts:List Expr}{kk:Nat}{ta:TA}(hg:Gl X "zip")(hm:X.mg "zip"=none)(ha:PA X [a,b] ta)(hs:starEach [a,b] X.env=[(false,eval a X.env),(false,eval b X.env)]:=by rfl)(hs2:starEach [b] X.env=[(false,eval b X.env)]:=by rfl):PI X (.Tuple elts kk pp) (.Call (.Name "zip" p) [a,b] [] pos) (KH K ta):=by
 subst hK;intro pins s σ H R I h;refine Call_ (o9 I hg hm PyProof.Rows.boot_zip (PyProof.Rows.callWith_type1 (thn (ha pos pins s σ H _ I h) fun us s1 ⟨vs,H1,I1,r1,q1⟩=>?_) (by rw[hs,hs2]) (by rw[hs2];rfl)))
 rcases q1 with q|q|q|q
 ·exact n6 kdT kdT I1 r1 q
 ·exact n6 kdT kdL I1 r1 q
 ·exact n6 kdL kdT I1 r1 q
 ·exact n6 kdL kdL I1 r1 q
noncomputable def J1(K:W.Frag)(ta tb:TE):TE:=fun σ H Q=>ta σ H fun x H1=>∃c,xB K x H1 c/\if c=true then tb σ H1 Q else Q x H1
noncomputable def KI(K:W.Frag)(ta:TE):TE:=fun σ H Q=>ta σ H fun x H1=>∃c,xB K x H1 c/\Q (.bl (!c)) H1
variable{a b:Expr}{bB:List Expr}{pos:Pos}{ta tb:TE}
theorem dD(K:W.Frag)(hK:X.K=K)(ha:PE X a ta)(hb:PE X (.BoolOp .And (b::bB) pos) tb):PE X (.BoolOp .And (a::b::bB) pos) (J1 K ta tb):=.mk <| by
 subst hK;intro pins s σ H Q I h;refine BoolOp_and (thn (ha pins s σ H _ I h) fun v s1 ⟨x,H1,I1,r1,q1⟩=>?_);refine thn (A4 pins s1 σ H1 x v (fun c H2=>H2=H1/\if c=true then tb σ H1 Q else Q x H1) I1 r1 ?_) fun c s2 ⟨H2,I2,e,q2⟩=>?_
 ·obtain⟨c,hc,q⟩:=q1
  exact⟨c,hc,rfl,q⟩
 ·subst e
  cases c with
  |true=>rw[if_pos rfl] at q2;exact hb pins s2 σ H2 Q I2 q2
  |false=>rw[if_neg Bool.false_ne_true] at q2;exact⟨x,H2,I2,r1,q2⟩
theorem HZ(K:W.Frag)(hK:X.K=K)(ha:PE X a ta):PE X (.UnaryOp .Not a pos) (KI K ta):=.mk <| by
 subst hK;intro pins s σ H Q I h;refine UnaryOp_ (thn (ha pins s σ H _ I h) fun v s1 ⟨x,H1,I1,r1,q1⟩=>?_);refine not_of (thn (A4 pins s1 σ H1 x v (fun c H2=>Q (.bl (!c)) H2) I1 r1 q1) fun c s2 ⟨H2,I2,q2⟩=>⟨.bl (!c),H2,I2,rfl,q2⟩)
end
noncomputable def Kb(ta tb:AE):AE:=fun ρ Z Q=>ta ρ Z fun x Z1=>∃c,kE Z1 x=some c/\if c=true then tb ρ Z1 Q else Q x Z1
noncomputable def JP(ta:AE):AE:=fun ρ Z Q=>ta ρ Z fun x Z1=>∃c,kE Z1 x=some c/\Q (.d (.bl (!c))) Z1
noncomputable def aSl(te:AE)(tl th:AO):AE:=fun ρ Z Q=>te ρ Z fun x Z1=>tl ρ Z1 fun lo Z2=>th ρ Z2 fun hi Z3=>match x with
 |.d (.tup ds)=>Q (.d (.tup (ib ds lo hi))) Z3
 |x=>∃ds,bn Z3 x=some (.lst ds)/\Q (.d (.lst (ib ds lo hi))) Z3
noncomputable def Ks(te:AE):AI:=fun ρ Z R=>te ρ Z fun x Z1=>kj Z1 x fun d Z2=>∃ds,kt d=some ds/\R (ds.map AV.d) Z2
noncomputable def F8(ta:AA):AI:=fun ρ Z R=>ta ρ Z fun xs Z1=>∃x,xs=[x]/\kj Z1 x fun d Z2=>∃ds,kt d=some ds/\R (ku ds) Z2
noncomputable def J4(ta:AA):AI:=fun ρ Z R=>ta ρ Z fun xs Z1=>∃x y,xs=[x,y]/\kj Z1 x fun d Z2=>kj Z2 y fun e Z3=>∃ds es,kt d=some ds/\kt e=some es/\R (qm ds es) Z3
noncomputable def FW:A2:=fun x y Z Q=>match x with
 |.d (.int i)=>∃j,y=.d (.int j)/\Q (.d (.int (i+j))) Z
 |.d (.tup ds)=>∃es,y=.d (.tup es)/\ds.length+es.length<=sizeLine/\Q (.d (.tup (ds++es))) Z
 |x=>∃ds es,bn Z x=some (.lst ds)/\bn Z y=some (.lst es)/\ds.length+es.length<=sizeLine/\Q (.d (.lst (ds++es))) Z
noncomputable def MC:A2:=fun x y Z Q=>match x with
 |.d (.int i)=>∃j,y=.d (.int j)/\tS i j/\Q (.d (.int (i*j))) Z
 |x=>zy x y Z Q
section
variable{K:W.Frag}{te ta tb:TE}{te' ta' tb':AE}{tl th:TO}{tl' th':AO}{sa:TA}{sa':AA}
theorem fe(ha:bi ta ta')(hb:bi tb tb'):bi (J1 K ta tb) (Kb ta' tb'):=⟨fun F H Z σ ρ Q Q' rp rs h k=>
 ha.go rp rs h fun x Z1 v H1 rp1 fr1 rs1 rv1 ⟨c,e,q⟩=>⟨c,A8 rp1 rv1 e,by
  cases c with
  |false=>rw[if_neg Bool.false_ne_true] at q ⊢;exact k x Z1 v H1 rp1 fr1 rv1 q
  |true=>rw[if_pos rfl] at q ⊢;exact hb.run F H1 Z1 σ ρ Q Q' rp1 rs1 q (k.fr fr1)⟩⟩
theorem Lc(ha:bi ta ta'):bi (KI K ta) (JP ta'):=⟨fun F H Z σ ρ Q Q' rp rs h k=>
 ha.go rp rs h fun x Z1 v H1 rp1 fr1 rs1 rv1 ⟨c,e,q⟩=>⟨c,A8 rp1 rv1 e,(k.fr fr1).bl rp1 q⟩⟩
theorem LK(he:bi te te')(hl:Ref REq tl tl')(hh:Ref REq th th'):bi (tSl (Ad K) te tl th) (aSl te' tl' th'):=⟨fun F H Z σ ρ Q Q' rp rs w k=>
 he.go rp rs w fun x Z1 v H1 rp1 fr1 rs1 rv1 q1=>hl.go rp1 rs1 q1 fun lo Z2 lo' H2 rp2 fr2 rs2 e2 q2=>hh.go rp2 rs2 q2 fun hi Z3 hi' H3 rp3 fr3 rs3 e3 q=>by
  cases (show lo=lo' from e2)
  cases (show hi=hi' from e3)
  have r:=rv1.same (fr2.trans fr3).same;have k3:=k.fr ((fr1.trans fr2).trans fr3)
  have ls:(∃ds,bn Z3 x=some (.lst ds)/\Q' (.d (.lst (ib ds lo hi))) Z3)->Ad K v lo hi H3 Q:=fun⟨ds,e,q⟩=>by
   obtain⟨a,vs,rfl,z1,z2⟩:=fK rp3 r e;exact .inl ⟨a,vs,rfl,.inl (.inl z1),k3.lst rp3 z2.cut q⟩
  cases x with
  |d x=>cases x with
   |tup ds=>
    refine .inr ?_;have r':=r;simp only[RV,Dat] at r;obtain⟨a,vs,rfl,z1,z2⟩:=r;refine⟨a,vs,rfl,.inl (.inl (a8 _ _ z1)),?_⟩;by_cases hw:HT.sIx vs.length 0 lo=0/\HT.sIx vs.length vs.length hi=vs.length
    ·rw[if_pos hw]
     have:ib ds lo hi=ds:=by
      unfold ib;rw[←z2.length,hw.1,hw.2,List.drop_zero,Nat.sub_zero,z2.length,List.take_length]
     replace q:Q' (.d (.tup (ib ds lo hi))) Z3:=q
     rw[this] at q;exact k3 _ Z3 _ H3 rp3 .refl r' q
    ·rw[if_neg hw]
     exact k3.tup rp3 z2.cut q
   |_=>exact ls q
  |_=>exact ls q⟩
theorem cx(h:bi te te'):wk (Na K te) (Ks te'):=⟨fun F H Z σ ρ R R' rp rs w k=>h.go rp rs w fun x Z1 v H1 rp1 fr1 rs1 rv q=>by
 obtain⟨d,Z2,rp2,fr2,hd,ds,hs,q2⟩:=oV rp1 rv q
 cases d with
 |lst es=>
  cases hs;obtain⟨a,vs,rfl,ha⟩:=o6 hd;exact .inl ⟨a,rfl,⟨vs,.inl (.inl (a8 _ _ ha))⟩,k _ Z2 _ H1 rp2 (fr1.trans fr2) (IY hd) q2⟩
 |tup es=>
  cases hs;obtain⟨a,vs,rfl,ha⟩:=ph hd;exact .inr ⟨a,rfl,⟨vs,.inl (.inl (a8 _ _ ha))⟩,k _ Z2 _ H1 rp2 (fr1.trans fr2) (K6 hd) q2⟩
 |_=>cases hs⟩
theorem Fd(h:mQ sa sa'):wk (J6 K sa) (F8 sa'):=⟨fun F H Z σ ρ R R' rp rs w k=>h.go rp rs w fun xs Z1 vs H1 rp1 fr1 rs1 rv ⟨x,e,q⟩=>by
 subst e;obtain⟨v,rfl,r⟩:=mf rv;obtain⟨d,Z2,rp2,fr2,hd,ds,hs,q2⟩:=oV rp1 r q
 cases d with
 |lst es=>
  cases hs;obtain⟨a,vs,rfl,ha⟩:=o6 hd;exact .inr ⟨a,rfl,⟨vs,.inl (.inl (a8 _ _ ha))⟩,k _ Z2 _ H1 rp2 (fr1.trans fr2) (GY hd) q2⟩
 |tup es=>
  cases hs;obtain⟨a,vs,rfl,ha⟩:=ph hd;exact .inl ⟨a,rfl,⟨vs,.inl (.inl (a8 _ _ ha))⟩,k _ Z2 _ H1 rp2 (fr1.trans fr2) (EJ hd) q2⟩
 |_=>cases hs⟩
theorem HU{G:Hp}{ds:List D}{v:V}(h:Dat G (.lst ds) v):∃a,v=.ref a/\∀F H Z,Rep F H Z->cK G (cut F H Z)->∃vs,SqL K H a vs/\aJ (cut F H Z) ds vs:=by
 obtain⟨a,_,rfl,_⟩:=o6 h;refine⟨a,rfl,fun F H Z rp s=>?_⟩;have h2:=h.same s;simp only[Dat] at h2;obtain⟨_,vs,e,ha,hd⟩:=h2;cases e;exact⟨vs,.inl (.inl (a8 _ _ ha)),hd⟩
theorem Jc{G:Hp}{ds:List D}{v:V}(h:Dat G (.tup ds) v):∃a,v=.ref a/\∀F H Z,Rep F H Z->cK G (cut F H Z)->∃vs,SqT K H a vs/\aJ (cut F H Z) ds vs:=by
 obtain⟨a,_,rfl,_⟩:=ph h;refine⟨a,rfl,fun F H Z rp s=>?_⟩;have h2:=h.same s;simp only[Dat] at h2;obtain⟨_,vs,e,ha,hd⟩:=h2;cases e;exact⟨vs,.inl (.inl (a8 _ _ ha)),hd⟩
theorem IO{F:Fs}{H1:Hp}{Z3:Om}{Sa Sb:ZK}{ds es:List D}{v u:V}{R:It->Hp->Prop}{R':List AV->Om->Prop}(rp3:Rep F H1 Z3)(k:LP vS F H1 Z3 R' R)(h1:∃a,v=.ref a/\∀F' H Z,Rep F' H Z->cK (cut F H1 Z3) (cut F' H Z)->∃vs,Sa K H a vs/\aJ (cut F' H Z) ds vs)(h2:∃a,u=.ref a/\∀F' H Z,Rep F' H Z->cK (cut F H1 Z3) (cut F' H Z)->∃vs,Sb K H a vs/\aJ (cut F' H Z) es vs)(q:R' (qm ds es) Z3):zAt K Sa Sb [v,u] H1 R:=by
 obtain⟨a,rfl,ha⟩:=h1;obtain⟨b,rfl,hb⟩:=h2;obtain⟨vs,e1,_⟩:=ha F H1 Z3 rp3 (cK.refl _);obtain⟨us,e2,_⟩:=hb F H1 Z3 rp3 (cK.refl _);exact⟨a,b,rfl,⟨vs,e1⟩,⟨us,e2⟩,k _ Z3 _ H1 rp3 .refl (Le ha hb) q⟩
theorem EB(h:mQ sa sa'):wk (KH K sa) (J4 sa'):=⟨fun F H Z σ ρ R R' rp rs w k=>h.go rp rs w fun xs Z1 vs H1 rp1 fr1 rs1 rv ⟨x,y,e,q⟩=>by
 subst e;obtain⟨v,u,rfl,r1,r2⟩:=Lv rv;obtain⟨d,Z2,rp2,fr2,hd,q⟩:=oV rp1 r1 q;obtain⟨e,Z3,rp3,fr3,he,ds,es,hs,ht,qz⟩:=oV rp2 (r2.same fr2.same) q;have hd3:=hd.same fr3.same;have k3:=k.fr ((fr1.trans fr2).trans fr3)
 cases d with
 |tup d1=>
  cases hs
  cases e with
  |tup e1=>cases ht;exact .inl (IO rp3 k3 (Jc hd3) (Jc he) qz)
  |lst e1=>cases ht;exact .inr (.inl (IO rp3 k3 (Jc hd3) (HU he) qz))
  |_=>cases ht
 |lst d1=>
  cases hs
  cases e with
  |tup e1=>cases ht;exact .inr (.inr (.inl (IO rp3 k3 (HU hd3) (Jc he) qz)))
  |lst e1=>cases ht;exact .inr (.inr (.inr (IO rp3 k3 (HU hd3) (HU he) qz)))
  |_=>cases ht
 |_=>cases hs⟩
theorem dm:jq (rOr (rI0 fun i j=>.int (i+j)) (rOr CA Jq)) FW:=⟨fun F H Z v u x y Q Q' rp h1 h2 q k=>by
 have ls:(∃ds es,bn Z x=some (.lst ds)/\bn Z y=some (.lst es)/\ds.length+es.length<=sizeLine/\Q' (.d (.lst (ds++es))) Z)->rOr (rI0 fun i j=>.int (i+j)) (rOr CA Jq) v u H Q:=fun q=>
  .inr (.inr (Mp.run F H Z v u x y Q Q' rp h1 h2 q k))
 cases x with
 |d x=>cases x with
  |int i=>
   obtain⟨j,rfl,q⟩:=q;exact .inl ⟨i,j,cc h1,cc h2,k.int rp q⟩
  |tup ds=>
   obtain⟨es,rfl,z,q⟩:=q;exact .inr (.inl (Lu.run F H Z v u _ _ Q Q' rp h1 h2 ⟨ds,es,rfl,rfl,z,q⟩ k))
  |_=>exact ls q
 |_=>exact ls q⟩
theorem sH:jq (rOr (rI tS fun i j=>.int (i*j)) Ie) MC:=⟨fun F H Z v u x y Q Q' rp h1 h2 q k=>by
 have ls:zy x y Z Q'->rOr (rI tS fun i j=>.int (i*j)) Ie v u H Q:=fun q=>.inr (MD.run F H Z v u x y Q Q' rp h1 h2 q k)
 cases x with
 |d x=>cases x with
  |int i=>
   obtain⟨j,rfl,c,q⟩:=q;exact .inl ⟨i,j,cc h1,cc h2,c,k.int rp q⟩
  |_=>exact ls q
 |_=>exact ls q⟩
end
theorem Ds{X:Cx}(K:W.Frag)(hK:X.K=K)(hc:X.calm=true):cY X (.builtin "sum") (fun xs H Q=>(∃(a:Addr)(ns:List Int),xs=[.ref a]/\SqL K H a (ns.map V.int)/\Q (.int ns.sum) H)\/∃(a:Addr)(ns:List Int),xs=[.ref a]/\SqT K H a (ns.map V.int)/\Q (.int ns.sum) H):=by
 subst hK;intro pins s σ H xs us Q I r h;rcases h with h|h
 ·exact GQ hc pins s σ H xs us Q I r h
 ·exact C5 hc pins s σ H xs us Q I r h
noncomputable def Kh:AC:=fun xs Z Q=>∃(x:AV)(d:D)(ns:List Int),xs=[x]/\bn Z x=some d/\kt d=some (ns.map D.int)/\Q (.d (.int ns.sum)) Z
theorem Mm{K:W.Frag}:nC (fun xs H Q=>(∃(a:Addr)(ns:List Int),xs=[.ref a]/\SqL K H a (ns.map V.int)/\Q (.int ns.sum) H)\/∃(a:Addr)(ns:List Int),xs=[.ref a]/\SqT K H a (ns.map V.int)/\Q (.int ns.sum) H) Kh:=⟨fun F H Z vs xs Q Q' rp rv ⟨x,d,ns,e1,e2,e3,q⟩ k=>by
 subst e1;obtain⟨v,rfl,r⟩:=mf rv;have hd:=fW rp r e2
 cases d with
 |lst ds=>
  cases e3;simp only[Dat] at hd;obtain⟨a,us,rfl,q1,q2⟩:=hd;cases cR q2;exact .inl ⟨a,ns,rfl,.inl (.inl q1),k.int rp q⟩
 |tup ds=>
  cases e3;simp only[Dat] at hd;obtain⟨a,us,rfl,q1,q2⟩:=hd;cases cR q2;exact .inr ⟨a,ns,rfl,.inl (.inl q1),k.int rp q⟩
 |_=>cases e3⟩
noncomputable def vD:V->Option D
 |.non=>some .non
 |.bl b=>some (.bl b)
 |.int i=>some (.int i)
 |.str x=>some (.str x)
 |_=>none
noncomputable def J9(kvs:List (Str×V))(ty:AE):AE:=fun ρ Z Q=>ty ρ Z fun y Z1=>∃x v d,y=.d (.str x)/\vU kvs x=some v/\vD v=some d/\Q (.d d) Z1
theorem Hb{kvs:List (Str×V)}{a:Addr}{ty:TE}{ty':AE}(h:bi ty ty'):bi (KF kvs (tC (.ref a)) ty) (J9 kvs ty'):=⟨fun F H Z σ ρ Q Q' rp rs w k=>h.go rp rs w fun y Z1 u H1 rp1 fr1 rs1 rv ⟨x,v,d,e1,e2,e3,q⟩=>by
 subst e1;refine⟨x,v,xo rv,e2,?_⟩;refine k (.d d) Z1 v H1 rp1 fr1 ?_ q;cases v<;>simp only[vD,Option.some.injEq,reduceCtorEq] at e3
 all_goals (subst e3;simp[RV,Dat])⟩
noncomputable def lr(N:List Str)(xs:List AV):SA:=xs.map some++List.replicate (N.length-xs.length) none
theorem RS.start{G:Hp}{N:List Str}{xs:List AV}{vs:List V}(h:RVs G xs vs):RS G (lr N xs) (start N vs):=by
 refine⟨by simp[lr,L2.start,h.length],fun i a e=>?_⟩
 unfold lr at e;unfold L2.start;by_cases hi:i<xs.length
 ·rw[List.getElem?_append_left (by simpa using hi),List.getElem?_map] at e
  rw[List.getElem?_append_left (by simpa[h.length] using hi),List.getElem?_map]
  cases z:xs[i]? with
  |none=>rw[z] at e;simp at e
  |some b=>
   rw[z] at e;simp at e;subst e;obtain⟨v,e1,e2⟩:=h.get z;exact⟨v,by rw[e1];rfl,e2⟩
 ·rw[List.getElem?_append_right (by simpa using hi)] at e
  have:=List.mem_of_getElem? e;rw[List.mem_replicate] at this;cases this.2
theorem Fun.okA{P:Program}{w:World}{K:W.Frag}{mg:Str->Option Value}{base:Heap}{x qual:Str}{st:Stmt}{f:Addr}{fd:FuncData}{N ps:List Str}{k:Nat}{sp:ASp}(F:Fun K x qual st f fd)(S:aA N ps (defScope st))(len:∀xs Z Q,sp xs Z Q->xs.length=ps.length)
  (hbody:∀(cdv:Value)(A:Around)(outer:List Env)(s:Shared)(H:Hp)(E:XK),eJ k (A.deeper (envOfC qual (defScope st) s.heap.objs.size f cdv)) ->
   ∃t t',PSs (tZ CX0 P w K mg base N qual (defScope st) f cdv A outer s H E).nox (defBody st) t/\iN t t'/\∀xs Z Q',sp xs Z Q'->t' { nx:=fun _ Z'=>Q' (.d .non) Z',rt:=Q' } (lr N xs) Z):az P w K mg base CX0 (k+1) f fd ps (bg sp):=by
 refine F.ok S (fun vs H Q E h=>?_) (fun cdv A outer s H vs Q E hr h=>?_)
 ·obtain⟨F,xs,Z,Q',rp,rv,h,_⟩:=h
  rw[rv.length,len xs Z Q' h]
 ·obtain⟨t,t',h1,h2,h3⟩:=hbody cdv A outer s H E hr
  obtain⟨F,xs,Z,Q',rp,rv,h,kq⟩:=h;refine⟨t,h1,h2.run F H Z _ _ _ _ rp (RS.start rv) (h3 xs Z Q' h) ⟨?_,kq,fun _ _ _ _ _ _ _ z=>z.elim,fun _ _ _ _ _ _ _ z=>z.elim⟩⟩;exact fun ρ' Z' σ' H' e1 e2 e3 q=>kq (.d .non) Z' .non H' e1 e2 (by simp[RV,Dat]) q
theorem re(D:cB)(ρ:SA)(Z:Om):KA D ρ Z=(D.nx ρ Z):=rfl
theorem ny(t u:AS)(D:cB)(ρ:SA)(Z:Om):Au t u D ρ Z=(t { D with nx:=u D } ρ Z):=rfl
theorem yb(D:cB)(ρ:SA)(Z:Om):JM D ρ Z=(D.ct ρ Z):=rfl
theorem yd(te:AE)(D:cB)(ρ:SA)(Z:Om):uP te D ρ Z=(te ρ Z fun _ Z1=>D.nx ρ Z1):=rfl
theorem Cn(te:AE)(D:cB)(ρ:SA)(Z:Om):Nv te D ρ Z=(te ρ Z D.rt):=rfl
theorem Bw(c:AT)(t u:AS)(D:cB)(ρ:SA)(Z:Om):HW c t u D ρ Z=(c ρ Z fun b Z1=>if b=true then t D ρ Z1 else u D ρ Z1):=rfl
theorem BX(te:AE)(g:AG)(D:cB)(ρ:SA)(Z:Om):KY te g D ρ Z=(te ρ Z fun x Z1=>g x ρ Z1 D.nx):=rfl
theorem gy(i:Nat)(v:AV)(ρ:SA)(Z:Om)(Q:SA->Om->Prop):dX i v ρ Z Q=(Q (ρ.set i (some v)) Z):=rfl
theorem zi(vs:List AV)(ρ:SA)(Z:Om)(Q:SA->Om->Prop):x5 vs ρ Z Q=(vs=[]/\Q ρ Z):=rfl
theorem uM(t:AG)(u:AGs)(vs:List AV)(ρ:SA)(Z:Om)(Q:SA->Om->Prop):kL t u vs ρ Z Q=(∃v r,vs=v::r/\t v ρ Z fun ρ' Z'=>u r ρ' Z' Q):=rfl
theorem CD(wi:AI)(g:AG)(tb:AS)(D:cB)(ρ:SA)(Z:Om):N9 wi g tb D ρ Z=(wi ρ Z fun as Z1=>kh g tb D as ρ Z1):=rfl
theorem jJ(z0:SA)(Z:Om)(Q:Bool->Om->Prop):io z0 Z Q=(Q true Z):=rfl
theorem jc(te:AE)(xs:List AV)(ρ:SA)(Z:Om)(K:List AV->SA->Om->Prop):jk te xs ρ Z K=(te ρ Z fun y Z1=>xs.length<sizeLine/\K (xs++[y]) ρ Z1):=rfl
theorem y8(wi:AI)(g:AG)(tc:AT)(l:AL)(xs:List AV)(ρ:SA)(Z:Om)(K:List AV->SA->Om->Prop):JN wi g tc l xs ρ Z K=(wi ρ Z fun as Z1=>cy g tc l as xs ρ Z1 K):=rfl
theorem Ct(i:Nat)(ρ:SA)(Z:Om)(Q:AV->Om->Prop):gE i ρ Z Q=(∃a,ρ[i]?=some (some a)/\Q a Z):=rfl
theorem zu(i:Nat)(ρ:SA)(Z:Om)(Q:AV->Om->Prop):JR i ρ Z Q=(∃a,ρ[i]?=some (some a)/\kj Z a fun d Z'=>Q (.d d) Z'):=rfl
theorem J5(d:D)(z0:SA)(Z:Om)(Q:AV->Om->Prop):aC d z0 Z Q=(Q (.d d) Z):=rfl
theorem FI(r:A2)(ta tb:AE)(ρ:SA)(Z:Om)(Q:AV->Om->Prop):aOp r ta tb ρ Z Q=(ta ρ Z fun x Z1=>tb ρ Z1 fun y Z2=>r x y Z2 Q):=rfl
theorem Ch(z0:SA)(Z:Om)(Q:List AV->Om->Prop):wH z0 Z Q=(Q [] Z):=rfl
theorem yR(ta:AE)(tr:AA)(ρ:SA)(Z:Om)(Q:List AV->Om->Prop):kf ta tr ρ Z Q=(ta ρ Z fun x Z1=>tr ρ Z1 fun xs Z2=>Q (x::xs) Z2):=rfl
theorem Cc(t:AA)(ρ:SA)(Z:Om)(Q:AV->Om->Prop):Nl t ρ Z Q=(t ρ Z fun xs Z1=>xs.length<=sizeLine/\∃ds,und xs=some ds/\Q (.d (.tup ds)) Z1):=rfl
theorem CT(t:AA)(ρ:SA)(Z:Om)(Q:AV->Om->Prop):NZ t ρ Z Q=(t ρ Z fun xs Z1=>xs.length<=sizeLine/\∃ds,und xs=some ds/\Q (.d (.lst ds)) Z1):=rfl
theorem xK(t:AA)(ρ:SA)(Z:Om)(Q:AV->Om->Prop):Kn t ρ Z Q=(t ρ Z fun xs Z1=>xs.length<=sizeLine/\∀p,Z1 p=none->Q (.r (.ref p)) (Z1.put p (.own xs))):=rfl
theorem y9(sp:ASp)(t:AA)(ρ:SA)(Z:Om)(Q:AV->Om->Prop):E1 sp t ρ Z Q=(t ρ Z fun xs Z1=>sp xs Z1 Q):=rfl
theorem xC(t:AE)(ρ:SA)(Z:Om)(Q:Bool->Om->Prop):uG t ρ Z Q=(t ρ Z fun x Z1=>∃k,x=.d (.bl k)/\Q k Z1):=rfl
theorem CP(t u:AT)(ρ:SA)(Z:Om)(Q:Bool->Om->Prop):NF t u ρ Z Q=(t ρ Z fun c Z1=>if c=true then u ρ Z1 Q else Q false Z1):=rfl
theorem G1(t u:AT)(ρ:SA)(Z:Om)(Q:Bool->Om->Prop):aOr t u ρ Z Q=(t ρ Z fun c Z1=>if c=true then Q true Z1 else u ρ Z1 Q):=rfl
theorem BQ(t:AT)(ρ:SA)(Z:Om)(Q:Bool->Om->Prop):NY t ρ Z Q=(t ρ Z fun c Z1=>Q (!c) Z1):=rfl
theorem Fo(t:AT)(ta tb:AE)(ρ:SA)(Z:Om)(Q:AV->Om->Prop):aIf t ta tb ρ Z Q=(t ρ Z fun c Z1=>if c=true then ta ρ Z1 Q else tb ρ Z1 Q):=rfl
theorem CQ(v:V)(z0:SA)(Z:Om)(Q:AV->Om->Prop):N6 v z0 Z Q=(Q (.r v) Z):=rfl
theorem Cw(ta:AE)(ρ:SA)(Z:Om)(Q:Bool->Om->Prop):LR ta ρ Z Q=(ta ρ Z fun x Z1=>∃k,kE Z1 x=some k/\Q k Z1):=rfl
theorem Gv(f:Int->Int->D)(x:AV)(y:AV)(Z:Om)(Q:AV->Om->Prop):aI0 f x y Z Q=(∃i j,x=.d (.int i)/\y=.d (.int j)/\Q (.d (f i j)) Z):=rfl
theorem JW(C:Int->Int->Prop)(f:Int->Int->D)(x:AV)(y:AV)(Z:Om)(Q:AV->Om->Prop):aI C f x y Z Q=(∃i j,x=.d (.int i)/\y=.d (.int j)/\C i j/\Q (.d (f i j)) Z):=rfl
theorem C2(neg:Bool)(x:AV)(y:AV)(Z:Om)(Q:AV->Om->Prop):Hf neg x y Z Q=(∃a b,bn Z x=some a/\bn Z y=some b/\dep a<=100/\Q (.d (.bl (if neg then !eqD a b else eqD a b))) Z):=rfl
theorem Fv(neg:Bool)(x:AV)(y:AV)(Z:Om)(Q:AV->Om->Prop):aIn neg x y Z Q=(∃a b ds,bn Z x=some a/\bn Z y=some b/\(b=.lst ds\/b=.tup ds)/\fP ds<=90/\Q (.d (.bl (if neg then !inD a ds else inD a ds))) Z):=rfl
theorem Hz(x:AV)(y:AV)(Z:Om)(Q:AV->Om->Prop):aIx x y Z Q=(∃xs i a,(eT Z x=some xs\/e8 x=some xs)/\y=.d (.int i)/\atI xs i=some a/\Q a Z):=rfl
theorem B6(neg:Bool)(x:AV)(y:AV)(Z:Om)(Q:AV->Om->Prop):NB neg x y Z Q=(∃a,x=.d a/\y=.d .non/\Q (.d (.bl (if neg then !eqD a .non else eqD a .non))) Z):=rfl
theorem B1(xs:List AV)(Z:Om)(Q:AV->Om->Prop):No xs Z Q=(∃x n,xs=[x]/\ia Z x=some n/\Q (.d (.int n)) Z):=rfl
theorem Cz(f:List Bool->Bool)(xs:List AV)(Z:Om)(Q:AV->Om->Prop):ND f xs Z Q=(∃x bs,xs=[x]/\bn Z x=some (.lst (bs.map D.bl))/\Q (.d (.bl (f bs))) Z):=rfl
theorem Hh(f:Int->Int->Int)(xs:List AV)(Z:Om)(Q:AV->Om->Prop):aF2 f xs Z Q=(∃i j,xs=[.d (.int i),.d (.int j)]/\Q (.d (.int (f i j))) Z):=rfl
theorem Hu(f:Int->Int)(xs:List AV)(Z:Om)(Q:AV->Om->Prop):aF1 f xs Z Q=(∃i,xs=[.d (.int i)]/\Q (.d (.int (f i))) Z):=rfl
theorem Cu(xs:List AV)(Z:Om)(Q:AV->Om->Prop):Nu xs Z Q=(∃d i,xs=[.d d]/\D9 d=some i/\Q (.d (.int i)) Z):=rfl
theorem ut(xs:List AV)(Z:Om)(Q:AV->Om->Prop):GT xs Z Q=(∃x ds,xs=[x]/\(bn Z x=some (.lst ds)\/x=.d (.tup ds))/\Q (.d (.tup ds)) Z):=rfl
theorem uZ(xs:List AV)(Z:Om)(Q:AV->Om->Prop):Hi xs Z Q=(∃x ds,xs=[x]/\(bn Z x=some (.lst ds)\/x=.d (.tup ds))/\∀p,Z p=none->Q (.r (.ref p)) (Z.put p (.own (ds.map AV.d)))):=rfl
theorem uV(ta:AA)(ρ:SA)(Z:Om)(R:List AV->Om->Prop):GL ta ρ Z R=(ta ρ Z fun xs Z1=>∃j:Int,xs=[.d (.int j)]/\-(2^62)<=j/\j<2^62/\R (ml 0 j.toNat) Z1):=rfl
theorem yL(n:Nat)(t:AGs)(v:AV)(ρ:SA)(Z:Om)(Q:SA->Om->Prop):xZ n t v ρ Z Q=(∃ds,v=.d (.tup ds)/\ds.length=n/\t (ds.map AV.d) ρ Z Q):=rfl
theorem zw(to ti:AE)(v:AV)(ρ:SA)(Z:Om)(Q:SA->Om->Prop):Kq to ti v ρ Z Q=(to ρ Z fun o Z1=>ti ρ Z1 fun i Z2=>∃l k xs j,o=.r (.ref l)/\i=.d (.int k)/\Z2 l=some (.own xs)/\ixN xs.length k=some j/\Q ρ (Z2.put l (.own (xs.set j v)))):=rfl
theorem uu(z0:SA)(Z:Om)(Q:Option Int->Om->Prop):Hq z0 Z Q=(Q none Z):=rfl
theorem vm(t:AE)(ρ:SA)(Z:Om)(Q:Option Int->Om->Prop):ED t ρ Z Q=(t ρ Z fun x Z1=>∃i,x=.d (.int i)/\Q (some i) Z1):=rfl
theorem CC(te:AE)(ρ:SA)(Z:Om)(Q:AV->Om->Prop):NI te ρ Z Q=(te ρ Z fun x Z1=>∃ds,bn Z1 x=some (.lst ds)/\Q (.d (.lst ds.reverse)) Z1):=rfl
theorem tD(to:AE)(t:AA)(ρ:SA)(Z:Om)(Q:AV->Om->Prop):lX to t ρ Z Q=(to ρ Z fun x Z1=>∃l,x=.r (.ref l)/\(∃zs,Z1 l=some (.own zs))/\t ρ Z1 fun ys Z2=>∃xs y,ys=[y]/\Z2 l=some (.own xs)/\xs.length<sizeLine/\Q (.d .non) (Z2.put l (.own (xs++[y])))):=rfl
theorem r6(xs:List AV)(Z:Om)(Q:AV->Om->Prop):Bu xs Z Q=(∃(x:AV) (W:List (List Int)),xs=[x]/\bn Z x=some (.lst (W.map wdD))/\(∀y∈W,y≠[])/\W.length<64/\Q (.d (.lst ((ic W).map wdD))) Z):=rfl
theorem B5(xs:List AV)(Z:Om)(Q:AV->Om->Prop):Nj xs Z Q=(∃x d T,xs=[x,.r (.ty T)]/\bn Z x=some d/\T∈mw/\Q (.d (.bl (isD T d))) Z):=rfl
theorem zf(x:AV)(y:AV)(Z:Om)(Q:AV->Om->Prop):zy x y Z Q=(∃ds k,bn Z x=some (.lst ds)/\y=.d (.int k)/\-(2^63)<=k/\k<2^63/\ds.length*k.toNat<=sizeLine/\Q (.d (.lst (List.replicate k.toNat ds).flatten)) Z):=rfl
theorem uq(r r':A2)(ta tb tc:AE)(ρ:SA)(Z:Om)(Q:AV->Om->Prop):EM r r' ta tb tc ρ Z Q=(ta ρ Z fun x Z1=>tb ρ Z1 fun y Z2=>r x y Z2 fun z Z3=>∃k,z=.d (.bl k)/\(if k=true then tc ρ Z3 fun w Z4=>r' y w Z4 Q else Q (.d (.bl false)) Z3)):=rfl
theorem yF(ta tb:AE)(ρ:SA)(Z:Om)(Q:AV->Om->Prop):Kb ta tb ρ Z Q=(ta ρ Z fun x Z1=>∃c,kE Z1 x=some c/\if c=true then tb ρ Z1 Q else Q x Z1):=rfl
theorem ye(ta:AE)(ρ:SA)(Z:Om)(Q:AV->Om->Prop):JP ta ρ Z Q=(ta ρ Z fun x Z1=>∃c,kE Z1 x=some c/\Q (.d (.bl (!c))) Z1):=rfl
theorem yk(te:AE)(ρ:SA)(Z:Om)(R:List AV->Om->Prop):Ks te ρ Z R=(te ρ Z fun x Z1=>kj Z1 x fun d Z2=>∃ds,kt d=some ds/\R (ds.map AV.d) Z2):=rfl
theorem uI(ta:AA)(ρ:SA)(Z:Om)(R:List AV->Om->Prop):F8 ta ρ Z R=(ta ρ Z fun xs Z1=>∃x,xs=[x]/\kj Z1 x fun d Z2=>∃ds,kt d=some ds/\R (ku ds) Z2):=rfl
theorem yK(ta:AA)(ρ:SA)(Z:Om)(R:List AV->Om->Prop):J4 ta ρ Z R=(ta ρ Z fun xs Z1=>∃x y,xs=[x,y]/\kj Z1 x fun d Z2=>kj Z2 y fun e Z3=>∃ds es,kt d=some ds/\kt e=some es/\R (qm ds es) Z3):=rfl
theorem yp(xs:List AV)(Z:Om)(Q:AV->Om->Prop):Kh xs Z Q=(∃(x:AV)(d:D)(ns:List Int),xs=[x]/\bn Z x=some d/\kt d=some (ns.map D.int)/\Q (.d (.int ns.sum)) Z):=rfl
theorem xP(src:List (Option Nat))(wi:AI)(g:AG)(tc:AT)(l:AL)(ρ:SA)(Z:Om)(Q:AV->Om->Prop):Kx src wi g tc l ρ Z Q=(wi ρ Z fun as Z1=>cy g tc l as [] (ud src ρ) Z1 fun xs _ Z'=>∃ds,und xs=some ds/\Q (.d (.lst ds)) Z'):=rfl
theorem va(src:List (Option Nat))(wi:AI)(g:AG)(tc:AT)(l:AL)(ρ:SA)(Z:Om)(Q:AV->Om->Prop):Gn src wi g tc l ρ Z Q=(wi ρ Z fun as Z1=>cy g tc l as [] (ud src ρ) Z1 fun xs _ Z'=>∀p,Z' p=none->Q (.r (.ref p)) (Z'.put p (.own xs))):=rfl
theorem Gh(r:List AV->Om->(AV->Om->Prop)->Prop)(t:AA)(ρ:SA)(Z:Om)(Q:AV->Om->Prop):aCB r t ρ Z Q=(t ρ Z fun xs Z1=>r xs Z1 Q):=rfl
theorem x9(kvs:List (Str×V))(ty:AE)(ρ:SA)(Z:Om)(Q:AV->Om->Prop):J9 kvs ty ρ Z Q=(ty ρ Z fun y Z1=>∃x v d,y=.d (.str x)/\vU kvs x=some v/\vD v=some d/\Q (.d d) Z1):=rfl
theorem xL(i:Int)(y:AV)(Z:Om)(Q:AV->Om->Prop):FW (.d (.int i)) y Z Q=(∃j,y=.d (.int j)/\Q (.d (.int (i+j))) Z):=rfl
theorem Hl(ds:List D)(y:AV)(Z:Om)(Q:AV->Om->Prop):FW (.d (.tup ds)) y Z Q=(∃es,y=.d (.tup es)/\ds.length+es.length<=sizeLine/\Q (.d (.tup (ds++es))) Z):=rfl
theorem xM(ds:List D)(y:AV)(Z:Om)(Q:AV->Om->Prop):FW (.d (.lst ds)) y Z Q=(∃es,bn Z y=some (.lst es)/\ds.length+es.length<=sizeLine/\Q (.d (.lst (ds++es))) Z):=by
 show (∃ds' es,bn Z (.d (.lst ds))=some (.lst ds')/\bn Z y=some (.lst es)/\ds'.length+es.length<=sizeLine/\Q (.d (.lst (ds'++es))) Z)=_;simp only[bn,Option.some.injEq,D.lst.injEq,exists_eq_left',exists_and_left]
theorem yD(i:Int)(y:AV)(Z:Om)(Q:AV->Om->Prop):MC (.d (.int i)) y Z Q=(∃j,y=.d (.int j)/\tS i j/\Q (.d (.int (i*j))) Z):=rfl
theorem zt(ds:List D)(y:AV)(Z:Om)(Q:AV->Om->Prop):MC (.d (.lst ds)) y Z Q=zy (.d (.lst ds)) y Z Q:=rfl
noncomputable def slA(x:AV)(lo hi:Option Int)(Z:Om)(Q:AV->Om->Prop):Prop:=match x with
 |.d (.tup ds)=>Q (.d (.tup (ib ds lo hi))) Z
 |x=>∃ds,bn Z x=some (.lst ds)/\Q (.d (.lst (ib ds lo hi))) Z
theorem CI(ds:List D)(lo hi:Option Int)(Z:Om)(Q:AV->Om->Prop):slA (.d (.lst ds)) lo hi Z Q=Q (.d (.lst (ib ds lo hi))) Z:=by
 show (∃ds',bn Z (.d (.lst ds))=some (.lst ds')/\Q (.d (.lst (ib ds' lo hi))) Z)=_;simp only[bn,Option.some.injEq,D.lst.injEq,exists_eq_left']
theorem C4(l:Addr)(lo hi:Option Int)(Z:Om)(Q:AV->Om->Prop):slA (.r (.ref l)) lo hi Z Q=(∃ds,bn Z (.r (.ref l))=some (.lst ds)/\Q (.d (.lst (ib ds lo hi))) Z):=rfl
theorem Fg(te:AE)(tl th:AO)(ρ:SA)(Z:Om)(Q:AV->Om->Prop):aSl te tl th ρ Z Q=(te ρ Z fun x Z1=>tl ρ Z1 fun lo Z2=>th ρ Z2 fun hi Z3=>slA x lo hi Z3 Q):=rfl
theorem GO(Z:Om)(x:D)(K:D->Om->Prop):kj Z (.d x) K=K x Z:=rfl
theorem GK(Z:Om)(l:Addr)(K:D->Om->Prop):kj Z (.r (.ref l)) K=(match Z l with
  |some (.own xs)=>∃ds,und xs=some ds/\K (.lst ds) (Z.put l (.frz ds))
  |some (.frz ds)=>K (.lst ds) Z
  |_=>False):=rfl
theorem EU(Z:Om)(x:D):bn Z (.d x)=some x:=rfl
theorem A9(Z:Om)(l:Addr):bn Z (.r (.ref l))=(match Z l with
  |some (.own xs)=>(und xs).map D.lst
  |some (.frz ds)=>some (.lst ds)
  |_=>none):=rfl
theorem FZ(Z:Om)(ds:List D):eT Z (.d (.lst ds))=some (ds.map AV.d):=rfl
theorem Hc(Z:Om)(ds:List D):eT Z (.d (.tup ds))=none:=rfl
theorem AY(Z:Om)(l:Addr):eT Z (.r (.ref l))=(match Z l with
  |some (.own xs)=>some xs
  |some (.frz ds)=>some (ds.map AV.d)
  |_=>none):=rfl
theorem Av(ds:List D):e8 (.d (.tup ds))=some (ds.map AV.d):=rfl
theorem Ga(ds:List D):e8 (.d (.lst ds))=none:=rfl
theorem Fh(v:V):e8 (.r v)=none:=rfl
theorem HD(Z:Om)(b:Bool):kE Z (.d (.bl b))=some b:=rfl
theorem Bs(Z:Om)(l:Addr):kE Z (.r (.ref l))=(eT Z (.r (.ref l))).map fun xs=>!xs.isEmpty:=rfl
theorem x3(x:D)(r:List AV):und (.d x::r)=(und r).map (x::·):=rfl
theorem CM:und []=some []:=rfl
theorem FJ(Z:Om)(ds:List D):ia Z (.d (.tup ds))=some ds.length:=by simp[ia,e8]
theorem FE(Z:Om)(ds:List D):ia Z (.d (.lst ds))=some ds.length:=by simp[ia,e8,eT]
theorem Hk(Z:Om)(l:Addr):ia Z (.r (.ref l))=(eT Z (.r (.ref l))).map List.length:=rfl
theorem EF(ds:List D):kt (.tup ds)=some ds:=rfl
theorem FK(ds:List D):kt (.lst ds)=some ds:=rfl
theorem uk(g:AG)(tc:AT)(l:AL)(xs:List AV)(ρ:SA)(Z:Om)(K:List AV->SA->Om->Prop):cy g tc l [] xs ρ Z K=K xs ρ Z:=rfl
theorem Bk(g:AG)(tc:AT)(l:AL)(a:AV)(as xs:List AV)(ρ:SA)(Z:Om)(K:List AV->SA->Om->Prop):cy g tc l (a::as) xs ρ Z K=(g a ρ Z fun ρ1 Z1=>tc ρ1 Z1 fun b Z2=>if b=true then l xs ρ1 Z2 (fun xs' ρ' Z'=>cy g tc l as xs' ρ' Z' K) else cy g tc l as xs ρ1 Z2 K):=rfl
theorem Gs{g:AG}{tb:AS}{D:cB}{as:List AV}{ρ:SA}{Z:Om}(I:Nat->SA->Om->Prop)(h0:I 0 ρ Z)(hs:∀(i:Nat)(a:AV)(ρ:SA)(Z:Om)(N:SA->Om->Prop),as[i]?=some a->I i ρ Z->(∀ρ' Z',I (i+1) ρ' Z'->N ρ' Z')->g a ρ Z fun ρ1 Z1=>tb { nx:=N,ct:=N,bk:=D.nx,rt:=D.rt } ρ1 Z1)(hd:∀ρ Z,I as.length ρ Z->D.nx ρ Z):kh g tb D as ρ Z:=by
 have key:∀(n i:Nat)(ρ:SA)(Z:Om),i+n=as.length->I i ρ Z->kh g tb D (as.drop i) ρ Z:=by
  intro n
  induction n with
  |zero=>intro i ρ Z hi h;rw[List.drop_eq_nil_of_le (by omega)];exact hd ρ Z (by rw[←hi];exact h)
  |succ n ih=>
   intro i ρ Z hi h;obtain⟨a,ha,hdr⟩:=lI (as:=as) (i:=i) (by omega)
   rw[hdr];exact hs i a ρ Z _ ha h fun ρ' Z' h'=>ih (i+1) ρ' Z' (by omega) h'
 simpa using key as.length 0 ρ Z (by omega) h0
theorem nY{g:AG}{tb:AS}{D:cB}{ds:List L2.D}{ρ:SA}{Z:Om}(I:Nat->SA->Om->Prop)(h0:I 0 ρ Z)(hs:∀(i:Nat)(d:L2.D)(ρ:SA)(Z:Om)(N:SA->Om->Prop),ds[i]?=some d->I i ρ Z->(∀ρ' Z',I (i+1) ρ' Z'->N ρ' Z')->g (.d d) ρ Z fun ρ1 Z1=>tb { nx:=N,ct:=N,bk:=D.nx,rt:=D.rt } ρ1 Z1)(hd:∀ρ Z,I ds.length ρ Z->D.nx ρ Z):kh g tb D (ds.map AV.d) ρ Z:=
 Gs I h0 (fun i a ρ Z N ha h k=>by
  rw[List.getElem?_map,Option.map_eq_some_iff] at ha;obtain⟨d,h1,rfl⟩:=ha
  exact hs i d ρ Z N h1 h k) (fun ρ Z h=>hd ρ Z (by simpa using h))
theorem qK{g:AG}{tb:AS}{D:cB}{lo:Int}{n:Nat}{ρ:SA}{Z:Om}(I:Nat->SA->Om->Prop)(h0:I 0 ρ Z)(hs:∀(i:Nat)(ρ:SA)(Z:Om)(N:SA->Om->Prop),i<n->I i ρ Z->(∀ρ' Z',I (i+1) ρ' Z'->N ρ' Z')->g (.d (.int (lo+(i:Nat)))) ρ Z fun ρ1 Z1=>tb { nx:=N,ct:=N,bk:=D.nx,rt:=D.rt } ρ1 Z1)(hd:∀ρ Z,I n ρ Z->D.nx ρ Z):kh g tb D (ml lo n) ρ Z:=
 Gs I h0 (fun i a ρ Z N ha h k=>by
  unfold ml at ha;rw[List.getElem?_map,Option.map_eq_some_iff] at ha;obtain⟨j,h1,rfl⟩:=ha;obtain⟨hj,rfl⟩:=List.getElem?_eq_some_iff.mp h1;simp only[List.getElem_range,List.length_range] at hj ⊢
  exact hs i ρ Z N hj h k) (fun ρ Z h=>hd ρ Z (by simpa[ml] using h))
theorem qJ{g:AG}{tc:AT}{l:AL}{as xs:List AV}{ρ:SA}{Z:Om}{K:List AV->SA->Om->Prop}(I:Nat->List AV->SA->Om->Prop)(h0:I 0 xs ρ Z)(hs:∀(i:Nat)(a:AV)(xs:List AV)(ρ:SA)(Z:Om)(N:List AV->SA->Om->Prop),as[i]?=some a->I i xs ρ Z->(∀xs' ρ' Z',I (i+1) xs' ρ' Z'->N xs' ρ' Z')->g a ρ Z fun ρ1 Z1=>tc ρ1 Z1 fun b Z2=>if b=true then l xs ρ1 Z2 N else N xs ρ1 Z2)(hd:∀xs ρ Z,I as.length xs ρ Z->K xs ρ Z):cy g tc l as xs ρ Z K:=by
 have key:∀(n i:Nat)(xs:List AV)(ρ:SA)(Z:Om),i+n=as.length->I i xs ρ Z->cy g tc l (as.drop i) xs ρ Z K:=by
  intro n
  induction n with
  |zero=>intro i xs ρ Z hi h;rw[List.drop_eq_nil_of_le (by omega)];exact hd xs ρ Z (by rw[←hi];exact h)
  |succ n ih=>
   intro i xs ρ Z hi h;obtain⟨a,ha,hdr⟩:=lI (as:=as) (i:=i) (by omega)
   rw[hdr];exact hs i a xs ρ Z (fun xs' ρ' Z'=>cy g tc l (as.drop (i+1)) xs' ρ' Z' K) ha h fun xs' ρ' Z' h'=>ih (i+1) xs' ρ' Z' (by omega) h'
 simpa using key as.length 0 xs ρ Z (by omega) h0
theorem sJ{g:AG}{tc:AT}{l:AL}{ds:List D}{xs:List AV}{ρ:SA}{Z:Om}{K:List AV->SA->Om->Prop}(I:Nat->List AV->SA->Om->Prop)(h0:I 0 xs ρ Z)(hs:∀(i:Nat)(d:D)(xs:List AV)(ρ:SA)(Z:Om)(N:List AV->SA->Om->Prop),ds[i]?=some d->I i xs ρ Z->(∀xs' ρ' Z',I (i+1) xs' ρ' Z'->N xs' ρ' Z')->g (.d d) ρ Z fun ρ1 Z1=>tc ρ1 Z1 fun b Z2=>if b=true then l xs ρ1 Z2 N else N xs ρ1 Z2)(hd:∀xs ρ Z,I ds.length xs ρ Z->K xs ρ Z):cy g tc l (ds.map AV.d) xs ρ Z K:=
 qJ I h0 (fun i a xs ρ Z N ha h k=>by
  rw[List.getElem?_map,Option.map_eq_some_iff] at ha;obtain⟨d,h1,rfl⟩:=ha
  exact hs i d xs ρ Z N h1 h k) (fun xs ρ Z h=>hd xs ρ Z (by simpa using h))
theorem Jm{tc:AT}{te:AE}{ds:List D}{v0:Option AV}{bB:SA}{Z:Om}{K:List AV->SA->Om->Prop}(p:D->Bool)(f:D->D)(ht:∀d∈ds,∀Q:Bool->Om->Prop,Q (p d) Z->tc (some (.d d)::bB) Z Q)(he:∀d∈ds,p d=true->∀Q:AV->Om->Prop,Q (.d (f d)) Z->te (some (.d d)::bB) Z Q)(hz:ds.length<=sizeLine)(hk:∀ρ,K (((ds.filter p).map f).map AV.d) ρ Z):cy (dX 0) tc (jk te) (ds.map AV.d) [] (v0::bB) Z K:=by
 refine sJ (fun i xs ρ Z'=>Z'=Z/\(∃v,ρ=v::bB)/\xs=(((ds.take i).filter p).map f).map AV.d) ⟨rfl,⟨_,rfl⟩,rfl⟩ ?_ ?_
 ·rintro i d xs ρ Z' N hd ⟨rfl,⟨v,rfl⟩,rfl⟩ kN
  have hi:=(List.getElem?_eq_some_iff.mp hd).1;have hm:=List.mem_of_getElem? hd;have et:ds.take (i+1)=ds.take i++[d]:=by rw[List.take_succ,hd];rfl
  rw[gy,List.set_cons_zero];refine ht d hm _ ?_
  cases hp:p d with
  |true=>
   rw[if_pos rfl,jc];refine he d hm hp _ ⟨?_,kN _ _ _ ⟨rfl,⟨_,rfl⟩,?_⟩⟩
   ·rw[List.length_map,List.length_map]
    have:=List.length_filter_le p (ds.take i);rw[List.length_take] at this;omega
   ·rw[et,List.filter_append]
    simp[hp]
  |false=>
   rw[if_neg Bool.false_ne_true];refine kN _ _ _ ⟨rfl,⟨_,rfl⟩,?_⟩;rw[et,List.filter_append];simp[hp]
 ·rintro xs ρ Z' ⟨rfl,_,rfl⟩
  rw[List.take_length];exact hk ρ
structure Pn where
 f:Int
 x:Int
 i:Int
 h:0<=f
section
variable{α:Type}(a b c e:α)(l:List α)
theorem gG{xs:List α}{x:α}(j:Nat){i:Int}(hi:i=(j:Int))(h:xs[j]?=some x):atI xs i=some x:=by
 subst hi;have hj:=(List.getElem?_eq_some_iff.mp h).1;unfold atI ixN;rw[if_pos (by omega),if_pos (by omega)]
 simpa using h
theorem Kc:atI (a::l) 0=some a:=gG 0 rfl rfl
theorem Ke:atI (a::b::l) 1=some b:=gG 1 rfl rfl
theorem Kv:atI (a::b::c::l) 2=some c:=gG 2 rfl rfl
theorem JV:atI (a::b::c::e::l) 3=some e:=gG 3 rfl rfl
end
theorem sz1:(1<=sizeLine)=True:=eq_true (by decide)
theorem sz2:(2<=sizeLine)=True:=eq_true (by decide)
theorem sz3:(3<=sizeLine)=True:=eq_true (by decide)
theorem sz4:(4<=sizeLine)=True:=eq_true (by decide)
theorem sz6:(6<=sizeLine)=True:=eq_true (by decide)
theorem lx(a b:Int):eqD (.int a) (.int b)=(a == b):=by simp[eqD]
theorem qG(a b:Str):eqD (.str a) (.str b)=(a == b):=by simp[eqD]
theorem FP:eqD .non .non=true:=by simp[eqD]
theorem Hw(a:List D):eqD (.tup a) .non=false:=by simp[eqD]
theorem CH(a:Int):dep (.int a)=0:=by simp[dep]
theorem qD(a:Str):dep (.str a)=0:=by simp[dep]
theorem xO(a:Int):D9 (.int a)=some a:=rfl
theorem Cr(a:Bool):D9 (.bl a)=some (if a then 1 else 0):=rfl
theorem sF{n m:Nat}(h:n<=1000):n<=sizeLine:=Nat.le_trans h (by decide)
theorem iM{n m:Nat}(h:n<=1000):n<sizeLine:=Nat.lt_of_le_of_lt h (by decide)
noncomputable def Om.only(Z' Z:Om):Om:=fun b=>if (Z b).isSome=true then Z' b else none
noncomputable def Ex(Z Z':Om):Prop:=∀b,(Z b).isSome=true->Z' b=Z b
theorem Ex.refl(Z:Om):Ex Z Z:=fun _ _=>rfl
theorem Ex.none{Z Z':Om}(h:Ex Z Z'){l:Addr}(e:Z' l=none):Z l=none:=by
 cases z:Z l with
 |none=>rfl
 |some c=>have:=h l (by rw[z];rfl);rw[e,z] at this;cases this
theorem Ex.new{Z Z':Om}(h:Ex Z Z'){l:Addr}{c:OC}(e:Z' l=Option.none):Ex Z (Z'.put l c):=fun b hb=>by
 have:b≠l:=fun z=>by subst z;rw[h.none e] at hb;cases hb
 rw[Om.OB this];exact h b hb
theorem Ex.over{Z Z':Om}(h:Ex Z Z'){l:Addr}{c:OC}(e:Z l=Option.none):Ex Z (Z'.put l c):=fun b hb=>by
 have:b≠l:=fun z=>by subst z;rw[e] at hb;cases hb
 rw[Om.OB this];exact h b hb
theorem ax(Z:Om):Z.only Z=Z:=by
 funext b;unfold Om.only
 cases e:Z b<;>simp
theorem jF{Z Z':Om}(h:Ex Z Z'):Z'.only Z=Z:=by
 funext b;unfold Om.only
 cases e:Z b with
 |none=>simp
 |some c=>simp only[Option.isSome_some,if_true];rw[h b (by rw[e];rfl),e]
theorem nG{Z Z':Om}{p:Addr}{c:OC}(h:Ex (Z.put p c) Z')(hp:(Z p).isSome=true):Z'.only Z=Z.put p c:=by
 funext b;unfold Om.only
 by_cases hb:b=p
 ·subst hb;rw[if_pos hp,h b (by rw[Om.OD];rfl)]
 ·rw[Om.OB hb]
  cases e:Z b with
  |none=>simp
  |some o=>simp only[Option.isSome_some,if_true];rw[h b (by rw[Om.OB hb,e];rfl),Om.OB hb,e]
theorem Rep.only{F:Fs}{H:Hp}{Z Z':Om}(rp:Rep F H Z'):Rep F H (Z'.only Z)/\cK (cut F H Z') (cut F H (Z'.only Z)):=by
 have ho:∀b,ow (Z' b)=false->ow ((Z'.only Z) b)=false:=fun b h=>by
  unfold Om.only;split
  ·exact h
  ·rfl
 have sm:cK (cut F H Z') (cut F H (Z'.only Z)):=fun b o e=>by
  obtain⟨h,f,e⟩:=bY.mp e;exact bY.mpr ⟨ho b h,f,e⟩
 have un:∀b c,(Z'.only Z) b=some c->Z' b=some c:=fun b c e=>by
  unfold Om.only at e;split at e
  ·exact e
  ·cases e
 refine⟨⟨fun l xs e=>?_,fun l ds e=>(rp.frz l ds (un _ _ e)).same sm,fun b f=>?_,fun l ks e=>(by obtain⟨vs,e1,e2⟩:=rp.dic l ks (un _ _ e);exact⟨vs,e1,e2.same sm⟩)⟩,sm⟩
 ·obtain⟨vs,e1,e2⟩:=rp.own l xs (un _ _ e)
  exact⟨vs,e1,e2.same sm⟩
 ·obtain⟨h1,h2⟩:=rp.hid b f
  refine⟨?_,h2⟩;unfold Om.only;rw[h1];simp
theorem Fr.only{F:Fs}{H H':Hp}{Z Z':Om}(fr:Fr F H Z H' Z'):Fr F H Z H' (Z'.only Z):=⟨fun b o h f e=>by
 obtain⟨x,y⟩:=fr.st b o h f e;refine⟨x,?_⟩;unfold Om.only;split
 ·exact y
 ·rfl,fr.hd⟩
theorem Fun.okD{P:Program}{w:World}{K:W.Frag}{mg:Str->Option Value}{base:Heap}{x qual:Str}{st:Stmt}{f:Addr}{fd:FuncData}{N ps:List Str}{k:Nat}{sp:ASp}(F:Fun K x qual st f fd)(S:aA N ps (defScope st))(len:∀xs Z Q,sp xs Z Q->xs.length=ps.length)
  (hbody:∀(cdv:Value)(A:Around)(outer:List Env)(s:Shared)(H:Hp)(E:XK),eJ k (A.deeper (envOfC qual (defScope st) s.heap.objs.size f cdv)) ->
   ∃t t',PSs (tZ CX0 P w K mg base N qual (defScope st) f cdv A outer s H E).nox (defBody st) t/\iN t t'/\∀xs Z Q',sp xs Z Q'->t' { nx:=fun _ Z'=>Q' (.d .non) (Z'.only Z),rt:=fun a Z'=>∃d,a=.d d/\Q' (.d d) (Z'.only Z) } (lr N xs) Z):az P w K mg base CX0 (k+1) f fd ps (bg sp):=by
 refine F.ok S (fun vs H Q E h=>?_) (fun cdv A outer s H vs Q E hr h=>?_)
 ·obtain⟨F,xs,Z,Q',rp,rv,h,_⟩:=h
  rw[rv.length,len xs Z Q' h]
 ·obtain⟨t,t',h1,h2,h3⟩:=hbody cdv A outer s H E hr
  obtain⟨F,xs,Z,Q',rp,rv,h,kq⟩:=h;refine⟨t,h1,h2.run F H Z _ _ _ _ rp (RS.start rv) (h3 xs Z Q' h) ⟨?_,?_,fun _ _ _ _ _ _ _ z=>z.elim,fun _ _ _ _ _ _ _ z=>z.elim⟩⟩
  ·exact fun ρ' Z' σ' H' e1 e2 e3 q=>kq (.d .non) (Z'.only Z) .non H' e1.only.1 e2.only (by simp[RV,Dat]) q
  ·rintro a Z' v H' e1 e2 e3 ⟨d,rfl,q⟩
   exact kq (.d d) (Z'.only Z) v H' e1.only.1 e2.only (e3.same e1.only.2) q
noncomputable def wl:Nat->List (List Int)
 |0=>[[]]
 |n+1=>(wl n).flatMap fun w=>[w++[0],w++[1]]
theorem fD:∀n,(wl n).length=2^n
 |0=>rfl
 |n+1=>by
  have h:∀ws:List (List Int),(ws.flatMap fun w=>[w++[0],w++[1]]).length=2*ws.length:=fun ws=>by
   induction ws with
   |nil=>rfl
   |cons a r ih=>rw[List.flatMap_cons,List.length_append,ih];simp;omega
  rw[wl,h,fD n,Nat.pow_succ];omega
theorem cu:∀ {n:Nat} {w:List Int},w∈wl n->w.length=n/\∀x∈w,x=0\/x=1
 |0,w,h=>by simp[wl] at h;rw[h];simp
 |n+1,w,h=>by
  simp only[wl,List.mem_flatMap] at h;obtain⟨v,hv,h⟩:=h;obtain⟨h1,h2⟩:=cu hv;simp only[List.mem_cons,List.not_mem_nil,or_false] at h;rcases h with rfl|rfl<;>refine⟨by simp[h1],fun x hx=>?_⟩<;>rcases List.mem_append.mp hx with hx|hx
  ·exact h2 x hx
  ·rw[List.mem_singleton.mp hx];exact .inl rfl
  ·exact h2 x hx
  ·rw[List.mem_singleton.mp hx];exact .inr rfl
theorem ki{n:Nat}(h:n<=5):(wl n).length<=32:=by
 rw[fD];exact Nat.pow_le_pow_right (by decide) h
theorem EI{n:Nat}(h:1<=n):2<=(wl n).length:=by
 rw[fD];exact Nat.pow_le_pow_right (n:=2) (by decide) h
theorem LC:∀n:Fin 6,(wl n.val).Nodup:=by decide +kernel
theorem M4{n:Nat}(h:n<=5):(wl n).Nodup:=LC ⟨n,by omega⟩
noncomputable def Wds(n:Nat)(ws:List (List Int)):Prop:=ws.Nodup/\∀w∈ws,w∈wl n
theorem Wds.le{n:Nat}{ws:List (List Int)}(h:Wds n ws)(hn:n<=5):ws.length<=32:=by
 have:=h.1.length_le_of_subset (l₂:=wl n) (fun w hw=>h.2 w hw);have:=ki hn;omega
theorem Wds.sub{n:Nat}{ws:List (List Int)}(h:ws.Sublist (wl n))(hn:n<=5):Wds n ws:=⟨h.nodup (M4 hn),fun w hw=>h.mem hw⟩
theorem uX:∀a b:List Int,hG (a.map D.int) (b.map D.int)=decide (a=b)
 | [],[]=>by simp[hG]
 | [],_::_=>by simp[hG]
 |_::_,[]=>by simp[hG]
 |x::a,y::b=>by
  simp only[List.map_cons,hG,eqD,uX a b,List.cons.injEq];by_cases h1:x=y<;>by_cases h2:a=b<;>simp[h1,h2]
theorem Bp(a b:List Int):eqD (wdD a) (wdD b)=decide (a=b):=by simp only[wdD,eqD];exact uX a b
theorem GM(w:List Int):dep (wdD w)=1:=by simp[wdD,dep,gm]
theorem kS(ws:List (List Int)):fP (ws.map wdD)<=1:=wY fun d hd=>by
 obtain⟨w,_,rfl⟩:=List.mem_map.mp hd;rw[GM];exact Nat.le_refl _
theorem sO(a:List Int)(ws:List (List Int)):inD (wdD a) (ws.map wdD)=decide (a∈ws):=by
 unfold inD;rw[Bool.eq_iff_iff,List.any_eq_true,decide_eq_true_iff];constructor
 ·rintro⟨d,hd,e⟩
  obtain⟨w,hw,rfl⟩:=List.mem_map.mp hd;rw[Bp,decide_eq_true_iff] at e;exact e ▸ hw
 ·intro h
  exact⟨wdD a,List.mem_map.mpr ⟨a,h,rfl⟩,by rw[Bp];simp⟩
theorem eK{α β:Type}{f:α->β}{xs:List α}{i:Nat}{y:β}(h:(xs.map f)[i]?=some y):∃x,xs[i]?=some x/\y=f x:=by
 rw[List.getElem?_map] at h
 cases e:xs[i]? with
 |none=>rw[e] at h;cases h
 |some x=>rw[e] at h;cases h;exact⟨x,rfl,rfl⟩
theorem Cg{α:Type}{f:α->AV}{xs:List α}{i:Int}(h0:0<=i)(h1:i<xs.length):∃x,x∈xs/\xs[i.toNat]?=some x/\atI (xs.map f) i=some (f x):=by
 obtain⟨j,rfl⟩:=Int.eq_ofNat_of_zero_le h0;have hj:j<xs.length:=by omega
 exact⟨xs[j],List.getElem_mem hj,by simp[List.getElem?_eq_getElem hj],gG j rfl (by rw[List.getElem?_map,List.getElem?_eq_getElem hj];rfl)⟩
theorem F4{w:List Int}{i:Int}(h0:0<=i)(h1:i<w.length):atI ((w.map D.int).map AV.d) i=some (.d (.int (w.getD i.toNat 0))):=by
 obtain⟨j,rfl⟩:=Int.eq_ofNat_of_zero_le h0;have hj:j<w.length:=by omega
 refine gG j rfl ?_;rw[List.getElem?_map,List.getElem?_map,List.getElem?_eq_getElem hj];simp[List.getD_eq_getElem?_getD,List.getElem?_eq_getElem hj]
theorem iV{n:Nat}{w:List Int}(h:w∈wl n)(i:Nat):w.getD i 0=0\/w.getD i 0=1:=by
 rw[List.getD_eq_getElem?_getD]
 cases e:w[i]? with
 |none=>exact .inl rfl
 |some x=>exact(cu h).2 x (List.mem_of_getElem? e)
theorem BW(x:List Int)(b:Int)(Z:Om)(Q:AV->Om->Prop):FW (.d (wdD x)) (.d (.tup [.int b])) Z Q=(x.length+1<=sizeLine/\Q (.d (wdD (x++[b]))) Z):=by
 unfold wdD;rw[Hl];simp
theorem vM(x:List Int):e8 (.d (wdD x))=some ((x.map D.int).map AV.d):=rfl
theorem CB(Z:Om)(x:List Int):eT Z (.d (wdD x))=none:=rfl
theorem B7(Z:Om)(x:List Int):ia Z (.d (wdD x))=some x.length:=by simp[ia,vM]
theorem Bz(x:List Int):kt (wdD x)=some (x.map D.int):=rfl
theorem yV{α β:Type}(f:α->β)(xs:List α)(lo hi:Option Int):ib (xs.map f) lo hi=(ib xs lo hi).map f:=by
 unfold ib;rw[List.length_map,List.map_take,List.map_drop]
inductive Sy where
 |is (i b:Int)
 |jn (an:Bool) (l r:Sy)
namespace Sy
noncomputable def d:Sy->D
 |.is i b=>.tup [.str "is",.int i,.int b]
 |.jn an l r=>.tup [.str (if an then "and" else "or"),l.d,r.d]
noncomputable def ok(n:Nat):Sy->Prop
 |.is i b=>0<=i/\i<n/\(b=0\/b=1)
 |.jn _ l r=>l.ok n/\r.ok n
noncomputable def dp:Sy->Nat
 |.is _ _=>0
 |.jn _ l r=>1+max l.dp r.dp
noncomputable def lvs:Sy->Nat
 |.is _ _=>1
 |.jn _ l r=>l.lvs+r.lvs
noncomputable def up:Sy->Prop
 |.is _ b=>b=1
 |.jn _ l r=>l.up/\r.up
noncomputable def val(w:List Int):Sy->Bool
 |.is i b=>decide (w.getD i.toNat 0=b)
 |.jn an l r=>if an then val w l && val w r else val w l || val w r
end Sy
inductive Ta where
 |en (i:Int)
 |nd (y:Bool) (ws:List (List Int)) (l r:Ta)
namespace Ta
noncomputable def d:Ta->D
 |.en i=>.tup [.str "end",.int i]
 |.nd y ws l r=>.tup [.str (if y then "yes" else "no"),.tup (ws.map wdD),l.d,r.d]
noncomputable def ok(n:Nat):Ta->Prop
 |.en i=>0<=i/\i<n
 |.nd _ ws l r=>Wds n ws/\l.ok n/\r.ok n
noncomputable def dp:Ta->Nat
 |.en _=>0
 |.nd _ _ l r=>1+max l.dp r.dp
noncomputable def lvs:Ta->Nat
 |.en _=>1
 |.nd _ _ l r=>l.lvs+r.lvs
noncomputable def size:Ta->Nat
 |.en _=>1
 |.nd _ _ l r=>l.size+r.size+1
noncomputable def bit(y n:List Int)(hy:Bool)(ws:List (List Int)):Bool:=decide ((if hy then y else n)∈ws)
noncomputable def way(y n:List Int):Ta->List Int
 |.en _=>[]
 |.nd h ws a b=>if bit y n h ws then 1::way y n b else 0::way y n a
noncomputable def fin(y n:List Int):Ta->Int
 |.en i=>i
 |.nd h ws a b=>if bit y n h ws then fin y n b else fin y n a
theorem wX(y n:List Int):∀u:Ta,(way y n u).length<=u.dp
 |.en _=>by simp[way,dp]
 |.nd h ws a b=>by
  have h1:=wX y n a;have h2:=wX y n b;simp only[way,dp];split<;>simp<;>omega
theorem Am{m:Nat}{y n:List Int}:∀ {u:Ta},u.ok m->0<=fin y n u/\fin y n u<m
 |.en i,h=>h
 |.nd h ws a b,h'=>by
  obtain⟨_,ha,hb⟩:=h';simp only[fin];split
  ·exact Am hb
  ·exact Am ha
theorem dL:∀t:Ta,t.size+1=2*t.lvs
 |.en x=>rfl
 |.nd y ws l r=>by
  have:=dL l;have:=dL r;simp only[size,lvs];omega
end Ta
theorem CS:(("end":Str)=("yes":Str))=False:=eq_false (by decide +kernel)
theorem BI:(("yes":Str)=("no":Str))=False:=eq_false (by decide +kernel)
theorem CZ:(("no":Str)=("yes":Str))=False:=eq_false (by decide +kernel)
theorem BN:(("and":Str)=("or":Str))=False:=eq_false (by decide +kernel)
theorem Cj:(("or":Str)=("and":Str))=False:=eq_false (by decide +kernel)
theorem CV:(("any":Str)=("rising":Str))=False:=eq_false (by decide +kernel)
theorem JF(F:Nat->SA->Om->Prop):∃Pv:Nat->SA->Om->Prop,∀i ρ Z,Pv i ρ Z↔F i ρ Z:=⟨F,fun _ _ _=>Iff.rfl⟩
noncomputable def om2(Z:Om)(p l:Addr)(c A:OC):Om:=(Z.put p c).put l A
section
variable{Z:Om}{p l l1 l2:Addr}{c c' A A' B B':OC}
theorem kB(h:p≠l):om2 Z p l c A p=some c:=by unfold om2;rw[Om.OB h,Om.OD]
theorem cz:om2 Z p l c A l=some A:=by unfold om2;rw[Om.OD]
theorem jT(h:p≠l):(om2 Z p l c A).put p c'=om2 Z p l c' A:=by unfold om2;rw[Om.OF h,Om.OE]
theorem cM:(om2 Z p l c A).put l A'=om2 Z p l c A':=by unfold om2;rw[Om.OE]
theorem bQ{q:Addr}{o:OC}(h:Z.put p o q=none):q≠p/\Z q=none:=by
 have:q≠p:=fun z=>by subst z;rw[Om.OD] at h;cases h
 exact⟨this,by rwa [Om.OB this] at h⟩
end
structure Ne4(p l1 l2 l3:Addr):Prop where
 p1:p≠l1
 p2:p≠l2
 p3:p≠l3
 a:l1≠l2
 b:l1≠l3
 c:l2≠l3
section
variable{Z:Om}{p l1 l2 l3:Addr}{c c' A A' B B' C C':OC}(h:Ne4 p l1 l2 l3)
include h
end
section
variable{P:Program}{w:World}{K:W.Frag}{mg:Str->Option Value}{base:Heap}
structure Cs(n:Nat)(ys zs:List (List Int)):Prop where
 y:Wds n ys
 z:Wds n zs
 y1:ys≠[]
 z1:zs≠[]
theorem qH{t u:AS}{D:cB}{ρ:SA}{Z:Om}(I:SA->Om->Prop)(h1:∀N:SA->Om->Prop,(∀ρ' Z',I ρ' Z'->N ρ' Z')->t { D with nx:=N } ρ Z)(h2:∀ρ' Z',I ρ' Z'->u D ρ' Z'):Au t u D ρ Z:=h1 (u D) h2
theorem FR{Z:Om}{l:Addr}{ds:List D}(h:Z l=some (.own (ds.map AV.d))):bn Z (.r (.ref l))=some (.lst ds):=by
 rw[A9,h];simp only[aS,Option.map_some]
noncomputable def Mq:ASp:=fun _ _ _=>False
theorem KM{f:Addr}{fd:FuncData}{ps:List Str}{k:Nat}:az P w K mg base CX0 k f fd ps (bg Mq):=
 ⟨fun _ _ _ _ h=>by obtain⟨_,_,_,_,_,_,h,_⟩:=h;exact h.elim,fun _ _ _ _ _ _ _ _ _ _ _ _ _ h=>by obtain⟨_,_,_,_,_,_,h,_⟩:=h;exact h.elim⟩
noncomputable def b01(b:Bool):Int:=if b then 1 else 0
theorem jZ{n:Nat}{ws:List (List Int)}(h:Wds n ws)(q:List Int->Bool):Wds n (ws.filter q):=⟨h.1.filter _,fun v hv=>h.2 v (List.mem_filter.mp hv).1⟩
theorem D6{α:Type}{xs:List α}{b:α}:atI (xs++[b]) (-1)=some b:=by
 unfold atI ixN;rw[if_neg (by decide),if_pos (by simp;omega)]
 show (xs++[b])[((-1:Int)+((xs++[b]).length:Nat)).toNat]?=some b;have:((-1:Int)+((xs++[b]).length:Nat)).toNat=xs.length:=by simp;omega
 rw[this];simp
theorem xJ(to:AE)(ρ:SA)(Z:Om)(Q:AV->Om->Prop):Ji to ρ Z Q=(to ρ Z fun x Z1=>∃l xs y,x=.r (.ref l)/\Z1 l=some (.own xs)/\xs.getLast?=some y/\Q y (Z1.put l (.own xs.dropLast))):=by
 unfold Ji;simp only[List.getLast?_eq_getElem?]
theorem AD{α:Type}(A:List α)(x:α):(A++[x]).isEmpty=false:=by cases A<;>rfl
theorem qc{α:Type}(A:List α)(x:α):(A++[x]).getLast?=some x:=by simp
theorem jH{α:Type}(A:List α)(x:α):(A++[x]).dropLast=A:=by simp
end
noncomputable def yC(caps:List V)(cA:List AV)(sp:ASp):Sp:=fun vs H Q _=>∃(F:Fs)(xs:List AV)(Z:Om)(Q':AV->Om->Prop),Rep F H Z/\RVs (cut F H Z) xs vs/\RVs (cut F H Z) cA caps/\sp xs Z Q'/\LP RV F H Z Q' Q
noncomputable def AW(f:Addr)(caps:List V)(cA:List AV):AV:=.p (.ref f) (fun G=>RVs G cA caps)
noncomputable def Ag(i:Nat)(f:Addr)(caps:List V)(cA:List AV)(sp:ASp)(t:AA):AE:=fun ρ Z Q=>ρ[i]?=some (some (AW f caps cA))/\t ρ Z fun xs Z1=>sp xs Z1 Q
theorem B4{X:Cx}{k n i:Nat}{t:TA}{t':AA}{f:Addr}{caps:List V}{cA:List AV}{sp:ASp}(C:Clo X.prog X.w X.K X.mg X.base X.H₀ k f n (yC caps cA sp))(ht:mQ t t'):bi (Fw X k n i t) (Ag i f caps cA sp t'):=⟨fun F H Z σ ρ Q Q' rp rs w kq=>by
 obtain⟨e,w⟩:=w;obtain⟨v,e1,e2⟩:=rs.2 i _ e;obtain⟨rfl,e3⟩:=e2
 refine⟨f,_,e1,C,ht.go rp rs w fun xs Z1 vs H1 rp1 fr1 rs1 rv1 q=>⟨F,xs,Z1,Q',rp1,rv1,e3 _ fr1.same,q,kq.fr fr1⟩⟩⟩
theorem ii{P:Program}{w:World}{K:W.Frag}{mg:Str->Option Value}{base:Heap}{H₀:Hp}{k:Nat}{f:Addr}{q:Str}{params:Arguments}{body:Expr}{scope:Scope}{cl:List (Str×Addr)}{ps cs:List Str}{caps:List V}{cA:List AV}{sp:ASp}(L:r8 H₀ f q params body scope cl)(S:yW ps cs scope)(C:B9 base cl cs caps)(hb:∀(pm:Value)(c:Addr)(ctv:Value)(us:List Value),us.length=ps.length->bindArgs (W.kla_fn "<lambda>" q params body scope cl pm (.ref c) ctv) ⟨us,[]⟩=pure (ps.zip us))(len:∀xs Z Q,sp xs Z Q->xs.length=ps.length)
  (hbody:∀(cd:Value)(A:Around)(outer:List Env)(s:Shared)(H:Hp),eJ k (A.deeper (W.envX q scope s.heap.objs.size f cd cl)) ->
   ∃t t',PE (Ca P w K mg base (ps++cs) q scope f cd cl A outer s H) body t/\bi t t'/\∀xs Z Q,sp xs Z Q->t' ((xs++cA).map some) Z Q):Clo P w K mg base H₀ (k+1) f ps.length (yC caps cA sp):=by
 refine MX L S C hb (fun vs H Q E h=>?_) (fun cd A outer s H vs Q E hr h=>?_)
 ·obtain⟨F,xs,Z,Q',rp,rv,_,h,_⟩:=h
  rw[rv.length,len xs Z Q' h]
 ·obtain⟨t,t',h1,h2,h3⟩:=hbody cd A outer s H hr
  obtain⟨F,xs,Z,Q',rp,rv,rc,h,kq⟩:=h;refine⟨t,h1,h2.run F H Z _ _ Q Q' rp ?_ (h3 xs Z Q' h) kq⟩;have:=rv.append rc;refine⟨by simp[this.length,rv.length,rc.length],fun i a e=>?_⟩
  rw[List.getElem?_map,Option.map_eq_some_iff] at e;obtain⟨b,hb,e⟩:=e;cases e;obtain⟨v,e1,e2⟩:=this.get hb;exact⟨v,by rw[List.getElem?_map,e1];rfl,e2⟩
theorem Fq(b:Heap):B9 b [] [] []:=⟨rfl,fun _ _ h=>(nomatch h),fun _ _ _ h=>(nomatch h),fun _ _ _ h=>(nomatch h)⟩
theorem Be{b:Heap}{x:Str}{c:Addr}{v:V}{u:Value}(h:b.IsCell c (some u))(r:bf v u):B9 b [(x,c)] [x] [v]:=by
 have lk:∀y d,([(x,c)]:List (Str×Addr)).lookup y=some d->y=x/\d=c:=fun y d e=>by
  rw[List.lookup_cons] at e
  cases q:y == x with
  |true=>rw[q] at e;cases e;exact⟨eq_of_beq q,rfl⟩
  |false=>rw[q] at e;cases e
 refine⟨rfl,fun y d e=>?_,fun y z d e1 e2=>(lk y d e1).1.trans (lk z d e2).1.symm,fun j y w h1 h2=>?_⟩
 ·rw[(lk y d e).1];exact List.mem_singleton.mpr rfl
 ·cases j with
  |zero=>
   simp at h1 h2;subst h1 h2;exact⟨c,u,by simp[List.lookup],h,r⟩
  |succ j=>simp at h1
noncomputable def NK(js:List Nat)(σ:St)(caps:List V):Prop:=caps.length=js.length/\∀(k j:Nat)(v:V),js[k]?=some j->caps[k]?=some v->σ[j]?=some (some v)
noncomputable def rd:List Nat->SA->Option (List AV)
 | [],_=>some []
 |j::js,ρ=>match ρ[j]?,rd js ρ with
  |some (some a),some r=>some (a::r)
  |_,_=>none
theorem Ar{G:Hp}{ρ:SA}{σ:St}(rs:RS G ρ σ):∀ {js:List Nat} {cA:List AV},rd js ρ=some cA->∃caps,NK js σ caps/\RVs G cA caps
 | [],cA,h=>by cases h;exact⟨[],⟨rfl,fun _ _ _ h=>by simp at h⟩,rfl⟩
 |j::js,cA,h=>by
  simp only[rd] at h
  cases e1:ρ[j]? with
  |none=>rw[e1] at h;simp at h
  |some o=>
   cases o with
   |none=>rw[e1] at h;simp at h
   |some a=>
    cases e2:rd js ρ with
    |none=>rw[e1,e2] at h;simp at h
    |some r=>
     rw[e1,e2] at h;simp at h;subst h;obtain⟨caps,⟨c1,c2⟩,c3⟩:=Ar rs e2;obtain⟨v,v1,v2⟩:=rs.2 j a e1;refine⟨v::caps,⟨by simp[c1],fun k i u h1 h2=>?_⟩,v,caps,rfl,v2,c3⟩
     cases k with
     |zero=>simp at h1 h2;subst h1 h2;exact v1
     |succ k=>simp at h1 h2;exact c2 k i u h1 h2
noncomputable def l9(kc:Nat)(P:Program)(w:World)(K:W.Frag)(mg:Str->Option Value)(base:Heap):Sp:=fun vs H Q _=>∃(F:Fs)(Z:Om)(Q':AV->Om->Prop)(v:V)(lw:Str)(u:Tr)(f1 f2:Addr)(c1 c2:List V)(a1 a2:List AV)(s1 s2:ASp)(g:Tr->D),
 vs=[v,.str lw,.ref f1,.ref f2]/\Rep F H Z/\Dat (cut F H Z) u.d v/\u.ok lw/\u.size<=100000/\Clo P w K mg base H kc f1 1 (yC c1 a1 s1)/\Clo P w K mg base H kc f2 3 (yC c2 a2 s2)/\RVs (cut F H Z) a1 c1/\RVs (cut F H Z) a2 c2 /\
 (∀x,Tr.lf x∈u.post->∀Z1 Q1,Q1 (.d (g (.lf x))) Z1->s1 [.d (Tr.lf x).d] Z1 Q1)/\(∀x l r,Tr.nd x l r∈u.post->∀Z1 Q1,Q1 (.d (g (.nd x l r))) Z1->s2 [.d (Tr.nd x l r).d,.d (g l),.d (g r)] Z1 Q1)/\Q' (.d (g u)) Z/\LP RV F H Z Q' Q
noncomputable def Kw(j1 j2:List Nat)(s1 s2:List AV->ASp)(ta tb:AE):AE:=fun ρ Z Q=>ta ρ Z fun x Z0=>tb ρ Z0 fun y Z1=>∃(lw:Str)(u:Tr)(g:Tr->D)(a1 a2:List AV),y=.d (.str lw)/\x=.d u.d/\u.ok lw/\u.size<=100000/\rd j1 ρ=some a1/\rd j2 ρ=some a2 /\
 (∀x,Tr.lf x∈u.post->∀Z1 Q1,Q1 (.d (g (.lf x))) Z1->s1 a1 [.d (Tr.lf x).d] Z1 Q1)/\(∀x l r,Tr.nd x l r∈u.post->∀Z1 Q1,Q1 (.d (g (.nd x l r))) Z1->s2 a2 [.d (Tr.nd x l r).d,.d (g l),.d (g r)] Z1 Q1)/\Q (.d (g u)) Z1
theorem ym(j1 j2:List Nat)(s1 s2:List AV->ASp)(ta tb:AE)(ρ:SA)(Z:Om)(Q:AV->Om->Prop):Kw j1 j2 s1 s2 ta tb ρ Z Q=(ta ρ Z fun x Z0=>tb ρ Z0 fun y Z1=>∃(lw:Str)(u:Tr)(g:Tr->D)(a1 a2:List AV),y=.d (.str lw)/\x=.d u.d/\u.ok lw/\u.size<=100000/\rd j1 ρ=some a1/\rd j2 ρ=some a2 /\
 (∀x,Tr.lf x∈u.post->∀Z1 Q1,Q1 (.d (g (.lf x))) Z1->s1 a1 [.d (Tr.lf x).d] Z1 Q1)/\(∀x l r,Tr.nd x l r∈u.post->∀Z1 Q1,Q1 (.d (g (.nd x l r))) Z1->s2 a2 [.d (Tr.nd x l r).d,.d (g l),.d (g r)] Z1 Q1)/\Q (.d (g u)) Z1):=rfl
noncomputable def Ob(X:Cx)(kc n:Nat)(js:List Nat)(q:Str)(a:Arguments)(b:Expr)(sc:Scope)(cl:List (Str×Addr))(s:List AV->ASp):Prop:=
 ∀(b':Heap)(H:Hp)(f:Addr)(σ:St)(caps:List V)(cA:List AV),r8 H f q a b sc cl->F9 X σ b'->NK js σ caps->cA.length=js.length->Clo X.prog X.w X.K X.mg b' H kc f n (yC caps cA (s cA))
theorem rq{ρ:SA}:∀ {js:List Nat} {cA:List AV},rd js ρ=some cA->cA.length=js.length
 | [],cA,h=>by cases h;rfl
 |j::js,cA,h=>by
  simp only[rd] at h
  cases e1:ρ[j]? with
  |none=>rw[e1] at h;simp at h
  |some o=>
   cases o with
   |none=>rw[e1] at h;simp at h
   |some a=>
    cases e2:rd js ρ with
    |none=>rw[e1,e2] at h;simp at h
    |some r=>
     rw[e1,e2] at h;simp at h;subst h;simp[rq e2]
theorem xi{X:Cx}{kc:Nat}{ta tb:TE}{ta' tb':AE}{q1 q2:Str}{j1 j2:List Nat}{p1 p2:Arguments}{b1 b2:Expr}{sc1 sc2:Scope}{l1 l2:List (Str×Addr)}{s1 s2:List AV->ASp}(h1:Ob X kc 1 j1 q1 p1 b1 sc1 l1 s1)(h2:Ob X kc 3 j2 q2 p2 b2 sc2 l2 s2)(ha:bi ta ta')(hb:bi tb tb'):
  bi (Fm X (fun b'=>l9 kc X.prog X.w X.K X.mg b') (kO ta (kO tb (kO (MI q1 p1 b1 sc1 l1) (kO (MI q2 p2 b2 sc2 l2) Ig))))) (Kw j1 j2 s1 s2 ta' tb'):=⟨fun F H Z σ ρ Q Q' rp rs w kq=>by
 refine ha.go rp rs w fun x Z0 v H0 rp0 fr0 rs0 rv0 q=>hb.go rp0 rs0 q fun y Z1 yv H1 rp1 fr1 rs1 rv1 q=>?_;obtain⟨lw,u,g,a1,a2,rfl,rfl,hok,hsz,e1,e2,k1,k2,q⟩:=q;cases xo rv1;intro f1 H2 m1 _ M1 f2 H3 m2 _ M2 b' sub cb;obtain⟨rp3,fr3⟩:=rp1.later (m1.trans m2);obtain⟨c1,v1,r1⟩:=Ar (rs1.same fr3.same) e1;obtain⟨c2,v2,r2⟩:=Ar (rs1.same fr3.same) e2
 exact⟨F,Z1,Q',v,lw,u,f1,f2,c1,c2,a1,a2,s1 a1,s2 a2,g,rfl,rp3,Dat.same (fr1.trans fr3).same rv0,hok,hsz,h1 b' H3 f1 σ c1 a1 (M1.frz m2.frz) cb v1 (rq e1),h2 b' H3 f2 σ c2 a2 M2 cb v2 (rq e2),r1,r2,k1,k2,q,kq.fr ((fr0.trans fr1).trans fr3)⟩⟩
theorem vK.okD{P:Program}{w:World}{K:W.Frag}{mg:Str->Option Value}{base:Heap}{x qual:Str}{st:Stmt}{f c p:Addr}{fd:FuncData}{N ps:List Str}{k:Nat}{sp:ASp}(F:vK K x qual st f fd c p)(S:aA N ps (defScope st))(len:∀xs Z Q,sp xs Z Q->xs.length=ps.length)
  (hbody:∀(A:Around)(outer:List Env)(s:Shared)(H:Hp)(E:XK),eJ k (A.deeper (envOfC qual (defScope st) s.heap.objs.size f (.ref c))) ->
   ∃t t',PSs (tZ CX0 P w K mg base N qual (defScope st) f (.ref c) A outer s H E).nox (defBody st) t/\iN t t'/\∀xs Z Q',sp xs Z Q'->t' { nx:=fun _ Z'=>Q' (.d .non) (Z'.only Z),rt:=fun a Z'=>∃d,a=.d d/\Q' (.d d) (Z'.only Z) } (lr N xs) Z):az P w K mg base CX0 (k+1) f fd ps (bg sp):=by
 refine F.ok S (fun vs H Q E h=>?_) (fun A outer s H vs Q E hr h=>?_)
 ·obtain⟨F,xs,Z,Q',rp,rv,h,_⟩:=h
  rw[rv.length,len xs Z Q' h]
 ·obtain⟨t,t',h1,h2,h3⟩:=hbody A outer s H E hr
  obtain⟨F,xs,Z,Q',rp,rv,h,kq⟩:=h;refine⟨t,h1,h2.run F H Z _ _ _ _ rp (RS.start rv) (h3 xs Z Q' h) ⟨?_,?_,fun _ _ _ _ _ _ _ z=>z.elim,fun _ _ _ _ _ _ _ z=>z.elim⟩⟩
  ·exact fun ρ' Z' σ' H' e1 e2 e3 q=>kq (.d .non) (Z'.only Z) .non H' e1.only.1 e2.only (by simp[RV,Dat]) q
  ·rintro a Z' v H' e1 e2 e3 ⟨d,rfl,q⟩
   exact kq (.d d) (Z'.only Z) v H' e1.only.1 e2.only (e3.same e1.only.2) q
structure Ox(t2 t:TS)(t':AS):Prop where
 run:∀(F:Fs)(H:Hp)(Z:Om)(σ:St)(ρ:SA)(D:mm)(D':cB),Rep F H Z->RS (cut F H Z) ρ σ->t' D' ρ Z->LE F H Z D' { D with nx:=t2 D }->t D σ H
noncomputable def KL(c:Int->Int->Bool)(ns:List Int):Int:=ns.getD (argBest (fun i j=>c (ns.getD i 0) (ns.getD j 0)) (ns.length-1)) 0
noncomputable def AU:List Int->Int:=KL fun a b=>decide (a>b)
noncomputable def Aa:List Int->Int:=KL fun a b=>decide (a<b)
theorem Da{X:Cx}(K:W.Frag)(hK:X.K=K)(hc:X.calm=true):cY X (.builtin "max") (fun xs H Q=>∃(a:Addr)(ns:List Int),xs=[.ref a]/\(SqL K H a (ns.map V.int)\/SqT K H a (ns.map V.int))/\ns≠[]/\Q (.int (AU ns)) H):=by
 subst hK;intro pins s σ H xs us Q I r h;obtain⟨a,ns,rfl,hq,hn,q⟩:=h;obtain⟨u,rfl,rx⟩:=g9 r;cases rx;have hn0:0<ns.length:=List.length_pos_iff.mpr hn;rcases hq with hq|hq
 ·obtain⟨its,rv,p,hz⟩:=I.list hq
  have hlt:a<s.heap.objs.size:=by
   obtain⟨o,ho,_⟩:=p.isList;exact Heap.lt_size ho
  have hlen:its.length=ns.length:=by rw[←rv.length,List.length_map]
  refine call_max_walk (wpAny_pyIter_list p.isList ?_);refine⟨s.heap.objs.size,_,_,_,_,_,_,rfl,Walks.list (A:=X.A.in1) (I.ok.hd hc) _ a (Nat.ne_of_lt hlt) _,⟨⟨_,Heap.get?_push_size _ rfl,rfl,rfl⟩,p.isList.push _⟩,?_,?_,CmpOf.ints_gt (fun i=>ns.getD i 0) fun i v hP=>bL rv i v (by simpa using hP),fun v h' tk hP hk=>?_⟩
  ·intro b hb
   show b<(s.heap.push _).objs.size;rw[Heap.size_push];simp only[List.mem_cons,List.not_mem_nil,or_false] at hb;rcases hb with e|e
   ·rw[e];exact Nat.lt_succ_self _
   ·rw[e];exact Nat.lt_succ_of_lt hlt
  ·rw[List.size_toArray,hlen];exact hn0
  ·refine⟨.int (AU ns),H,I.kept (t':=tk) fun b o e=>hk b o (fun hm=>?_) (Heap.get?_push_of_some _ e),?_,q⟩
   ·have:b=s.heap.objs.size:=by simpa using hm
    exact absurd (this ▸ Heap.lt_size e) (Nat.lt_irrefl _)
   ·rw[List.getElem?_toArray,List.size_toArray,hlen] at hP
    obtain⟨t',e⟩:=bL rv _ v hP;exact⟨t',e⟩
 ·obtain⟨its,rv,p,hz⟩:=I.tuple hq
  have hlt:a<s.heap.objs.size:=by
   obtain⟨o,ho,_⟩:=p;exact Heap.lt_size ho
  have p':s.heap.IsTuple a its.toArray:=p;have hlen:its.length=ns.length:=by rw[←rv.length,List.length_map]
  refine call_max_walk (wpAny_pyIter_tuple p' ?_);refine⟨s.heap.objs.size,_,_,_,_,_,_,rfl,Walks.tuple (A:=X.A.in1) (I.ok.hd hc) _ a (Nat.ne_of_lt hlt) _,⟨⟨_,Heap.get?_push_size _ rfl,rfl,rfl⟩,p'.push _⟩,?_,?_,CmpOf.ints_gt (fun i=>ns.getD i 0) fun i v hP=>bL rv i v (by simpa using hP),fun v h' tk hP hk=>?_⟩
  ·intro b hb
   show b<(s.heap.push _).objs.size;rw[Heap.size_push];simp only[List.mem_cons,List.not_mem_nil,or_false] at hb;rcases hb with e|e
   ·rw[e];exact Nat.lt_succ_self _
   ·rw[e];exact Nat.lt_succ_of_lt hlt
  ·rw[List.size_toArray,hlen];exact hn0
  ·refine⟨.int (AU ns),H,I.kept (t':=tk) fun b o e=>hk b o (fun hm=>?_) (Heap.get?_push_of_some _ e),?_,q⟩
   ·have:b=s.heap.objs.size:=by simpa using hm
    exact absurd (this ▸ Heap.lt_size e) (Nat.lt_irrefl _)
   ·rw[List.getElem?_toArray,List.size_toArray,hlen] at hP
    obtain⟨t',e⟩:=bL rv _ v hP;exact⟨t',e⟩
theorem Dd{X:Cx}(K:W.Frag)(hK:X.K=K)(hc:X.calm=true):cY X (.builtin "min") (fun xs H Q=>∃(a:Addr)(ns:List Int),xs=[.ref a]/\(SqL K H a (ns.map V.int)\/SqT K H a (ns.map V.int))/\ns≠[]/\Q (.int (Aa ns)) H):=by
 subst hK;intro pins s σ H xs us Q I r h;obtain⟨a,ns,rfl,hq,hn,q⟩:=h;obtain⟨u,rfl,rx⟩:=g9 r;cases rx;have hn0:0<ns.length:=List.length_pos_iff.mpr hn;rcases hq with hq|hq
 ·obtain⟨its,rv,p,hz⟩:=I.list hq
  have hlt:a<s.heap.objs.size:=by
   obtain⟨o,ho,_⟩:=p.isList;exact Heap.lt_size ho
  have hlen:its.length=ns.length:=by rw[←rv.length,List.length_map]
  refine call_min_walk (wpAny_pyIter_list p.isList ?_);refine⟨s.heap.objs.size,_,_,_,_,_,_,rfl,Walks.list (A:=X.A.in1) (I.ok.hd hc) _ a (Nat.ne_of_lt hlt) _,⟨⟨_,Heap.get?_push_size _ rfl,rfl,rfl⟩,p.isList.push _⟩,?_,?_,CmpOf.ints_lt (fun i=>ns.getD i 0) fun i v hP=>bL rv i v (by simpa using hP),fun v h' tk hP hk=>?_⟩
  ·intro b hb
   show b<(s.heap.push _).objs.size;rw[Heap.size_push];simp only[List.mem_cons,List.not_mem_nil,or_false] at hb;rcases hb with e|e
   ·rw[e];exact Nat.lt_succ_self _
   ·rw[e];exact Nat.lt_succ_of_lt hlt
  ·rw[List.size_toArray,hlen];exact hn0
  ·refine⟨.int (Aa ns),H,I.kept (t':=tk) fun b o e=>hk b o (fun hm=>?_) (Heap.get?_push_of_some _ e),?_,q⟩
   ·have:b=s.heap.objs.size:=by simpa using hm
    exact absurd (this ▸ Heap.lt_size e) (Nat.lt_irrefl _)
   ·rw[List.getElem?_toArray,List.size_toArray,hlen] at hP
    obtain⟨t',e⟩:=bL rv _ v hP;exact⟨t',e⟩
 ·obtain⟨its,rv,p,hz⟩:=I.tuple hq
  have hlt:a<s.heap.objs.size:=by
   obtain⟨o,ho,_⟩:=p;exact Heap.lt_size ho
  have p':s.heap.IsTuple a its.toArray:=p;have hlen:its.length=ns.length:=by rw[←rv.length,List.length_map]
  refine call_min_walk (wpAny_pyIter_tuple p' ?_);refine⟨s.heap.objs.size,_,_,_,_,_,_,rfl,Walks.tuple (A:=X.A.in1) (I.ok.hd hc) _ a (Nat.ne_of_lt hlt) _,⟨⟨_,Heap.get?_push_size _ rfl,rfl,rfl⟩,p'.push _⟩,?_,?_,CmpOf.ints_lt (fun i=>ns.getD i 0) fun i v hP=>bL rv i v (by simpa using hP),fun v h' tk hP hk=>?_⟩
  ·intro b hb
   show b<(s.heap.push _).objs.size;rw[Heap.size_push];simp only[List.mem_cons,List.not_mem_nil,or_false] at hb;rcases hb with e|e
   ·rw[e];exact Nat.lt_succ_self _
   ·rw[e];exact Nat.lt_succ_of_lt hlt
  ·rw[List.size_toArray,hlen];exact hn0
  ·refine⟨.int (Aa ns),H,I.kept (t':=tk) fun b o e=>hk b o (fun hm=>?_) (Heap.get?_push_of_some _ e),?_,q⟩
   ·have:b=s.heap.objs.size:=by simpa using hm
    exact absurd (this ▸ Heap.lt_size e) (Nat.lt_irrefl _)
   ·rw[List.getElem?_toArray,List.size_toArray,hlen] at hP
    obtain⟨t',e⟩:=bL rv _ v hP;exact⟨t',e⟩
noncomputable def J7:AC:=fun xs Z Q=>∃(x:AV)(d:D)(ns:List Int),xs=[x]/\bn Z x=some d/\kt d=some (ns.map D.int)/\ns≠[]/\Q (.d (.int (AU ns))) Z
noncomputable def Kk:AC:=fun xs Z Q=>∃(x:AV)(d:D)(ns:List Int),xs=[x]/\bn Z x=some d/\kt d=some (ns.map D.int)/\ns≠[]/\Q (.d (.int (Aa ns))) Z
theorem yG(xs:List AV)(Z:Om)(Q:AV->Om->Prop):J7 xs Z Q=(∃(x:AV)(d:D)(ns:List Int),xs=[x]/\bn Z x=some d/\kt d=some (ns.map D.int)/\ns≠[]/\Q (.d (.int (AU ns))) Z):=rfl
theorem yZ(xs:List AV)(Z:Om)(Q:AV->Om->Prop):Kk xs Z Q=(∃(x:AV)(d:D)(ns:List Int),xs=[x]/\bn Z x=some d/\kt d=some (ns.map D.int)/\ns≠[]/\Q (.d (.int (Aa ns))) Z):=rfl
theorem LO{K:W.Frag}:nC (fun xs H Q=>∃(a:Addr)(ns:List Int),xs=[.ref a]/\(SqL K H a (ns.map V.int)\/SqT K H a (ns.map V.int))/\ns≠[]/\Q (.int (AU ns)) H) J7:=⟨fun F H Z vs xs Q Q' rp rv ⟨x,d,ns,e1,e2,e3,e4,q⟩ k=>by
 subst e1;obtain⟨v,rfl,r⟩:=mf rv;have hd:=fW rp r e2
 cases d with
 |lst ds=>
  cases e3;simp only[Dat] at hd;obtain⟨a,us,rfl,q1,q2⟩:=hd;cases cR q2;exact⟨a,ns,rfl,.inl (.inl (.inl q1)),e4,k.int rp q⟩
 |tup ds=>
  cases e3;simp only[Dat] at hd;obtain⟨a,us,rfl,q1,q2⟩:=hd;cases cR q2;exact⟨a,ns,rfl,.inr (.inl (.inl q1)),e4,k.int rp q⟩
 |_=>cases e3⟩
theorem LM{K:W.Frag}:nC (fun xs H Q=>∃(a:Addr)(ns:List Int),xs=[.ref a]/\(SqL K H a (ns.map V.int)\/SqT K H a (ns.map V.int))/\ns≠[]/\Q (.int (Aa ns)) H) Kk:=⟨fun F H Z vs xs Q Q' rp rv ⟨x,d,ns,e1,e2,e3,e4,q⟩ k=>by
 subst e1;obtain⟨v,rfl,r⟩:=mf rv;have hd:=fW rp r e2
 cases d with
 |lst ds=>
  cases e3;simp only[Dat] at hd;obtain⟨a,us,rfl,q1,q2⟩:=hd;cases cR q2;exact⟨a,ns,rfl,.inl (.inl (.inl q1)),e4,k.int rp q⟩
 |tup ds=>
  cases e3;simp only[Dat] at hd;obtain⟨a,us,rfl,q1,q2⟩:=hd;cases cR q2;exact⟨a,ns,rfl,.inr (.inl (.inl q1)),e4,k.int rp q⟩
 |_=>cases e3⟩
theorem og{g:AG}{te:AE}{as:List AV}{rs:List D}{ρ:SA}{Z:Om}{K:List AV->SA->Om->Prop}(R:SA->Prop)(h0:R ρ)(hl:rs.length=as.length)(hz:as.length<=sizeLine)(he:∀(i:Nat)(a:AV)(r:D)(ρ:SA)(N:SA->Om->Prop),as[i]?=some a->rs[i]?=some r->R ρ->(∀ρ1,R ρ1->(∀Q:AV->Om->Prop,Q (.d r) Z->te ρ1 Z Q)->N ρ1 Z)->g a ρ Z N)(hk:∀ρ,R ρ->K (rs.map AV.d) ρ Z):cy g io (jk te) as [] ρ Z K:=by
 refine qJ (fun i xs ρ Z'=>Z'=Z/\R ρ/\xs=(rs.take i).map AV.d) ⟨rfl,h0,rfl⟩ ?_ ?_
 ·rintro i a xs ρ Z' N ha ⟨rfl,hR,rfl⟩ kN
  have hi:=(List.getElem?_eq_some_iff.mp ha).1;have hr:rs[i]?=some rs[i]:=List.getElem?_eq_getElem (by omega)
  refine he i a _ ρ _ ha hr hR fun ρ1 hR1 h=>?_;rw[jJ,if_pos rfl,jc];refine h _ ⟨by rw[List.length_map,List.length_take];omega,kN _ _ _ ⟨rfl,hR1,?_⟩⟩
  rw[show rs.take (i+1)=rs.take i++[rs[i]] from by rw[List.take_succ,hr];rfl,List.map_append]
  rfl
 ·rintro xs ρ Z' ⟨rfl,hR,rfl⟩
  rw[←hl,List.take_length]
  exact hk ρ hR
theorem dU{te:AE}{as:List AV}{rs:List D}{v0:Option AV}{bB:SA}{Z:Om}{K:List AV->SA->Om->Prop}(hl:rs.length=as.length)(hz:as.length<=sizeLine)(he:∀(i:Nat)(a:AV)(r:D),as[i]?=some a->rs[i]?=some r->∀Q:AV->Om->Prop,Q (.d r) Z->te (some a::bB) Z Q)(hk:∀ρ,K (rs.map AV.d) ρ Z):cy (dX 0) io (jk te) as [] (v0::bB) Z K:=
 og (fun ρ=>∃v,ρ=v::bB) ⟨_,rfl⟩ hl hz (fun i a r ρ N ha hr ⟨v,e⟩ k=>by
  subst e;rw[gy,List.set_cons_zero]
  exact k _ ⟨_,rfl⟩ (he i a r ha hr)) (fun ρ _=>hk ρ)
theorem yg{te:AE}{ds es:List D}{rs:List D}{v0 v1:Option AV}{bB:SA}{Z:Om}{K:List AV->SA->Om->Prop}(hl1:ds.length=rs.length)(hl2:es.length=rs.length)(hz:rs.length<=sizeLine)(he:∀(i:Nat)(d e r:D),ds[i]?=some d->es[i]?=some e->rs[i]?=some r->∀Q:AV->Om->Prop,Q (.d r) Z->te (some (.d d)::some (.d e)::bB) Z Q)(hk:∀ρ,K (rs.map AV.d) ρ Z):cy (xZ 2 (kL (dX 0) (kL (dX 1) x5))) io (jk te) (qm ds es) [] (v0::v1::bB) Z K:=by
 have el:(qm ds es).length=rs.length:=by simp[qm,hl1,hl2]
 refine og (fun ρ=>∃v v',ρ=v::v'::bB) ⟨_,_,rfl⟩ el.symm (by omega) (fun i a r ρ N ha hr ⟨v,v',e⟩ k=>?_) (fun ρ _=>hk ρ)
 subst e;obtain⟨d,e,h1,h2,rfl⟩:=xV ha;exact⟨_,rfl,rfl,_,_,rfl,_,_,rfl,rfl,k _ ⟨_,_,rfl⟩ (he i d e r h1 h2 hr)⟩
noncomputable def kl(K:W.Frag)(a:Addr)(ns:List Int):AV:=.p (.ref a) (fun H=>SqL K H a (ns.map V.int))
noncomputable def Nw(K:W.Frag):A2:=fun x y Z Q=>∃(a:Addr)(ns:List Int)(i v:Int),x=kl K a ns/\y=.d (.int i)/\atI ns i=some v/\Q (.d (.int v)) Z
noncomputable def KP(K:W.Frag):AC:=fun xs Z Q=>∃(a:Addr)(ns:List Int),xs=[kl K a ns]/\Q (.d (.int ns.length)) Z
theorem B8(K:W.Frag)(x y:AV)(Z:Om)(Q:AV->Om->Prop):Nw K x y Z Q=(∃(a:Addr)(ns:List Int)(i v:Int),x=kl K a ns/\y=.d (.int i)/\atI ns i=some v/\Q (.d (.int v)) Z):=rfl
theorem za(K:W.Frag)(xs:List AV)(Z:Om)(Q:AV->Om->Prop):KP K xs Z Q=(∃(a:Addr)(ns:List Int),xs=[kl K a ns]/\Q (.d (.int ns.length)) Z):=rfl
theorem Js{α β:Type}{f:α->β}{xs:List α}{i:Int}{v:α}(h:atI xs i=some v):atI (xs.map f) i=some (f v):=by
 unfold atI at h ⊢;rw[List.length_map]
 cases e:ixN xs.length i with
 |none=>rw[e] at h;cases h
 |some j=>
  rw[e] at h;simp only[Option.bind_some] at h ⊢;rw[List.getElem?_map,h];rfl
theorem AH{F:Fs}{H:Hp}{Z:Om}{K:W.Frag}{a:Addr}{ns:List Int}{v:V}(r:RV (cut F H Z) (kl K a ns) v):v=.ref a/\SqL K H a (ns.map V.int):=by
 obtain⟨rfl,r⟩:=r;exact⟨rfl,r _ a8⟩
theorem M8{K:W.Frag}:jq (rIx K) (Nw K):=⟨fun F H Z v u x y Q Q' rp h1 h2 ⟨a,ns,i,z,e1,e2,e3,q⟩ k=>by
 subst e1 e2;obtain⟨rfl,hs⟩:=AH h1;cases cc h2
 exact .inl ⟨a,_,i,_,rfl,rfl,hs,Js e3,k.int rp q⟩⟩
theorem F2{K:W.Frag}:nC (fun xs H Q=>∃x n,xs=[x]/\Id K x H n/\Q (.int n) H) (KP K):=⟨fun F H Z vs xs Q Q' rp rv ⟨a,ns,e,q⟩ k=>by
 subst e;obtain⟨v,rfl,r⟩:=mf rv;obtain⟨rfl,hs⟩:=AH r
 exact⟨_,ns.length,rfl,.inl ⟨_,hs,by simp⟩,k.int rp q⟩⟩
theorem Bn{K:W.Frag}{H:Hp}{a:Addr}{ns:List Int}(h:SqL K H a (ns.map V.int)):RV (cut (fun _=>false) H (fun _=>none)) (kl K a ns) (.ref a):=by
 refine⟨rfl,fun G' s=>?_⟩;have s2:cK H G':=fun b o e=>s b o (bY.mpr ⟨rfl,rfl,e⟩);rcases h with(h|⟨o,h⟩)|h
 ·exact .inl (.inl (s2 _ _ h))
 ·exact .inl (.inr ⟨o,s2 _ _ h⟩)
 ·exact .inr h
theorem Jb{H:Hp}:Rep (fun _=>false) H (fun _=>none):=⟨fun _ _ h=>by simp at h,fun _ _ h=>by simp at h,fun _ h=>by simp at h,fun _ _ h=>by simp at h⟩
theorem az.any{P:Program}{w:World}{K:W.Frag}{mg:Str->Option Value}{base:Heap}{k:Nat}{f:Addr}{fd:FuncData}{ps:List Str}{ι:Type}{sp:ι->ASp}(h:∀i,az P w K mg base CX0 k f fd ps (bg (sp i))):az P w K mg base CX0 k f fd ps (bg fun xs Z Q=>∃i,sp i xs Z Q):=
 ⟨fun vs H Q E ⟨F,xs,Z,Q',rp,rv,⟨i,s⟩,kq⟩=>(h i).len vs H Q E ⟨F,xs,Z,Q',rp,rv,s,kq⟩,fun A outer s H args us vs Q E hr he hb hv ⟨F,xs,Z,Q',rp,rv,⟨i,q⟩,kq⟩=>(h i).run A outer s H args us vs Q E hr he hb hv ⟨F,xs,Z,Q',rp,rv,q,kq⟩⟩
theorem BL{α:Type}{g:AG}{tc:AT}{te:AE}{as:List AV}{xs:List α}{ρ:SA}{Z:Om}{K:List AV->SA->Om->Prop}(R:SA->Prop)(h0:R ρ)(enc:α->AV)(p:α->Bool)(f:α->D)(ea:as=xs.map enc)(hz:xs.length<=sizeLine)(he:∀(x:α)(ρ:SA)(N:SA->Om->Prop),x∈xs->R ρ->(∀ρ1,R ρ1->(∀Q:Bool->Om->Prop,Q (p x) Z->tc ρ1 Z Q)->(p x=true->∀Q:AV->Om->Prop,Q (.d (f x)) Z->te ρ1 Z Q)->N ρ1 Z)->g (enc x) ρ Z N)(hk:∀ρ,R ρ->K (((xs.filter p).map f).map AV.d) ρ Z):cy g tc (jk te) as [] ρ Z K:=by
 subst ea;refine qJ (fun i ys ρ Z'=>Z'=Z/\R ρ/\ys=(((xs.take i).filter p).map f).map AV.d) ⟨rfl,h0,rfl⟩ ?_ ?_
 ·rintro i a ys ρ Z' N ha ⟨rfl,hR,rfl⟩ kN
  rw[List.getElem?_map,Option.map_eq_some_iff] at ha;obtain⟨x,hx,rfl⟩:=ha;have hi:=(List.getElem?_eq_some_iff.mp hx).1;have et:xs.take (i+1)=xs.take i++[x]:=by rw[List.take_succ,hx];rfl
  refine he x ρ _ (List.mem_of_getElem? hx) hR fun ρ1 hR1 h1 h2=>h1 _ ?_
  cases hp:p x with
  |true=>
   rw[if_pos rfl,jc];refine h2 hp _ ⟨?_,kN _ _ _ ⟨rfl,hR1,?_⟩⟩
   ·rw[List.length_map,List.length_map]
    have:=List.length_filter_le p (xs.take i);rw[List.length_take] at this;omega
   ·rw[et,List.filter_append]
    simp[hp]
  |false=>
   rw[if_neg Bool.false_ne_true];refine kN _ _ _ ⟨rfl,hR1,?_⟩;rw[et,List.filter_append];simp[hp]
 ·rintro ys ρ Z' ⟨rfl,hR,rfl⟩
  rw[List.length_map,List.take_length];exact hk ρ hR
theorem BP{α:Type}{tc:AT}{te:AE}{xs:List α}{v0:Option AV}{bB:SA}{Z:Om}{K:List AV->SA->Om->Prop}(enc:α->D)(p:α->Bool)(f:α->D)(hz:xs.length<=sizeLine)(ht:∀x∈xs,∀Q:Bool->Om->Prop,Q (p x) Z->tc (some (.d (enc x))::bB) Z Q)(he:∀x∈xs,p x=true->∀Q:AV->Om->Prop,Q (.d (f x)) Z->te (some (.d (enc x))::bB) Z Q)(hk:∀ρ,K (((xs.filter p).map f).map AV.d) ρ Z):cy (dX 0) tc (jk te) ((xs.map enc).map AV.d) [] (v0::bB) Z K:=
 BL (fun ρ=>∃ v,ρ = v :: bB) ⟨_,rfl⟩ (fun x=>.d (enc x)) p f (by simp) hz (fun x ρ N hx ⟨v,e⟩ k=>by
  subst e;rw[gy,List.set_cons_zero]
  exact k _ ⟨_,rfl⟩ (ht x hx) (he x hx)) (fun ρ _=>hk ρ)
theorem I9{α β:Type}{tc:AT}{te:AE}{xs:List α}{ys:List β}{v0 v1:Option AV}{bB:SA}{Z:Om}{K:List AV->SA->Om->Prop}(e1:α->D)(e2:β->D)(p:α×β->Bool)(f:α×β->D)(hz:xs.length<=sizeLine)(ht:∀q∈xs.zip ys,∀Q:Bool->Om->Prop,Q (p q) Z->tc (some (.d (e1 q.1))::some (.d (e2 q.2))::bB) Z Q)(he:∀q∈xs.zip ys,p q=true->∀Q:AV->Om->Prop,Q (.d (f q)) Z->te (some (.d (e1 q.1))::some (.d (e2 q.2))::bB) Z Q)(hk:∀ρ,K ((((xs.zip ys).filter p).map f).map AV.d) ρ Z):cy (xZ 2 (kL (dX 0) (kL (dX 1) x5))) tc (jk te) (qm (xs.map e1) (ys.map e2)) [] (v0::v1::bB) Z K:=
 BL (fun ρ=>∃ v v',ρ = v :: v' :: bB) ⟨_,_,rfl⟩ (fun q : α × β=>.d (.tup [e1 q.1,e2 q.2])) p f (by simp [qm,List.zip_map,Function.comp_def]) (Nat.le_trans (by simp;omega) hz) (fun x ρ N hx ⟨v,v',e⟩ k=>by
  subst e
  exact⟨_,rfl,rfl,_,_,rfl,_,_,rfl,rfl,k _ ⟨_,_,rfl⟩ (ht x hx) (he x hx)⟩) (fun ρ _=>hk ρ)
structure Pq where
 a:Addr
 ns:List Int
 i:Int
 f:Int
 h0:0<=i
 hf:0<=f
 hn:ns.length<=63
noncomputable def qp(kvs:List (Str×AV))(k:Str):Option AV:=(kvs.find? fun p=>decide (p.1=k)).map (·.2)
noncomputable def tT:List (Str×AV)->Str->AV->List (Str×AV)
 | [],k,a=>[(k,a)]
 |p::r,k,a=>if p.1=k then (k,a)::r else p::tT r k a
noncomputable def ndK(kvs:List (Str×AV)):Prop:=(kvs.map (·.1)).Nodup
section
variable{G:Hp}{F:Fs}{H:Hp}{Z:Om}
theorem RKs.length:∀ {kvs:List (Str×AV)} {ks:List (Key×V)},RKs G kvs ks->ks.length=kvs.length
 | [],_,h=>by cases h;rfl
 |_::_,_,⟨v,r,h1,_,h3⟩=>by subst h1;simp[h3.length]
theorem RKs.get{k:Str}{a:AV}:∀ {kvs:List (Str×AV)} {ks:List (Key×V)},RKs G kvs ks->qp kvs k=some a->∃v,qq ks (Sum.inr k:Key)=some v/\RV G a v
 | [],_,_,e=>by simp[qp] at e
 |p::r,_,⟨v,r',h1,h2,h3⟩,e=>by
  subst h1;by_cases hp:p.1=k
  ·rw[qp,List.find?_cons,decide_eq_true hp] at e
   cases e;exact⟨v,nN (by rw[hp]),h2⟩
  ·rw[qp,List.find?_cons,decide_eq_false hp] at e
   obtain⟨u,e1,e2⟩:=h3.get (k:=k) (a:=a) e;exact⟨u,by rw[oh (fun z=>hp (Sum.inr.inj z))];exact e1,e2⟩
theorem RKs.any{k:Str}:∀ {kvs:List (Str×AV)} {ks:List (Key×V)},RKs G kvs ks->(ks.any fun kv=>decide (kv.1=(Sum.inr k:Key)))=kvs.any fun p=>decide (p.1=k)
 | [],_,h=>by cases h;rfl
 |p::r,_,⟨v,r',h1,h2,h3⟩=>by
  subst h1;rw[List.any_cons,List.any_cons,h3.any]
  congr 1
  by_cases hp:p.1=k
  ·rw[decide_eq_true hp,decide_eq_true (by rw[hp])]
  ·rw[decide_eq_false hp,decide_eq_false fun z=>hp (Sum.inr.inj z)]
theorem RKs.keep{k:Str}{v:V}:∀ {kvs:List (Str×AV)} {ks:List (Key×V)},RKs G kvs ks->(kvs.any fun p=>decide (p.1=k))=false->ks.map (fun kv=>if kv.1=(Sum.inr k:Key) then (kv.1,v) else kv)=ks
 | [],_,h,_=>by cases h;rfl
 |p::r,_,⟨u,r',h1,h2,h3⟩,e=>by
  subst h1;rw[List.any_cons,Bool.or_eq_false_iff] at e;have hp:¬ p.1=k:=of_decide_eq_false e.1;rw[List.map_cons,h3.keep e.2,if_neg fun z=>hp (Sum.inr.inj z)]
theorem RKs.O4{k:Str}{a:AV}{v:V}(hv:RV G a v):∀ {kvs:List (Str×AV)} {ks:List (Key×V)},RKs G kvs ks->ndK kvs->(kvs.any fun p=>decide (p.1=k))=true->RKs G (tT kvs k a) (ks.map fun kv=>if kv.1=(Sum.inr k:Key) then (kv.1,v) else kv)
 | [],_,_,_,e=>by simp at e
 |p::r,_,⟨u,r',h1,h2,h3⟩,nd,e=>by
  subst h1;unfold tT;by_cases hp:p.1=k
  ·rw[if_pos hp,List.map_cons,if_pos (by rw[hp])]
   have hn:(r.any fun p=>decide (p.1=k))=false:=by
    rw[List.any_eq_false];intro q hq hk;have hk:=of_decide_eq_true hk;have:=(List.nodup_cons.mp nd).1;exact this (List.mem_map.mpr ⟨q,hq,by rw[hk];exact hp.symm⟩)
   rw[h3.keep hn];exact⟨v,r',by rw[hp],hv,h3⟩
  ·rw[if_neg hp,List.map_cons,if_neg fun z=>hp (Sum.inr.inj z)]
   rw[List.any_cons,decide_eq_false hp,Bool.false_or] at e;exact⟨u,_,rfl,h2,h3.O4 hv (List.nodup_cons.mp nd).2 e⟩
theorem RKs.put{k:Str}{a:AV}{v:V}{kvs:List (Str×AV)}{ks:List (Key×V)}(h:RKs G kvs ks)(hv:RV G a v)(nd:ndK kvs)(e:(kvs.any fun p=>decide (p.1=k))=true):RKs G (tT kvs k a) (jt ks (Sum.inr k:Key) v):=by
 unfold jt;rw[if_pos (by rw[h.any];exact e)]
 exact h.O4 hv nd e
theorem Bf{l:Addr}{xs ys:List (Str×AV)}{o:HO}(h:Z l=some (.dic xs)):cut F (upd H l o) (Z.put l (.dic ys))=cut F H Z:=by
 funext b;unfold cut Om.put
 by_cases hb:b=l
 ·subst hb;rw[if_pos rfl,h];simp[ow]
 ·rw[if_neg hb,aF hb]
theorem Rep.OX(R:Rep F H Z){l:Addr}{xs ys:List (Str×AV)}{vs:List (Key×V)}(h:Z l=some (.dic xs))(hv:RKs (cut F H Z) ys vs):
  Rep F (upd H l (.dK vs)) (Z.put l (.dic ys))/\Fr F H Z (upd H l (.dK vs)) (Z.put l (.dic ys)):=by
 have c:=Bf (F:=F) (H:=H) (ys:=ys) (o:=.dK vs) h;refine⟨⟨fun k zs e=>?_,fun k ds e=>?_,fun b f=>?_,fun k zs e=>?_⟩,fun b o x f e=>?_,fun b f=>?_⟩
 ·have hk:k≠l:=fun z=>(by subst z;rw[Om.OD] at e;cases e)
  rw[Om.OB hk] at e;rw[c,aF hk];exact R.own k zs e
 ·have hk:k≠l:=fun z=>(by subst z;rw[Om.OD] at e;cases e)
  rw[Om.OB hk] at e;rw[c];exact R.frz k ds e
 ·obtain⟨x,o,q⟩:=R.hid b f
  have hb:b≠l:=fun z=>(by subst z;rw[h] at x;cases x)
  exact⟨by rw[Om.OB hb];exact x,o,by rw[aF hb];exact q⟩
 ·rw[c]
  by_cases hk:k=l
  ·subst hk;rw[Om.OD] at e;cases e;exact⟨vs,bM,hv⟩
  ·rw[Om.OB hk] at e;rw[aF hk];exact R.dic k zs e
 ·have hb:b≠l:=fun z=>(by subst z;rw[h] at x;cases x)
  rw[Om.OB hb,aF hb];exact⟨e,x⟩
 ·obtain⟨x,o,q⟩:=R.hid b f
  have hb:b≠l:=fun z=>(by subst z;rw[h] at x;cases x)
  exact aF hb
theorem Rep.mkD(R:Rep F H Z){l:Addr}{xs:List (Str×AV)}{vs:List (Key×V)}(h:H l=none)(hv:RKs (cut F H Z) xs vs):
  Rep F (upd H l (.dK vs)) (Z.put l (.dic xs))/\Fr F H Z (upd H l (.dK vs)) (Z.put l (.dic xs)):=by
 obtain⟨f1,f2⟩:=R.free h
 have c:cut F (upd H l (.dK vs)) (Z.put l (.dic xs))=cut F H Z:=by
  funext b;unfold cut Om.put
  by_cases hb:b=l
  ·subst hb;rw[if_pos rfl,f1,f2,h];simp[ow]
  ·rw[if_neg hb,aF hb]
 refine⟨⟨fun k zs e=>?_,fun k ds e=>?_,fun b f=>?_,fun k zs e=>?_⟩,fun b o x f e=>?_,fun b f=>?_⟩
 ·have hk:k≠l:=fun z=>(by subst z;rw[Om.OD] at e;cases e)
  rw[Om.OB hk] at e;rw[c,aF hk];exact R.own k zs e
 ·have hk:k≠l:=fun z=>(by subst z;rw[Om.OD] at e;cases e)
  rw[Om.OB hk] at e;rw[c];exact R.frz k ds e
 ·obtain⟨x,o,q⟩:=R.hid b f
  have hb:b≠l:=aY q h;exact⟨by rw[Om.OB hb];exact x,o,by rw[aF hb];exact q⟩
 ·rw[c]
  by_cases hk:k=l
  ·subst hk;rw[Om.OD] at e;cases e;exact⟨vs,bM,hv⟩
  ·rw[Om.OB hk] at e;rw[aF hk];exact R.dic k zs e
 ·have hb:b≠l:=aY e h
  rw[Om.OB hb,aF hb];exact⟨e,x⟩
 ·obtain⟨x,o,q⟩:=R.hid b f
  exact aF (aY q h)
end
noncomputable def JQ(td ty:AE):AE:=fun ρ Z Q=>td ρ Z fun x Z1=>ty ρ Z1 fun y Z2=>∃l kvs k a,x=.r (.ref l)/\Z2 l=some (.dic kvs)/\y=.d (.str k)/\qp kvs k=some a/\Q a Z2
theorem yj(td ty:AE)(ρ:SA)(Z:Om)(Q:AV->Om->Prop):JQ td ty ρ Z Q=(td ρ Z fun x Z1=>ty ρ Z1 fun y Z2=>∃l kvs k a,x=.r (.ref l)/\Z2 l=some (.dic kvs)/\y=.d (.str k)/\qp kvs k=some a/\Q a Z2):=rfl
theorem qW{td ty:TE}{td' ty':AE}(hd:bi td td')(hy:bi ty ty'):bi (JU td ty) (JQ td' ty'):=⟨fun F H Z σ ρ Q Q' rp rs w k=>
 hd.go rp rs w fun x Z1 v H1 rp1 fr1 rs1 rv1 q1=>hy.go rp1 rs1 q1 fun y Z2 u H2 rp2 fr2 rs2 rv2 ⟨l,kvs,kk,a,e1,e2,e3,e4,q⟩=>by
  subst e1 e3;cases (show v=.ref l from rv1)
  cases xo rv2;obtain⟨ks,z1,z2⟩:=rp2.dic l kvs e2;obtain⟨vv,y1,y2⟩:=z2.get e4;have g:=DC.k (k:=(Sum.inr kk:Key)) z1;rw[y1] at g
  exact⟨l,vv,rfl,g,k a Z2 vv H2 rp2 (fr1.trans fr2) y2 q⟩⟩
noncomputable def KN(td ty tv:AE):AS:=fun D ρ Z=>tv ρ Z fun v Z1=>td ρ Z1 fun x Z2=>ty ρ Z2 fun y Z3=>∃l kvs k,x=.r (.ref l)/\Z3 l=some (.dic kvs)/\y=.d (.str k)/\ndK kvs/\(kvs.any fun p=>decide (p.1=k))=true/\kvs.length<sizeLine/\D.nx ρ (Z3.put l (.dic (tT kvs k v)))
theorem xX(td ty tv:AE)(D:cB)(ρ:SA)(Z:Om):KN td ty tv D ρ Z=(tv ρ Z fun v Z1=>td ρ Z1 fun x Z2=>ty ρ Z2 fun y Z3=>∃l kvs k,x=.r (.ref l)/\Z3 l=some (.dic kvs)/\y=.d (.str k)/\ndK kvs/\(kvs.any fun p=>decide (p.1=k))=true/\kvs.length<sizeLine/\D.nx ρ (Z3.put l (.dic (tT kvs k v)))):=rfl
theorem zN{td ty tv:TE}{td' ty' tv':AE}(hd:bi td td')(hy:bi ty ty')(hv:bi tv tv'):iN (JY td ty tv) (KN td' ty' tv'):=⟨fun F H Z σ ρ D D' rp rs w k=>
 hv.go rp rs w fun v Z1 vv H1 rp1 fr1 rs1 rv1 q1=>hd.go rp1 rs1 q1 fun x Z2 xv H2 rp2 fr2 rs2 rv2 q2=>hy.go rp2 rs2 q2 fun y Z3 yv H3 rp3 fr3 rs3 rv3 ⟨l,kvs,kk,e1,e2,e3,nd,an,sz,q⟩=>by
  subst e1 e3;cases (show xv=.ref l from rv2)
  cases xo rv3;obtain⟨ks,z1,z2⟩:=rp3.dic l kvs e2;have rv:RV (cut F H3 Z3) v vv:=rv1.same (fr2.trans fr3).same;obtain⟨rp4,fr4⟩:=rp3.OX e2 (z2.put (k:=kk) rv nd an)
  exact⟨l,_,rfl,Hs.k (k:=(Sum.inr kk:Key)) z1 (by rw[z2.length];exact sz),k.nx ρ _ σ _ rp4 (((fr1.trans fr2).trans fr3).trans fr4) (rs3.same fr4.same) q⟩⟩
noncomputable def tI:List AE->SA->Om->(List AV->Om->Prop)->Prop
 | [],_,Z,Q=>Q [] Z
 |t::r,ρ,Z,Q=>t ρ Z fun x Z1=>tI r ρ Z1 fun xs Z2=>Q (x::xs) Z2
theorem uS(ρ:SA)(Z:Om)(Q:List AV->Om->Prop):tI [] ρ Z Q=Q [] Z:=rfl
theorem qR(t:AE)(r:List AE)(ρ:SA)(Z:Om)(Q:List AV->Om->Prop):tI (t::r) ρ Z Q=(t ρ Z fun x Z1=>tI r ρ Z1 fun xs Z2=>Q (x::xs) Z2):=rfl
noncomputable def Ky(ks:List Str)(ts:List AE):AE:=fun ρ Z Q=>ks.Nodup/\ks.length<=15/\∀p,Z p=none->tI ts ρ (Z.put p (.dic [])) fun xs Z1=>Z1 p=some (.dic [])/\xs.length=ks.length/\Q (.r (.ref p)) (Z1.put p (.dic (ks.zip xs)))
theorem ze(ks:List Str)(ts:List AE)(ρ:SA)(Z:Om)(Q:AV->Om->Prop):Ky ks ts ρ Z Q=(ks.Nodup/\ks.length<=15/\∀p,Z p=none->tI ts ρ (Z.put p (.dic [])) fun xs Z1=>Z1 p=some (.dic [])/\xs.length=ks.length/\Q (.r (.ref p)) (Z1.put p (.dic (ks.zip xs)))):=rfl
inductive mr:List (TE×TE)->List Str->List AE->Prop
 |nil:mr [] [] []
 |cons {k:Str} {tv:TE} {tv':AE} {r:List (TE×TE)} {ks:List Str} {ts:List AE}:bi tv tv'->mr r ks ts->mr ((tC (.str k),tv)::r) (k::ks) (tv'::ts)
theorem mr.go{trs:List (TE×TE)}{ks:List Str}{ts:List AE}(h:mr trs ks ts):∀ {F:Fs} {H:Hp} {Z:Om} {σ:St} {ρ:SA} {Q:List (V×V)->Hp->Prop} {Q':List AV->Om->Prop},Rep F H Z->RS (cut F H Z) ρ σ->tI ts ρ Z Q' ->
  (∀(xs:List AV)(Z1:Om)(vs:List V)(H1:Hp),Rep F H1 Z1->Fr F H Z H1 Z1->RVs (cut F H1 Z1) xs vs->vs.length=ks.length->Q' xs Z1->Q ((ks.zip vs).map fun p=>(V.str p.1,p.2)) H1)->xp trs σ H Q:=by
 induction h with
 |nil=>intro F H Z σ ρ Q Q' rp rs w k;exact k [] Z [] H rp .refl rfl rfl w
 | @cons kk tv tv' r ks ts hv hr ih=>
  intro F H Z σ ρ Q Q' rp rs w k;refine hv.go rp rs w fun x Z1 v H1 rp1 fr1 rs1 rv1 q1=>ih rp1 rs1 q1 fun xs Z2 vs H2 rp2 fr2 rvs hl q2=>?_;exact k (x::xs) Z2 (v::vs) H2 rp2 (fr1.trans fr2) ⟨v,vs,rfl,rv1.same fr2.same,rvs⟩ (by simp[hl]) q2
theorem y3:∀ {more acc:List (Key×V)},((acc++more).map (·.1)).Nodup->ky acc more=acc++more
 | [],acc,_=>by simp[ky]
 |p::r,acc,h=>by
  have hn:(acc.any fun kv=>decide (kv.1=p.1))=false:=by
   rw[List.any_eq_false];intro q hq hk;have hk:=of_decide_eq_true hk;rw[List.map_append,List.map_cons] at h;exact(List.nodup_append.mp h).2.2 _ (List.mem_map.mpr ⟨q,hq,rfl⟩) _ (List.mem_cons_self ..) hk
  have hp:jt acc p.1 p.2=acc++[p]:=by unfold jt;rw[if_neg (by rw[hn];decide)]
  show ky (jt acc p.1 p.2) r=_;rw[hp,y3 (by simpa using h)]
  simp
theorem Cv{G:Hp}:∀ {ks:List Str} {xs:List AV} {vs:List V},RVs G xs vs->xs.length=ks.length->RKs G (ks.zip xs) ((ks.zip vs).map fun p=>((Sum.inr p.1:Key),p.2))
 | [],[],_,h,_=>by cases h;rfl
 | [],_::_,_,_,e=>by simp at e
 |_::_,[],_,_,e=>by simp at e
 |k::ks,x::xs,_,⟨v,r,h1,h2,h3⟩,e=>by
  subst h1;exact⟨v,_,rfl,h2,Cv h3 (by simpa using e)⟩
theorem Mo{trs:List (TE×TE)}{ks:List Str}{ts:List AE}(h:mr trs ks ts):bi (Ka trs) (Ky ks ts):=⟨fun F H Z σ ρ Q Q' rp rs w k=>by
 obtain⟨nd,h15,w⟩:=w;intro p hp;obtain⟨rp1,fr1⟩:=rp.mkD (xs:=[]) (vs:=[]) hp rfl;refine h.go rp1 (rs.same fr1.same) (w p (rp.free hp).1) fun xs Z1 vs H1 rp2 fr2 rvs hl q=>?_;obtain⟨e1,e2,q⟩:=q;obtain⟨k0,z1,z2⟩:=rp2.dic p [] e1;cases z2;have hz:=Cv rvs e2;obtain⟨rp3,fr3⟩:=rp2.OX e1 hz;refine⟨z1,(ks.zip vs).map fun p=>((Sum.inr p.1:Key),p.2),by simp[kV,Function.comp_def],by simp;omega,?_⟩
 rw [y3 (by
  rw[List.nil_append,List.map_map]
  have:(List.map ((fun x:Key×V=>x.1) ∘ fun p:Str×V=>((Sum.inr p.1:Key),p.2)) (ks.zip vs))=ks.map fun k=>(Sum.inr k:Key):=by
   rw[show ((fun x:Key×V=>x.1) ∘ fun p:Str×V=>((Sum.inr p.1:Key),p.2))=(fun k=>(Sum.inr k:Key)) ∘ Prod.fst from rfl,←List.map_map,List.map_fst_zip (by omega)]
  rw[this]
  exact List.pairwise_map.mpr (nd.imp fun {a b} hne e=>hne (Sum.inr.inj e))),List.nil_append]
 exact k (.r (.ref p)) _ _ _ rp3 ((fr1.trans fr2).trans fr3) rfl q⟩
noncomputable def J8(K:W.Frag)(neg:Bool):A2:=fun x y Z Q=>∃(a:Addr)(ns:List Int),x=kl K a ns/\bn Z y=some (.lst [])/\Q (.d (.bl (if neg then !ns.isEmpty else ns.isEmpty))) Z
theorem xW(K:W.Frag)(neg:Bool)(x y:AV)(Z:Om)(Q:AV->Om->Prop):J8 K neg x y Z Q=(∃(a:Addr)(ns:List Int),x=kl K a ns/\bn Z y=some (.lst [])/\Q (.d (.bl (if neg then !ns.isEmpty else ns.isEmpty))) Z):=rfl
theorem LT{F:Fs}{H:Hp}{Z:Om}{y:AV}{u:V}(rp:Rep F H Z)(r:RV (cut F H Z) y u)(e:bn Z y=some (.lst [])):∃b,u=.ref b/\H b=some (.lst []):=by
 have hd:=fW rp r e;simp only[Dat] at hd;obtain⟨b,us,rfl,q1,q2⟩:=hd;have q2:us=[]:=q2;subst q2;exact⟨b,rfl,q1⟩
theorem FO{K:W.Frag}:jq (fun x y H Q=>∃a b xs,x=.ref a/\y=.ref b/\SqL K H a xs/\SqL K H b []/\Q (.bl (!xs.isEmpty)) H) (J8 K true):=⟨fun F H Z v u x y Q Q' rp h1 h2 ⟨a,ns,e1,e2,q⟩ k=>by
 subst e1;obtain⟨rfl,hs⟩:=AH h1;obtain⟨b,rfl,hb⟩:=LT rp h2 e2;refine⟨a,b,_,rfl,rfl,hs,.inl (.inl hb),?_⟩;rw[List.isEmpty_map]
 exact k.bl rp q⟩
noncomputable def tx(l:List Nat):Str:=⟨l.toArray⟩
noncomputable def jn(s:List Nat):List (List Nat)->List Nat
 | []=>[]
 | [x]=>x
 |x::y::r=>x++s++jn s (y::r)
inductive PFs (X:Cx):List Expr->List TE->Prop
 |nil:PFs X [] []
 |cons {e:Expr} {t:TE} {es:List Expr} {ts:List TE}:PE X e t->PFs X es ts->PFs X (e::es) (t::ts)
inductive GH:List TE->List AE->Prop
 |nil:GH [] []
 |cons {t:TE} {t':AE} {ts:List TE} {ts':List AE}:bi t t'->GH ts ts'->GH (t::ts) (t'::ts')
theorem Jz{β:Type}{te:AE}{as:List AV}{v0:Option AV}{bB:SA}{Z:Om}{K:List AV->SA->Om->Prop}(S:Om->Prop)(enc:β->D)(R:Nat->β->Prop)(h0:S Z)(hz:as.length<=sizeLine)(he:∀(i:Nat)(a:AV),as[i]?=some a->∀Z,S Z->∀Q:AV->Om->Prop,(∀b Z',R i b->S Z'->Q (.d (enc b)) Z')->te (some a::bB) Z Q)(hk:∀(bs:List β)(ρ:SA)(Z':Om),bs.length=as.length->(∀i b,bs[i]?=some b->R i b)->S Z'->K ((bs.map enc).map AV.d) ρ Z'):cy (dX 0) io (jk te) as [] (v0::bB) Z K:=by
 refine qJ (fun i xs ρ Z'=>∃v bs,S Z'/\ρ=v::bB/\xs=(bs.map enc).map AV.d/\bs.length=i/\∀j b,bs[j]?=some b->R j b) ⟨_,[],h0,rfl,rfl,rfl,fun j b h=>by simp at h⟩ ?_ ?_
 ·rintro i a xs ρ Z' N ha ⟨v,bs,hS,rfl,rfl,hl,hR⟩ kN
  have hi:=(List.getElem?_eq_some_iff.mp ha).1;rw[gy,List.set_cons_zero,jJ,if_pos rfl,jc];refine he i a ha _ hS _ fun b Z2 hb hS2=>⟨by rw[List.length_map,List.length_map];omega,kN _ _ _ ⟨_,bs++[b],hS2,rfl,by simp,by simp[hl],fun j b' hj=>?_⟩⟩
  by_cases hjl:j<bs.length
  ·rw[List.getElem?_append_left hjl] at hj
   exact hR j b' hj
  ·rw[List.getElem?_append_right (by omega)] at hj
   have hj0:j-bs.length=0:=by
    cases e:j-bs.length with
    |zero=>rfl
    |succ m=>rw[e] at hj;simp at hj
   rw[hj0] at hj;simp at hj;subst hj;have:j=i:=by omega
   subst this;exact hb
 ·rintro xs ρ Z' ⟨v,bs,hS,rfl,rfl,hl,hR⟩
  exact hk bs _ _ hl hR hS
theorem RVs.OY{G:Hp}:∀ {xs:List AV} {us:List V} (j:Nat),RVs G xs us->RVs G (xs.eraseIdx j) (us.eraseIdx j)
 | [],us,j,h=>by cases h;exact rfl
 |x::xs,us,0,h=>by obtain⟨v,r,rfl,h1,h2⟩:=h;exact h2
 |x::xs,us,j+1,h=>by
  obtain⟨v,r,rfl,h1,h2⟩:=h;exact⟨v,_,rfl,h1,RVs.OY j h2⟩
noncomputable def Fp(to:AE)(t:AA):AE:=fun ρ Z Q=>to ρ Z fun x Z1=>∃l,x=.r (.ref l)/\(∃zs,Z1 l=some (.own zs))/\t ρ Z1 fun ys Z2=>∃(xs:List AV)(j:Nat)(y:AV),ys=[.d (.int j)]/\Z2 l=some (.own xs)/\xs.length<=1000000/\xs[j]?=some y/\Q y (Z2.put l (.own (xs.eraseIdx j)))
theorem ve(to:AE)(t:AA)(ρ:SA)(Z:Om)(Q:AV->Om->Prop):Fp to t ρ Z Q=(to ρ Z fun x Z1=>∃l,x=.r (.ref l)/\(∃zs,Z1 l=some (.own zs))/\t ρ Z1 fun ys Z2=>∃(xs:List AV)(j:Nat)(y:AV),ys=[.d (.int j)]/\Z2 l=some (.own xs)/\xs.length<=1000000/\xs[j]?=some y/\Q y (Z2.put l (.own (xs.eraseIdx j)))):=rfl
section
variable{K:W.Frag}{to:TE}{to':AE}{t:TA}{t':AA}
theorem Dv{j n:Nat}(h:j<n):seqIndex? (j:Int) n=some j:=by
 unfold seqIndex?;simp;omega
theorem Ci(ho:bi to to')(ht:mQ t t'):bi (tBM K "list" He to t) (Fp to' t'):=⟨fun F H Z σ ρ Q Q' rp rs w k=>
 ho.go rp rs w fun x Z1 v H1 rp1 fr1 rs1 rv1 ⟨l,e,⟨zs,hz⟩,q1⟩=>by
  subst e;cases (show v=.ref l from rv1)
  obtain⟨us,z1,_⟩:=rp1.own l zs hz;refine⟨.inl ⟨rfl,us,.inl (.inl z1)⟩,ht.go rp1 rs1 q1 fun ys Z2 vs H2 rp2 fr2 rs2 rv2 ⟨xs,j,y,e1,e2,e3,e4,q⟩=>?_⟩;subst e1;obtain⟨u,rfl,r⟩:=mf rv2;cases cc r;obtain⟨ws,z3,z4⟩:=rp2.own l xs e2;obtain⟨u2,g1,g2⟩:=z4.get e4;have hj:=(List.getElem?_eq_some_iff.mp g1).1;have hl:=z4.length;obtain⟨rp3,fr3⟩:=rp2.write (ys:=xs.eraseIdx j) (vs:=ws.eraseIdx j) e2 (z4.OY j)
  exact⟨l,ws,j,j,u2,rfl,rfl,z3,by omega,by omega,Dv hj,g1,k _ _ _ _ rp3 ((fr1.trans fr2).trans fr3) (g2.same fr3.same) q⟩⟩
end
end L2
namespace L2
open PySem PySem.Spec PyProof.Rows PySem.W
noncomputable def CXx(P:Program)(w:World):CXT:=fun outer H s E e s'=>∃(a C t:Addr)(H':Hp)(B:Heap),e=.ref a/\s'.os=s.os/\AllBare s'.gens/\Un (frs outer) [] H H' s.heap s'.heap/\HOk P w H' B /\
 Heap.FlyingW B outer a (.ref C) (.ref t) s'.heap/\(∀b o,s.heap.get? b=some o->H b=none->b ∉ frs outer->B.get? b=some o)/\(∀b o,s.heap.get? b=some o->b ∉ frs outer->∃o',B.get? b=some o')/\E (.ref a) (some C) H'
end L2
namespace L2
open PySem PySem.Spec PySem.Calls PyProof.Rows PySem.W PySem.Builtin PySem.Builtin.ObjectAttr PySem.Builtin.Getset_descriptor
noncomputable def clV:V->Option Value
 |.ref a=>some (.ref a)
 |.ty n=>some (.type n)
 |_=>none
theorem L3{v:V}{u c:Value}(r:bf v u)(h:clV v=some c):u=c:=by
 cases v<;>simp[clV] at h<;>subst h<;>exact r
noncomputable def LS:List V->Option (List Value)
 | []=>some []
 |v::r=>match clV v,LS r with
  |some c,some cs=>some (c::cs)
  |_,_=>none
theorem B2:∀ {vs:List V} {us cs:List Value},aR vs us->LS vs=some cs->us=cs
 | [],us,cs,r,h=>by cases r;cases h;rfl
 |v::vs,us,cs,r,h=>by
  cases r with
  |cons r1 rr=>
   simp only[LS] at h;split at h
   ·rename_i c cs' h1 h2
    cases h;rw[L3 r1 h1,B2 rr h2]
   ·cases h
end L2
namespace L2
open PySem PySem.Spec PySem.Calls PyProof.Rows PySem.W
end L2
namespace L2
open PySem PySem.Spec PyProof.Rows
noncomputable abbrev KW:=List AV->Om->(AV->Om->Prop)->(Addr->Om->Prop)->Prop
noncomputable def LX(F:Fs)(H:Hp)(Z:Om)(Ex:Addr->Om->Prop)(E:XK):Prop:=∀C Z' a H',Rep F H' Z'->Fr F H Z H' Z'->Ex C Z'->E (.ref a) (some C) H'
noncomputable abbrev AXS:=cB->(Addr->Om->Prop)->SA->Om->Prop
structure Ou(E:XK)(t:TS)(t':AXS):Prop where
 run:∀(F:Fs)(H:Hp)(Z:Om)(σ:St)(ρ:SA)(D:mm)(D':cB)(Ex:Addr->Om->Prop),Rep F H Z->RS (cut F H Z) ρ σ->t' D' Ex ρ Z->LE F H Z D' D->LX F H Z Ex E->t D σ H
noncomputable def NO(t u:AXS):AXS:=fun D Ex ρ Z=>t { D with nx:=u D Ex } Ex ρ Z
theorem Fb(t u:AXS)(D:cB)(Ex:Addr->Om->Prop)(ρ:SA)(Z:Om):NO t u D Ex ρ Z=t { D with nx:=u D Ex } Ex ρ Z:=rfl
theorem BG{G:Hp}:∀ {vs us:List V},RVs G (vs.map AV.r) us->us=vs
 | [],us,h=>h
 |v::vs,us,h=>by
  obtain⟨u,r,rfl,h1,h2⟩:=h;cases (show u=v from h1)
  rw[BG h2]
end L2
namespace L2
open PySem PySem.Spec PySem.Calls PyProof.Rows PySem.W
structure Oz(P:Program)(w:World)(K:W.Frag)(mg:Str->Option Value)(base:Heap)(H₀:Hp)(k:Nat)(f:Addr)(n:Nat)(sp:Sp):Prop where
 fn:∃(oc:Value)(od:Option Addr)(fd:FuncData) (sl:Array (Option Value)) (u:HO),H₀ f=some (.frz ⟨oc,od,.func fd,sl⟩ u)
 len:∀vs H Q E,sp vs H Q E->vs.length=n
 run:∀(A:Around)(outer:List Env)(s:Shared)(H:Hp)(us:List Value)(vs:List V)(Q:VK)(E:XK),eJ k A->zX P w K mg base A outer s H->Frz H₀ H->aR vs us->sp vs H Q E ->
  codeAny (model P w) A (.call (.ref f) ⟨us,[]⟩) (CR (CXx P w) outer P w H s Q E) s
end L2
namespace L2
open PySem PySem.Spec PySem.Calls PyProof.Rows
structure Ap3(z u o i j l p q r:Addr):Prop where
 uz:u≠z
 oz:o≠z
 iz:i≠z
 jz:j≠z
 lz:l≠z
 uo:u≠o
 ui:u≠i
 uj:u≠j
 ul:u≠l
 oi:o≠i
 oj:o≠j
 ol:o≠l
 ij:i≠j
 il:i≠l
 jl:j≠l
 np:∀c∈[z,u,o,i,j,l],p≠c
 nq:∀c∈[z,u,o,i,j,l],q≠c
 nr:∀c∈[z,u,o,i,j,l],r≠c
noncomputable def CG(Z:Om):List AV->(List D->Om->Prop)->Prop
 | [],K=>K [] Z
 |x::r,K=>kj Z x fun d Z1=>CG Z1 r fun ds Z2=>K (d::ds) Z2
theorem BH{F:Fs}{H:Hp}:∀ {xs:List AV} {vs:List V} {Z:Om} {K:List D->Om->Prop},Rep F H Z->RVs (cut F H Z) xs vs->CG Z xs K->∃ds Z',Rep F H Z'/\Fr F H Z H Z'/\RVs (cut F H Z') (ds.map AV.d) vs/\K ds Z'
 | [],vs,Z,K,rp,rv,h=>⟨[],Z,rp,.refl,rv,h⟩
 |x::r,vs,Z,K,rp,rv,h=>by
  obtain⟨v,us,rfl,h1,h2⟩:=rv;obtain⟨d,Z1,rp1,fr1,hd,q⟩:=oV rp h1 h;obtain⟨ds,Z2,rp2,fr2,hs,q⟩:=BH rp1 (h2.same fr1.same) q;exact⟨d::ds,Z2,rp2,fr1.trans fr2,⟨v,us,rfl,hd.same fr2.same,hs⟩,q⟩
noncomputable def G9(i:Nat):AE:=fun ρ Z Q=>∃l xs,ρ[i]?=some (some (.r (.ref l)))/\Z l=some (.own xs)/\CG Z xs fun ds Z1=>Z1 l=some (.own xs)/\Q (.d (.lst ds)) (Z1.put l (.frz ds))
theorem IQ{i:Nat}:bi (FG i) (G9 i):=⟨fun F H Z σ ρ Q Q' rp rs h k=>by
 obtain⟨l,xs,e,hl,q⟩:=h;obtain⟨v,e1,e2⟩:=rs.2 i _ e;cases (show v=.ref l from e2)
 obtain⟨vs,hv,rv⟩:=rp.own l xs hl;obtain⟨ds,Z1,rp1,fr1,hs,hl1,q⟩:=BH rp rv q;obtain⟨rp2,fr2⟩:=rp1.write hl1 hs
 have eu:upd H l (.lst vs)=H:=by
  funext b
  by_cases hb:b=l
  ·subst hb;rw[bM,hv]
  ·rw[aF hb]
 rw[eu] at rp2 fr2;obtain⟨rp3,fr3,hd⟩:=rp2.freeze Om.OD;rw[Om.OE] at rp3 fr3 hd
 exact⟨_,e1,k (.d (.lst ds)) _ _ H rp3 ((fr1.trans fr2).trans fr3) hd q⟩⟩
noncomputable def JO(to:AE):AE:=fun ρ Z Q=>to ρ Z fun x Z1=>∃i,x=.d (.int i)/\Q (.d (.int ((Builtin.Int.intBits i:Nat):Int))) Z1
theorem yS(to:AE)(ρ:SA)(Z:Om)(Q:AV->Om->Prop):JO to ρ Z Q=(to ρ Z fun x Z1=>∃i,x=.d (.int i)/\Q (.d (.int ((Builtin.Int.intBits i:Nat):Int))) Z1):=rfl
theorem MM{K:W.Frag}{to:TE}{to':AE}(ho:bi to to'):bi (KS K "int" (fun x xs H Q=>∃i,x=.int i/\xs=[]/\Q (.int ((Builtin.Int.intBits i:Nat):Int)) H) to) (JO to'):=⟨fun F H Z σ ρ Q Q' rp rs w k=>
 ho.go rp rs w fun x Z1 v H1 rp1 fr1 rs1 rv1 ⟨i,e,q1⟩=>by
  subst e;cases cc rv1
  exact⟨rfl,i,rfl,rfl,k _ Z1 _ H1 rp1 fr1 (by simp[RV,Dat]) q1⟩⟩
end L2
namespace L2
open PySem PySem.Spec PyProof.Rows
inductive O where
 |d (x:D)|box (b:Bool)|tup (os:List O)
end L2
namespace L2
open PySem PySem.Spec PyProof.Rows AutoSeq1
end L2
namespace L2
open PySem PySem.Spec PyProof PyProof.Rows PySem.SeqAt
open AutoSeq1 (wpAny_loadPart')
noncomputable def LtA(A:Around)(s:Shared)(x y:Value)(b:Bool):Prop:=∀(p:Program)(w:World)(E:Value->Shared->Prop)(Q:Value->Shared->Prop),Q (.bool b) s->wpAny (model p w) A (richCompare .Lt x y) Q E s
noncomputable def xD(A:Around)(s:Shared)(fin:Bool):List (Value×Value)->Bool->Prop
 | [],r=>r=fin
 |(p,q)::t,r=>∃b,EqAt A s p q b/\(b=true->xD A s fin t r)/\(b=false->LtA A s p q r)
theorem Dx(x y:Addr)(xs ys:Array Value)(n m:Nat)(dx dy:Option Addr)(sx sy:Array (Option Value))(r:Bool):
  Meets (Builtin.«tuple.__lt__» ⟨[.ref x,.ref y],[]⟩)
   (fun A R s=>s.heap.get? x=some { cls:=.type "tuple",dict:=dx,data:=.seq xs n,slots:=sx }/\s.heap.get? y=some { cls:=.type "tuple",dict:=dy,data:=.seq ys m,slots:=sy } /\
    xD A.in1 s (decide (xs.size<ys.size)) (xs.toList.zip ys.toList) r/\R (.ok (.ret (.bool r))) s):=
 .of_wp fun prog w A R s h=>by
  obtain⟨hp,g,d,tk,os⟩:=s;obtain⟨hx,hy,he,h⟩:=h;have f2:=AutoSeq1.sub_tuple_tuple
  wp_walk using wpAny_loadPart' hx,wpAny_loadPart' hy,wpAny_forIn_list _ (fun bB b s'=>b.1=none/\s'=⟨hp,g,d,tk,os⟩/\xD A.in1 ⟨hp,g,d,tk,os⟩ (decide (xs.size<ys.size)) bB r) _
  case turn=>
   rintro⟨p,q⟩ bB b s' ⟨hb,rfl,hL⟩;obtain⟨k,hk,h1,h2⟩:=hL;refine wpAny_bind (hk prog w _ _ ?_)
   cases k with
   |true=>
    wp_walk
    exact⟨rfl,rfl,h1 rfl⟩
   |false=>
    rw[if_pos (by rfl)]
    refine wpAny_bind (wpAny_rule (wpAny_bind (h2 rfl prog w _ _ ?_)))
    wp_walk
    exact⟨_,rfl,h⟩
  case fin=>
   rintro⟨b1,b2⟩ s' ⟨hb,rfl,hL⟩;simp only at hb;subst hb;have e:r=decide (xs.size<ys.size):=hL;subst e
   wp_walk
   exact⟨_,rfl,h⟩
  case h=>exact⟨rfl,rfl,he⟩
theorem LtA.tuples{A:Around}{s:Shared}{x y:Addr}{xs ys:Array Value}{r:Bool}(hx:s.heap.IsTuple x xs)(hy:s.heap.IsTuple y ys)(hu:A.units<cLine)(he:xD A.in1 s (decide (xs.size<ys.size)) (xs.toList.zip ys.toList) r):LtA A s (.ref x) (.ref y) r:=fun p w E Q q=>by
 obtain⟨⟨c1,d1,t1,l1⟩,o1,hc1,n1,hd1⟩:=id hx;obtain⟨⟨c2,d2,t2,l2⟩,o2,hc2,n2,hd2⟩:=id hy;simp only at hc1 hd1 hc2 hd2;subst hc1 hd1 hc2 hd2;exact richCompare_meets_room (op:=.Lt) ⟨_,o1,rfl⟩ ⟨_,o2,rfl⟩ F.slot_tuple_lt F.entry_tuple_lt (F.args_tuple_lt_2 _ _) (Dx x y xs ys n1 n2 d1 d2 l1 l2 r) ⟨o1,o2,he,show Value.bool r≠Value.notImplemented/\Q (.bool r) s from ⟨fun z=>(nomatch z),q⟩⟩ hu
mutual
noncomputable def ltD:D->D->Bool
 |.int a,.int b=>decide (a<b)
 |.str a,.str b=>decide (a.cps.toList<b.cps.toList)
 |.tup xs,.tup ys=>xx xs ys
 |_,_=>false
noncomputable def xx:List D->List D->Bool
 | [],[]=>false
 | [],_::_=>true
 |_::_,[]=>false
 |x::xs,y::ys=>if eqD x y then xx xs ys else ltD x y
end
mutual
noncomputable def cmD:D->D->Bool
 |.int _,.int _=>true
 |.str _,.str _=>true
 |.tup xs,.tup ys=>yO xs ys
 |_,_=>false
noncomputable def yO:List D->List D->Bool
 |x::xs,y::ys=>if eqD x y then yO xs ys else cmD x y
 |_,_=>true
end
section
variable{X:Cx}{pins:List (Addr×Obj)}{σ:St}{H:Hp}{s:Shared}
theorem FH(I:Inv X pins σ H s){A:Around}{n:Nat}(hu:A.units+n<cLine)(lt:∀(d e:D)(x y:V)(v u:Value),dep d<=n->Dat H d x->Dat H e y->bf x v->bf y u->cmD d e=true->LtA A s v u (ltD d e)):
  ∀ {ds es:List D} {xs ys:List V} {vs us:List Value},fP ds<=n->aJ H ds xs->aJ H es ys->aR xs vs->aR ys us->yO ds es=true->xD A s (decide (vs.length<us.length)) (vs.zip us) (xx ds es)
 | [],[],xs,ys,vs,us,_,h1,h2,r1,r2,_=>by
  simp only[aJ] at h1 h2;subst h1 h2;cases r1;cases r2;rfl
 | [],e::es,xs,ys,vs,us,_,h1,h2,r1,r2,_=>by
  simp only[aJ] at h1 h2;obtain⟨y,yr,rfl,_,_⟩:=h2;subst h1;cases r1;cases r2;simp[xD,xx]
 |d::ds,[],xs,ys,vs,us,_,h1,h2,r1,r2,_=>by
  simp only[aJ] at h1 h2;obtain⟨x,xr,rfl,_,_⟩:=h1;subst h2;cases r1;cases r2;simp[xD,xx]
 |d::ds,e::es,xs,ys,vs,us,hd,h1,h2,r1,r2,hc=>by
  simp only[aJ] at h1 h2;obtain⟨x,xr,rfl,hx,hxr⟩:=h1;obtain⟨y,yr,rfl,hy,hyr⟩:=h2
  cases r1 with
  | @cons _ v _ vs rx rxr=>
  cases r2 with
  | @cons _ u _ us ry ryr=>
  have d1:dep d<=n:=Nat.le_trans (q8 (List.mem_cons_self ..)) hd;have d2:fP ds<=n:=by simp only[fP] at hd;omega
  simp only[yO] at hc;simp only[List.zip_cons_cons,xD,xx];refine⟨eqD d e,(sh I n d e x y v u A d1 hu hx hy rx ry).2.1,fun q=>?_,fun q=>?_⟩
  ·rw[if_pos q] at hc ⊢
   have:=FH I hu lt d2 hxr hyr rxr ryr hc;rw[show decide ((v::vs).length<(u::us).length)=decide (vs.length<us.length) from by simp]
   exact this
  ·rw[if_neg (by rw[q];decide)] at hc ⊢
   exact lt d e x y v u d1 hx hy rx ry hc
theorem Nt(I:Inv X pins σ H s):∀(n:Nat)(A:Around)(d e:D)(x y:V)(v u:Value),A.units+n<cLine->dep d<=n->Dat H d x->Dat H e y->bf x v->bf y u->cmD d e=true->LtA A s v u (ltD d e):=fun n=>by
 induction n with
 |zero=>
  intro A d e x y v u hu hd hx hy rx ry hc
  cases d with
  |int a=>
   cases e<;>simp only[cmD,Bool.false_eq_true] at hc
   simp only[Dat] at hx hy;subst hx hy;obtain⟨t1,rfl⟩:=rx;obtain⟨t2,rfl⟩:=ry;exact fun p w E Q q=>lt_int q
  |str a=>
   cases e<;>simp only[cmD,Bool.false_eq_true] at hc
   simp only[Dat] at hx hy;subst hx hy;obtain⟨t1,rfl⟩:=rx;obtain⟨t2,rfl⟩:=ry;exact fun p w E Q q=>lt_str q
  |tup ds=>simp[dep] at hd
  |non=>cases e<;>simp[cmD] at hc
  |bl b=>cases e<;>simp[cmD] at hc
  |lst b=>cases e<;>simp[cmD] at hc
 |succ n ih=>
  intro A d e x y v u hu hd hx hy rx ry hc;by_cases h0:dep d<=n
  ·exact ih A d e x y v u (by omega) h0 hx hy rx ry hc
  have hin:A.in1.units+n<cLine:=by show A.units+1+n<cLine;omega
  cases d with
  |tup ds=>
   cases e<;>simp only[cmD,Bool.false_eq_true] at hc
   rename_i es
   simp only[Dat] at hx hy;obtain⟨a,xs,rfl,ha,hxs⟩:=hx;obtain⟨b,ys,rfl,hb,hys⟩:=hy;cases rx;cases ry;obtain⟨its,r1,p1⟩:=gN I ha;obtain⟨jts,r2,p2⟩:=gN I hb;have:=FH I hin (fun d e x y v u q1 q2 q3 q4 q5 q6=>ih A.in1 d e x y v u hin q1 q2 q3 q4 q5 q6) (by simp only[dep] at hd;omega) hxs hys r1 r2 hc
   exact LtA.tuples p1 p2 (by omega) (by simpa[ltD] using this)
  |int a=>simp only[dep] at h0;omega
  |str a=>simp only[dep] at h0;omega
  |non=>cases e<;>simp[cmD] at hc
  |bl b=>cases e<;>simp[cmD] at hc
  |lst b=>cases e<;>simp[cmD] at hc
noncomputable def Nc:R2:=fun x y H Q=>∃d e,Dat H d x/\Dat H e y/\dep d<=100/\cmD d e=true/\Q (.bl (ltD d e)) H
theorem Md(hu:X.A.units+100<cLine):OpR X (compareOp .Lt) Nc:=by
 intro pins s σ H x y v u Q I rx ry h;obtain⟨d,e,hx,hy,hd,hc,q⟩:=h;exact Nt I 100 X.A d e x y v u hu hd hx hy rx ry hc X.prog X.w _ _ ⟨.bl _,H,I,rfl,q⟩
end
noncomputable def M9:A2:=fun x y Z Q=>∃a b,bn Z x=some a/\bn Z y=some b/\dep a<=100/\cmD a b=true/\Q (.d (.bl (ltD a b))) Z
theorem JA(x y:AV)(Z:Om)(Q:AV->Om->Prop):M9 x y Z Q=∃a b,bn Z x=some a/\bn Z y=some b/\dep a<=100/\cmD a b=true/\Q (.d (.bl (ltD a b))) Z:=rfl
theorem N1:jq Nc M9:=⟨fun F H Z v u x y Q Q' rp h1 h2 ⟨a,b,e1,e2,s,c,q⟩ k=>⟨a,b,fW rp h1 e1,fW rp h2 e2,s,c,k.bl rp q⟩⟩
section
variable{X:Cx}{pins:List (Addr×Obj)}{σ:St}{H:Hp}{s:Shared}{A:Around}{E:Value->Shared->Prop}{Q:Value->Shared->Prop}{b:Bool}
theorem zQ{x:V}{u:Value}{t:String}{tp:Addr}{dd:Option Addr}{its:List Value}{n:Nat}{sl:Array (Option Value)}(I:Inv X pins σ H s)(rx:bf x u)(ty:fX H x=some t)(hT:s.heap.get? tp=some ⟨.type "tuple",dd,.seq its.toArray n,sl⟩)(e:W.kitAny X.K (.type t) its=some b)(h:∀tk,Q (.bool b) { s with toks:=tk }):wpAny (model X.prog X.w) A (call (.builtin "isinstance") [u,.ref tp]) Q E s:=by
 cases x with
 |non=>cases ty;cases rx;exact W.kia_tup W.kitx_none I.kIn trivial hT e (fun z=>nomatch z) h
 |bl y=>cases ty;cases rx;exact W.kia_tup W.kitx_bool I.kIn trivial hT e (fun z=>nomatch z) h
 |int i=>cases ty;obtain⟨_,rfl⟩:=rx;exact W.kia_tup W.kitx_int I.kIn trivial hT e (fun z=>nomatch z) h
 |str y=>cases ty;obtain⟨_,rfl⟩:=rx;exact W.kia_tup W.kitx_str I.kIn trivial hT e (fun z=>nomatch z) h
 |byt b=>cases ty
 |flt b=>cases ty
 |ty n=>cases ty
 |ref a=>
  cases rx;unfold fX at ty;dsimp only at ty;split at ty
  ·rename_i q;cases ty
   obtain⟨_,_,n,_,h1⟩:=(show bV X.prog X.w H s.heap a (.lst _) from I.hok a _ q)
   exact W.kia_tup W.kitx_list I.kIn ⟨_,h1,rfl⟩ hT e (fun z=>nomatch z) h
  ·rename_i q;cases ty
   obtain⟨_,_,_,p⟩:=(show bV X.prog X.w H s.heap a (.tup _) from I.hok a _ q)
   obtain⟨o,h1,h2,_⟩:=p.1;exact W.kia_tup W.kitx_tuple I.kIn ⟨o,h1,h2⟩ hT e (fun z=>nomatch z) h
  ·rename_i q;cases ty
   obtain⟨_,_,vs,_,p⟩:=(show bV X.prog X.w H s.heap a (.dK _) from I.hok a _ q)
   obtain⟨o,es,ep,h1,h2,_⟩:=p;exact W.kia_tup W.kitx_dict I.kIn ⟨o,h1,h2.1⟩ hT e (fun z=>nomatch z) h
  ·rename_i q;cases ty
   obtain⟨_,_,_,n,_,h1⟩:=(show bV X.prog X.w H s.heap a (.frz _ (.lst _)) from I.hok a _ q)
   exact W.kia_tup W.kitx_list I.kIn ⟨_,h1,rfl⟩ hT e (fun z=>nomatch z) h
  ·cases ty
theorem ML(K:W.Frag){t:String}(ht:t∈mw):W.kitAny K (.type t) [.type "list",.type "tuple"]=some (t == "list" || t == "tuple"):=by
 simp only[mw,List.mem_cons,List.not_mem_nil,or_false] at ht;rcases ht with rfl|rfl|rfl|rfl|rfl|rfl|rfl<;>with_unfolding_all rfl
end
noncomputable def J0:List V->Hp->VK->Prop:=fun xs H Q=>∃x tp t,xs=[x,.ref tp]/\H tp=some (.tup [.ty "list",.ty "tuple"])/\fX H x=some t/\Q (.bl (t == "list" || t == "tuple")) H
theorem Eb{X:Cx}:cY X (.builtin "isinstance") J0:=by
 intro pins s σ H xs us Q I r h;obtain⟨x,tp,t,rfl,ht,hx,q⟩:=h;obtain⟨u1,u2,rfl,r1,r2⟩:=aR.two r;obtain rfl:u2=Value.ref tp:=r2;obtain⟨_,its,rv,⟨ot,e1,e2,n,e3⟩,_⟩:=I.hok tp _ ht;have e4:=B2 (cs:=[.type "list",.type "tuple"]) rv rfl;subst e4;obtain⟨oc,od,oda,osl⟩:=ot;dsimp only at e2 e3;subst e2 e3;exact zQ I r1 hx e1 (ML X.K (pR hx)) fun tk=>⟨.bl _,H,I.tok tk,rfl,q⟩
noncomputable def Kp(tx:AE)(tcs:AA):AE:=fun ρ Z Q=>tx ρ Z fun x Z1=>tcs ρ Z1 fun cs Z2=>∃d,cs=[.r (.ty "list"),.r (.ty "tuple")]/\bn Z2 x=some d/\Q (.d (.bl (tyD d == "list" || tyD d == "tuple"))) Z2
theorem EY(tx:AE)(tcs:AA)(ρ:SA)(Z:Om)(Q:AV->Om->Prop):Kp tx tcs ρ Z Q=tx ρ Z fun x Z1=>tcs ρ Z1 fun cs Z2=>∃d,cs=[.r (.ty "list"),.r (.ty "tuple")]/\bn Z2 x=some d/\Q (.d (.bl (tyD d == "list" || tyD d == "tuple"))) Z2:=rfl
theorem La{tx:TE}{tx':AE}{tcs:TA}{tcs':AA}(hx:bi tx tx')(hc:mQ tcs tcs'):bi (tCB J0 (kO tx (kO (LY tcs) Ig))) (Kp tx' tcs'):=⟨fun F H Z σ ρ Q Q' rp rs w k=>
 hx.go rp rs w fun x Z1 v H1 rp1 fr1 rs1 rv1 q1=>hc.go rp1 rs1 q1 fun cs Z2 us H2 rp2 fr2 rs2 rv2 ⟨d,e,h1,q⟩=>by
  subst e;cases BG (vs:=[.ty "list",.ty "tuple"]) rv2;refine⟨Nat.le_of_lt (a7 (by decide)),fun p hp=>?_⟩
  obtain⟨rp3,fr3,hc3⟩:=rp2.lay (o:=.tup [.ty "list",.ty "tuple"]) hp
  exact⟨v,p,tyD d,rfl,bM,JL (fW rp3 (rv1.same (fr2.trans fr3).same) h1),(k.fr ((fr1.trans fr2).trans fr3)).bl rp3 q⟩⟩
end L2
namespace L2
open PySem PySem.Spec PyProof PyProof.Rows PySem.SeqAt
end L2
namespace L2
open PySem PySem.Spec PySem.Calls PyProof PyProof.Rows PySem.SeqAt
section
variable{prog:Program}{w:World}{A:Around}{E:Value->Shared->Prop}{s:Shared}
noncomputable def Kt(h0 h:Heap):Prop:=∀x o,h0.get? x=some o->h.get? x=some o
structure OA(prog:Program)(w:World)(A:Around)(h0:Heap)(s:Shared)(vs:List Value)(c:Nat->Nat->Bool)(b:Bool):Prop where
 kind:∀h,Kt h0 h->∃fs T,W.KatTups h vs fs/\fs.length=vs.length/\(∀v∈fs,W.Looks (model prog w) h (typeOf v) T)/\(T == T)=true/\(T != Value.type "tuple")=b
 ask:∀h,Kt h0 h->∀i j,i<vs.length->j<vs.length->∀(C:Bool->Shared->Prop)(E:Value->Shared->Prop),C (c i j) { s with heap:=h }->wpAny (model prog w) A (keyLt' (tuples' b) (vs.getD i Value.none) (vs.getD j Value.none)) C E { s with heap:=h }
end
section
variable{X:Cx}{pins:List (Addr×Obj)}{σ:St}{H:Hp}{s:Shared}{A:Around}
noncomputable def Oe(k:Bool)(d:D):Prop:=∃r,(k=true/\∃z,d=.tup (.str z::r))\/(k=false/\∃i,d=.tup (.int i::r))
end
structure Srt(W:List D)(key:D->List Int)(k:Bool):Prop where
 row:∀d∈W,Oe k d
 cmp:∀d∈W,∀e∈W,cmD d e=true
 lt:∀d∈W,∀e∈W,ltD d e=eU (key d) (key e)
end L2
namespace L2
open PySem PySem.Spec PyProof PyProof.Rows PySem.SeqAt
noncomputable def KB(te:AE):AE:=fun ρ Z Q=>te ρ Z fun x Z1=>∃ds,bn Z1 x=some (.lst ds)/\∀l,Z1 l=none->Q (.r (.ref l)) (Z1.put l (.own (ds.reverse.map AV.d)))
theorem y7(te:AE)(ρ:SA)(Z:Om)(Q:AV->Om->Prop):KB te ρ Z Q=te ρ Z fun x Z1=>∃ds,bn Z1 x=some (.lst ds)/\∀l,Z1 l=none->Q (.r (.ref l)) (Z1.put l (.own (ds.reverse.map AV.d))):=rfl
theorem K1{K:W.Frag}{te:TE}{te':AE}(he:bi te te'):bi (MG K te (tUn (rU fun i=>.int (-i)) (tC (.int 1)))) (KB te'):=⟨fun F H Z σ ρ Q Q' rp rs w k=>
 he.go rp rs w fun x Z1 v H1 rp1 fr1 rs1 rv1 ⟨ds,e,q⟩=>⟨1,rfl,rfl,by
  obtain⟨a,vs,rfl,z1,z2⟩:=fK rp1 rv1 e
  exact⟨a,vs,rfl,.inl (.inl z1),(k.fr fr1).own rp1 (RVs.dats.mpr z2.rev) q⟩⟩⟩
section
variable{K:W.Frag}{x qual:Str}{st:Stmt}{f:Addr}{fd:FuncData}
theorem Fun.OI{p0:Str}(F:Fun K x qual st f fd)(h:∀(kV doc pm:Value)(an:Option Addr)(cdv ct:Value)(u0:Value),bindArgs (W.fnOf x qual (defArgs st) (defBody st) (defScope st) .none kV doc pm an cdv ct) ⟨[u0],[]⟩=pure ([p0].zip [u0])):aP K fd [p0] []:=
 F.binds fun a b c d e g us hl=>match us,hl with | [u0],_=>h a b c d e g u0
theorem Fun.OG{p0 p1:Str}(F:Fun K x qual st f fd)(h:∀(kV doc pm:Value)(an:Option Addr)(cdv ct:Value)(u0 u1:Value),bindArgs (W.fnOf x qual (defArgs st) (defBody st) (defScope st) .none kV doc pm an cdv ct) ⟨[u0,u1],[]⟩=pure ([p0,p1].zip [u0,u1])):aP K fd [p0,p1] []:=
 F.binds fun a b c d e g us hl=>match us,hl with | [u0,u1],_=>h a b c d e g u0 u1
theorem Fun.OK{p0 p1 p2:Str}(F:Fun K x qual st f fd)(h:∀(kV doc pm:Value)(an:Option Addr)(cdv ct:Value)(u0 u1 u2:Value),bindArgs (W.fnOf x qual (defArgs st) (defBody st) (defScope st) .none kV doc pm an cdv ct) ⟨[u0,u1,u2],[]⟩=pure ([p0,p1,p2].zip [u0,u1,u2])):aP K fd [p0,p1,p2] []:=
 F.binds fun a b c d e g us hl=>match us,hl with | [u0,u1,u2],_=>h a b c d e g u0 u1 u2
theorem Fun.OS{p0 p1 p2 p3:Str}(F:Fun K x qual st f fd)(h:∀(kV doc pm:Value)(an:Option Addr)(cdv ct:Value)(u0 u1 u2 u3:Value),bindArgs (W.fnOf x qual (defArgs st) (defBody st) (defScope st) .none kV doc pm an cdv ct) ⟨[u0,u1,u2,u3],[]⟩=pure ([p0,p1,p2,p3].zip [u0,u1,u2,u3])):aP K fd [p0,p1,p2,p3] []:=
 F.binds fun a b c d e g us hl=>match us,hl with | [u0,u1,u2,u3],_=>h a b c d e g u0 u1 u2 u3
theorem Fun.O3{p0 p1 p2 p3 p4:Str}(F:Fun K x qual st f fd)(h:∀(kV doc pm:Value)(an:Option Addr)(cdv ct:Value)(u0 u1 u2 u3 u4:Value),bindArgs (W.fnOf x qual (defArgs st) (defBody st) (defScope st) .none kV doc pm an cdv ct) ⟨[u0,u1,u2,u3,u4],[]⟩=pure ([p0,p1,p2,p3,p4].zip [u0,u1,u2,u3,u4])):aP K fd [p0,p1,p2,p3,p4] []:=
 F.binds fun a b c d e g us hl=>match us,hl with | [u0,u1,u2,u3,u4],_=>h a b c d e g u0 u1 u2 u3 u4
end
end L2
namespace L2
open PySem PySem.Spec PyProof.Rows
theorem az.weak{P:Program}{w:World}{K:W.Frag}{mg:Str->Option Value}{base:Heap}{k:Nat}{f:Addr}{fd:FuncData}{ps:List Str}{sp sp':ASp}(h:az P w K mg base CX0 k f fd ps (bg sp))(u:∀xs Z Q,sp' xs Z Q->sp xs Z Q):az P w K mg base CX0 k f fd ps (bg sp'):=
 ⟨fun vs H Q E ⟨F,xs,Z,Q',rp,rv,s,kq⟩=>h.len vs H Q E ⟨F,xs,Z,Q',rp,rv,u _ _ _ s,kq⟩,fun A outer s H args us vs Q E hr he hb hv ⟨F,xs,Z,Q',rp,rv,q,kq⟩=>h.run A outer s H args us vs Q E hr he hb hv ⟨F,xs,Z,Q',rp,rv,u _ _ _ q,kq⟩⟩
end L2
namespace L2
open PySem PySem.Spec PySem.Calls PyProof.Rows PySem.W
end L2
namespace L2
open PySem PySem.Spec PyProof.Rows
structure bP(K:W.Frag)(x:Str)(st:Stmt)(a:Addr)(fd:FuncData):Prop where
 g:W.nsIn K mainGlobals x=some (some (.ref a))
 f:Fun K x x st a fd
 e:W.keepIn K (.ref a)=true
theorem NQ{K:W.Frag}{x:Str}{st:Stmt}{a:Addr}{oc:Value}{od an:Option Addr}{osl:Array (Option Value)}{kV doc pm cdv ct:Value}(g:W.nsIn K mainGlobals x=some (some (.ref a)))(l:K.lookup a=some ⟨oc,od,.func (W.fnOf x x (defArgs st) (defBody st) (defScope st) .none kV doc pm an cdv ct),osl⟩)(c:W.codeIn K cdv x=true)(e:W.keepIn K (.ref a)=true):bP K x st a (W.fnOf x x (defArgs st) (defBody st) (defScope st) .none kV doc pm an cdv ct):=⟨g,pj l c e,e⟩
theorem fsc{N P:List Str}{sc:Scope}(a:sc.kind=.function)(b:sc.isCoroutine=false)(c:sc.isGenerator=false)(h:N.Nodup/\N.take P.length=P/\(∀x∈P,sc.names.lookup x=some .local\/sc.names.lookup x=some .cell)/\∀y∈sc.names,y.2≠.free):aA N P sc:=⟨a,b,c,h.1,h.2.1,h.2.2.1,h.2.2.2⟩
end L2
set_option maxHeartbeats 4000000
namespace My
open PySem PySem.Spec L2
noncomputable def top(i:Nat):Stmt:=PySem.Challenge.pw_unlikeplace_k13_whole_sayings_and_their.main.body.getD i (.Pass ⟨0,0,0,0⟩)
noncomputable abbrev rJ:Stmt:=top 1
noncomputable abbrev sR:Stmt:=top 2
noncomputable abbrev cO:Stmt:=top 3
noncomputable abbrev fG:Stmt:=top 4
noncomputable abbrev mP:Stmt:=top 7
noncomputable abbrev tj:Stmt:=top 8
noncomputable abbrev jG:Stmt:=top 9
noncomputable abbrev lS:Stmt:=top 10
noncomputable abbrev ie:Stmt:=top 11
noncomputable abbrev ik:Stmt:=top 12
noncomputable abbrev iC:Stmt:=top 15
noncomputable abbrev zZ:Stmt:=top 16
noncomputable abbrev qS:Stmt:=top 17
noncomputable abbrev jE:Stmt:=top 18
noncomputable abbrev eF:Stmt:=top 19
noncomputable abbrev sV:Stmt:=top 20
noncomputable abbrev wf:Stmt:=top 21
noncomputable abbrev lp:Stmt:=top 28
noncomputable abbrev mY:Stmt:=top 29
noncomputable abbrev lE:Stmt:=top 31
noncomputable abbrev cN:Stmt:=top 32
noncomputable abbrev jf:Stmt:=top 33
noncomputable abbrev ka:Stmt:=top 34
noncomputable abbrev jy:Stmt:=top 36
noncomputable abbrev pk:Stmt:=top 37
noncomputable abbrev kQ:Stmt:=top 38
noncomputable abbrev iK:Stmt:=top 39
noncomputable abbrev Ht:Stmt:=top 40
noncomputable abbrev rG:Stmt:=top 42
noncomputable abbrev lb:Stmt:=top 43
noncomputable abbrev iO:Stmt:=top 44
noncomputable abbrev jN:Stmt:=top 45
noncomputable abbrev wM:Stmt:=top 46
noncomputable abbrev oE:Stmt:=top 47
noncomputable abbrev ei:Stmt:=top 50
noncomputable abbrev gJ:Stmt:=top 51
noncomputable abbrev ng:Stmt:=top 52
noncomputable abbrev f9:Stmt:=top 53
noncomputable abbrev lR:Stmt:=top 54
noncomputable abbrev lY:Stmt:=top 55
noncomputable abbrev ix:Stmt:=top 56
noncomputable abbrev qU:Stmt:=top 58
noncomputable abbrev nz:Stmt:=top 59
noncomputable abbrev qM:Stmt:=top 60
noncomputable abbrev fH:Stmt:=top 61
noncomputable abbrev df:Stmt:=top 62
noncomputable abbrev gF:Stmt:=top 64
noncomputable abbrev xq:Stmt:=top 66
noncomputable abbrev sP:Stmt:=top 67
noncomputable abbrev nI:Stmt:=top 68
noncomputable abbrev pf:Stmt:=top 69
noncomputable abbrev mT:Stmt:=top 70
noncomputable abbrev rh:Stmt:=top 71
noncomputable abbrev lF:Stmt:=top 72
noncomputable abbrev f8:Stmt:=top 73
noncomputable abbrev iU:Stmt:=top 74
noncomputable abbrev jO:Stmt:=top 75
noncomputable abbrev kW:Stmt:=top 76
noncomputable abbrev pr:Stmt:=top 77
noncomputable abbrev uE:Stmt:=top 78
theorem lQ:aA ["tree","leaf","waiting","downward","part"] ["tree","leaf"] (defScope rJ):=fsc rfl rfl rfl (by decide +kernel)
theorem jj:aA ["tree","leaf","of_leaf","of_fork","done","part","second","first"] ["tree","leaf","of_leaf","of_fork"] (defScope sR):=fsc rfl rfl rfl (by decide +kernel)
theorem vB:aA ["tree","leaf"] ["tree","leaf"] (defScope cO):=fsc rfl rfl rfl (by decide +kernel)
theorem rZ:aA ["tree","leaf"] ["tree","leaf"] (defScope fG):=fsc rfl rfl rfl (by decide +kernel)
theorem yX:aA ["thing"] ["thing"] (defScope mP):=fsc rfl rfl rfl (by decide +kernel)
theorem Ev:aA ["thing"] ["thing"] (defScope tj):=fsc rfl rfl rfl (by decide +kernel)
theorem tO:aA ["thing"] ["thing"] (defScope jG):=fsc rfl rfl rfl (by decide +kernel)
theorem Bo:aA ["places","thing"] ["places","thing"] (defScope lS):=fsc rfl rfl rfl (by decide +kernel)
theorem wr:aA ["some"] ["some"] (defScope ie):=fsc rfl rfl rfl (by decide +kernel)
theorem fZ:aA ["places","words","place"] ["places"] (defScope ik):=fsc rfl rfl rfl (by decide +kernel)
theorem GF:aA ["saying","word"] ["saying","word"] (defScope iC):=fsc rfl rfl rfl (by decide +kernel)
theorem Jl:aA ["saying"] ["saying"] (defScope zZ):=fsc rfl rfl rfl (by decide +kernel)
theorem Dc:aA ["saying"] ["saying"] (defScope qS):=fsc rfl rfl rfl (by decide +kernel)
theorem yA:aA ["places","saying"] ["places","saying"] (defScope jE):=fsc rfl rfl rfl (by decide +kernel)
theorem Ac:aA ["saying"] ["saying"] (defScope eF):=fsc rfl rfl rfl (by decide +kernel)
theorem pE:aA ["case","saying","word"] ["case","saying"] (defScope sV):=fsc rfl rfl rfl (by decide +kernel)
theorem Ho:aA ["case","saying"] ["case","saying"] (defScope wf):=fsc rfl rfl rfl (by decide +kernel)
theorem wP:aA ["table"] ["table"] (defScope lp):=fsc rfl rfl rfl (by decide +kernel)
theorem iq:aA ["table","word","at","bit"] ["table","word"] (defScope mY):=fsc rfl rfl rfl (by decide +kernel)
theorem mO:aA ["places","yes","no","yes_words","no_words"] ["places","yes","no"] (defScope lE):=fsc rfl rfl rfl (by decide +kernel)
theorem iw:aA ["places","some","ordered"] ["places","some"] (defScope cN):=fsc rfl rfl rfl (by decide +kernel)
theorem gA:aA ["table","places","words","yes","no"] ["table"] (defScope jf):=fsc rfl rfl rfl (by decide +kernel)
theorem yY:aA ["case"] ["case"] (defScope ka):=fsc rfl rfl rfl (by decide +kernel)
theorem jQ:aA ["turn","yes","no","own","silent","loud"] ["turn","yes","no"] (defScope jy):=fsc rfl rfl rfl (by decide +kernel)
theorem cS:aA ["case","talk","ends","waiting","bits","part","yes","no","at_first","at_second"] ["case","talk"] (defScope pk):=fsc rfl rfl rfl (by decide +kernel)
theorem wm:aA ["words"] ["words"] (defScope kQ):=fsc rfl rfl rfl (by decide +kernel)
theorem b9:aA ["case","talk","downward","waiting","part","yes","no","at_first","at_second"] ["case","talk"] (defScope iK):=fsc rfl rfl rfl (by decide +kernel)
theorem rO:aA ["case","talk","done","part","second","first"] ["case","talk"] (defScope Ht):=fsc rfl rfl rfl (by decide +kernel)
theorem gr:aA ["talk","yes","no","bits","part","own","bit"] ["talk","yes","no"] (defScope rG):=fsc rfl rfl rfl (by decide +kernel)
theorem wq:aA ["talk"] ["talk"] (defScope lb):=fsc rfl rfl rfl (by decide +kernel)
theorem rV:aA ["talk"] ["talk"] (defScope iO):=fsc rfl rfl rfl (by decide +kernel)
theorem uf:aA ["rule","place","yes","no"] ["rule","place","yes","no"] (defScope jN):=fsc rfl rfl rfl (by decide +kernel)
theorem oA:aA ["case","rule","talk","yes","no","place"] ["case","rule","talk"] (defScope wM):=fsc rfl rfl rfl (by decide +kernel)
theorem Br:aA ["case","rule","talk"] ["case","rule","talk"] (defScope oE):=fsc rfl rfl rfl (by decide +kernel)
theorem rB:aA ["case","saying","led"] ["case","saying"] (defScope ei):=fsc rfl rfl rfl (by decide +kernel)
theorem y6:aA ["case","leaf"] ["case","leaf"] (defScope gJ):=fsc rfl rfl rfl (by decide +kernel)
theorem kw:aA ["case","join","one","other","says"] ["case","join","one","other"] (defScope ng):=fsc rfl rfl rfl (by decide +kernel)
theorem t6:aA ["words","values","bit"] ["words","values","bit"] (defScope f9):=fsc rfl rfl rfl (by decide +kernel)
theorem zR:aA ["ones","others"] ["ones","others"] (defScope lR):=fsc rfl rfl rfl (by decide +kernel)
theorem zP:aA ["ones","others"] ["ones","others"] (defScope lY):=fsc rfl rfl rfl (by decide +kernel)
theorem cD:aA ["case","talk","kept","leaves","waiting","done","part","other","one"] ["case","talk"] (defScope ix):=fsc rfl rfl rfl (by decide +kernel)
theorem uB:aA ["join","some","half"] ["join","some"] (defScope qU):=fsc rfl rfl rfl (by decide +kernel)
theorem DW:aA ["case"] ["case"] (defScope nz):=fsc rfl rfl rfl (by decide +kernel)
theorem HL:aA ["case"] ["case"] (defScope qM):=fsc rfl rfl rfl (by decide +kernel)
theorem rY:aA ["word"] ["word"] (defScope fH):=fsc rfl rfl rfl (by decide +kernel)
theorem mN:aA ["word"] ["word"] (defScope df):=fsc rfl rfl rfl (by decide +kernel)
theorem qr:aA ["case"] ["case"] (defScope gF):=fsc rfl rfl rfl (by decide +kernel)
theorem Fl:aA ["_law_script"] ["_law_script"] (defScope xq):=fsc rfl rfl rfl (by decide +kernel)
theorem eI:aA ["_law_pen_here","_law_many","_law_digit","_law_script","_law_at","_law_cell","_law_number"] ["_law_pen_here","_law_many"] (defScope sP):=fsc rfl rfl rfl (by decide +kernel)
theorem Dl:aA ["_law_places","_law_number"] ["_law_places","_law_number"] (defScope nI):=fsc rfl rfl rfl (by decide +kernel)
theorem e9:aA ["_law_pen_here","_law_places","_law_many","_law_room","_law_bits","_law_low","_law_high","_law_first","_law_join","_law_one"] ["_law_pen_here","_law_places","_law_many","_law_room","_law_bits"] (defScope pf):=fsc rfl rfl rfl (by decide +kernel)
theorem qj:aA ["_law_pen_here","_law_places","_law_bits","_law_many"] ["_law_pen_here","_law_places","_law_bits"] (defScope mT):=fsc rfl rfl rfl (by decide +kernel)
theorem ff:aA ["_law_pen_here","_law_places","_law_way","_law_sorts","_law_number","_law_at","_law_some"] ["_law_pen_here","_law_places"] (defScope rh):=fsc rfl rfl rfl (by decide +kernel)
theorem mU:aA ["_law_pen_here","_law_places","_law_found","_law_at"] ["_law_pen_here","_law_places"] (defScope lF):=fsc rfl rfl rfl (by decide +kernel)
theorem iJ:aA ["_law_places","_law_table_here","_law_case_here","_law_other"] ["_law_places","_law_table_here"] (defScope f8):=fsc rfl rfl rfl (by decide +kernel)
theorem hZ:aA ["_law_case_here","_law_saying_here","_law_talk","_law_back"] ["_law_case_here","_law_saying_here"] (defScope iU):=fsc rfl rfl rfl (by decide +kernel)
theorem cj:aA ["_law_places","_law_one","_law_other","_law_both","_law_either","_law_number","_law_word_here","_law_here","_law_many","_law_most"] ["_law_places","_law_one","_law_other"] (defScope jO):=fsc rfl rfl rfl (by decide +kernel)
theorem f7:aA ["_law_case_here","_law_saying_here","_law_here","_law_turned","_law_there"] ["_law_case_here","_law_saying_here"] (defScope kW):=fsc rfl rfl rfl (by decide +kernel)
theorem fk:aA ["_law_pen_here","_law_case_here","_law_places","_law_yes","_law_no","_law_some","_law_at"] ["_law_pen_here","_law_case_here"] (defScope pr):=fsc rfl rfl rfl (by decide +kernel)
theorem fU:aA ["_law_script","_law_pen_here","_law_places","_law_one","_law_other","_law_saying_here","_law_table_here","_law_case_here","_law_turn"] ["_law_script"] (defScope uE):=fsc rfl rfl rfl (by decide +kernel)
set_option genInjectivity false in
structure Adr where
 hV:Addr
 tB:FuncData
 dh:Addr
 gM:FuncData
 ci:Addr
 ig:FuncData
 cJ:Addr
 iQ:FuncData
 d7:Addr
 m9:FuncData
 gC:Addr
 sk:FuncData
 cQ:Addr
 jI:FuncData
 fu:Addr
 oQ:FuncData
 dz:Addr
 kR:FuncData
 dv:Addr
 kU:FuncData
 fI:Addr
 qx:FuncData
 ni:Addr
 zY:FuncData
 g7:Addr
 sK:FuncData
 d8:Addr
 mR:FuncData
 da:Addr
 lU:FuncData
 gR:Addr
 tz:FuncData
 iD:Addr
 qA:FuncData
 dg:Addr
 kI:FuncData
 dY:Addr
 mH:FuncData
 fm:Addr
 pI:FuncData
 bR:Addr
 fb:FuncData
 d9:Addr
 lG:FuncData
 d6:Addr
 m4:FuncData
 fC:Addr
 oU:FuncData
 ft:Addr
 pN:FuncData
 dq:Addr
 kD:FuncData
 cE:Addr
 iH:FuncData
 rW:Addr
 HG:FuncData
 gX:Addr
 sQ:FuncData
 dr:Addr
 kX:FuncData
 cG:Addr
 iI:FuncData
 cV:Addr
 jD:FuncData
 j7:Addr
 wx:FuncData
 fg:Addr
 oH:FuncData
 c7:Addr
 lO:FuncData
 dj:Addr
 j3:FuncData
 dk:Addr
 jL:FuncData
 cU:Addr
 jX:FuncData
 fc:Addr
 pO:FuncData
 fw:Addr
 oG:FuncData
 du:Addr
 lc:FuncData
 eO:Addr
 kK:FuncData
 gI:Addr
 tm:FuncData
 jV:Addr
 vT:FuncData
 cH:Addr
 iL:FuncData
 bJ:Addr
 eL:FuncData
 cw:Addr
 gK:FuncData
 jW:Addr
 wG:FuncData
 hJ:Addr
 qY:FuncData
 gT:Addr
 sZ:FuncData
 c8:Addr
 gj:FuncData
 dZ:Addr
 mK:FuncData
 gD:Addr
 rN:FuncData
 eX:Addr
 pG:FuncData
 cP:Addr
 j9:FuncData
 cF:Addr
 iT:FuncData
 cW:Addr
 jS:FuncData
 di:Addr
 ln:FuncData
 fE:Addr
 oX:FuncData
 mq:Addr
 zg:FuncData
 wo:World
 cT:Addr
 cr:Addr
 fM:Tok
 eD:Addr
 iu:Addr
 lN:Addr
 dR:Addr
 gw:Addr
 jw:Addr
 gp:Addr
 pD:Addr
structure Txt(K:W.Frag)(mg:Str->Option Value)(t:Adr):Prop where
 sU:mg "upward"=some (.ref t.hV)
 Hg:Fun K "upward" "upward" rJ t.hV t.tB
 sD:W.keepIn K (.ref t.hV)=true
 si:aP K t.tB ["tree","leaf"] []
 nQ:mg "folded"=some (.ref t.dh)
 HF:Fun K "folded" "folded" sR t.dh t.gM
 nJ:W.keepIn K (.ref t.dh)=true
 nL:aP K t.gM ["tree","leaf","of_leaf","of_fork"] []
 qe:mg "tree_deep"=some (.ref t.ci)
 Kg:Fun K "tree_deep" "tree_deep" cO t.ci t.ig
 qk:W.keepIn K (.ref t.ci)=true
 iu:aP K t.ig ["tree","leaf"] []
 mD:mg "tree_leaves"=some (.ref t.cJ)
 t4:Fun K "tree_leaves" "tree_leaves" fG t.cJ t.iQ
 mF:W.keepIn K (.ref t.cJ)=true
 mo:aP K t.iQ ["tree","leaf"] []
 rC:mg "is_whole"=some (.ref t.d7)
 Ab:Fun K "is_whole" "is_whole" mP t.d7 t.m9
 rE:W.keepIn K (.ref t.d7)=true
 rF:aP K t.m9 ["thing"] []
 GW:mg "is_bit"=some (.ref t.gC)
 Fn:Fun K "is_bit" "is_bit" tj t.gC t.sk
 Fi:W.keepIn K (.ref t.gC)=true
 E2:aP K t.sk ["thing"] []
 nU:mg "are_places"=some (.ref t.cQ)
 wO:Fun K "are_places" "are_places" jG t.cQ t.jI
 nn:W.keepIn K (.ref t.cQ)=true
 ou:aP K t.jI ["thing"] []
 DE:mg "is_word"=some (.ref t.fu)
 DA:Fun K "is_word" "is_word" lS t.fu t.oQ
 DN:W.keepIn K (.ref t.fu)=true
 C8:aP K t.oQ ["places","thing"] []
 yB:mg "is_rising"=some (.ref t.dz)
 zr:Fun K "is_rising" "is_rising" ie t.dz t.kR
 yP:W.keepIn K (.ref t.dz)=true
 x8:aP K t.kR ["some"] []
 p6:mg "all_words"=some (.ref t.dv)
 xT:Fun K "all_words" "all_words" ik t.dv t.kU
 pQ:W.keepIn K (.ref t.dv)=true
 pX:aP K t.kU ["places"] []
 fL:mg "value"=some (.ref t.fI)
 Oc:Fun K "value" "value" iC t.fI t.qx
 fJ:W.keepIn K (.ref t.fI)=true
 dR:aP K t.qx ["saying","word"] []
 nh:mg "deep"=some (.ref t.ni)
 MK:Fun K "deep" "deep" zZ t.ni t.zY
 mM:W.keepIn K (.ref t.ni)=true
 mS:aP K t.zY ["saying"] []
 gU:mg "leaves"=some (.ref t.g7)
 Fj:Fun K "leaves" "leaves" qS t.g7 t.sK
 g6:W.keepIn K (.ref t.g7)=true
 gW:aP K t.sK ["saying"] []
 nk:mg "table_by"=some (.ref t.d8)
 zL:Fun K "table_by" "table_by" jE t.d8 t.mR
 m5:W.keepIn K (.ref t.d8)=true
 m7:aP K t.mR ["places","saying"] []
 pA:mg "against"=some (.ref t.da)
 M0:Fun K "against" "against" eF t.da t.lU
 pc:W.keepIn K (.ref t.da)=true
 jw:aP K t.lU ["saying"] []
 sw:mg "missed"=some (.ref t.gR)
 FD:Fun K "missed" "missed" sV t.gR t.tz
 sL:W.keepIn K (.ref t.gR)=true
 rP:aP K t.tz ["case","saying"] []
 oD:mg "parts"=some (.ref t.iD)
 IM:Fun K "parts" "parts" wf t.iD t.qA
 nZ:W.keepIn K (.ref t.iD)=true
 nD:aP K t.qA ["case","saying"] []
 xF:mg "places_of"=some (.ref t.dg)
 yc:Fun K "places_of" "places_of" lp t.dg t.kI
 yl:W.keepIn K (.ref t.dg)=true
 yE:aP K t.kI ["table"] []
 sI:mg "value_at"=some (.ref t.dY)
 Bd:Fun K "value_at" "value_at" mY t.dY t.mH
 tF:W.keepIn K (.ref t.dY)=true
 qZ:aP K t.mH ["table","word"] []
 D4:mg "case_of"=some (.ref t.fm)
 Dp:Fun K "case_of" "case_of" lE t.fm t.pI
 D5:W.keepIn K (.ref t.fm)=true
 DQ:aP K t.pI ["places","yes","no"] []
 i9:mg "words_in_order"=some (.ref t.bR)
 o8:Fun K "words_in_order" "words_in_order" cN t.bR t.fb
 jd:W.keepIn K (.ref t.bR)=true
 jB:aP K t.fb ["places","some"] []
 l8:mg "case_by"=some (.ref t.d9)
 Di:Fun K "case_by" "case_by" jf t.d9 t.lG
 l6:W.keepIn K (.ref t.d9)=true
 md:aP K t.lG ["table"] []
 AQ:mg "pairs_in"=some (.ref t.d6)
 Af:Fun K "pairs_in" "pairs_in" ka t.d6 t.m4
 AK:W.keepIn K (.ref t.d6)=true
 Bl:aP K t.m4 ["case"] []
 uH:mg "went_on"=some (.ref t.fC)
 DV:Fun K "went_on" "went_on" jy t.fC t.oU
 vp:W.keepIn K (.ref t.fC)=true
 uT:aP K t.oU ["turn","yes","no"] []
 Dz:mg "ends_of"=some (.ref t.ft)
 Ed:Fun K "ends_of" "ends_of" pk t.ft t.pN
 Db:W.keepIn K (.ref t.ft)=true
 D3:aP K t.pN ["case","talk"] []
 pP:mg "has_pairs"=some (.ref t.dq)
 zj:Fun K "has_pairs" "has_pairs" kQ t.dq t.kD
 qa:W.keepIn K (.ref t.dq)=true
 p9:aP K t.kD ["words"] []
 tV:mg "kept_upward"=some (.ref t.cE)
 tR:Fun K "kept_upward" "kept_upward" iK t.cE t.iH
 tQ:W.keepIn K (.ref t.cE)=true
 t7:aP K t.iH ["case","talk"] []
 M6:mg "cut"=some (.ref t.rW)
 Nr:Fun K "cut" "cut" Ht t.rW t.HG
 NC:W.keepIn K (.ref t.rW)=true
 Np:aP K t.HG ["case","talk"] []
 Gq:mg "spoken"=some (.ref t.gX)
 HH:Fun K "spoken" "spoken" rG t.gX t.sQ
 EW:W.keepIn K (.ref t.gX)=true
 EN:aP K t.sQ ["talk","yes","no"] []
 zn:mg "talk_deep"=some (.ref t.dr)
 yh:Fun K "talk_deep" "talk_deep" lb t.dr t.kX
 xR:W.keepIn K (.ref t.dr)=true
 zD:aP K t.kX ["talk"] []
 ug:mg "talk_leaves"=some (.ref t.cG)
 t9:Fun K "talk_leaves" "talk_leaves" iO t.cG t.iI
 t5:W.keepIn K (.ref t.cG)=true
 ub:aP K t.iI ["talk"] []
 vV:mg "parts_pair"=some (.ref t.cV)
 wA:Fun K "parts_pair" "parts_pair" jN t.cV t.jD
 wC:W.keepIn K (.ref t.cV)=true
 vL:aP K t.jD ["rule","place","yes","no"] []
 Iw:mg "fault"=some (.ref t.j7)
 Ix:Fun K "fault" "fault" wM t.j7 t.wx
 IP:W.keepIn K (.ref t.j7)=true
 Jp:aP K t.wx ["case","rule","talk"] []
 vn:mg "lets_by"=some (.ref t.fg)
 Ec:Fun K "lets_by" "lets_by" oE t.fg t.oH
 uF:W.keepIn K (.ref t.fg)=true
 uA:aP K t.oH ["case","rule","talk"] []
 DM:mg "talk_of"=some (.ref t.c7)
 MZ:Fun K "talk_of" "talk_of" ei t.c7 t.lO
 Eg:W.keepIn K (.ref t.c7)=true
 pD:aP K t.lO ["case","saying"] []
 A3:mg "led_leaf"=some (.ref t.dj)
 Ai:Fun K "led_leaf" "led_leaf" gJ t.dj t.j3
 A5:W.keepIn K (.ref t.dj)=true
 Ah:aP K t.j3 ["case","leaf"] []
 zM:mg "led_join"=some (.ref t.dk)
 An:Fun K "led_join" "led_join" ng t.dk t.jL
 AM:W.keepIn K (.ref t.dk)=true
 zJ:aP K t.jL ["case","join","one","other"] []
 nS:mg "words_with"=some (.ref t.cU)
 wQ:Fun K "words_with" "words_with" f9 t.cU t.jX
 nR:W.keepIn K (.ref t.cU)=true
 oo:aP K t.jX ["words","values","bit"] []
 uw:mg "greater"=some (.ref t.fc)
 DO:Fun K "greater" "greater" lR t.fc t.pO
 uR:W.keepIn K (.ref t.fc)=true
 ux:aP K t.pO ["ones","others"] []
 vo:mg "smaller"=some (.ref t.fw)
 Dy:Fun K "smaller" "smaller" lY t.fw t.oG
 u9:W.keepIn K (.ref t.fw)=true
 vh:aP K t.oG ["ones","others"] []
 yq:mg "saying_of"=some (.ref t.du)
 ya:Fun K "saying_of" "saying_of" ix t.du t.lc
 zA:W.keepIn K (.ref t.du)=true
 xA:aP K t.lc ["case","talk"] []
 fO:mg "joined"=some (.ref t.eO)
 Ge:Fun K "joined" "joined" qU t.eO t.kK
 fR:W.keepIn K (.ref t.eO)=true
 fS:aP K t.kK ["join","some"] []
 nF:mg "by_yes"=some (.ref t.gI)
 Gu:Fun K "by_yes" "by_yes" nz t.gI t.tm
 nH:W.keepIn K (.ref t.gI)=true
 om:aP K t.tm ["case"] []
 xw:mg "by_no"=some (.ref t.jV)
 JG:Fun K "by_no" "by_no" qM t.jV t.vT
 wR:W.keepIn K (.ref t.jV)=true
 w4:aP K t.vT ["case"] []
 tP:mg "is_the_word"=some (.ref t.cH)
 tY:Fun K "is_the_word" "is_the_word" fH t.cH t.iL
 tK:W.keepIn K (.ref t.cH)=true
 tU:aP K t.iL ["word"] []
 n9:mg "is_another_word"=some (.ref t.bJ)
 nw:Fun K "is_another_word" "is_another_word" df t.bJ t.eL
 oB:W.keepIn K (.ref t.bJ)=true
 nl:aP K t.eL ["word"] []
 tG:mg "swapped_case"=some (.ref t.cw)
 sY:Fun K "swapped_case" "swapped_case" gF t.cw t.gK
 q9:W.keepIn K (.ref t.cw)=true
 rM:aP K t.gK ["case"] []
 Jy:mg "_law_pen"=some (.ref t.jW)
 Jt:Fun K "_law_pen" "_law_pen" xq t.jW t.wG
 Ju:W.keepIn K (.ref t.jW)=true
 Ik:aP K t.wG ["_law_script"] []
 bA:mg "_law_draw"=some (.ref t.hJ)
 Gp:Fun K "_law_draw" "_law_draw" sP t.hJ t.qY
 bE:W.keepIn K (.ref t.hJ)=true
 bC:aP K t.qY ["_law_pen_here","_law_many"] []
 yt:mg "_law_word"=some (.ref t.gT)
 EK:Fun K "_law_word" "_law_word" nI t.gT t.sZ
 x6:W.keepIn K (.ref t.gT)=true
 xQ:aP K t.sZ ["_law_places","_law_number"] []
 oN:mg "_law_grown"=some (.ref t.c8)
 DP:Fun K "_law_grown" "_law_grown" pf t.c8 t.gj
 pe:W.keepIn K (.ref t.c8)=true
 oJ:aP K t.gj ["_law_pen_here","_law_places","_law_many","_law_room","_law_bits"] []
 sC:mg "_law_saying"=some (.ref t.dZ)
 Bh:Fun K "_law_saying" "_law_saying" mT t.dZ t.mK
 sr:W.keepIn K (.ref t.dZ)=true
 sA:aP K t.mK ["_law_pen_here","_law_places","_law_bits"] []
 Fe:mg "_law_case"=some (.ref t.gD)
 FX:Fun K "_law_case" "_law_case" rh t.gD t.rN
 GE:W.keepIn K (.ref t.gD)=true
 E6:aP K t.rN ["_law_pen_here","_law_places"] []
 Dm:mg "_law_table"=some (.ref t.eX)
 Dj:Fun K "_law_table" "_law_table" lF t.eX t.pG
 Dk:W.keepIn K (.ref t.eX)=true
 DX:aP K t.pG ["_law_pen_here","_law_places"] []
 vE:mg "_law_by_words"=some (.ref t.cP)
 wL:Fun K "_law_by_words" "_law_by_words" f8 t.cP t.j9
 xa:W.keepIn K (.ref t.cP)=true
 wB:aP K t.j9 ["_law_places","_law_table_here"] []
 uh:mg "_law_led_right"=some (.ref t.cF)
 tW:Fun K "_law_led_right" "_law_led_right" iU t.cF t.iT
 tJ:W.keepIn K (.ref t.cF)=true
 ua:aP K t.iT ["_law_case_here","_law_saying_here"] []
 xh:mg "_law_together"=some (.ref t.cW)
 wn:Fun K "_law_together" "_law_together" jO t.cW t.jS
 wZ:W.keepIn K (.ref t.cW)=true
 vZ:aP K t.jS ["_law_places","_law_one","_law_other"] []
 iB:mg "_law_swapped"=some (.ref t.di)
 zq:Fun K "_law_swapped" "_law_swapped" kW t.di t.ln
 iE:W.keepIn K (.ref t.di)=true
 iA:aP K t.ln ["_law_case_here","_law_saying_here"] []
 D0:mg "_law_fewer"=some (.ref t.fE)
 Ez:Fun K "_law_fewer" "_law_fewer" pr t.fE t.oX
 Es:W.keepIn K (.ref t.fE)=true
 Eo:aP K t.oX ["_law_pen_here","_law_case_here"] []
 Nm:mg "law"=some (.ref t.mq)
 Nx:Fun K "law" "law" uE t.mq t.zg
 Ow:W.keepIn K (.ref t.mq)=true
 Ov:aP K t.zg ["_law_script"] []
 Lf:∀(s:Shared)(v:Value),BindsTo s t.zg ⟨[v],[]⟩ [("_law_script",v)]
 Hx:mg "abs"=none
 Gf:mg "all"=none
 Nk:mg "any"=none
 MW:mg "bool"=none
 pZ:mg "enumerate"=none
 BM:mg "int"=none
 f6:mg "isinstance"=none
 dH:mg "len"=none
 Ao:mg "list"=none
 uK:mg "max"=none
 zb:mg "min"=none
 j8:mg "range"=none
 G4:mg "sorted"=none
 M5:mg "sum"=none
 cX:mg "tuple"=none
 GS:mg "zip"=none
 tM:mg "MOST_PLACES"=some (.int 5 t.fM)
 wF:mg "OTHER_JOIN"=some (.ref t.cT)
 vF:StD t.wo K t.cT [("and",V.str "or"),("or",V.str "and")]
 qQ:mg "JOIN_OF_HAND"=some (.ref t.cr)
 tH:StD t.wo K t.cr [("yes",V.str "or"),("no",V.str "and")]
 eQ:vK K "tree_deep" "tree_deep" cO t.ci t.ig t.eD t.iu
 lm:vK K "value" "value" iC t.fI t.qx t.lN t.dR
 gY:vK K "against" "against" eF t.da t.lU t.gw t.jw
 gB:vK K "talk_of" "talk_of" ei t.c7 t.lO t.gp t.pD
set_option hygiene false
local macro_rules | `(tactic| walk_at "ab")=>`(tactic| simp only[re,ny,yb,yd,Cn,Bw,BX,gy,zi,uM,CD,jJ,jc,y8,Ct,zu,J5,FI,Ch,yR,Cc,CT,xK,y9,ym,yj,xW,xX,ze,uS,qR,B8,za,yG,yZ,xC,CP,G1,BQ,Fo,CQ,Cw,Gv,JW,C2,Fv,Hz,B6,B1,Cz,Hh,Hu,Cu,ut,uZ,uV,yL,zw,uu,vm,CC,tD,xJ,qc,jH,ve,r6,B5,zf,uq,yF,ye,yk,uI,yK,yS,y7,yp,xP,va,Gh,x9,xL,CS,BI,CZ,BN,Cj,CV,BW,vM,CB,B7,Bz,xM,yD,zt,Fg,CI,C4,GO,GK,EU,A9,FZ,Hc,AY,Av,Ga,Fh,HD,Bs,x3,CM,aS,FJ,FE,Hk,EF,FK,uk,Bk,lr,ud,Om.OD,Om.OE,sz1,sz2,sz3,sz4,sz6,Int.toNat_natCast,Kc,Ke,Kv,JV,lx,qG,FP,Hw,CH,qD,xO,Cr,Nat.zero_le,AV.d.injEq,AV.r.injEq,D.int.injEq,D.bl.injEq,D.str.injEq,D.tup.injEq,D.lst.injEq,OC.own.injEq,V.ref.injEq,V.ty.injEq,List.map_cons,List.map_nil,List.cons_append,List.nil_append,List.length_cons,List.length_nil,List.length_map,List.length_append,List.replicate,List.getElem?_cons_zero,List.getElem?_cons_succ,List.set_cons_zero,List.set_cons_succ,Option.some.injEq,Option.map_some,Option.join_some,exists_eq',exists_eq_left',List.cons.injEq,and_true,true_and,and_assoc,exists_and_left,exists_and_right,Nat.sub_self,Nat.reduceAdd,Nat.reduceSub,Nat.reduceLeDiff,Int.reduceLT,Int.reduceAdd,Int.reduceSub,Int.reduceToNat,Nat.reduceLT,decide_eq_true_eq,Bool.not_true,Bool.not_false,if_true,if_false,Bool.false_eq_true,reduceCtorEq,false_and,and_false,or_false,false_or,exists_false,beq_iff_eq,bne_iff_ne,ne_eq,Bool.true_eq_false])
local macro_rules | `(tactic| walk_at "a1")=>`(tactic| simp only[re,yb,yd,Cn,Bw,BX,gy,zi,uM,CD,jJ,jc,y8,Ct,zu,J5,FI,Ch,yR,Cc,CT,xK,y9,ym,yj,xW,xX,ze,uS,qR,B8,za,yG,yZ,xC,CP,G1,BQ,Fo,CQ,Cw,Gv,JW,C2,Fv,Hz,B6,B1,Cz,Hh,Hu,Cu,ut,uZ,uV,yL,zw,uu,vm,CC,tD,xJ,qc,jH,ve,r6,B5,zf,uq,yF,ye,yk,uI,yK,yS,y7,yp,xP,va,Gh,x9,xL,CS,BI,CZ,BN,Cj,CV,BW,vM,CB,B7,Bz,xM,yD,zt,Fg,CI,C4,GO,GK,EU,A9,FZ,Hc,AY,Av,Ga,Fh,HD,Bs,x3,CM,aS,FJ,FE,Hk,EF,FK,uk,lr,ud,Om.OD,Om.OE,sz1,sz2,sz3,sz4,sz6,Int.toNat_natCast,Kc,Ke,Kv,JV,lx,qG,FP,Hw,CH,qD,xO,Cr,Nat.zero_le,AV.d.injEq,AV.r.injEq,D.int.injEq,D.bl.injEq,D.str.injEq,D.tup.injEq,D.lst.injEq,OC.own.injEq,V.ref.injEq,V.ty.injEq,List.map_cons,List.map_nil,List.cons_append,List.nil_append,List.length_cons,List.length_nil,List.length_map,List.length_append,List.replicate,List.getElem?_cons_zero,List.getElem?_cons_succ,List.set_cons_zero,List.set_cons_succ,Option.some.injEq,Option.map_some,Option.join_some,exists_eq',exists_eq_left',List.cons.injEq,and_true,true_and,and_assoc,exists_and_left,exists_and_right,Nat.sub_self,Nat.reduceAdd,Nat.reduceSub,Nat.reduceLeDiff,Int.reduceLT,Int.reduceAdd,Int.reduceSub,Int.reduceToNat,Nat.reduceLT,decide_eq_true_eq,Bool.not_true,Bool.not_false,if_true,if_false,Bool.false_eq_true,reduceCtorEq,false_and,and_false,or_false,false_or,exists_false,beq_iff_eq,bne_iff_ne,ne_eq,Bool.true_eq_false])
local macro_rules | `(tactic| walk_at "s1")=>`(tactic| (try walk_at "a1");(first|rw[ny]|rw[Fb]);walk_at "a1")
set_option hygiene true
section
variable{P:Program}{w:World}{K:W.Frag}{mg:Str->Option Value}{base:Heap}{t:Adr}
noncomputable def pdO(K:W.Frag)(c:Pq):OC:=.dic [(("script":Str),kl K c.a c.ns),(("at":Str),.d (.int c.i)),(("left":Str),.d (.int c.f))]
noncomputable def lj(K:W.Frag)(Z:Om)(p:Addr):Prop:=∃c,Z p=some (pdO K c)
theorem bZ{K:W.Frag}{Z:Om}{p:Addr}{c:Pq}:lj K (Z.put p (pdO K c)) p:=⟨c,Om.OD⟩
noncomputable def Mn(K:W.Frag):ASp:=fun xs Z Q=>∃(a:Addr)(ns:List Int),xs=[kl K a ns]/\ns.length<=63/\∀p c,Z p=none->Q (.r (.ref p)) (Z.put p (pdO K c))
theorem K4(T:Txt K mg t):az P w K mg base CX0 1 t.jW t.wG ["_law_script"] (bg (Mn K)):=by
 refine T.Jt.okA Fl (fun xs Z Q h=>by obtain⟨a,ns,rfl,_⟩:=h;rfl) (fun cdv A outer s H E hr=>⟨_,_,(aj (aE (Ir (sX aO (pv 0) (sX aO ah (sX aO ah IJ))) rfl rfl (by simp) (by decide)))),(aL (Mo (mr.cons ac (mr.cons ak (mr.cons ak mr.nil))))),fun xs Z Q h=>?_⟩)
 obtain⟨a,ns,rfl,hn,k⟩:=h;walk_at "a1";exact⟨by decide +kernel,fun p hp=>k p ⟨a,ns,0,0,Int.le_refl _,Int.le_refl _,hn⟩ hp⟩
theorem lj.some{Z:Om}{p:Addr}(h:lj K Z p):(Z p).isSome=true:=by obtain⟨c,e⟩:=h;rw[e];rfl
theorem lj.ne{Z:Om}{p l:Addr}(h:lj K Z p)(hl:Z l=none):p≠l:=fun e=>by subst e;obtain⟨c,e⟩:=h;rw[e] at hl;cases hl
theorem vC{Z:Om}{p:Addr}{c:Pq}(h:lj K Z p):(Z.put p (pdO K c)).only Z=Z.put p (pdO K c):=nG (Ex.refl _) h.some
theorem Lx{Z:Om}{p l:Addr}{c:Pq}{A:OC}(hp:lj K Z p)(h:Z l=none):(om2 Z p l (pdO K c) A).only Z=Z.put p (pdO K c):=
 nG ((Ex.refl _).new (by rw[Om.OB (Ne.symm (hp.ne h))];exact h)) hp.some
noncomputable abbrev pd3(a b c:AV):List (Str×AV):=[(("script":Str),a),(("at":Str),b),(("left":Str),c)]
theorem Gg{a b c:AV}:ndK (pd3 a b c):=by unfold ndK;show [("script":Str),"at","left"].Nodup;decide +kernel
theorem GR{a b c x:AV}:qp (pd3 a b c) "left"=some c/\tT (pd3 a b c) "left" x=pd3 a b x:=by
 refine⟨?_,?_⟩
 ·simp only[qp,List.find?_cons,show decide (("script":Str)="left")=false from by decide +kernel,show decide (("at":Str)="left")=false from by decide +kernel,decide_true];rfl
 ·simp only[tT,if_neg (show ¬ ("script":Str)="left" from by decide +kernel),if_neg (show ¬ ("at":Str)="left" from by decide +kernel),if_true]
theorem Ny{a b c x:AV}:qp (pd3 a b c) "at"=some b/\tT (pd3 a b c) "at" x=pd3 a x c:=by
 refine⟨?_,?_⟩
 ·simp only[qp,List.find?_cons,show decide (("script":Str)="at")=false from by decide +kernel,decide_true];rfl
 ·simp only[tT,if_neg (show ¬ ("script":Str)="at" from by decide +kernel),if_true]
theorem Od{a b c:AV}:qp (pd3 a b c) "script"=some a:=by
 simp only[qp,List.find?_cons,decide_true];rfl
theorem zI{a b c:AV}:((pd3 a b c).any fun p=>decide (p.1=("left":Str)))=true/\((pd3 a b c).any fun p=>decide (p.1=("at":Str)))=true:=by
 simp
noncomputable def IH(K:W.Frag):ASp:=fun xs Z Q=>∃(p:Addr)(m:Int),xs=[.r (.ref p),.d (.int m)]/\lj K Z p/\0<m/\m<1073741824/\∀(r:Int)(c:Pq),0<=r->r<m->Q (.d (.int r)) (Z.put p (pdO K c))
theorem me(T:Txt K mg t):az P w K mg base CX0 1 t.hJ t.qY ["_law_pen_here","_law_many"] (bg (IH K)):=by
 refine T.Gp.okA eI (fun xs Z Q h=>by obtain⟨p,m,rfl,_⟩:=h;rfl) (fun cdv A outer s H E hr=>⟨_,_,(ag (bv (aN BU (nO (qg hr) (pv 0) aO (fun _ _=>rfl)) ah (aM _)) (ag (aB (i:=2) eI.nd rfl (Or.inl rfl) (aT mL (nO (qg hr) (pv 0) aO (fun _ _=>rfl)) (pv 1)))
   (ag (vI (qg hr) (pv 0) aO (aT qF (nO (qg hr) (pv 0) aO (fun _ _=>rfl)) (pv 1)) rfl)
   (aj (aE (pv 2))))) aW)
   (ag (aB (i:=3) eI.nd rfl (Or.inl rfl) (nO (qg hr) (pv 0) aO (fun _ _=>rfl)))
   (ag (aB (i:=4) eI.nd rfl (Or.inl rfl) (nO (qg hr) (pv 0) aO (fun _ _=>rfl)))
   (ag (vI (qg hr) (pv 0) aO (aT (aQ cm (aQ bN cn)) (pv 4) ah) rfl)
   (ag (aB (i:=5) eI.nd rfl (Or.inl rfl) (aT (aQ cm (aQ bN cn)) (aT (aQ nj mJ) ah (pv 4)) ah))
   (ag (bv (aN (Do K rfl hr.OH) (pv 3) (bh ae) (aM _)) (aj (aB (i:=5) eI.nd rfl (Or.inl rfl) (ay (am K rfl) (pv 3) (aT mL (pv 4) (aG (ba K rfl) (by rfl) T.dH (by kernel_rfl) (aa (pv 3) ae))) (fun _ _=>rfl)))) aW)
   (ag (bv (PW.pt (K7 (aN ER (pv 4) (aG (ba K rfl) (by rfl) T.dH (by kernel_rfl) (aa (pv 3) ae)) (aM _)) (IF (aN Ki (aG sT (by rfl) T.Hx (by kernel_rfl) (aa (pv 5) ae)) (aT Mg ah ah) (aM _))))) (ag (vI (qg hr) (pv 0) aO (aT qF (aG sT (by rfl) T.Hx (by kernel_rfl) (aa (pv 5) ae)) (pv 1)) rfl)
   (aj (aE (aT mL (aG sT (by rfl) T.Hx (by kernel_rfl) (aa (pv 5) ae)) (pv 1))))) aW)
   (ag (aB (i:=6) eI.nd rfl (Or.inl rfl) (aT mL (aT (aQ nj mJ) (aT (aQ cm (aQ bN cn)) (aT (aQ cm (aQ bN cn)) (aT mL (pv 5) ah) (aT (aQ nj mJ) ah (pv 4))) ah) ah) ah))
   (ag (aB (i:=6) eI.nd rfl (Or.inl rfl) (aT mL (aT (aQ cm (aQ bN cn)) (aT (aQ cm (aQ bN cn)) (aT (aQ nj mJ) (pv 6) (pv 6)) (aT (aQ nj mJ) ah (pv 6))) (pv 4)) ah))
   (aj (aE (aT mL (aT qF (pv 6) ah) (pv 1))))))))))))),(au (cI (aZ (aq g8 (qW ac be) ak)) (au (aH (aq kr (qW ac be) ac) ao)
   (au (zN ac be (aq kr (qW ac be) ac))
   (aL ac))) bj)
   (au (aH (qW ac be) ao)
   (au (aH (qW ac be) ao)
   (au (zN ac be (aq dm ac ak))
   (au (aH (aq dm (aq sH ak ac) ak) ao)
   (au (cI (aZ (aq FO ac (dP af))) (aH (aq M8 ac (aq kr ac (bz F2 (ab ac af)))) ao) bj)
   (au (cI (NT (aZ (aq g8 ac (bz F2 (ab ac af)))) (aZ (aq g8 (bz MN (ab ac af)) (aq kr ak ak)))) (au (zN ac be (aq kr (bz MN (ab ac af)) ac))
   (aL (aq kr (bz MN (ab ac af)) ac))) bj)
   (au (aH (aq kr (aq sH (aq dm (aq dm (aq kr ac ak) (aq sH ak ac)) ak) ak) ak) ao)
   (au (aH (aq kr (aq dm (aq dm (aq sH ac ac) (aq sH ak ac)) ac) ak) ao)
   (aL (aq kr (aq kr ac ak) ac))))))))))),fun xs Z Q h=>?_⟩)
 obtain⟨p,m,rfl,⟨c,hp⟩,hm,hm2,k⟩:=h;have fin:∀(r:Int)(c:Pq),Q (.d (.int (r%m))) (Z.put p (pdO K c)):=fun r c=>k _ c (Int.emod_nonneg _ (by omega)) (Int.emod_lt_of_pos _ hm)
 unfold pdO at hp;walk_at "s1";refine⟨_,hp,_,(GR (x:=.d .non)).1,_,rfl,mj (fun h1=>?_) (fun h1=>?_)⟩
 ·walk_at "s1"
  refine⟨_,hp,_,(GR (x:=.d .non)).1,_,rfl,hm,?_⟩;walk_at "s1";refine⟨_,hp,_,(GR (x:=.d .non)).1,_,rfl,⟨hm,hm2⟩,_,hp,Gg,zI.1,by simp[sizeLine],?_⟩
  rw[GR.2];exact fin _ ⟨c.a,c.ns,c.i,c.f / m,c.h0,Int.ediv_nonneg c.hf (by omega),c.hn⟩
 ·walk_at "s1"
  refine⟨_,hp,_,Od,?_⟩;walk_at "s1";refine⟨_,hp,_,(Ny (x:=.d .non)).1,?_⟩;walk_at "s1";refine⟨_,hp,Gg,zI.2,by simp[sizeLine],?_⟩
  rw[Ny.2];walk_at "s1";refine⟨vG (by decide),?_⟩
  have absn:∀z:Int,0<=(if z<0 then -z else z):=fun z=>by split<;>omega
  refine qH (fun ρ' Z'=>Z'=Z.put p (.dic (pd3 (kl K c.a c.ns) (.d (.int (c.i+1))) (.d (.int c.f))))/\∃x:Int,ρ'=[some (AV.r (V.ref p)),some (AV.d (D.int m)),none,some (kl K c.a c.ns),some (AV.d (D.int c.i)),some (AV.d (D.int x)),none]) (fun M kM=>?_) ?_
  ·walk_at "a1"
   refine⟨c.a,c.ns,rfl,mj (fun h2=>?_) (fun h2=>kM _ _ ⟨rfl,_,rfl⟩)⟩
   have h2':0<(c.ns.length:Int):=by cases hc:c.ns with
    |nil=>simp[hc] at h2
    |cons y ys=>simp only[List.length_cons];omega
   have hx1:0<=c.i%(c.ns.length:Int):=Int.emod_nonneg _ (by omega)
   have hx2:c.i%(c.ns.length:Int)<(c.ns.length:Int):=Int.emod_lt_of_pos _ h2'
   obtain⟨y,ey⟩:∃y,atI c.ns (c.i%(c.ns.length:Int))=some y:=by
    obtain⟨j,ej⟩:=Int.eq_ofNat_of_zero_le hx1;rw[ej] at hx2 ⊢;have hj:j<c.ns.length:=Int.ofNat_lt.mp hx2;exact⟨_,II (List.getElem?_eq_getElem hj)⟩
   exact⟨c.a,c.ns,rfl,h2',c.a,c.ns,rfl,y,ey,kM _ _ ⟨rfl,_,rfl⟩⟩
  rintro ρ Z' ⟨rfl,x,rfl⟩;refine qH (fun ρ' Z'=>Z'=Z.put p (.dic (pd3 (kl K c.a c.ns) (.d (.int (c.i+1))) (.d (.int c.f))))/\ρ'=[some (AV.r (V.ref p)),some (AV.d (D.int m)),none,some (kl K c.a c.ns),some (AV.d (D.int c.i)),some (AV.d (D.int x)),none]) (fun M kM=>?_) ?_
  ·walk_at "a1"
   refine⟨c.a,c.ns,rfl,mj (fun h2=>⟨⟨by decide,by decide,by decide⟩,mj (fun h3=>?_) (fun h3=>kM _ _ ⟨rfl,rfl⟩)⟩) (fun h2=>kM _ _ ⟨rfl,rfl⟩)⟩
   walk_at "s1";refine⟨⟨hm,hm2⟩,_,rfl,Gg,zI.1,by simp[sizeLine],hm,?_⟩
   rw[GR.2];exact fin _ ⟨c.a,c.ns,c.i+1,(if x<0 then -x else x) / m,by have:=c.h0;omega,Int.ediv_nonneg (absn x) (by omega),c.hn⟩
  rintro ρ Z' ⟨rfl,rfl⟩;walk_at "ab";exact⟨vG (by decide),L8 (by decide),Gy (by decide) (by decide),vG (by decide),⟨by decide,by decide⟩,hm,fin _ ⟨c.a,c.ns,c.i+1,c.f,by have:=c.h0;omega,c.hf,c.hn⟩⟩
noncomputable def HS(K:W.Frag):ASp:=fun xs Z Q=>∃(a:Addr)(ns:List Int),xs=[kl K a ns]/\ns.length<=63/\Z=(fun _=>none)/\∀Z',Q (.d (.bl true)) Z'
noncomputable def wb(K:W.Frag):Sp:=bg (HS K)
theorem Ea{K:W.Frag}{H:Hp}{a:Addr}{ns:List Int}(hl:ns.length<=63)(hO:NN H)(hS:SqL K H a (ns.map V.int)):wb K [.ref a] H (fun v _=>v=.bl true) fun _ _ _=>False:=
 ⟨fun _=>false,[kl K a ns],fun _=>none,fun a _=>a=.d (.bl true),Jb,⟨_,_,rfl,Bn hS,rfl⟩,⟨a,ns,rfl,hl,rfl,fun _=>rfl⟩,fun a Z' v H' _ _ rv q=>by subst q;exact E5 rv⟩
theorem FL:∀n:Fin 6,∀i:Fin 32,∀v∈(wl n.val)[i.val]?,v=(List.range n.val).map fun(p:Nat)=>Builtin.bitAnd ((i.val:Int) / 2^(((n.val:Nat):Int)-1-(p:Int)).toNat) 1:=by decide +kernel
noncomputable def Jd:ASp:=fun xs Z Q=>∃(n i:Nat)(v:List Int),xs=[.d (.int n),.d (.int i)]/\n<=5/\(wl n)[i]?=some v/\Q (.d (wdD v)) Z
theorem C0(T:Txt K mg t):az P w K mg base CX0 1 t.gT t.sZ ["_law_places","_law_number"] (bg Jd):=by
 refine T.EK.okD Dl (fun xs Z Q h=>by obtain⟨n,i,v,rfl,_⟩:=h;rfl) (fun cdv A outer s H E hr=>⟨_,_,(aj (aE (bt (a9 K rfl) (by rfl) T.cX (by kernel_rfl) (aa (bF (N:=(["_law_p","_law_places","_law_number"]:List Str)) (src:=[none,some 0,some 1]) rfl (by show cg _ (defScope nI) _ _ (["_law_places","_law_number"]:List Str)=true;decide +kernel) (by intro g' h;cases h) (fz rfl T.j8 (aa (pv 0) ae)) (fun _ _ _ _ _ _=>(aD (i:=0) (show (["_law_p","_law_places","_law_number"]:List Str).Nodup by decide +kernel) rfl (Or.inl rfl))) (fun _ _ _ _ _ _=>bK) (fun _ _ _ _ _ _=>(bq rfl rfl (aT LI (aT MU (pv 2) (aT de (aT de (pv 1) ah) (pv 0))) ah)))) ae)))),(aL (bz dA (ab (bW (m8 (ab ac af)) ao gZ (bS (aq eR (aq kr ac (aq eR (aq eR ac ak) ac)) ak))) af))),fun xs Z Q h=>?_⟩)
 obtain⟨n,i,v,rfl,hn,hi,k⟩:=h;walk_at "a1";have hi2:=(List.getElem?_eq_some_iff.mp hi).1;have hl:=ki hn;have ev:=FL ⟨n,by omega⟩ ⟨i,by omega⟩ v hi
 refine⟨by omega,by omega,dU (rs:=v.map D.int) (by rw[ev];simp[ml]) (Nat.le_of_lt (a7 (by simp[ml];omega))) (fun j a r h1 h2 Q q=>?_) (fun ρ=>⟨_,aS _,?_⟩)⟩
 ·rw[ev] at h2
  simp only[ml,List.map_map,List.getElem?_map,Option.map_eq_some_iff] at h1 h2;obtain⟨y,hy,rfl⟩:=h1;obtain⟨y',hy',rfl⟩:=h2;rw[hy] at hy';cases hy';have hyn:=List.mem_range.mp (List.mem_of_getElem? hy);simp only[Function.comp_apply,Int.zero_add] at q ⊢;walk_at "a1";exact⟨by omega,q⟩
 ·rw[ax]
  exact k
noncomputable def kJ(K:W.Frag)(r:Nat):ASp:=fun xs Z Q=>∃(p:Addr)(n m:Nat),xs=[.r (.ref p),.d (.int n),.d (.int m),.d (.int r),.d (.lst [.int 0,.int 1])]/\lj K Z p/\1<=n/\n<=5/\1<=m/\m<=2^r/\r<=12/\∀(x:Sy)(c:Pq),x.ok n->x.dp<=r->x.lvs=m->Q (.d x.d) (Z.put p (pdO K c))
theorem sS(T:Txt K mg t)(r:Nat)(kk:Nat)(sp:ASp)(hk:2<=kk)(G_l_grown:az P w K mg base CX0 kk t.c8 t.gj ["_law_pen_here","_law_places","_law_many","_law_room","_law_bits"] (bg sp))(hs:∀r',r=r'+1->sp=kJ K r'):az P w K mg base CX0 (kk+1) t.c8 t.gj ["_law_pen_here","_law_places","_law_many","_law_room","_law_bits"] (bg (kJ K r)):=by
 have G_l_draw:az P w K mg base _ _ _ _ _ _:=me T
 refine T.DP.okD e9 (fun xs Z Q h=>by obtain ⟨p,n,m,rfl,_⟩:=h;rfl) (fun cdv A outer s H E hr=>⟨_,_,(ag (bv (aN (bp hr.OH) (pv 2) ah (aM _)) (aj (aE (aV (av aO (aa (ai G_l_draw (hr.mono (by omega)) (by rfl) T.bA T.bE T.bC .nil ar (aa (pv 0) (aa (pv 1) ae))) (aa (ay (am K rfl) (pv 4) (ai G_l_draw (hr.mono (by omega)) (by rfl) T.bA T.bE T.bC .nil ar (aa (pv 0) (aa (aG (ba K rfl) (by rfl) T.dH (by kernel_rfl) (aa (pv 4) ae)) ae))) (fun _ _=>rfl)) ae)))))) aW)
   (ag (aB (i:=5) e9.nd rfl (Or.inl rfl) (aG (iZ rfl) (by rfl) T.uK (by kernel_rfl) (av ah (aa (aT de (pv 2) (aT so ah (aT de (pv 3) ah))) ae))))
   (ag (aB (i:=6) e9.nd rfl (Or.inl rfl) (aG (lV rfl) (by rfl) T.zb (by kernel_rfl) (aa (aT de (pv 2) ah) (aa (aT so ah (aT de (pv 3) ah)) ae))))
   (ag (aB (i:=7) e9.nd rfl (Or.inl rfl) (ay (am K rfl) (bh (aa (pv 5) (aa (pv 6) (aa (aT (aQ cm (aQ bN cn)) (pv 5) (ai G_l_draw (hr.mono (by omega)) (by rfl) T.bA T.bE T.bC .nil ar (aa (pv 0) (aa (aT (aQ cm (aQ bN cn)) (aT de (pv 6) (pv 5)) ah) ae)))) ae)))) (ai G_l_draw (hr.mono (by omega)) (by rfl) T.bA T.bE T.bC .nil ar (aa (pv 0) (av ah ae))) (fun _ _=>rfl)))
   (ag (aB (i:=8) e9.nd rfl (Or.inl rfl) (ay (am K rfl) (bh (av aO (av aO ae))) (ai G_l_draw (hr.mono (by omega)) (by rfl) T.bA T.bE T.bC .nil ar (aa (pv 0) (av ah ae))) (fun _ _=>rfl)))
   (ag (aB (i:=9) e9.nd rfl (Or.inl rfl) (ai G_l_grown (hr.mono (by omega)) (by rfl) T.oN T.pe T.oJ .nil ar (aa (pv 0) (aa (pv 1) (aa (pv 7) (aa (aT de (pv 3) ah) (aa (pv 4) ae)))))))
   (aj (aE (aV (aa (pv 8) (aa (pv 9) (aa (ai G_l_grown (hr.mono (by omega)) (by rfl) T.oN T.pe T.oJ .nil ar (aa (pv 0) (aa (pv 1) (aa (aT de (pv 2) (pv 7)) (aa (aT de (pv 3) ah) (aa (pv 4) ae)))))) ae)))))))))))),(au (cI (aZ (aq bw ac ak)) (aL (bo (ab be (ab (ap (ab ac (ab ac af))) (ab (aq aK ac (ap (ab ac (ab (bz eA (ab ac af)) af)))) af))))) bj)
   (au (aH (bz vO (ab ak (ab (aq eR ac (aq kr ak (aq eR ac ak))) af))) ao)
   (au (aH (bz vO (ab (aq eR ac ak) (ab (aq kr ak (aq eR ac ak)) af))) ao)
   (au (aH (aq aK (dP (ab ac (ab ac (ab (aq dm ac (ap (ab ac (ab (aq dm (aq eR ac ac) ak) af)))) af)))) (ap (ab ac (ab ak af)))) ao)
   (au (aH (aq aK (dP (ab be (ab be af))) (ap (ab ac (ab ak af)))) ao)
   (au (aH (ap (ab ac (ab ac (ab ac (ab (aq eR ac ak) (ab ac af)))))) ao)
   (aL (bo (ab ac (ab ac (ab (ap (ab ac (ab ac (ab (aq eR ac ac) (ab (aq eR ac ak) (ab ac af)))))) af))))))))))),fun xs Z Q h=>?_⟩)
 obtain⟨p,n,m,rfl,hp,hn1,hn,hm1,hm,hr12,k⟩:=h;walk_at "s1";refine mj (fun h=>?_) (fun h=>?_)
 ·refine⟨p,n,rfl,hp,by omega,by omega,fun x c x0 x1=>⟨p,2,rfl,bZ,by decide,by decide,fun y c2 y0 y1=>?_⟩⟩
  rw[Om.OE]
  obtain⟨z,ez,hz⟩:∃z:Int,atI [AV.d (D.int 0),AV.d (D.int 1)] y=some (.d (.int z))/\(z=0\/z=1):=by
   rcases(by omega:y=0\/y=1) with rfl|rfl
   ·exact⟨_,rfl,.inl rfl⟩
   ·exact⟨_,rfl,.inr rfl⟩
  refine⟨_,rfl,_,ez,_,rfl,?_⟩;rw[vC hp];exact k (.is x z) c2 ⟨x0,x1,hz⟩ (Nat.zero_le _) (by simp only[Sy.lvs];omega)
 ·obtain⟨r',rfl⟩:∃r',r=r'+1:=⟨r-1,by
   cases r with
   |zero=>simp at hm;omega
   |succ r=>rfl⟩
  cases hs r' rfl;have e1:((r'+1:Nat):Int)-1=(r':Int):=by omega
  walk_at "s1";rw[e1];have e2:(1:Int)*2^((r':Int)).toNat=((2^r':Nat):Int):=by simp
  rw[e2];have hp2:2^(r'+1)=2^r'+2^r':=by rw[Nat.pow_succ];omega
  have hp0:1<=2^r':=Nat.one_le_two_pow;have hpb:2^r'<=2^11:=Nat.pow_le_pow_right (by decide) (by omega)
  obtain⟨hf,ehf⟩:∃hf:Nat,hf=2^r':=⟨_,rfl⟩;rw[←ehf] at hp2 hp0 hpb e2 ⊢
  have hpb:hf<=2048:=hpb;refine⟨⟨by omega,by omega,by decide⟩,?_⟩
  obtain⟨lo,elo,lo1,lo2⟩:∃lo:Int,(if (m:Int)-(hf:Int)>1 then (m:Int)-(hf:Int) else 1)=lo/\1<=lo/\(m:Int)-hf<=lo/\lo<=hf/\lo<=m-1:=by
   refine⟨_,rfl,?_⟩;split<;>omega
  rw[elo];walk_at "s1";rw[e1,e2];refine⟨⟨by omega,by omega,by decide⟩,?_⟩
  obtain⟨hi,ehi,hi1,hi2⟩:∃hi:Int,(if (hf:Int)<(m:Int)-1 then (hf:Int) else (m:Int)-1)=hi/\lo<=hi/\hi<=hf/\hi<=m-1:=by
   refine⟨_,rfl,?_⟩;split<;>omega
  rw[ehi];clear elo ehi;walk_at "s1";refine⟨p,hi-lo+1,rfl,hp,by omega,by omega,fun j c j0 j1=>⟨j,rfl,p,3,rfl,bZ,by decide,by decide,fun v c2 v0 v1=>⟨v,rfl,?_⟩⟩⟩
  rw[Om.OE]
  obtain⟨g,eg,g1,g2⟩:∃g:Int,atI [AV.d (D.int lo),AV.d (D.int hi),AV.d (D.int (lo+j))] v=some (.d (.int g))/\lo<=g/\g<=hi:=by
   rcases(by omega:v=0\/v=1\/v=2) with rfl|rfl|rfl
   ·exact⟨_,rfl,by omega,by omega⟩
   ·exact⟨_,rfl,by omega,by omega⟩
   ·exact⟨_,rfl,by omega,by omega⟩
  obtain⟨g',rfl⟩:=Int.eq_ofNat_of_zero_le (by omega:0<=g)
  refine⟨_,eg,?_⟩;walk_at "s1";refine⟨p,2,rfl,bZ,by decide,by decide,fun u c u0 u1=>?_⟩
  rw[Om.OE]
  obtain⟨a,ea⟩:∃a:Bool,atI [AV.d (D.str ("and":Str)),AV.d (D.str ("or":Str))] u=some (.d (.str (if a then "and" else "or"))):=by
   rcases(by omega:u=0\/u=1) with rfl|rfl
   ·exact⟨true,rfl⟩
   ·exact⟨false,rfl⟩
  refine⟨_,rfl,_,ea,?_⟩;walk_at "s1";rw[e1];refine⟨p,n,g',rfl,bZ,hn1,hn,by omega,by omega,by omega,fun x c hx hxd hxl=>?_⟩
  rw[Om.OE];walk_at "a1";refine⟨p,n,m-g',by rw[Int.ofNat_sub (by omega)],bZ,hn1,hn,by omega,by omega,by omega,fun y c hy hyd hyl=>?_⟩
  rw[Om.OE];refine⟨_,rfl,?_⟩;rw[vC hp];exact k (.jn a x y) c ⟨hx,hy⟩ (by simp only[Sy.dp];omega) (by simp only[Sy.lvs];omega)
theorem yU(T:Txt K mg t):∀r,az P w K mg base CX0 (r+3) t.c8 t.gj ["_law_pen_here","_law_places","_law_many","_law_room","_law_bits"] (bg (kJ K r))
 |0=>sS T 0 2 Mq (Nat.le_refl _) KM (fun r' h=>by omega)
 |r+1=>sS T (r+1) (r+3) _ (by omega) (yU T r) (fun r' h=>by cases h;rfl)
noncomputable def DI(K:W.Frag):ASp:=fun xs Z Q=>∃(p:Addr)(n:Nat),xs=[.r (.ref p),.d (.int n),.d (.lst [.int 0,.int 1])]/\lj K Z p/\1<=n/\n<=5/\∀(x:Sy)(c:Pq),x.ok n->x.dp<=12->x.lvs<=60->Q (.d x.d) (Z.put p (pdO K c))
theorem Ek(T:Txt K mg t):az P w K mg base CX0 16 t.dZ t.mK ["_law_pen_here","_law_places","_law_bits"] (bg (DI K)):=by
 have G_l_draw:az P w K mg base _ _ _ _ _ _:=me T;have G_l_grown:az P w K mg base CX0 15 t.c8 t.gj ["_law_pen_here","_law_places","_law_many","_law_room","_law_bits"] (bg fun xs Z Q=>∃i:Fin 13,kJ K i.val xs Z Q):=az.any (sp:=fun i:Fin 13=>kJ K i.val) fun i=>(yU T i.val).mono (by omega)
 refine T.Bh.okD qj (fun xs Z Q h=>by obtain ⟨p,n,rfl,_⟩:=h;rfl) (fun cdv A outer s H E hr=>⟨_,_,(ag (aB (i:=3) qj.nd rfl (Or.inl rfl) (ay (am K rfl) (bh (aa (aT (aQ cm (aQ bN cn)) ah (ai G_l_draw (hr.mono (by omega)) (by rfl) T.bA T.bE T.bC .nil ar (aa (pv 0) (av ah ae)))) (aa (aT (aQ cm (aQ bN cn)) ah (ai G_l_draw (hr.mono (by omega)) (by rfl) T.bA T.bE T.bC .nil ar (aa (pv 0) (av ah ae)))) (aa (aT (aQ cm (aQ bN cn)) ah (ai G_l_draw (hr.mono (by omega)) (by rfl) T.bA T.bE T.bC .nil ar (aa (pv 0) (av ah ae)))) ae)))) (ai G_l_draw (hr.mono (by omega)) (by rfl) T.bA T.bE T.bC .nil ar (aa (pv 0) (av ah ae))) (fun _ _=>rfl)))
   (aj (aE (ai G_l_grown (hr.mono (by omega)) (by rfl) T.oN T.pe T.oJ .nil ar (aa (pv 0) (aa (pv 1) (aa (pv 3) (aa (ay (am K rfl) (bh (av ah (av ah (av ah ae)))) (ai G_l_draw (hr.mono (by omega)) (by rfl) T.bA T.bE T.bC .nil ar (aa (pv 0) (av ah ae))) (fun _ _=>rfl)) (aa (pv 2) ae))))))))),(au (aH (aq aK (dP (ab (aq dm ak (ap (ab ac (ab ak af)))) (ab (aq dm ak (ap (ab ac (ab ak af)))) (ab (aq dm ak (ap (ab ac (ab ak af)))) af)))) (ap (ab ac (ab ak af)))) ao)
   (aL (ap (ab ac (ab ac (ab ac (ab (aq aK (dP (ab ak (ab ak (ab ak af)))) (ap (ab ac (ab ak af)))) (ab ac af)))))))),fun xs Z Q h=>?_⟩)
 obtain⟨p,n,rfl,hp,hn1,hn,k⟩:=h;walk_at "s1";refine⟨p,4,rfl,hp,by decide,by decide,fun a c a0 a1=>⟨_,rfl,p,14,rfl,bZ,by decide,by decide,fun b c b0 b1=>⟨_,rfl,p,60,rfl,by rw[Om.OE];exact bZ,by decide,by decide,fun d c d0 d1=>⟨_,rfl,p,3,rfl,by rw[Om.OE,Om.OE];exact bZ,by decide,by decide,fun e c e0 e1=>?_⟩⟩⟩⟩
 rw[Om.OE,Om.OE,Om.OE]
 obtain⟨m,m1,m2,em⟩:∃m:Nat,1<=m/\m<=60/\atI [AV.d (D.int (1+a)),AV.d (D.int (1+b)),AV.d (D.int (1+d))] e=some (.d (.int m)):=by
  rcases(by omega:e=0\/e=1\/e=2) with rfl|rfl|rfl
  ·exact⟨(1+a).toNat,by omega,by omega,by rw[Int.toNat_of_nonneg (by omega)];rfl⟩
  ·exact⟨(1+b).toNat,by omega,by omega,by rw[Int.toNat_of_nonneg (by omega)];rfl⟩
  ·exact⟨(1+d).toNat,by omega,by omega,by rw[Int.toNat_of_nonneg (by omega)];rfl⟩
 refine⟨_,rfl,_,em,?_⟩;refine⟨p,3,rfl,bZ,by decide,by decide,fun f c f0 f1=>?_⟩
 rw[Om.OE]
 obtain⟨g,g1,eg⟩:∃g:Fin 13,6<=g.val/\atI [AV.d (D.int 12),AV.d (D.int 6),AV.d (D.int 7)] f=some (.d (.int (g.val:Nat))):=by
  rcases(by omega:f=0\/f=1\/f=2) with rfl|rfl|rfl
  ·exact⟨⟨12,by decide⟩,by decide,rfl⟩
  ·exact⟨⟨6,by decide⟩,by decide,rfl⟩
  ·exact⟨⟨7,by decide⟩,by decide,rfl⟩
 have hg2:2^6<=2^g.val:=Nat.pow_le_pow_right (by decide) g1
 have hg3:=g.isLt;refine⟨_,rfl,_,eg,g,p,n,m,rfl,bZ,hn1,hn,m1,by omega,by omega,fun u c hu hud hul=>⟨_,rfl,?_⟩⟩
 rw[Om.OE,vC hp];exact k u c hu (by omega) (by omega)
noncomputable def lfB:Tr->Bool
 |.lf _=>true
 |.nd _ _ _=>false
theorem wj{u:Tr}{lw:Str}(ho:u.ok lw):∃(ds:List D)(z:Str),u.d=.tup ds/\atI (ds.map AV.d) 0=some (.d (.str z))/\(z=lw↔lfB u=true):=by
 cases u with
 |lf x=>
  refine⟨x,lw,rfl,gG 0 rfl (by rw[List.getElem?_map,ho.1];rfl),by simp[lfB]⟩
 |nd x l r=>
  obtain⟨⟨w0,hw0,hw0n⟩,_⟩:=ho;refine⟨x++[l.d,r.d],w0,rfl,gG 0 rfl ?_,by simp[lfB,hw0n]⟩
  rw[List.getElem?_map,List.getElem?_append_left (List.getElem?_eq_some_iff.mp hw0).1,hw0];rfl
theorem Mx{α:Type}{xs:List α}{a b:α}:atI (xs++[a,b]) (-1)=some b/\atI (xs++[a,b]) (-2)=some a:=by
 constructor
 ·have e:xs++[a,b]=(xs++[a])++[b]:=by simp
  rw[e];exact D6
 ·unfold atI ixN
  rw[if_neg (by decide),if_pos (by simp;omega)]
  show (xs++[a,b])[((-2:Int)+((xs++[a,b]).length:Nat)).toNat]?=some a;have:((-2:Int)+((xs++[a,b]).length:Nat)).toNat=xs.length:=by simp;omega
  rw[this];simp
noncomputable def trs:List Tr->Nat
 | []=>0
 |e::r=>e.size+trs r
theorem gH:∀a b:List Tr,trs (a++b)=trs a+trs b
 | [],b=>by simp[trs]
 |e::a,b=>by simp only[List.cons_append,trs,gH a b];omega
theorem CL:∀a:List Tr,a.length<=trs a
 | []=>by simp[trs]
 |e::a=>by
  have:=CL a;have:=Tr.zk e;simp only[trs,List.length_cons];omega
theorem lq{n:Nat}(h:n<=200000):n<sizeLine:=Nat.lt_of_le_of_lt h (by decide)
theorem N0{a b:Prop}(h:a):if true=true then a else b:=by rw[if_pos rfl];exact h
theorem NS{a b:Prop}(h:b):if false=true then a else b:=by rw[if_neg (by decide)];exact h
theorem Nf{i:Nat}{ρ:SA}{Z:Om}{Q:Bool->Om->Prop}{l:Addr}{xs:List AV}(h1:ρ[i]?=some (some (.r (.ref l))))(h2:Z l=some (.own xs))(q:Q (!xs.isEmpty) Z):LR (gE i) ρ Z Q:=
 ⟨_,h1,_,by rw[Bs,AY,h2];rfl,q⟩
theorem zz{i j:Nat}{R:AS}{D:cB}{ρ:SA}{Z:Om}{l:Addr}{xs:List AV}{y:AV}(h1:ρ[i]?=some (some (.r (.ref l))))(h2:Z l=some (.own (xs++[y])))(q:R D (ρ.set j (some y)) (Z.put l (.own xs))):Au (KY (Ji (gE i)) (dX j)) R D ρ Z:=
 ⟨_,h1,l,xs++[y],y,rfl,h2,by simp,by rw[jH];exact q⟩
theorem KZ{i j:Nat}{D:cB}{ρ:SA}{Z:Om}{l:Addr}{xs:List AV}{y:AV}(h1:ρ[i]?=some (some (.r (.ref l))))(h2:Z l=some (.own xs))(h3:xs.length<sizeLine)(h4:ρ[j]?=some (some y))(q:D.nx ρ (Z.put l (.own (xs++[y])))):uP (lX (gE i) (kf (gE j) wH)) D ρ Z:=
 ⟨_,h1,l,rfl,⟨_,h2⟩,_,h4,xs,y,rfl,h2,h3,q⟩
theorem HN{i j:Nat}{m:Int}{D:cB}{ρ:SA}{Z:Om}{l:Addr}{xs ys:List AV}{x y:AV}(h1:ρ[i]?=some (some (.r (.ref l))))(h2:Z l=some (.own xs))(h3:xs.length<sizeLine)(h4:ρ[j]?=some (some x))(h5:e8 x=some ys)(h6:atI ys (-m)=some y)(q:D.nx ρ (Z.put l (.own (xs++[y])))):uP (lX (gE i) (kf (aOp aIx (gE j) (aUn (aU fun i=>L2.D.int (-i)) (aC (L2.D.int m)))) wH)) D ρ Z:=
 ⟨_,h1,l,rfl,⟨_,h2⟩,_,h4,m,rfl,ys,-m,y,.inr h5,rfl,h6,xs,y,rfl,h2,h3,q⟩
theorem Li{i j:Nat}{T U:AS}{D:cB}{ρ:SA}{Z:Om}{x:AV}{ys:List AV}{z lw:Str}(h1:ρ[j]?=some (some x))(h2:e8 x=some ys)(h3:atI ys 0=some (.d (.str z)))(h4:ρ[i]?=some (some (.d (.str lw))))(q:if z=lw then U D ρ Z else T D ρ Z):HW (uG (aOp (Hf true) (aOp aIx (gE j) (aC (L2.D.int 0))) (gE i))) T U D ρ Z:=
 ⟨_,h1,ys,0,_,.inr h2,rfl,h3,_,h4,_,_,rfl,rfl,by rw[qD];omega,_,rfl,by
  rw[qG];by_cases h:z=lw
  ·rw[if_pos h] at q;rw[if_neg (by simp[h])];exact q
  ·rw[if_neg h] at q;rw[if_pos (by simp[h])];exact q⟩
noncomputable def AN:ASp:=fun xs Z Q=>∃(u:Tr)(lw:Str),xs=[.d u.d,.d (.str lw)]/\u.ok lw/\u.size<=100000/\Q (.d (.lst (u.post.map Tr.d))) Z
theorem mW(T:Txt K mg t):az P w K mg base CX0 1 t.hV t.tB ["tree","leaf"] (bg AN):=by
 refine T.Hg.okD lQ (fun xs Z Q h=>by obtain⟨u,lw,rfl,_⟩:=h;rfl) (fun cdv A outer s H E hr=>⟨_,_,(ag (aB (i:=2) lQ.nd rfl (Or.inl rfl) (bh (aa (pv 0) ae)))
   (ag (aB (i:=3) lQ.nd rfl (Or.inl rfl) (bh ae))
   (ag (nE PassesOwn.never (bd K rfl (pv 2) (fun _=>rfl)) (ag (aB (i:=4) lQ.nd rfl (Or.inl rfl) (hU PySem.F.plainAttrs_list PySem.F.slot_list_pop PySem.F.type_list_pop iG (pv 2)))
   (ag (bO (dn PySem.F.plainAttrs_list PySem.F.slot_list_append PySem.F.type_list_append bc (pv 3) (aa (pv 4) ae)))
   (aj (bv (aN (kT hr.OH) (ay (am K rfl) (pv 4) ah (fun _ _=>rfl)) (pv 1) (aM _)) (ag (bO (dn PySem.F.plainAttrs_list PySem.F.slot_list_append PySem.F.type_list_append bc (pv 2) (aa (ay (am K rfl) (pv 4) (yw rQ ah) (fun _ _=>rfl)) ae)))
   (aj (bO (dn PySem.F.plainAttrs_list PySem.F.slot_list_append PySem.F.type_list_append bc (pv 2) (aa (ay (am K rfl) (pv 4) (yw rQ ah) (fun _ _=>rfl)) ae))))) aW)))))
   (aj (aE (Aw K rfl (pv 3) (yw rQ ah))))))),(au (aH (dJ (ab ac af)) ao)
   (au (aH (dJ af) ao)
   (au (qE (dI ac) (au (aH (mt ac) ao)
   (au (cC (bu ac (ab ac af)))
   (cI (aZ (aq bw (aq aK ac ak) ac)) (au (cC (bu ac (ab (aq aK ac (NP u_i ak)) af)))
   (cC (bu ac (ab (aq aK ac (NP u_i ak)) af)))) bj))))
   (aL (Kz ac))))),fun xs Z Q h=>?_⟩)
 obtain⟨u,lw,rfl,hok,hsz,k⟩:=h;walk_at "s1";intro l1 hl1;walk_at "s1";intro l2 hl2;obtain⟨n21,hl2⟩:=bQ hl2;have n12:=Ne.symm n21;rw[ny];obtain⟨Pv,iP⟩:=JF fun j ρ Z'=>∃(W es:List Tr)(v4:Option AV),ρ=[some (.d u.d),some (.d (.str lw)),some (.r (.ref l1)),some (.r (.ref l2)),v4]/\Z'=om2 Z l1 l2 (.own ((W.map Tr.d).map AV.d)) (.own ((es.map Tr.d).map AV.d))/\(∀e∈W,e.ok lw)/\es++(W.reverse.flatMap Tr.pre)=u.pre/\es.length+trs W<=u.size/\j=trs W
 refine⟨Pv,⟨_,(iP _ _ _).mpr ⟨[u],[],_,rfl,rfl,by simpa using hok,by simp,by simp[trs],rfl⟩⟩,fun j ρ Z' h=>?_⟩
 obtain⟨W,es,v4,rfl,rfl,hW,hE,hS,rfl⟩:=(iP _ _ _).mp h;clear h;have eo:∀A B,(om2 Z l1 l2 A B).only Z=Z:=fun A B=>jF (((Ex.refl Z).over hl1).over hl2);refine Nf rfl (kB n12) ?_;rcases List.eq_nil_or_concat W with rfl|⟨W',e,rfl⟩
 ·simp only[List.reverse_nil,List.flatMap_nil,List.append_nil] at hE
  subst hE;refine NS ⟨_,rfl,_,FR cz,_,rfl,?_⟩;rw[eo,←List.map_reverse,Tr.xn]
  exact k
 ·rw[List.concat_eq_append] at hW hE hS ⊢
  have hWl:=CL W';rw[gH] at hS;simp only[trs,Nat.add_zero] at hS;have hoe:=hW e (List.mem_append_right _ (List.mem_singleton.mpr rfl));have hW':∀e∈W',e.ok lw:=fun e he=>hW e (List.mem_append_left _ he);simp only[List.reverse_append,List.reverse_cons,List.reverse_nil,List.nil_append,List.flatMap_append,List.flatMap_cons,List.flatMap_nil,List.append_nil,List.cons_append] at hE;simp only[List.map_append,List.map_cons,List.map_nil]
  obtain⟨ds,z,ed,ez,hz⟩:=wj hoe;have se:=Tr.zk e;have hs1:es.length<sizeLine:=lq (by omega)
  have elt:∀W2:List Tr,trs W2<e.size->trs (W'++W2)<trs (W'++[e]):=fun W2 h=>by rw[gH,gH];simp only[trs];omega
  have pq:∀(W2:List Tr) v4,trs W2<e.size->(∀x∈W2,x.ok lw)->W2.reverse.flatMap Tr.pre=e.pre.tail->e.pre=e::e.pre.tail->∃m',m'<trs (W'++[e])/\Pv m' [some (.d u.d),some (.d (.str lw)),some (.r (.ref l1)),some (.r (.ref l2)),v4] (om2 Z l1 l2 (.own (((W'++W2).map Tr.d).map AV.d)) (.own ((es.map Tr.d).map AV.d++[.d e.d]))):=fun W2 v4 h1 h2 h3 h4=>
   ⟨_,elt W2 h1,(iP _ _ _).mpr ⟨W'++W2,es++[e],_,rfl,by simp,fun x hx=>(List.mem_append.mp hx).elim (hW' x) (h2 x),by rw[←hE,h4];simp[h3],by rw[gH];simp;omega,rfl⟩⟩
  rw[AD];refine N0 ⟨fun ρ' Z'=>∃m',m'<trs (W'++[e])/\Pv m' ρ' Z',fun ρ' Z' h=>h,zz rfl (kB n12) ?_⟩;rw[jT n12,ny];refine KZ rfl cz (by simpa using hs1) rfl (Li rfl (by rw[ed];rfl) ez rfl ?_)
  rw[cM]
  cases e with
  |lf x=>
   rw[if_pos (hz.mpr rfl),re];have p0:=pq [] (some (.d (Tr.lf x).d)) (by simp[trs,Tr.size]) (by simp) rfl rfl
   simpa using p0
  |nd x a b=>
   obtain⟨_,_,oa,ob⟩:=hoe;have hz':¬ z=lw:=fun h=>by have:=hz.mp h;simp[lfB] at this
   have p0:=pq [a,b] (some (.d (Tr.nd x a b).d)) (by simp only[trs,Tr.size];omega) (by simp[oa,ob]) (by simp[Tr.pre]) rfl
   obtain⟨q1,q2⟩:=Mx (xs:=x.map AV.d) (a:=AV.d a.d) (b:=AV.d b.d);have eds:ds=x++[a.d,b.d]:=by cases ed;rfl
   have l2':W'.length+1<sizeLine:=lq (by omega)
   have tup:e8 (.d (Tr.nd x a b).d)=some (x.map AV.d++[AV.d a.d,AV.d b.d]):=by rw[ed,eds,Av];simp
   rw[if_neg hz',ny];refine HN rfl (kB n12) (lq (by simp;omega)) rfl tup q2 ?_
   rw[jT n12];refine HN rfl (kB n12) (by simpa using l2') rfl tup q1 ?_
   rw[jT n12];simpa using p0
theorem Jj{i j:Nat}{T U:AS}{D:cB}{ρ:SA}{Z:Om}{x:AV}{ys:List AV}{z lw:Str}(h1:ρ[j]?=some (some x))(h2:e8 x=some ys)(h3:atI ys 0=some (.d (.str z)))(h4:ρ[i]?=some (some (.d (.str lw))))(q:if z=lw then T D ρ Z else U D ρ Z):HW (uG (aOp (Hf false) (aOp aIx (gE j) (aC (L2.D.int 0))) (gE i))) T U D ρ Z:=
 ⟨_,h1,ys,0,_,.inr h2,rfl,h3,_,h4,_,_,rfl,rfl,by rw[qD];omega,_,rfl,by
  rw[qG];by_cases h:z=lw
  ·rw[if_pos h] at q;rw[if_pos (by simp[h])];exact q
  ·rw[if_neg h] at q;rw[if_neg (by simp[h])];exact q⟩
theorem Mi{i j m:Nat}{f:Addr}{caps:List V}{cA:List AV}{sp:ASp}{D:cB}{ρ:SA}{Z:Om}{l:Addr}{xs:List AV}{x y:AV}(h1:ρ[i]?=some (some (.r (.ref l))))(h2:Z l=some (.own xs))(h3:xs.length<sizeLine)(h4:ρ[m]?=some (some (AW f caps cA)))(h5:ρ[j]?=some (some x))(h6:∀Q1:AV->Om->Prop,Q1 y Z->sp [x] Z Q1)(q:D.nx ρ (Z.put l (.own (xs++[y])))):uP (lX (gE i) (kf (Ag m f caps cA sp (kf (gE j) wH)) wH)) D ρ Z:=
 ⟨_,h1,l,rfl,⟨_,h2⟩,h4,_,h5,h6 _ ⟨xs,y,rfl,h2,h3,q⟩⟩
theorem Ja{i j j1 j2 m:Nat}{f:Addr}{caps:List V}{cA:List AV}{sp:ASp}{D:cB}{ρ:SA}{Z:Om}{l:Addr}{xs:List AV}{x x1 x2 y:AV}(h1:ρ[i]?=some (some (.r (.ref l))))(h2:Z l=some (.own xs))(h3:xs.length<sizeLine)(h4:ρ[m]?=some (some (AW f caps cA)))(h5:ρ[j]?=some (some x))(h51:ρ[j1]?=some (some x1))(h52:ρ[j2]?=some (some x2))(h6:∀Q1:AV->Om->Prop,Q1 y Z->sp [x,x1,x2] Z Q1)(q:D.nx ρ (Z.put l (.own (xs++[y])))):uP (lX (gE i) (kf (Ag m f caps cA sp (kf (gE j) (kf (gE j1) (kf (gE j2) wH)))) wH)) D ρ Z:=
 ⟨_,h1,l,rfl,⟨_,h2⟩,h4,_,h5,_,h51,_,h52,h6 _ ⟨xs,y,rfl,h2,h3,q⟩⟩
theorem qP(kc:Nat)(T:Txt K mg t):az P w K mg base CX0 (kc+3) t.dh t.gM ["tree","leaf","of_leaf","of_fork"] (l9 kc P w K mg base):=by
 have G_upward:az P w K mg base _ _ _ _ _ _:=mW T;refine T.HF.ok jj (fun vs H Q E h=>?_) (fun cdv A outer s H vs Q E hr h=>?_)
 ·obtain⟨F,Z,Q',v,lw,u,f1,f2,c1,c2,a1,a2,s1,s2,g,rfl,_⟩:=h;rfl
 obtain⟨F,Z,Q',v,lw,u,f1,f2,c1,c2,a1,a2,s1,s2,g,rfl,rp,hv,hok,hsz,C_of_leaf,C_of_fork,r1,r2,k1,k2,q,kq⟩:=h
 have rvs:RVs (cut F H Z) [.d u.d,.d (.str lw),AW f1 c1 a1,AW f2 c2 a2] [v,.str lw,.ref f1,.ref f2]:=
  ⟨_,_,rfl,hv,_,_,rfl,by simp[RV,Dat],_,_,rfl,⟨rfl,fun G' s=>r1.same s⟩,_,_,rfl,⟨rfl,fun G' s=>r2.same s⟩,rfl⟩
 refine⟨_,(ag (aB (i:=4) jj.nd rfl (Or.inl rfl) (bh ae))
   (ag (fq PassesOwn.never rfl (bG K rfl (ai G_upward (hr.mono (by omega)) (by rfl) T.sU T.sD T.si .nil ar (aa (pv 0) (aa (pv 1) ae)))) (aD (i:=5) jj.nd rfl (Or.inl rfl)) (aj (bv (aN (bp hr.OH) (ay (am K rfl) (pv 5) ah (fun _ _=>rfl)) (pv 1) (aM _)) (aj (bO (dn PySem.F.plainAttrs_list PySem.F.slot_list_append PySem.F.type_list_append bc (pv 4) (aa (yz (k:=kc) (n:=1) (i:=2) (hr.mono (by omega)) rfl (Or.inl rfl) (aa (pv 5) ae)) ae)))) (ag (aB (i:=6) jj.nd rfl (Or.inl rfl) (hU PySem.F.plainAttrs_list PySem.F.slot_list_pop PySem.F.type_list_pop iG (pv 4)))
   (ag (aB (i:=7) jj.nd rfl (Or.inl rfl) (hU PySem.F.plainAttrs_list PySem.F.slot_list_pop PySem.F.type_list_pop iG (pv 4)))
   (aj (bO (dn PySem.F.plainAttrs_list PySem.F.slot_list_append PySem.F.type_list_append bc (pv 4) (aa (yz (k:=kc) (n:=3) (i:=3) (hr.mono (by omega)) rfl (Or.inl rfl) (aa (pv 5) (aa (pv 7) (aa (pv 6) ae)))) ae)))))))))
   (aj (aE (ay (am K rfl) (pv 4) ah (fun _ _=>rfl)))))),iN.run ((au (aH (dJ af) ao)
   (au (ja (cx (ap (ab ac (ab ac af)))) ao (cI (aZ (aq bw (aq aK ac ak) ac)) (cC (bu ac (ab (B4 C_of_leaf (ab ac af)) af))) (au (aH (mt ac) ao)
   (au (aH (mt ac) ao)
   (cC (bu ac (ab (B4 C_of_fork (ab ac (ab ac (ab ac af)))) af)))))))
   (aL (aq aK ac ak))))) F H Z _ _ _ { nx:=fun _ Z'=>Q' (.d .non) (Z'.only Z),rt:=fun a Z'=>∃d,a=.d d/\Q' (.d d) (Z'.only Z) } rp (RS.start rvs) ?_ ⟨?_,?_,fun _ _ _ _ _ _ _ z=>z.elim,fun _ _ _ _ _ _ _ z=>z.elim⟩⟩
 ·walk_at "s1"
  intro l hl;walk_at "s1";refine⟨u,lw,rfl,hok,hsz,?_⟩;walk_at "a1";refine nY (fun i ρ Z'=>∃(st:List Tr)(v5 v6 v7:Option AV),ρ=[some (.d u.d),some (.d (.str lw)),some (AW f1 c1 a1),some (AW f2 c2 a2),some (.r (.ref l)),v5,v6,v7]/\Z'=Z.put l (.own ((st.map g).map AV.d))/\Tr.chk u (u.post.drop i) st/\st.length<=i) ⟨[],_,_,_,rfl,rfl,by simpa using Tr.Iq u,Nat.le_refl _⟩ ?_ ?_
  ·rintro i d ρ Z' N hd ⟨st,v5,v6,v7,rfl,rfl,hc,hsl⟩ kN
   obtain⟨e,he,rfl⟩:=L2.eK hd
   have hil:i<100000:=by
    have:=(List.getElem?_eq_some_iff.mp he).1;rw[Tr.nP] at this;omega
   obtain⟨hil2,ev⟩:=List.getElem?_eq_some_iff.mp he;rw[List.drop_eq_getElem_cons hil2,ev] at hc;have hme:=List.mem_of_getElem? he;obtain⟨ds,z,ed,ez,hz⟩:=wj (hok.post e hme);have hs1:st.length<sizeLine:=lq (by omega)
   refine Jj rfl (by rw[ed];rfl) ez rfl ?_
   cases e with
   |lf x=>
    rw[if_pos (hz.mpr rfl)];simp only[Tr.chk] at hc;exact Mi rfl Om.OD (by simpa using hs1) rfl rfl (k1 x hme _) (kN _ _ ⟨st++[.lf x],_,_,_,rfl,by rw[Om.OE];simp,hc,by simp;omega⟩)
   |nd x a b=>
    have hz':¬ z=lw:=fun h=>by have:=hz.mp h;simp[lfB] at this
    simp only[Tr.chk] at hc;obtain⟨st',rfl,hc⟩:=hc;rw[if_neg hz'];have e3:List.map AV.d (List.map g (st'++[a,b]))=(List.map AV.d (List.map g st')++[AV.d (g a)])++[AV.d (g b)]:=by simp
    rw[e3];rw[List.length_append] at hsl hs1;refine zz rfl Om.OD ?_;rw[Om.OE];refine zz rfl Om.OD ?_;rw[Om.OE];refine Ja rfl Om.OD (lq (by simp;omega)) rfl rfl rfl rfl (k2 x a b hme _) ?_
    rw[Om.OE];exact kN _ _ ⟨st'++[.nd x a b],_,_,_,rfl,by simp,hc,by simp at hsl ⊢;omega⟩
  ·rintro ρ Z' ⟨st,v5,v6,v7,rfl,rfl,hc,hsl⟩
   rw[List.length_map,List.drop_length] at hc;simp only[Tr.chk] at hc;subst hc;walk_at "a1";rw[jF ((Ex.refl Z).new hl)];exact q
 ·exact fun ρ' Z' σ' H' e1 e2 e3 q=>kq (.d .non) (Z'.only Z) .non H' e1.only.1 e2.only (by simp[RV,Dat]) q
 ·rintro a Z' v H' e1 e2 e3 ⟨d,rfl,q⟩
  exact kq (.d d) (Z'.only Z) v H' e1.only.1 e2.only (e3.same e1.only.2) q
noncomputable def cq:Sy->Tr
 |.is i b=>.lf [.str "is",.int i,.int b]
 |.jn a l r=>.nd [.str (if a then "and" else "or")] (cq l) (cq r)
theorem mZ:∀x:Sy,(cq x).d=x.d
 |.is i b=>rfl
 |.jn a l r=>by simp[cq,Tr.d,Sy.d,mZ l,mZ r]
theorem jR:∀x:Sy,(cq x).ok "is"
 |.is i b=>⟨rfl,by simp[OJ,noL]⟩
 |.jn a l r=>⟨⟨_,rfl,by cases a<;>decide +kernel⟩,by simp[OJ,noL],jR l,jR r⟩
theorem oZ:∀x:Sy,(cq x).size+1<=2^(x.dp+1)
 |.is i b=>by simp[cq,Tr.size,Sy.dp]
 |.jn a l r=>by
  have h1:=oZ l;have h2:=oZ r;simp only[cq,Tr.size,Sy.dp];have m1:2^(l.dp+1)<=2^(max l.dp r.dp+1):=Nat.pow_le_pow_right (by decide) (by omega)
  have m2:2^(r.dp+1)<=2^(max l.dp r.dp+1):=Nat.pow_le_pow_right (by decide) (by omega)
  have e:2^(1+max l.dp r.dp+1)=2^(max l.dp r.dp+1)+2^(max l.dp r.dp+1):=by rw[Nat.add_comm 1,Nat.pow_succ _ (max l.dp r.dp+1)];omega
  omega
theorem hX{x:Sy}(h:x.dp<=15):(cq x).size<=100000:=by
 have h1:=oZ x;have h2:2^(x.dp+1)<=2^16:=Nat.pow_le_pow_right (by decide) (by omega)
 have h3:2^16=65536:=by decide
 omega
noncomputable def ko:Tr->Sy
 |.lf [_,.int i,.int b]=>.is i b
 |.lf _=>.is 0 0
 |.nd x l r=>.jn (match x with | [.str z]=>z == "and"|_=>false) (ko l) (ko r)
theorem iy:∀x:Sy,ko (cq x)=x
 |.is i b=>rfl
 |.jn a l r=>by
  simp only[cq,ko,iy l,iy r];cases a<;>simp<;>decide +kernel
theorem qy{n:Nat}:∀ {x:Sy} {e:Tr},x.ok n->e∈(cq x).post->∃y:Sy,e=cq y/\y.ok n
 |.is i b,e,h,he=>by simp[cq,Tr.post] at he;exact⟨.is i b,he,h⟩
 |.jn a l r,e,h,he=>by
  simp only[cq,Tr.post,List.mem_append,List.mem_singleton] at he;rcases he with(he|he)|he
  ·exact qy h.1 he
  ·exact qy h.2 he
  ·exact⟨.jn a l r,he,h⟩
theorem F6{n:Nat}{x:Sy}{q:List D}(h:x.ok n)(he:Tr.lf q∈(cq x).post):∃i b,q=[.str "is",.int i,.int b]/\(Sy.is i b).ok n:=by
 obtain⟨y,e,hy⟩:=qy h he
 cases y with
 |is i b=>simp only[cq,Tr.lf.injEq] at e;exact⟨i,b,e,hy⟩
 |jn a l r=>cases e
theorem EO{n:Nat}{x:Sy}{q:List D}{l r:Tr}(h:x.ok n)(he:Tr.nd q l r∈(cq x).post):∃(a:Bool)(l' r':Sy),q=[.str (if a then "and" else "or")]/\l=cq l'/\r=cq r':=by
 obtain⟨y,e,hy⟩:=qy h he
 cases y with
 |is i b=>cases e
 |jn a l' r'=>simp only[cq,Tr.nd.injEq] at e;exact⟨a,l',r',e⟩
noncomputable def mh:Ta->Tr
 |.en i=>.lf [.str "end",.int i]
 |.nd h ws a b=>.nd [.str (if h then "yes" else "no"),.tup (ws.map wdD)] (mh a) (mh b)
theorem oY:∀u:Ta,(mh u).d=u.d
 |.en i=>rfl
 |.nd h ws a b=>by simp[mh,Tr.d,Ta.d,oY a,oY b]
theorem nV:∀u:Ta,(mh u).ok "end"
 |.en i=>⟨rfl,by simp[OJ,noL]⟩
 |.nd h ws a b=>⟨⟨_,rfl,by cases h<;>decide +kernel⟩,by simp[OJ,noL,sM],nV a,nV b⟩
theorem m6:∀u:Ta,(mh u).size=u.size/\(mh u).dp=u.dp/\(mh u).lvs=u.lvs
 |.en i=>⟨rfl,rfl,rfl⟩
 |.nd h ws a b=>by
  obtain⟨a1,a2,a3⟩:=m6 a;obtain⟨b1,b2,b3⟩:=m6 b;simp only[mh,Tr.size,Tr.dp,Tr.lvs,Ta.size,Ta.dp,Ta.lvs,a1,a2,a3,b1,b2,b3,and_self]
noncomputable def El:ASp:=fun xs Z Q=>∃(u:Tr)(lw:Str),xs=[.d u.d,.d (.str lw)]/\u.ok lw/\u.size<=100000/\Q (.d (.int u.dp)) Z
noncomputable def qo(_:List AV):ASp:=fun xs Z Q=>∃x,xs=[x]/\Q (.d (.int 0)) Z
noncomputable def ql(_:List AV):ASp:=fun xs Z Q=>∃(x:AV)(a b:Nat),xs=[x,.d (.int a),.d (.int b)]/\Q (.d (.int (1+max a b:Nat))) Z
theorem uY(T:Txt K mg t):az P w K mg base CX0 6 t.ci t.ig ["tree","leaf"] (bg El):=by
 have G_folded:∀b',az P w K mg b' CX0 4 t.dh t.gM ["tree","leaf","of_leaf","of_fork"] (l9 1 P w K mg b'):=fun b'=>qP 1 T;refine T.eQ.okD vB (fun xs Z Q h=>by obtain⟨u,lw,rfl,_⟩:=h;rfl) (fun A outer s H E hr=>?_)
 refine⟨_,_,(aj (aE (nB G_folded (hr.mono (by omega)) (by rfl) T.nQ T.nJ T.nL (aa (pv 0) (aa (pv 1) (aa (kY (x:="tree_deep") rfl rfl T.eQ.tab T.eQ.hd rfl) (aa (kY (x:="tree_deep") rfl rfl T.eQ.tab T.eQ.hd rfl) ae))))))),(aL (xi (j1:=[]) (j2:=[]) (s1:=qo) (s2:=ql) ?F0 ?F1 ac ac)),fun xs Z Q h=>?main⟩
 case F0=>
  intro b' H f σ caps cA L cb hc hl;obtain rfl:caps=[]:=List.length_eq_zero_iff.mp (hc.1);refine ii (ps:=["part"]) (cs:=[]) L ⟨rfl,rfl,rfl,by decide +kernel,by decide +kernel,by decide +kernel,by decide +kernel⟩ (Fq b') (fun pm c ctv us hl=>match us,hl with | [_],_=>rfl) (fun xs Z Q h=>by obtain⟨x,rfl,_⟩:=h;rfl) (fun cd A outer s H hr=>⟨_,_,ah,ak,fun xs Z Q h=>?_⟩)
  obtain⟨x,rfl,q⟩:=h;walk_at "ab";exact q
 case F1=>
  intro b' H f σ caps cA L cb hc hl;obtain rfl:caps=[]:=List.length_eq_zero_iff.mp (hc.1);refine ii (ps:=["part","first","second"]) (cs:=[]) L ⟨rfl,rfl,rfl,by decide +kernel,by decide +kernel,by decide +kernel,by decide +kernel⟩ (Fq b') (fun pm c ctv us hl=>match us,hl with | [_,_,_],_=>rfl) (fun xs Z Q h=>by obtain⟨x,a,b,rfl,_⟩:=h;rfl) (fun cd A outer s H hr=>⟨_,_,(aT (aQ cm (aQ bN cn)) ah (aG (iZ rfl) (by rfl) T.uK (by kernel_rfl) (aa (pv 1) (aa (pv 2) ae)))),(aq dm ak (bz vO (ab ac (ab ac af)))),fun xs Z Q h=>?_⟩)
  obtain⟨x,a,b,rfl,q⟩:=h;walk_at "ab"
  have em:(1:Int)+(if (b:Int)>(a:Int) then (b:Int) else (a:Int))=(1+max a b:Nat):=by
   split<;>omega
  rw[em];exact q
 case main=>
  obtain⟨u,lw,rfl,ho,hs,k⟩:=h;walk_at "ab";refine⟨u,rfl,ho,hs,fun e=>.int e.dp,[],rfl,[],rfl,fun x _ Z1 Q1 q=>⟨_,rfl,q⟩,fun x l r _ Z1 Q1 q=>⟨_,l.dp,r.dp,rfl,q⟩,?_⟩;rw[ax];exact k
noncomputable def xY:ASp:=fun xs Z Q=>∃(u:Tr)(lw:Str),xs=[.d u.d,.d (.str lw)]/\u.ok lw/\u.size<=100000/\Q (.d (.int u.lvs)) Z
theorem rH:∀u:Tr,(u.post.filter lfB).length=u.lvs
 |.lf x=>rfl
 |.nd x l r=>by simp[Tr.post,Tr.lvs,lfB,rH l,rH r,List.filter_cons]
theorem pU(T:Txt K mg t):az P w K mg base CX0 2 t.cJ t.iQ ["tree","leaf"] (bg xY):=by
 have G_upward:az P w K mg base _ _ _ _ _ _:=mW T;refine T.t4.okD rZ (fun xs Z Q h=>by obtain⟨u,lw,rfl,_⟩:=h;rfl) (fun cdv A outer s H E hr=>⟨_,_,(aj (aE (aG (ba K rfl) (by rfl) T.dH (by kernel_rfl) (aa (bF (N:=(["part","leaf"]:List Str)) (src:=[none,some 1]) rfl (by show cg _ (defScope fG) _ _ (["tree","leaf"]:List Str)=true;decide +kernel) (by intro g' h;cases h) (bG K rfl (ai G_upward (hr.mono (by omega)) (by rfl) T.sU T.sD T.si .nil ar (aa (pv 0) (aa (pv 1) ae)))) (fun _ _ _ _ _ _=>(aD (i:=0) (show (["part","leaf"]:List Str).Nodup by decide +kernel) rfl (Or.inl rfl))) (fun _ _ _ _ _ _=>(lH (aN (bp hr.OH) (ay (am K rfl) (pv 0) ah (fun _ _=>rfl)) (pv 1) (aM _)))) (fun _ _ _ _ _ _=>(bq rfl rfl (pv 0)))) ae)))),(aL (bz eA (ab (bW (cx (ap (ab ac (ab ac af)))) ao (aZ (aq bw (aq aK ac ak) ac)) (bS ac)) af))),fun xs Z Q h=>?_⟩)
 obtain⟨u,lw,rfl,ho,hs,k⟩:=h;walk_at "ab";refine⟨u,lw,rfl,ho,hs,?_⟩;walk_at "ab";have hpl:=Tr.nP u;refine sJ (fun i xs ρ Z'=>Z'=Z/\(∃v0,ρ=[v0,some (.d (.str lw))])/\xs=(((u.post.take i).filter lfB).map Tr.d).map AV.d) ⟨rfl,⟨_,rfl⟩,rfl⟩ ?_ ?_
 ·rintro i d xs ρ Z' N hd ⟨rfl,⟨v0,rfl⟩,rfl⟩ kN
  obtain⟨e,he,rfl⟩:=eK hd;obtain⟨hil,ev⟩:=List.getElem?_eq_some_iff.mp he;obtain⟨ds,z,ed,ez,hz⟩:=wj (ho.post e (List.mem_of_getElem? he));have et:u.post.take (i+1)=u.post.take i++[e]:=by rw[List.take_succ,he];rfl
  have hl : ((u.post.take i).filter lfB).length < sizeLine:=lq (by
   have:=List.length_filter_le lfB (u.post.take i);rw[List.length_take] at this
   omega)
  have n1:=fun h:lfB e=true=>kN (((u.post.take i).filter lfB).map Tr.d |>.map AV.d |> (·++[AV.d e.d])) [some (.d e.d),some (.d (.str lw))] Z' ⟨rfl,⟨_,rfl⟩,by rw[et,List.filter_append];simp[h]⟩
  have n2:=fun h:lfB e=false=>kN _ [some (.d e.d),some (.d (.str lw))] Z' ⟨rfl,⟨_,rfl⟩,show (((u.post.take i).filter lfB).map Tr.d).map AV.d=_ by rw[et,List.filter_append];simp[h]⟩
  rw[ed] at n1 n2 ⊢;walk_at "ab";rw[ez];walk_at "ab";refine mj (fun h=>⟨hl,n1 (hz.mp h)⟩) (fun h=>n2 ?_)
  cases z2:lfB e with
  |false=>rfl
  |true=>exact absurd (hz.mpr z2) h
 ·rintro xs ρ Z' ⟨rfl,_,rfl⟩
  rw[List.length_map,List.take_length];refine⟨_,aS _,?_⟩;rw[ax,List.length_map,rH];exact k
theorem wa:∀x:Sy,(cq x).dp=x.dp/\(cq x).lvs=x.lvs
 |.is _ _=>⟨rfl,rfl⟩
 |.jn _ l r=>by
  obtain⟨a,b⟩:=wa l;obtain⟨c,d⟩:=wa r;exact⟨by simp only[cq,Tr.dp,Sy.dp,a,c],by simp only[cq,Tr.lvs,Sy.lvs,b,d]⟩
noncomputable def wU:ASp:=fun xs Z Q=>∃(u:Ta),xs=[.d u.d]/\u.size<=100000/\Q (.d (.int u.dp)) Z
theorem xf(T:Txt K mg t):az P w K mg base CX0 7 t.dr t.kX ["talk"] (bg wU):=by
 have G_tree_deep:az P w K mg base _ _ _ _ _ _:=uY T;refine T.yh.okD wq (fun xs Z Q h=>by obtain⟨u,rfl,_⟩:=h;rfl) (fun cdv A outer s H E hr=>⟨_,_,(aj (aE (ai G_tree_deep (hr.mono (by omega)) (by rfl) T.qe T.qk T.iu .nil ar (aa (pv 0) (av aO ae))))),(aL (ap (ab ac (ab be af)))),fun xs Z Q h=>?_⟩)
 obtain⟨u,rfl,hs,k⟩:=h;walk_at "a1";exact⟨mh u,"end",by rw[oY],nV u,by rw[(m6 u).1];exact hs,_,rfl,by rw[ax,(m6 u).2.1];exact k⟩
noncomputable def rX:ASp:=fun xs Z Q=>∃(u:Ta),xs=[.d u.d]/\u.size<=100000/\Q (.d (.int u.lvs)) Z
theorem rD(T:Txt K mg t):az P w K mg base CX0 3 t.cG t.iI ["talk"] (bg rX):=by
 have G_tree_leaves:az P w K mg base _ _ _ _ _ _:=pU T;refine T.t9.okD rV (fun xs Z Q h=>by obtain⟨u,rfl,_⟩:=h;rfl) (fun cdv A outer s H E hr=>⟨_,_,(aj (aE (ai G_tree_leaves (hr.mono (by omega)) (by rfl) T.mD T.mF T.mo .nil ar (aa (pv 0) (av aO ae))))),(aL (ap (ab ac (ab be af)))),fun xs Z Q h=>?_⟩)
 obtain⟨u,rfl,hs,k⟩:=h;walk_at "a1";exact⟨mh u,"end",by rw[oY],nV u,by rw[(m6 u).1];exact hs,_,rfl,by rw[ax,(m6 u).2.2];exact k⟩
noncomputable def HY:ASp:=fun xs Z Q=>∃(u:Sy),xs=[.d u.d]/\u.dp<=15/\Q (.d (.int u.dp)) Z
theorem Bt(T:Txt K mg t):az P w K mg base CX0 7 t.ni t.zY ["saying"] (bg HY):=by
 have G_tree_deep:az P w K mg base _ _ _ _ _ _:=uY T;refine T.MK.okD Jl (fun xs Z Q h=>by obtain⟨u,rfl,_⟩:=h;rfl) (fun cdv A outer s H E hr=>⟨_,_,(aj (aE (ai G_tree_deep (hr.mono (by omega)) (by rfl) T.qe T.qk T.iu .nil ar (aa (pv 0) (av aO ae))))),(aL (ap (ab ac (ab be af)))),fun xs Z Q h=>?_⟩)
 obtain⟨u,rfl,hs,k⟩:=h;walk_at "a1";exact⟨cq u,"is",by rw[mZ],jR u,hX hs,_,rfl,by rw[ax,(wa u).1];exact k⟩
noncomputable def DH:ASp:=fun xs Z Q=>∃(u:Sy),xs=[.d u.d]/\u.dp<=15/\Q (.d (.int u.lvs)) Z
theorem vd(T:Txt K mg t):az P w K mg base CX0 3 t.g7 t.sK ["saying"] (bg DH):=by
 have G_tree_leaves:az P w K mg base _ _ _ _ _ _:=pU T;refine T.Fj.okD Dc (fun xs Z Q h=>by obtain⟨u,rfl,_⟩:=h;rfl) (fun cdv A outer s H E hr=>⟨_,_,(aj (aE (ai G_tree_leaves (hr.mono (by omega)) (by rfl) T.mD T.mF T.mo .nil ar (aa (pv 0) (av aO ae))))),(aL (ap (ab ac (ab be af)))),fun xs Z Q h=>?_⟩)
 obtain⟨u,rfl,hs,k⟩:=h;walk_at "a1";exact⟨cq u,"is",by rw[mZ],jR u,hX hs,_,rfl,by rw[ax,(wa u).2];exact k⟩
structure gP(n:Nat)(x:Sy)(ys zs:List (List Int)):Prop where
 y:Wds n ys
 z:Wds n zs
 vy:∀v∈ys,x.val v=true
 vz:∀v∈zs,x.val v=false
 y1:ys≠[]
 z1:zs≠[]
theorem gP.sub{n:Nat}{x:Sy}{ys zs ys' zs':List (List Int)}(h:gP n x ys zs)(sy:ys'.Sublist ys)(sz:zs'.Sublist zs)(y1:ys'≠[])(z1:zs'≠[]):gP n x ys' zs':=
 ⟨⟨sy.nodup h.y.1,fun w hw=>h.y.2 w (sy.mem hw)⟩,⟨sz.nodup h.z.1,fun w hw=>h.z.2 w (sz.mem hw)⟩,fun v hv=>h.vy v (sy.mem hv),fun v hv=>h.vz v (sz.mem hv),y1,z1⟩
noncomputable def bX(ys zs:List (List Int)):Sy->Ta
 |.is i _=>.en i
 |.jn an l r=>if an then .nd false (zs.filter fun v=>l.val v) (bX ys zs l) (bX ys zs r) else .nd true (ys.filter fun v=>!l.val v) (bX ys zs l) (bX ys zs r)
theorem pL{n:Nat}{ys zs:List (List Int)}(hy:Wds n ys)(hz:Wds n zs):∀ {x:Sy},x.ok n->(bX ys zs x).ok n/\(bX ys zs x).dp=x.dp/\(bX ys zs x).size+1=2*x.lvs
 |.is i b,h=>⟨⟨h.1,h.2.1⟩,rfl,rfl⟩
 |.jn an l r,h=>by
  obtain⟨a1,a2,a3⟩:=pL hy hz h.1;obtain⟨b1,b2,b3⟩:=pL hy hz h.2;cases an<;>simp only[bX,if_true,if_false,Bool.false_eq_true,Ta.ok,Ta.dp,Ta.size,Sy.dp,Sy.lvs,a2,b2,and_true,true_and]
  ·exact⟨⟨⟨List.filter_sublist.nodup hy.1,fun w hw=>hy.2 w (List.mem_filter.mp hw).1⟩,a1,b1⟩,by omega⟩
  ·exact⟨⟨⟨List.filter_sublist.nodup hz.1,fun w hw=>hz.2 w (List.mem_filter.mp hw).1⟩,a1,b1⟩,by omega⟩
theorem gL{n:Nat}{ys zs:List (List Int)}{y z:List Int}(hy:y∈ys)(hz:z∈zs)(hz1:z∈wl n):∀ {x:Sy},x.ok n->x.val y=true->x.val z=false ->
  (y.getD (Ta.fin y z (bX ys zs x)).toNat 0≠z.getD (Ta.fin y z (bX ys zs x)).toNat 0)/\(x.up->y.getD (Ta.fin y z (bX ys zs x)).toNat 0=1/\z.getD (Ta.fin y z (bX ys zs x)).toNat 0=0)
 |.is i b,h,v1,v2=>by
  simp only[Sy.val,decide_eq_true_eq,decide_eq_false_iff_not] at v1 v2;simp only[bX,Ta.fin];refine⟨fun e=>v2 (e.symm.trans v1),fun hu=>?_⟩;simp only[Sy.up] at hu;subst hu;exact⟨v1,(iV hz1 i.toNat).resolve_right v2⟩
 |.jn an l r,h,v1,v2=>by
  cases an with
  |false=>
   simp only[Sy.val,if_false,Bool.false_eq_true,Bool.or_eq_true,Bool.or_eq_false_iff] at v1 v2;simp only[bX,if_false,Bool.false_eq_true,Ta.fin,Ta.bit,if_true,List.mem_filter,hy,true_and]
   cases hl:l.val y with
   |true=>
    obtain⟨e1,e2⟩:=gL hy hz hz1 h.1 hl v2.1;simpa using⟨e1,fun hu=>e2 hu.1⟩
   |false=>
    have hr:r.val y=true:=v1.resolve_left (by rw[hl];simp)
    obtain⟨e1,e2⟩:=gL hy hz hz1 h.2 hr v2.2;simpa using⟨e1,fun hu=>e2 hu.2⟩
  |true=>
   simp only[Sy.val,if_true,Bool.and_eq_true,Bool.and_eq_false_iff] at v1 v2;simp only[bX,if_true,Ta.fin,Ta.bit,if_false,Bool.false_eq_true,List.mem_filter,hz,true_and]
   cases hl:l.val z with
   |false=>
    obtain⟨e1,e2⟩:=gL hy hz hz1 h.1 v1.1 hl;simpa using⟨e1,fun hu=>e2 hu.1⟩
   |true=>
    have hr:r.val z=false:=v2.resolve_left (by rw[hl];simp)
    obtain⟨e1,e2⟩:=gL hy hz hz1 h.2 v1.2 hr;simpa using⟨e1,fun hu=>e2 hu.2⟩
noncomputable def Lg:ASp:=fun xs Z Q=>∃(x:Sy)(wd:List Int),xs=[.d x.d,.d (wdD wd)]/\x.ok wd.length/\x.dp<=15/\Q (.d (.int (b01 (x.val wd)))) Z
noncomputable def xH(cA:List AV):ASp:=fun xs Z Q=>∃(i b:Int)(wd:List Int),cA=[.d (wdD wd)]/\xs=[.d (Sy.is i b).d]/\(Sy.is i b).ok wd.length/\Q (.d (.int (b01 ((Sy.is i b).val wd)))) Z
noncomputable def pW(_:List AV):ASp:=fun xs Z Q=>∃(a:Bool)(l r:D)(x y:Bool),xs=[.d (.tup [.str (if a then "and" else "or"),l,r]),.d (.int (b01 x)),.d (.int (b01 y))]/\Q (.d (.int (b01 (if a then x && y else x || y)))) Z
theorem sq(T:Txt K mg t):az P w K mg base CX0 6 t.fI t.qx ["saying","word"] (bg Lg):=by
 have G_folded:∀b',az P w K mg b' CX0 4 t.dh t.gM ["tree","leaf","of_leaf","of_fork"] (l9 1 P w K mg b'):=fun b'=>qP 1 T;refine T.lm.okD GF (fun xs Z Q h=>by obtain⟨x,wd,rfl,_⟩:=h;rfl) (fun A outer s H E hr=>?_)
 refine⟨_,_,(aj (aE (nB G_folded (hr.mono (by omega)) (by rfl) T.nQ T.nJ T.nL (aa (pv 0) (av aO (aa (kY (x:="value") rfl rfl T.lm.tab T.lm.hd rfl) (aa (kY (x:="value") rfl rfl T.lm.tab T.lm.hd rfl) ae))))))),(aL (xi (j1:=[1]) (j2:=[]) (s1:=xH) (s2:=pW) ?F0 ?F1 ac be)),fun xs Z Q h=>?main⟩
 case F0=>
  intro b' H f σ caps cA L cb hc hl;obtain⟨v,rfl⟩:∃v,caps=[v]:=List.length_eq_one_iff.mp hc.1;obtain⟨wc,wu,hwc,hcell,hrel⟩:=cb 1 "word" v rfl (hc.2 0 1 v rfl rfl) rfl rfl;obtain rfl:s.heap.objs.size+1=wc:=Option.some.inj hwc;refine ii (ps:=["leaf"]) (cs:=["word"]) L ⟨rfl,rfl,rfl,by decide +kernel,by decide +kernel,by decide +kernel,by decide +kernel⟩ (Be hcell hrel) (fun pm c ctv us hl=>match us,hl with | [_],_=>rfl) (fun xs Z Q h=>by obtain⟨i,b,m,_,rfl,_⟩:=h;rfl) (fun cd A outer s H hr=>⟨_,_,(k6 (aN (bp hr.OH) (ay (am K rfl) (pv 1) (ay (am K rfl) (pv 0) ah (fun _ _=>rfl)) (fun _ _=>rfl)) (ay (am K rfl) (pv 0) ah (fun _ _=>rfl)) (aM _)) ah ah),(EA (aZ (aq bw (aq aK ac (aq aK ac ak)) (aq aK ac ak))) ak ak),fun xs Z Q h=>?_⟩)
  obtain⟨i,b,wd,rfl,rfl,⟨i0,i1,hb⟩,q⟩:=h;simp only[Sy.d];walk_at "ab";obtain⟨y,my,hy,ey⟩:=Cg (f:=AV.d ∘ D.int) (xs:=wd) i0 i1;rw[←List.map_map] at ey
  refine⟨_,ey,_,rfl,by simp[dep],?_⟩
  have ev:wd.getD i.toNat 0=y:=by rw[List.getD_eq_getElem?_getD,hy];rfl
  simp only[Sy.val,ev] at q;by_cases h:y=b
  ·simpa[h,b01,lx] using q
  ·simpa[h,b01,lx] using q
 case F1=>
  intro b' H f σ caps cA L cb hc hl;obtain rfl:caps=[]:=List.length_eq_zero_iff.mp (hc.1);refine ii (ps:=["part","one","other"]) (cs:=[]) L ⟨rfl,rfl,rfl,by decide +kernel,by decide +kernel,by decide +kernel,by decide +kernel⟩ (Fq b') (fun pm c ctv us hl=>match us,hl with | [_,_,_],_=>rfl) (fun xs Z Q h=>by obtain⟨a,l,r,x,y,rfl,_⟩:=h;rfl) (fun cd A outer s H hr=>⟨_,_,(k6 (aN (bp hr.OH) (ay (am K rfl) (pv 0) ah (fun _ _=>rfl)) aO (aM _)) (aG (lV rfl) (by rfl) T.zb (by kernel_rfl) (aa (pv 1) (aa (pv 2) ae))) (aG (iZ rfl) (by rfl) T.uK (by kernel_rfl) (aa (pv 1) (aa (pv 2) ae)))),(EA (aZ (aq bw (aq aK ac ak) be)) (bz vO (ab ac (ab ac af))) (bz vO (ab ac (ab ac af)))),fun xs Z Q h=>?_⟩)
  obtain⟨a,l,r,x,y,rfl,q⟩:=h;cases a
  ·simp only[if_false,Bool.false_eq_true] at q ⊢
   walk_at "ab";rw[show (if b01 y>b01 x then b01 y else b01 x)=b01 (x || y) from by cases x<;>cases y<;>rfl]
   exact q
  ·simp only[if_true] at q ⊢
   walk_at "ab";rw[show (if b01 y<b01 x then b01 y else b01 x)=b01 (x && y) from by cases x<;>cases y<;>rfl]
   exact q
 case main=>
  obtain⟨x,wd,rfl,hx,hd,k⟩:=h;walk_at "ab";refine⟨cq x,(mZ x).symm,jR x,hX hd,fun e=>.int (b01 ((ko e).val wd)),_,rfl,[],rfl,fun q he Z1 Q1 h=>?_,fun q l r he Z1 Q1 h=>?_,?_⟩
  ·obtain⟨i,b,rfl,ho⟩:=F6 hx he
   exact⟨i,b,wd,rfl,rfl,ho,h⟩
  ·obtain⟨a,l',r',rfl,rfl,rfl⟩:=EO hx he
   have h:Q1 (.d (.int (b01 ((ko (cq (.jn a l' r'))).val wd)))) Z1:=h;rw[iy] at h;show pW [] [_,.d (.int (b01 ((ko (cq l')).val wd))),.d (.int (b01 ((ko (cq r')).val wd)))] Z1 Q1;rw[iy,iy];exact⟨a,(cq l').d,(cq r').d,_,_,rfl,h⟩
  ·rw[ax]
   show Q (.d (.int (b01 ((ko (cq x)).val wd)))) Z;rw[iy];exact k
theorem xc{α:Type}{p:α->Bool}:∀ {ws:List α} {i:Nat} {v:α},ws[i]?=some v->(∀u∈ws.take i,p u=false)->p v=true->ws.find? p=some v
 | [],_,_,h,_,_=>by simp at h
 |a::ws,0,v,h,_,hp=>by simp at h;subst h;simp[hp]
 |a::ws,i+1,v,h,ha,hp=>by
  have h0:=ha a (by simp)
  rw[List.find?_cons,h0];exact xc (i:=i) (by simpa using h) (fun u hu=>ha u (by simp[hu])) hp
noncomputable def At(x:Sy)(ys zs:List (List Int)):D:=match ys.find? (fun v=>!x.val v) with
 |some v=>.tup [.str "yes",wdD v]
 |none=>match zs.find? (fun v=>x.val v) with
  |some v=>.tup [.str "no",wdD v]
  |none=>.non
noncomputable def DR(x:Sy)(ys zs:List (List Int)):Bool:=(ys.find? fun v=>!x.val v).isNone && (zs.find? fun v=>x.val v).isNone
noncomputable def A7:ASp:=fun xs Z Q=>∃(n:Nat) (ys zs:List (List Int)) (x:Sy),xs=[.d (csD n ys zs),.d x.d]/\Wds n ys/\Wds n zs/\x.ok n/\x.dp<=15/\Q (.d (At x ys zs)) Z
theorem rK(T:Txt K mg t):az P w K mg base CX0 7 t.gR t.tz ["case","saying"] (bg A7):=by
 have G_value:az P w K mg base _ _ _ _ _ _:=sq T
 refine T.FD.okD pE (fun xs Z Q h=>by obtain ⟨n,ys,zs,x,rfl,_⟩:=h;rfl) (fun cdv A outer s H E hr=>⟨_,_,(ag (fq PassesOwn.never rfl (bG K rfl (ay (am K rfl) (pv 0) ah (fun _ _=>rfl))) (aD (i:=2) pE.nd rfl (Or.inl rfl)) (aj (bv (aN (bp hr.OH) (ai G_value (hr.mono (by omega)) (by rfl) T.fL T.fJ T.dR .nil ar (aa (pv 1) (aa (pv 2) ae))) ah (aM _)) (aj (aE (aV (av aO (aa (pv 2) ae))))) aW)))
   (ag (fq PassesOwn.never rfl (bG K rfl (ay (am K rfl) (pv 0) ah (fun _ _=>rfl))) (aD (i:=2) pE.nd rfl (Or.inl rfl)) (aj (bv (aN (bp hr.OH) (ai G_value (hr.mono (by omega)) (by rfl) T.fL T.fJ T.dR .nil ar (aa (pv 1) (aa (pv 2) ae))) ah (aM _)) (aj (aE (aV (av aO (aa (pv 2) ae))))) aW)))
   (aj (aE kG)))),(au (ja (cx (aq aK ac ak)) ao (cI (aZ (aq bw (ap (ab ac (ab ac af))) ak)) (aL (bo (ab be (ab ac af)))) bj))
   (au (ja (cx (aq aK ac ak)) ao (cI (aZ (aq bw (ap (ab ac (ab ac af))) ak)) (aL (bo (ab be (ab ac af)))) bj))
   (aL qd))),fun xs Z Q h=>?_⟩)
 obtain⟨n,ys,zs,x,rfl,hy,hz,hx,hd,k⟩:=h;have okv:∀ws,Wds n ws->∀v∈ws,x.ok v.length:=fun ws h v hv=>by rw[(cu (h.2 v hv)).1];exact hx
 have tk:∀ {ws:List (List Int)} {i:Nat} {v:List Int} {p:List Int->Bool},ws[i]?=some v->(∀u∈ws.take i,p u=false)->p v=false->∀u∈ws.take (i+1),p u=false:=fun {ws i v p} hv ha hb u hu=>by
  rw[List.take_succ,hv] at hu;rcases List.mem_append.mp hu with h|h
  ·exact ha u h
  ·simp at h;subst h;exact hb
 simp only[csD];walk_at "s1";refine nY (fun i ρ Z'=>Z'=Z/\(∀u∈ys.take i,(!x.val u)=false)/\∃v2,ρ=[some (.d (csD n ys zs)),some (.d x.d),v2]) ⟨rfl,fun u hu=>by simp at hu,_,rfl⟩ ?_ ?_
 ·rintro i d ρ Z' N hd' ⟨rfl,ha,v2,rfl⟩ kN
  obtain⟨v,hv,rfl⟩:=L2.eK hd';have hvm:=List.mem_of_getElem? hv;walk_at "a1";refine⟨x,v,rfl,okv ys hy v hvm,hd,?_⟩
  cases hval:x.val v with
  |true=>
   refine⟨_,rfl,by simp[dep],?_⟩
   rw[if_neg (by decide)]
   exact kN _ _ ⟨rfl,tk (p:=fun v=>!x.val v) hv ha (by simp[hval]),_,rfl⟩
  |false=>
   refine⟨_,rfl,by simp[dep],?_⟩
   rw[if_pos (by decide),ax]
   have:=xc (p:=fun v=>!x.val v) hv ha (by simp[hval])
   simp only[At,this] at k;exact k
 rintro ρ Z' ⟨rfl,ha,v2,rfl⟩;rw[List.length_map,List.take_length] at ha;have e1:ys.find? (fun v=>!x.val v)=none:=List.find?_eq_none.mpr fun u hu=>by simpa using ha u hu
 simp only[At,e1] at k;simp only[csD];walk_at "s1";refine nY (fun i ρ Z2=>Z2=Z'/\(∀u∈zs.take i,x.val u=false)/\∃v2,ρ=[some (.d (csD n ys zs)),some (.d x.d),v2]) ⟨rfl,fun u hu=>by simp at hu,_,rfl⟩ ?_ ?_
 ·rintro i d ρ Z' N hd' ⟨rfl,hb,v2,rfl⟩ kN
  obtain⟨v,hv,rfl⟩:=L2.eK hd';have hvm:=List.mem_of_getElem? hv;walk_at "a1";refine⟨x,v,rfl,okv zs hz v hvm,hd,?_⟩
  cases hval:x.val v with
  |false=>
   refine⟨_,rfl,by simp[dep],?_⟩
   rw[if_neg (by decide)]
   exact kN _ _ ⟨rfl,tk (p:=fun v=>x.val v) hv hb hval,_,rfl⟩
  |true=>
   refine⟨_,rfl,by simp[dep],?_⟩
   rw[if_pos (by decide),ax]
   have:=xc (p:=fun v=>x.val v) hv hb hval;simp only[this] at k;exact k
 rintro ρ Z' ⟨rfl,hb,v2,rfl⟩;rw[List.length_map,List.take_length] at hb;have e2:zs.find? (fun v=>x.val v)=none:=List.find?_eq_none.mpr fun u hu=>by simpa using hb u hu
 simp only[e2] at k;walk_at "a1";rw[ax];exact k
noncomputable def DZ:ASp:=fun xs Z Q=>∃(n:Nat) (ys zs:List (List Int)) (x:Sy),xs=[.d (csD n ys zs),.d x.d]/\Wds n ys/\Wds n zs/\x.ok n/\x.dp<=15/\Q (.d (.bl (DR x ys zs))) Z
theorem vt(T:Txt K mg t):az P w K mg base CX0 8 t.iD t.qA ["case","saying"] (bg DZ):=by
 have G_missed:az P w K mg base _ _ _ _ _ _:=rK T;refine T.IM.okD Ho (fun xs Z Q h=>by obtain⟨n,ys,zs,x,rfl,_⟩:=h;rfl) (fun cdv A outer s H E hr=>⟨_,_,(aj (aE (bU px (ai G_missed (hr.mono (by omega)) (by rfl) T.sw T.sL T.rP .nil ar (aa (pv 0) (aa (pv 1) ae))) kG (aM _)))),(aL (aq vk (ap (ab ac (ab ac af))) qd)),fun xs Z Q h=>?_⟩)
 obtain⟨n,ys,zs,x,rfl,hy,hz,hx,hd,k⟩:=h;walk_at "a1";refine⟨n,ys,zs,x,rfl,hy,hz,hx,hd,?_⟩;unfold DR at k;unfold At
 cases e1:ys.find? (fun v=>!x.val v) with
 |some v=>
  rw[e1] at k;refine⟨_,rfl,?_⟩;rw[ax];exact k
 |none=>
  rw[e1] at k
  cases e2:zs.find? (fun v=>x.val v) with
  |some v=>
   rw[e2] at k;refine⟨_,rfl,?_⟩;rw[ax];exact k
  |none=>
   rw[e2] at k;refine⟨_,rfl,?_⟩;rw[ax];exact k
theorem JJ{n:Nat}{x:Sy}{ys zs:List (List Int)}(h:gP n x ys zs):DR x ys zs=true/\At x ys zs=.non:=by
 have e1:ys.find? (fun v=>!x.val v)=none:=List.find?_eq_none.mpr fun u hu=>by simp[h.vy u hu]
 have e2:zs.find? (fun v=>x.val v)=none:=List.find?_eq_none.mpr fun u hu=>by simp[h.vz u hu]
 simp[DR,At,e1,e2]
noncomputable def ES:ASp:=fun xs Z Q=>∃(n:Nat) (ys zs:List (List Int)) (x:Sy),xs=[.d (csD n ys zs),.d x.d]/\gP n x ys zs/\x.ok n/\x.dp<=15/\Q (.d (.bl true)) Z
theorem su(T:Txt K mg t):az P w K mg base CX0 8 t.iD t.qA ["case","saying"] (bg ES):=
 (vt T).weak fun xs Z Q ⟨n,ys,zs,x,e,hp,hx,hd,k⟩=>⟨n,ys,zs,x,e,hp.y,hp.z,hx,hd,by rw[(JJ hp).1];exact k⟩
noncomputable def JK:ASp:=fun xs Z Q=>∃(ws:List (List Int)) (f:List Int->Bool) (b:Bool),xs=[.d (.tup (ws.map wdD)),.d (.lst ((ws.map fun v=>b01 (f v)).map D.int)),.d (.int (b01 b))]/\ws.length<=32/\Q (.d (.tup ((ws.filter fun v=>f v == b).map wdD))) Z
theorem qV{f:List Int->Bool}{b:Bool}:∀ {ws:List (List Int)},((ws.zip (ws.map fun v=>b01 (f v))).filter fun q=>decide (q.2=b01 b)).map (fun q=>wdD q.1)=(ws.filter fun v=>f v == b).map wdD
 | []=>rfl
 |v::ws=>by
  rw[List.map_cons,List.zip_cons_cons,List.filter_cons,List.filter_cons];have e:decide (b01 (f v)=b01 b)=(f v == b):=by cases f v<;>cases b<;>rfl
  simp only[e];split
  ·rw[List.map_cons,List.map_cons,qV]
  ·exact qV
theorem IN(T:Txt K mg t):az P w K mg base CX0 1 t.cU t.jX ["words","values","bit"] (bg JK):=by
 refine T.wQ.okD t6 (fun xs Z Q h=>by obtain⟨ws,f,b,rfl,_⟩:=h;rfl) (fun cdv A outer s H E hr=>⟨_,_,(aj (aE (bt (a9 K rfl) (by rfl) T.cX (by kernel_rfl) (aa (bF (N:=(["word","found","bit"]:List Str)) (src:=[none,none,some 2]) rfl (by show cg _ (defScope f9) _ _ (["words","values","bit"]:List Str)=true;decide +kernel) (by intro g' h;cases h) (vP K rfl (by rfl) T.GS (aa (pv 0) (aa (pv 1) ae))) (fun _ _ _ _ _ _=>(dS K rfl (n:=2) rfl (aX (aD (i:=0) (show (["word","found","bit"]:List Str).Nodup by decide +kernel) rfl (Or.inl rfl)) (aX (aD (i:=1) (show (["word","found","bit"]:List Str).Nodup by decide +kernel) rfl (Or.inl rfl)) dQ)))) (fun _ _ _ _ _ _=>(lH (aN (bp hr.OH) (pv 1) (pv 2) (aM _)))) (fun _ _ _ _ _ _=>(bq rfl rfl (pv 0)))) ae)))),(aL (bz dA (ab (bW (EB (ab ac (ab ac af))) (kb (bH ao (bH ao kg))) (aZ (aq bw ac ac)) (bS ac)) af))),fun xs Z Q h=>?_⟩)
 obtain⟨ws,f,b,rfl,hl,k⟩:=h;walk_at "a1";refine I9 wdD D.int (fun q=>decide (q.2=b01 b)) (fun q=>wdD q.1) (Nat.le_of_lt (a7 (by omega))) (fun q hq Q r=>?_) (fun q hq _ Q r=>?_) (fun ρ=>⟨_,aS _,?_⟩)
 ·walk_at "a1"
  rw[show (q.2 == b01 b)=decide (q.2=b01 b) from rfl]
  exact r
 ·walk_at "a1"
  exact r
 rw[ax,qV (ws:=ws)];exact k
noncomputable def vls(x:Sy)(ws:List (List Int)):D:=.lst ((ws.map fun v=>b01 (x.val v)).map D.int)
noncomputable def Gr:ASp:=fun xs Z Q=>∃(ws:List (List Int)) (x y:Sy),xs=[.d (vls x ws),.d (vls y ws)]/\ws.length<=32/\Q (.d (vls (.jn false x y) ws)) Z
theorem GP(T:Txt K mg t):az P w K mg base CX0 1 t.fc t.pO ["ones","others"] (bg Gr):=by
 refine T.DO.okD zR (fun xs Z Q h=>by obtain⟨ws,x,y,rfl,_⟩:=h;rfl) (fun cdv A outer s H E hr=>⟨_,_,(aj (aE (bF (N:=(["one","other"]:List Str)) (src:=[none,none]) rfl (by show cg _ (defScope lR) _ _ (["ones","others"]:List Str)=true;decide +kernel) (by intro g' h;cases h) (vP K rfl (by rfl) T.GS (aa (pv 0) (aa (pv 1) ae))) (fun _ _ _ _ _ _=>(dS K rfl (n:=2) rfl (aX (aD (i:=0) (show (["one","other"]:List Str).Nodup by decide +kernel) rfl (Or.inl rfl)) (aX (aD (i:=1) (show (["one","other"]:List Str).Nodup by decide +kernel) rfl (Or.inl rfl)) dQ)))) (fun _ _ _ _ _ _=>bK) (fun _ _ _ _ _ _=>(bq rfl rfl (aG (iZ rfl) (by rfl) T.uK (by kernel_rfl) (aa (pv 0) (aa (pv 1) ae)))))))),(aL (bW (EB (ab ac (ab ac af))) (kb (bH ao (bH ao kg))) gZ (bS (bz vO (ab ac (ab ac af)))))),fun xs Z Q h=>?_⟩)
 obtain⟨ws,x,y,rfl,hl,k⟩:=h;unfold vls at k ⊢;walk_at "a1";refine yg (rs:=(ws.map fun v=>b01 ((Sy.jn false x y).val v)).map D.int) (by simp) (by simp) (Nat.le_of_lt (a7 (by simp;omega))) (fun i d e r h1 h2 h3 Q q=>?_) (fun ρ=>⟨_,aS _,?_⟩)
 ·simp only[List.map_map,List.getElem?_map,Option.map_eq_some_iff] at h1 h2 h3
  obtain⟨v,hv,rfl⟩:=h1;obtain⟨v',hv',rfl⟩:=h2;obtain⟨v'',hv'',rfl⟩:=h3;rw[hv] at hv' hv'';cases hv';cases hv'';simp only[Function.comp_apply] at q ⊢;walk_at "a1";rw[show (if b01 (y.val v)>b01 (x.val v) then b01 (y.val v) else b01 (x.val v))=b01 ((Sy.jn false x y).val v) from by simp only[Sy.val];cases x.val v<;>cases y.val v<;>rfl]
  exact q
 rw[ax];exact k
noncomputable def Fc:ASp:=fun xs Z Q=>∃(ws:List (List Int)) (x y:Sy),xs=[.d (vls x ws),.d (vls y ws)]/\ws.length<=32/\Q (.d (vls (.jn true x y) ws)) Z
theorem Go(T:Txt K mg t):az P w K mg base CX0 1 t.fw t.oG ["ones","others"] (bg Fc):=by
 refine T.Dy.okD zP (fun xs Z Q h=>by obtain⟨ws,x,y,rfl,_⟩:=h;rfl) (fun cdv A outer s H E hr=>⟨_,_,(aj (aE (bF (N:=(["one","other"]:List Str)) (src:=[none,none]) rfl (by show cg _ (defScope lY) _ _ (["ones","others"]:List Str)=true;decide +kernel) (by intro g' h;cases h) (vP K rfl (by rfl) T.GS (aa (pv 0) (aa (pv 1) ae))) (fun _ _ _ _ _ _=>(dS K rfl (n:=2) rfl (aX (aD (i:=0) (show (["one","other"]:List Str).Nodup by decide +kernel) rfl (Or.inl rfl)) (aX (aD (i:=1) (show (["one","other"]:List Str).Nodup by decide +kernel) rfl (Or.inl rfl)) dQ)))) (fun _ _ _ _ _ _=>bK) (fun _ _ _ _ _ _=>(bq rfl rfl (aG (lV rfl) (by rfl) T.zb (by kernel_rfl) (aa (pv 0) (aa (pv 1) ae)))))))),(aL (bW (EB (ab ac (ab ac af))) (kb (bH ao (bH ao kg))) gZ (bS (bz vO (ab ac (ab ac af)))))),fun xs Z Q h=>?_⟩)
 obtain⟨ws,x,y,rfl,hl,k⟩:=h;unfold vls at k ⊢;walk_at "a1";refine yg (rs:=(ws.map fun v=>b01 ((Sy.jn true x y).val v)).map D.int) (by simp) (by simp) (Nat.le_of_lt (a7 (by simp;omega))) (fun i d e r h1 h2 h3 Q q=>?_) (fun ρ=>⟨_,aS _,?_⟩)
 ·simp only[List.map_map,List.getElem?_map,Option.map_eq_some_iff] at h1 h2 h3
  obtain⟨v,hv,rfl⟩:=h1;obtain⟨v',hv',rfl⟩:=h2;obtain⟨v'',hv'',rfl⟩:=h3;rw[hv] at hv' hv'';cases hv';cases hv'';simp only[Function.comp_apply] at q ⊢;walk_at "a1";rw[show (if b01 (y.val v)<b01 (x.val v) then b01 (y.val v) else b01 (x.val v))=b01 ((Sy.jn true x y).val v) from by simp only[Sy.val];cases x.val v<;>cases y.val v<;>rfl]
  exact q
 rw[ax];exact k
noncomputable def led(ys zs:List (List Int))(x:Sy):D:=.tup [(bX ys zs x).d,vls x ys,vls x zs]
noncomputable def Bx:ASp:=fun xs Z Q=>∃(n:Nat) (ys zs:List (List Int)) (i b:Int),xs=[.d (csD n ys zs),.d (Sy.is i b).d]/\n<=5/\Wds n ys/\Wds n zs/\(Sy.is i b).ok n/\Q (.d (led ys zs (.is i b))) Z
theorem I0(T:Txt K mg t):az P w K mg base CX0 7 t.dj t.j3 ["case","leaf"] (bg Bx):=by
 have G_value:az P w K mg base _ _ _ _ _ _:=sq T;refine T.Ai.okD y6 (fun xs Z Q h=>by obtain⟨n,ys,zs,i,b,rfl,_⟩:=h;rfl) (fun cdv A outer s H E hr=>⟨_,_,(aj (aE (aV (bD (aV (av aO (aa (ay (am K rfl) (pv 1) ah (fun _ _=>rfl)) ae))) (aa (bF (N:=(["word","leaf"]:List Str)) (src:=[none,some 1]) rfl (by show cg _ (defScope gJ) _ _ (["case","leaf"]:List Str)=true;decide +kernel) (by intro g' h;cases h) (bG K rfl (ay (am K rfl) (pv 0) ah (fun _ _=>rfl))) (fun _ _ _ _ _ _=>(aD (i:=0) (show (["word","leaf"]:List Str).Nodup by decide +kernel) rfl (Or.inl rfl))) (fun _ _ _ _ _ _=>bK) (fun _ _ _ _ _ _=>(bq rfl rfl (ai G_value (hr.mono (by omega)) (by rfl) T.fL T.fJ T.dR .nil ar (aa (pv 1) (aa (pv 0) ae)))))) (aa (bF (N:=(["word","leaf"]:List Str)) (src:=[none,some 1]) rfl (by show cg _ (defScope gJ) _ _ (["case","leaf"]:List Str)=true;decide +kernel) (by intro g' h;cases h) (bG K rfl (ay (am K rfl) (pv 0) ah (fun _ _=>rfl))) (fun _ _ _ _ _ _=>(aD (i:=0) (show (["word","leaf"]:List Str).Nodup by decide +kernel) rfl (Or.inl rfl))) (fun _ _ _ _ _ _=>bK) (fun _ _ _ _ _ _=>(bq rfl rfl (ai G_value (hr.mono (by omega)) (by rfl) T.fL T.fJ T.dR .nil ar (aa (pv 1) (aa (pv 0) ae)))))) ae)))))),(aL (bo (ab (bo (ab be (ab (aq aK ac ak) af))) (ab (bW (cx (aq aK ac ak)) ao gZ (bS (ap (ab ac (ab ac af))))) (ab (bW (cx (aq aK ac ak)) ao gZ (bS (ap (ab ac (ab ac af))))) af))))),fun xs Z Q h=>?_⟩)
 obtain⟨n,ys,zs,i,b,rfl,hn,hy,hz,hx,k⟩:=h;have hyl:=hy.le hn;have hzl:=hz.le hn;have okv:∀ws,Wds n ws->∀v∈ws,(Sy.is i b).ok v.length:=fun ws h v hv=>by rw[(cu (h.2 v hv)).1];exact hx
 simp only[csD,Sy.d];walk_at "a1";refine dU (rs:=(ys.map fun v=>b01 ((Sy.is i b).val v)).map D.int) (by simp) (Nat.le_of_lt (a7 (by simp;omega))) (fun j a r h1 h2 Q q=>?_) (fun ρ=>⟨_,aS _,?_⟩)
 ·simp only[List.map_map,List.getElem?_map,Option.map_eq_some_iff] at h1 h2
  obtain⟨v,hv,rfl⟩:=h1;obtain⟨v',hv',rfl⟩:=h2;rw[hv] at hv';cases hv';simp only[Function.comp_apply] at q ⊢;walk_at "a1";exact⟨.is i b,v,rfl,okv ys hy v (List.mem_of_getElem? hv),by simp[Sy.dp],q⟩
 refine dU (rs:=(zs.map fun v=>b01 ((Sy.is i b).val v)).map D.int) (by simp) (Nat.le_of_lt (a7 (by simp;omega))) (fun j a r h1 h2 Q q=>?_) (fun ρ=>⟨_,aS _,?_⟩)
 ·simp only[List.map_map,List.getElem?_map,Option.map_eq_some_iff] at h1 h2
  obtain⟨v,hv,rfl⟩:=h1;obtain⟨v',hv',rfl⟩:=h2;rw[hv] at hv';cases hv';simp only[Function.comp_apply] at q ⊢;walk_at "a1";exact⟨.is i b,v,rfl,okv zs hz v (List.mem_of_getElem? hv),by simp[Sy.dp],q⟩
 rw[ax];exact k
noncomputable def Bv:ASp:=fun xs Z Q=>∃(n:Nat) (ys zs:List (List Int)) (a:Bool) (x y:Sy),xs=[.d (csD n ys zs),.d (.str (if a then "and" else "or")),.d (led ys zs x),.d (led ys zs y)]/\n<=5/\Wds n ys/\Wds n zs/\Q (.d (led ys zs (.jn a x y))) Z
theorem Ip(T:Txt K mg t):az P w K mg base CX0 2 t.dk t.jL ["case","join","one","other"] (bg Bv):=by
 have G_words_with:az P w K mg base _ _ _ _ _ _:=IN T;have G_greater:az P w K mg base _ _ _ _ _ _:=GP T;have G_smaller:az P w K mg base _ _ _ _ _ _:=Go T
 refine T.An.okD kw (fun xs Z Q h=>by obtain ⟨n,ys,zs,a,x,y,rfl,_⟩:=h;rfl) (fun cdv A outer s H E hr=>⟨_,_,(ag (bv (aN (bp hr.OH) (pv 1) aO (aM _)) (ag (aB (i:=4) kw.nd rfl (Or.inl rfl) (ai G_words_with (hr.mono (by omega)) (by rfl) T.nS T.nR T.oo .nil ar (aa (ay (am K rfl) (pv 0) ah (fun _ _=>rfl)) (aa (ay (am K rfl) (pv 2) ah (fun _ _=>rfl)) (av ah ae)))))
   (aj (aE (aV (bD (aV (av aO (aa (pv 4) (aa (ay (am K rfl) (pv 2) ah (fun _ _=>rfl)) (aa (ay (am K rfl) (pv 3) ah (fun _ _=>rfl)) ae))))) (aa (ai G_greater (hr.mono (by omega)) (by rfl) T.uw T.uR T.ux .nil ar (aa (ay (am K rfl) (pv 2) ah (fun _ _=>rfl)) (aa (ay (am K rfl) (pv 3) ah (fun _ _=>rfl)) ae))) (aa (ai G_greater (hr.mono (by omega)) (by rfl) T.uw T.uR T.ux .nil ar (aa (ay (am K rfl) (pv 2) ah (fun _ _=>rfl)) (aa (ay (am K rfl) (pv 3) ah (fun _ _=>rfl)) ae))) ae))))))) aW)
   (ag (aB (i:=4) kw.nd rfl (Or.inl rfl) (ai G_words_with (hr.mono (by omega)) (by rfl) T.nS T.nR T.oo .nil ar (aa (ay (am K rfl) (pv 0) ah (fun _ _=>rfl)) (aa (ay (am K rfl) (pv 2) ah (fun _ _=>rfl)) (av ah ae)))))
   (aj (aE (aV (bD (aV (av aO (aa (pv 4) (aa (ay (am K rfl) (pv 2) ah (fun _ _=>rfl)) (aa (ay (am K rfl) (pv 3) ah (fun _ _=>rfl)) ae))))) (aa (ai G_smaller (hr.mono (by omega)) (by rfl) T.vo T.u9 T.vh .nil ar (aa (ay (am K rfl) (pv 2) ah (fun _ _=>rfl)) (aa (ay (am K rfl) (pv 3) ah (fun _ _=>rfl)) ae))) (aa (ai G_smaller (hr.mono (by omega)) (by rfl) T.vo T.u9 T.vh .nil ar (aa (ay (am K rfl) (pv 2) ah (fun _ _=>rfl)) (aa (ay (am K rfl) (pv 3) ah (fun _ _=>rfl)) ae))) ae)))))))),(au (cI (aZ (aq bw ac be)) (au (aH (ap (ab (aq aK ac ak) (ab (aq aK ac ak) (ab ak af)))) ao)
   (aL (bo (ab (bo (ab be (ab ac (ab (aq aK ac ak) (ab (aq aK ac ak) af))))) (ab (ap (ab (aq aK ac ak) (ab (aq aK ac ak) af))) (ab (ap (ab (aq aK ac ak) (ab (aq aK ac ak) af))) af)))))) bj)
   (au (aH (ap (ab (aq aK ac ak) (ab (aq aK ac ak) (ab ak af)))) ao)
   (aL (bo (ab (bo (ab be (ab ac (ab (aq aK ac ak) (ab (aq aK ac ak) af))))) (ab (ap (ab (aq aK ac ak) (ab (aq aK ac ak) af))) (ab (ap (ab (aq aK ac ak) (ab (aq aK ac ak) af))) af))))))),fun xs Z Q h=>?_⟩)
 obtain⟨n,ys,zs,a,x,y,rfl,hn,hy,hz,k⟩:=h;have hyl:=hy.le hn;have hzl:=hz.le hn;cases a
 ·simp only[csD,led,bX,if_true,if_false,Bool.false_eq_true] at k ⊢
  walk_at "s1";walk_at "s1";refine⟨ys,fun v=>x.val v,false,rfl,hyl,?_⟩;walk_at "a1";refine⟨ys,x,y,rfl,hyl,zs,x,y,rfl,hzl,?_⟩;walk_at "a1";rw[ax,show (fun v=>x.val v == false)=fun v=>!x.val v from by funext v;cases x.val v<;>rfl]
  exact k
 ·simp only[csD,led,bX,if_true,if_false,Bool.false_eq_true] at k ⊢
  walk_at "s1";walk_at "s1";refine⟨zs,fun v=>x.val v,true,rfl,hzl,?_⟩;walk_at "a1";refine⟨ys,x,y,rfl,hyl,zs,x,y,rfl,hzl,?_⟩;walk_at "a1";rw[ax,show (fun v=>x.val v == true)=fun v=>x.val v from by funext v;cases x.val v<;>rfl]
  exact k
noncomputable def KR:ASp:=fun xs Z Q=>∃(n:Nat) (ys zs:List (List Int)) (x:Sy),xs=[.d (csD n ys zs),.d x.d]/\n<=5/\gP n x ys zs/\x.ok n/\x.dp<=15/\Q (.d (bX ys zs x).d) Z
noncomputable def ue(cA:List AV):ASp:=fun xs Z Q=>∃(n:Nat) (ys zs:List (List Int)) (i b:Int),cA=[.d (csD n ys zs)]/\xs=[.d (Sy.is i b).d]/\n<=5/\Wds n ys/\Wds n zs/\(Sy.is i b).ok n/\Q (.d (led ys zs (.is i b))) Z
noncomputable def mx(cA:List AV):ASp:=fun xs Z Q=>∃(n:Nat) (ys zs:List (List Int)) (a:Bool) (l r:D) (x y:Sy),cA=[.d (csD n ys zs)]/\xs=[.d (.tup [.str (if a then "and" else "or"),l,r]),.d (led ys zs x),.d (led ys zs y)]/\n<=5/\Wds n ys/\Wds n zs/\Q (.d (led ys zs (.jn a x y))) Z
theorem K0(T:Txt K mg t):az P w K mg base CX0 13 t.c7 t.lO ["case","saying"] (bg KR):=by
 have G_folded:∀b',az P w K mg b' CX0 11 t.dh t.gM ["tree","leaf","of_leaf","of_fork"] (l9 8 P w K mg b'):=fun b'=>qP 8 T;have G_parts:az P w K mg base _ _ _ _ _ _:=su T;refine T.gB.okD rB (fun xs Z Q h=>by obtain⟨n,ys,zs,x,rfl,_⟩:=h;rfl) (fun A outer s H E hr=>?_)
 refine ⟨_,_,(ag (bv (dc (bd K rfl (ai G_parts (hr.mono (by omega)) (by rfl) T.oD T.nZ T.nD .nil ar (aa (pv 0) (aa (pv 1) ae))) (fun _=>rfl))) (aj eM) aW)
   (ag (aB (i:=2) rB.nd rfl (Or.inl rfl) (nB G_folded (hr.mono (by omega)) (by rfl) T.nQ T.nJ T.nL (aa (pv 1) (av aO (aa (kY (x:="talk_of") rfl rfl T.gB.tab T.gB.hd rfl) (aa (kY (x:="talk_of") rfl rfl T.gB.tab T.gB.hd rfl) ae))))))
   (aj (aE (ay (am K rfl) (pv 2) ah (fun _ _=>rfl)))))),(au (cI (eV (dI (ap (ab ac (ab ac af))))) ga bj)
   (au (aH (xi (j1:=[0]) (j2:=[0]) (s1:=ue) (s2:=mx) ?F0 ?F1 ac be) ao)
   (aL (aq aK ac ak)))),fun xs Z Q h=>?main⟩
 case F0=>
  intro b' H f σ caps cA L cb hc hl;have G_led_leaf:az P w K mg b' CX0 7 t.dj t.j3 ["case","leaf"] (bg Bx):=I0 T;obtain⟨v,rfl⟩:∃v,caps=[v]:=List.length_eq_one_iff.mp hc.1;obtain⟨wc,wu,hwc,hcell,hrel⟩:=cb 0 "case" v rfl (hc.2 0 0 v rfl rfl) rfl rfl;obtain rfl:s.heap.objs.size+1=wc:=Option.some.inj hwc;refine ii (ps:=["leaf"]) (cs:=["case"]) L ⟨rfl,rfl,rfl,by decide +kernel,by decide +kernel,by decide +kernel,by decide +kernel⟩ (Be hcell hrel) (fun pm c ctv us hl=>match us,hl with | [_],_=>rfl) (fun xs Z Q h=>by obtain⟨n,ys,zs,i,b,_,rfl,_⟩:=h;rfl) (fun cd A outer s H hr=>⟨_,_,(ai G_led_leaf (hr.mono (by omega)) (by rfl) T.A3 T.A5 T.Ah .nil ar (aa (pv 1) (aa (pv 0) ae))),(ap (ab ac (ab ac af))),fun xs Z Q h=>?_⟩)
  obtain⟨n,ys,zs,i,b,rfl,rfl,h1,h2,h3,h4,q⟩:=h;walk_at "a1";exact⟨n,ys,zs,i,b,rfl,h1,h2,h3,h4,q⟩
 case F1=>
  intro b' H f σ caps cA L cb hc hl;have G_led_join:az P w K mg b' CX0 2 t.dk t.jL ["case","join","one","other"] (bg Bv):=Ip T;obtain⟨v,rfl⟩:∃v,caps=[v]:=List.length_eq_one_iff.mp hc.1;obtain⟨wc,wu,hwc,hcell,hrel⟩:=cb 0 "case" v rfl (hc.2 0 0 v rfl rfl) rfl rfl;obtain rfl:s.heap.objs.size+1=wc:=Option.some.inj hwc;refine ii (ps:=["part","one","other"]) (cs:=["case"]) L ⟨rfl,rfl,rfl,by decide +kernel,by decide +kernel,by decide +kernel,by decide +kernel⟩ (Be hcell hrel) (fun pm c ctv us hl=>match us,hl with | [_,_,_],_=>rfl) (fun xs Z Q h=>by obtain⟨n,ys,zs,a,l,r,x,y,_,rfl,_⟩:=h;rfl) (fun cd A outer s H hr=>⟨_,_,(ai G_led_join (hr.mono (by omega)) (by rfl) T.zM T.AM T.zJ .nil ar (aa (pv 3) (aa (ay (am K rfl) (pv 0) ah (fun _ _=>rfl)) (aa (pv 1) (aa (pv 2) ae))))),(ap (ab ac (ab (aq aK ac ak) (ab ac (ab ac af))))),fun xs Z Q h=>?_⟩)
  obtain⟨n,ys,zs,a,l,r,x,y,rfl,rfl,h1,h2,h3,q⟩:=h;walk_at "a1";exact⟨n,ys,zs,a,x,y,rfl,h1,h2,h3,q⟩
 case main=>
  obtain⟨n,ys,zs,x,rfl,hn,hp,hx,hd,k⟩:=h;walk_at "s1";refine⟨n,ys,zs,x,rfl,hp,hx,hd,?_⟩;walk_at "a1";walk_at "s1";refine⟨cq x,(mZ x).symm,jR x,hX hd,fun e=>led ys zs (ko e),_,rfl,_,rfl,fun q he Z1 Q1 h=>?_,fun q l r he Z1 Q1 h=>?_,?_⟩
  ·obtain⟨i,b,rfl,ho⟩:=F6 hx he
   exact⟨n,ys,zs,i,b,rfl,rfl,hn,hp.y,hp.z,ho,h⟩
  ·obtain⟨a,l',r',rfl,rfl,rfl⟩:=EO hx he
   have h:Q1 (.d (led ys zs (ko (cq (.jn a l' r'))))) Z1:=h;rw[iy] at h;show mx _ [_,.d (led ys zs (ko (cq l'))),.d (led ys zs (ko (cq r')))] Z1 Q1;rw[iy,iy];exact⟨n,ys,zs,a,(cq l').d,(cq r').d,_,_,rfl,rfl,hn,hp.y,hp.z,h⟩
  ·simp only[iy,led]
   walk_at "a1";rw[ax];exact k
noncomputable def Lz(y n:List Int)(u:Ta):D:=.tup [.lst ((Ta.way y n u).map D.int),.int (Ta.fin y n u)]
noncomputable def Dt:ASp:=fun xs Z Q=>∃(u:Ta)(y n:List Int)(m:Nat),xs=[.d u.d,.d (wdD y),.d (wdD n)]/\u.ok m/\u.dp<=900/\Q (.d (Lz y n u)) Z
theorem DD(T:Txt K mg t):az P w K mg base CX0 1 t.gX t.sQ ["talk","yes","no"] (bg Dt):=by
 refine T.HH.okD gr (fun xs Z Q h=>by obtain⟨u,y,n,m,rfl,_⟩:=h;rfl) (fun cdv A outer s H E hr=>⟨_,_,(ag (aB (i:=3) gr.nd rfl (Or.inl rfl) (bh ae))
   (ag (aB (i:=4) gr.nd rfl (Or.inl rfl) (pv 0))
   (ag (nE PassesOwn.never (aN (kT hr.OH) (ay (am K rfl) (pv 4) ah (fun _ _=>rfl)) aO (aM _)) (ag (aB (i:=5) gr.nd rfl (Or.inl rfl) (k6 (aN (bp hr.OH) (ay (am K rfl) (pv 4) ah (fun _ _=>rfl)) aO (aM _)) (pv 1) (pv 2)))
   (ag (aB (i:=6) gr.nd rfl (Or.inl rfl) (k6 (aN (wN hr.OH) (pv 5) (ay (am K rfl) (pv 4) ah (fun _ _=>rfl)) (by with_unfolding_all rfl)) ah ah))
   (ag (bO (dn PySem.F.plainAttrs_list PySem.F.slot_list_append PySem.F.type_list_append bc (pv 3) (aa (pv 6) ae)))
   (aj (aB (i:=4) gr.nd rfl (Or.inl rfl) (ay (am K rfl) (pv 4) (aT (aQ cm (aQ bN cn)) ah (pv 6)) (fun _ _=>rfl))))))))
   (aj (aE (aV (aa (pv 3) (aa (ay (am K rfl) (pv 4) ah (fun _ _=>rfl)) ae)))))))),(au (aH (dJ af) ao)
   (au (aH ac ao)
   (au (qE (aZ (aq bw (aq aK ac ak) be)) (au (aH (EA (aZ (aq bw (aq aK ac ak) be)) ac ac) ao)
   (au (aH (EA (aZ (aq Ha ac (aq aK ac ak))) ak ak) ao)
   (au (cC (bu ac (ab ac af)))
   (aH (aq aK ac (aq dm ak ac)) ao)))))
   (aL (bo (ab zW (ab (aq aK ac ak) af))))))),fun xs Z Q h=>?_⟩)
 obtain⟨u,y,n,m,rfl,hu,hd,k⟩:=h;walk_at "ab";intro l hl;obtain⟨Pv,iP⟩:=JF fun j ρ Z'=>∃(u2:Ta)(bs:List Int)(v5 v6:Option AV),ρ=[some (.d u.d),some (.d (wdD y)),some (.d (wdD n)),some (.r (.ref l)),some (.d u2.d),v5,v6]/\Z'=Z.put l (.own ((bs.map D.int).map AV.d))/\u2.ok m/\bs++Ta.way y n u2=Ta.way y n u/\Ta.fin y n u2=Ta.fin y n u/\j=u2.dp;refine⟨Pv,⟨_,(iP _ _ _).mpr ⟨u,[],_,_,rfl,rfl,hu,rfl,rfl,rfl⟩⟩,fun j ρ Z' h=>?_⟩
 obtain⟨u2,bs,v5,v6,rfl,rfl,hu2,hw,hf,rfl⟩:=(iP _ _ _).mp h;clear h
 have hbl:bs.length<=900:=by
  have:=Ta.wX y n u;rw[←hw,List.length_append] at this
  omega
 cases u2 with
 |en i=>
  simp only[Ta.d];walk_at "ab";rw[jF ((Ex.refl Z).new hl)];simp only[Ta.fin,Ta.way,List.append_nil] at hf hw;unfold Lz at k;rw[←hf,←hw] at k
  exact k
 |nd b ws a c=>
  obtain⟨hws,ha,hc⟩:=hu2;have hwd:=kS ws
  have next:∀(v:Bool),Ta.bit y n b ws=v->∀v5 v6,Pv (if v then c else a).dp [some (.d u.d),some (.d (wdD y)),some (.d (wdD n)),some (.r (.ref l)),some (.d (if v then c else a).d),v5,v6] (Z.put l (.own ((bs.map D.int).map AV.d++[.d (.int (if v then 1 else 0))]))):=fun v hv v5 v6=>by
   refine(iP _ _ _).mpr ⟨if v then c else a,bs++[if v then 1 else 0],_,_,rfl,by simp,by cases v<;>assumption,?_,?_,rfl⟩
   ·rw[←hw];simp only[Ta.way,hv];cases v<;>simp
   ·rw[←hf];simp only[Ta.fin,hv];cases v<;>simp
  have lt:∀v:Bool,(if v then c else a).dp<(Ta.nd b ws a c).dp:=fun v=>by cases v<;>simp only[Ta.dp]<;>simp<;>omega
  have hsz:bs.length<sizeLine:=iM (m:=0) (by omega)
  cases b<;>simp only[Ta.d]<;>walk_at "ab"
  ·refine⟨fun ρ' Z'=>∃m',m'<(Ta.nd false ws a c).dp/\Pv m' ρ' Z',fun ρ' Z' h=>h,by omega,?_⟩
   rw[sO];refine mj (fun hb=>⟨hsz,_,lt true,next true (by simpa[Ta.bit] using hb) _ _⟩) (fun hb=>⟨hsz,_,lt false,next false (by simpa[Ta.bit] using hb) _ _⟩)
  ·refine⟨fun ρ' Z'=>∃m',m'<(Ta.nd true ws a c).dp/\Pv m' ρ' Z',fun ρ' Z' h=>h,by omega,?_⟩
   rw[sO];refine mj (fun hb=>⟨hsz,_,lt true,next true (by simpa[Ta.bit] using hb) _ _⟩) (fun hb=>⟨hsz,_,lt false,next false (by simpa[Ta.bit] using hb) _ _⟩)
noncomputable def rl(b:Bool):Str:=if b then "rising" else "any"
noncomputable def ppB(b:Bool)(y n:List Int)(i:Nat):Bool:=if b then decide (y.getD i 0=1) && decide (n.getD i 0=0) else !decide (y.getD i 0=n.getD i 0)
noncomputable def NL:ASp:=fun xs Z Q=>∃(b:Bool)(i:Int)(y n:List Int),xs=[.d (.str (rl b)),.d (.int i),.d (wdD y),.d (wdD n)]/\0<=i/\i<y.length/\i<n.length/\Q (.d (.bl (ppB b y n i.toNat))) Z
theorem NU(T:Txt K mg t):az P w K mg base CX0 1 t.cV t.jD ["rule","place","yes","no"] (bg NL):=by
 refine T.wA.okD uf (fun xs Z Q h=>by obtain⟨b,i,y,n,rfl,_⟩:=h;rfl) (fun cdv A outer s H E hr=>⟨_,_,(ag (bv (aN (bp hr.OH) (pv 0) aO (aM _)) (aj (aE (dD K rfl (bU (bp hr.OH) (ay (am K rfl) (pv 2) (pv 1) (fun _ _=>rfl)) ah (aM _)) (iS (bU (bp hr.OH) (ay (am K rfl) (pv 3) (pv 1) (fun _ _=>rfl)) ah (aM _)))))) aW)
   (aj (aE (bU (kT hr.OH) (ay (am K rfl) (pv 2) (pv 1) (fun _ _=>rfl)) (ay (am K rfl) (pv 3) (pv 1) (fun _ _=>rfl)) (aM _))))),(au (cI (aZ (aq bw ac be)) (aL (fe (aq bw (aq aK ac ac) ak) (aq bw (aq aK ac ac) ak))) bj)
   (aL (aq bw (aq aK ac ac) (aq aK ac ac)))),fun xs Z Q h=>?_⟩)
 obtain⟨b,i,y,n,rfl,h0,h1,h2,k⟩:=h;have e1:=F4 h0 h1;have e2:=F4 h0 h2;cases b<;>simp only[rl,ppB,if_true,if_false,Bool.false_eq_true] at k ⊢<;>walk_at "ab"<;>simp only[e1,e2]<;>walk_at "ab"
 ·rw[ax];exact k
 ·rw[ax]
  by_cases hy:y.getD i.toNat 0=1
  ·rw[if_pos hy];rw[decide_eq_true hy,Bool.true_and] at k;exact k
  ·rw[if_neg hy];rw[decide_eq_false hy,Bool.false_and] at k;rw[beq_eq_false_iff_ne.mpr hy];exact k
noncomputable def prl(ys zs:List (List Int)):List (List Int×List Int):=ys.flatMap fun y=>zs.map fun z=>(y,z)
noncomputable def prD(p:List Int×List Int):D:=.tup [wdD p.1,wdD p.2]
theorem H9(ys zs:List (List Int)):(prl ys zs).length=ys.length*zs.length:=by
 induction ys with
 |nil=>simp[prl]
 |cons y ys ih=>
  simp only[prl,List.flatMap_cons,List.length_append,List.length_map] at ih ⊢;rw[ih,List.length_cons,Nat.succ_mul];omega
theorem EZ{ys zs:List (List Int)}{i:Nat}{y:List Int}(h:ys[i]?=some y):prl (ys.take (i+1)) zs=prl (ys.take i) zs++zs.map fun z=>(y,z):=by
 unfold prl;rw[List.take_succ,h];simp
theorem xb{ys zs:List (List Int)}{p:List Int×List Int}(h:p∈prl ys zs):p.1∈ys/\p.2∈zs:=by
 unfold prl at h;simp only[List.mem_flatMap,List.mem_map] at h;obtain⟨y,hy,z,hz,rfl⟩:=h;exact⟨hy,hz⟩
noncomputable def GD:ASp:=fun xs Z Q=>∃(pl:Nat) (ys zs:List (List Int)),xs=[.d (csD pl ys zs)]/\ys.length<=32/\zs.length<=32/\Q (.d (.lst ((prl ys zs).map prD))) Z
theorem GG(T:Txt K mg t):az P w K mg base CX0 1 t.d6 t.m4 ["case"] (bg GD):=by
 refine T.Af.okD yY (fun xs Z Q h=>by obtain⟨pl,ys,zs,rfl,_⟩:=h;rfl) (fun cdv A outer s H E hr=>⟨_,_,(aj (aE (bF (N:=(["yes","no","case"]:List Str)) (src:=[none,none,some 0]) rfl (by show cg _ (defScope ka) _ _ (["case"]:List Str)=true;decide +kernel) (by intro g' h;cases h;rfl) (bG K rfl (ay (am K rfl) (pv 0) ah (fun _ _=>rfl))) (fun _ _ _ _ _ _=>(aD (i:=0) (show (["yes","no","case"]:List Str).Nodup by decide +kernel) rfl (Or.inl rfl))) (fun _ _ _ _ _ _=>bK) (fun _ _ _ _ _ _=>(F5 rfl rfl rfl (by intro g' h;cases h) (bG K rfl (ay (am K rfl) (pv 2) ah (fun _ _=>rfl))) (aD (i:=1) (show (["yes","no","case"]:List Str).Nodup by decide +kernel) rfl (Or.inl rfl)) bK (bq rfl rfl (aV (aa (pv 0) (aa (pv 1) ae))))))))),(aL (bW (cx (aq aK ac ak)) ao gZ (JZ (cx (aq aK ac ak)) ao gZ (bS (bo (ab ac (ab ac af))))))),fun xs Z Q h=>?_⟩)
 obtain⟨pl,ys,zs,rfl,hy,hz,k⟩:=h;simp only[csD];walk_at "ab";refine sJ (fun i xs ρ Z'=>Z'=Z/\(∃v0 v1,ρ=[v0,v1,some (.d (csD pl ys zs))])/\xs=((prl (ys.take i) zs).map prD).map AV.d) ⟨rfl,⟨_,_,rfl⟩,rfl⟩ ?_ ?_
 ·rintro i d xs ρ Z' N hd ⟨rfl,⟨v0,v1,rfl⟩,rfl⟩ kN
  obtain⟨y,hyi,rfl⟩:=eK hd;have hil:=(List.getElem?_eq_some_iff.mp hyi).1;simp only[csD];walk_at "ab";refine sJ (fun j xs ρ Z''=>Z''=Z'/\(∃v1,ρ=[some (.d (wdD y)),v1,some (.d (csD pl ys zs))])/\xs=((prl (ys.take i) zs++(zs.take j).map fun z=>(y,z)).map prD).map AV.d) ⟨rfl,⟨_,rfl⟩,by simp⟩ ?_ ?_
  ·rintro j d2 xs ρ Z'' M hd2 ⟨rfl,⟨v1,rfl⟩,rfl⟩ kM
   obtain⟨z,hzj,rfl⟩:=eK hd2;have hjl:=(List.getElem?_eq_some_iff.mp hzj).1
   have hlen:(prl (ys.take i) zs).length<=32*32:=by
    rw[H9,List.length_take];exact Nat.mul_le_mul (by omega) hz
   walk_at "ab";refine⟨Nat.lt_of_le_of_lt (m:=2000) (by rw[List.length_take];omega) (by decide),kM _ _ _ ⟨rfl,⟨_,rfl⟩,?_⟩⟩
   rw[List.take_succ,hzj];simp[prD]
  ·rintro xs ρ Z'' ⟨rfl,⟨v1,rfl⟩,rfl⟩
   rw[List.length_map,List.take_length];exact kN _ _ _ ⟨rfl,⟨_,_,rfl⟩,by rw[EZ hyi]⟩
 ·rintro xs ρ Z' ⟨rfl,⟨v0,v1,rfl⟩,rfl⟩
  rw[List.length_map,List.take_length,aS];refine⟨_,rfl,?_⟩;rw[ax];exact k
noncomputable def fau(b:Bool)(u:Ta)(p:List Int×List Int):Bool:=!ppB b p.1 p.2 (Ta.fin p.1 p.2 u).toNat
noncomputable def L6(u:Ta):Option (List Int×List Int)->D
 |some p=>.tup [wdD p.1,wdD p.2,.int (Ta.fin p.1 p.2 u)]
 |none=>.non
noncomputable def wT(b:Bool)(ys zs:List (List Int))(u:Ta):D:=L6 u ((prl ys zs).find? (fau b u))
noncomputable def NE(pl:Nat)(ys zs:List (List Int))(u:Ta):Prop:=pl<=5/\u.ok pl/\u.dp<=900/\Wds pl ys/\Wds pl zs
noncomputable def EE:ASp:=fun xs Z Q=>∃(b:Bool)(pl:Nat) (ys zs:List (List Int)) (u:Ta),xs=[.d (csD pl ys zs),.d (.str (rl b)),.d u.d]/\NE pl ys zs u/\Q (.d (wT b ys zs u)) Z
theorem E9(T:Txt K mg t):az P w K mg base CX0 2 t.j7 t.wx ["case","rule","talk"] (bg EE):=by
 have G_pairs_in:az P w K mg base _ _ _ _ _ _:=GG T;have G_spoken:az P w K mg base _ _ _ _ _ _:=DD T;have G_parts_pair:az P w K mg base _ _ _ _ _ _:=NU T
 refine T.Ix.okD oA (fun xs Z Q h=>by obtain ⟨b,pl,ys,zs,u,rfl,_⟩:=h;rfl) (fun cdv A outer s H E hr=>⟨_,_,(ag (fq PassesOwn.never rfl (bG K rfl (ai G_pairs_in (hr.mono (by omega)) (by rfl) T.AQ T.AK T.Bl .nil ar (aa (pv 0) ae))) (dS K rfl (n:=2) rfl (aX (aD (i:=3) oA.nd rfl (Or.inl rfl)) (aX (aD (i:=4) oA.nd rfl (Or.inl rfl)) dQ))) (ag (aB (i:=5) oA.nd rfl (Or.inl rfl) (ay (am K rfl) (ai G_spoken (hr.mono (by omega)) (by rfl) T.Gq T.EW T.EN .nil ar (aa (pv 2) (aa (pv 3) (aa (pv 4) ae)))) ah (fun _ _=>rfl)))
   (aj (bv (dc (bd K rfl (ai G_parts_pair (hr.mono (by omega)) (by rfl) T.vV T.wC T.vL .nil ar (aa (pv 1) (aa (pv 5) (aa (pv 3) (aa (pv 4) ae))))) (fun _=>rfl))) (aj (aE (aV (aa (pv 3) (aa (pv 4) (aa (pv 5) ae)))))) aW))))
   (aj (aE kG))),(au (ja (cx (ap (ab ac af))) (kb (bH ao (bH ao kg))) (au (aH (aq aK (ap (ab ac (ab ac (ab ac af)))) ak) ao)
   (cI (eV (dI (ap (ab ac (ab ac (ab ac (ab ac af))))))) (aL (bo (ab ac (ab ac (ab ac af))))) bj)))
   (aL qd)),fun xs Z Q h=>?_⟩)
 obtain⟨b,pl,ys,zs,u,rfl,⟨hpl,hu,hd,hy,hz⟩,k⟩:=h;walk_at "ab";refine⟨pl,ys,zs,rfl,hy.le hpl,hz.le hpl,?_⟩;walk_at "ab";refine nY (fun i ρ Z'=>Z'=Z/\(∃v3 v4 v5,ρ=[some (.d (csD pl ys zs)),some (.d (.str (rl b))),some (.d u.d),v3,v4,v5])/\∀p∈(prl ys zs).take i,fau b u p=false) ⟨rfl,⟨_,_,_,rfl⟩,by simp⟩ ?_ ?_
 ·rintro i d ρ Z' N hd' ⟨rfl,⟨v3,v4,v5,rfl⟩,hf⟩ kN
  obtain⟨⟨y,z⟩,hp,rfl⟩:=eK hd';obtain⟨my,mz⟩:=xb (List.mem_of_getElem? hp);have ly:=(cu (hy.2 y my)).1;have lz:=(cu (hz.2 z mz)).1;obtain⟨f0,f1⟩:=Ta.Am (y:=y) (n:=z) hu;simp only[prD];walk_at "ab";refine⟨u,y,z,pl,rfl,hu,hd,?_⟩;simp only[Lz];walk_at "ab";refine⟨b,_,y,z,rfl,f0,by omega,by omega,?_⟩
  walk_at "ab"
  cases hb:ppB b y z (Ta.fin y z u).toNat with
  |true=>
   walk_at "ab";refine kN _ _ ⟨rfl,⟨_,_,_,rfl⟩,fun p hp'=>?_⟩;rw[List.take_succ,hp] at hp';rcases List.mem_append.mp hp' with h|h
   ·exact hf p h
   ·simp at h;subst h;simp[fau,hb]
  |false=>
   walk_at "ab"
   have:(prl ys zs).find? (fau b u)=some (y,z):=by
    rw[List.find?_eq_some_iff_append];obtain⟨hi,e⟩:=List.getElem?_eq_some_iff.mp hp;refine⟨by simp[fau,hb],(prl ys zs).take i,(prl ys zs).drop (i+1),?_,fun p h=>by simp[hf p h]⟩
    rw[←e,←List.drop_eq_getElem_cons hi,List.take_append_drop]
   rw[ax];unfold wT at k;rw[this] at k;exact k
 ·rintro ρ Z' ⟨rfl,⟨v3,v4,v5,rfl⟩,hf⟩
  rw[List.length_map,List.take_length] at hf
  have:(prl ys zs).find? (fau b u)=none:=by
   rw[List.find?_eq_none];intro p h;simp[hf p h]
  walk_at "ab";rw[ax];unfold wT at k;rw[this] at k;exact k
noncomputable def Jf:ASp:=fun xs Z Q=>∃(b:Bool)(pl:Nat) (ys zs:List (List Int)) (u:Ta),xs=[.d (csD pl ys zs),.d (.str (rl b)),.d u.d]/\NE pl ys zs u/\Q (.d (.bl ((prl ys zs).find? (fau b u)).isNone)) Z
theorem BY(T:Txt K mg t):az P w K mg base CX0 3 t.fg t.oH ["case","rule","talk"] (bg Jf):=by
 have G_fault:az P w K mg base _ _ _ _ _ _:=E9 T;refine T.Ec.okD Br (fun xs Z Q h=>by obtain⟨b,pl,ys,zs,u,rfl,_⟩:=h;rfl) (fun cdv A outer s H E hr=>⟨_,_,(aj (aE (bU px (ai G_fault (hr.mono (by omega)) (by rfl) T.Iw T.IP T.Jp .nil ar (aa (pv 0) (aa (pv 1) (aa (pv 2) ae)))) kG (aM _)))),(aL (aq vk (ap (ab ac (ab ac (ab ac af)))) qd)),fun xs Z Q h=>?_⟩)
 obtain⟨b,pl,ys,zs,u,rfl,hp,k⟩:=h;walk_at "ab";refine⟨b,pl,ys,zs,u,rfl,hp,?_⟩;unfold wT
 cases e:(prl ys zs).find? (fau b u) with
 |none=>simp only[L6];walk_at "ab";rw[ax];rw[e] at k;exact k
 |some p=>simp only[L6];walk_at "ab";rw[ax];rw[e] at k;exact k
noncomputable abbrev WW:=List (List Int)×List (List Int)
noncomputable def goF(h:Bool)(ws:List (List Int))(q:WW):WW:=if h then (q.1.filter fun v=>!decide (v∈ws),q.2) else (q.1,q.2.filter fun v=>!decide (v∈ws))
noncomputable def goS(h:Bool)(ws:List (List Int))(q:WW):WW:=if h then (q.1.filter fun v=>decide (v∈ws),q.2) else (q.1,q.2.filter fun v=>decide (v∈ws))
noncomputable def wwD(q:WW):D:=.tup [.tup (q.1.map wdD),.tup (q.2.map wdD)]
noncomputable def Ww(n:Nat)(q:WW):Prop:=Wds n q.1/\Wds n q.2
theorem Ww.f{n:Nat}{q:WW}{h:Bool}{ws:List (List Int)}(x:Ww n q):Ww n (goF h ws q):=by
 unfold goF;cases h<;>simp only[if_true,if_false,Bool.false_eq_true]
 ·exact⟨x.1,jZ x.2 _⟩
 ·exact⟨jZ x.1 _,x.2⟩
theorem Ww.s{n:Nat}{q:WW}{h:Bool}{ws:List (List Int)}(x:Ww n q):Ww n (goS h ws q):=by
 unfold goS;cases h<;>simp only[if_true,if_false,Bool.false_eq_true]
 ·exact⟨x.1,jZ x.2 _⟩
 ·exact⟨jZ x.1 _,x.2⟩
noncomputable def IV:ASp:=fun xs Z Q=>∃(h:Bool) (ws:List (List Int)) (a b:D) (q:WW) (n:Nat),xs=[.d (.tup [.str (if h then "yes" else "no"),.tup (ws.map wdD),a,b]),.d (.tup (q.1.map wdD)),.d (.tup (q.2.map wdD))]/\n<=5/\Ww n q/\Q (.d (.tup [wwD (goF h ws q),wwD (goS h ws q)])) Z
theorem Ck(T:Txt K mg t):az P w K mg base CX0 1 t.fC t.oU ["turn","yes","no"] (bg IV):=by
 refine T.DV.okD jQ (fun xs Z Q h=>by obtain⟨h,ws,a,b,q,n,rfl,_⟩:=h;rfl) (fun cdv A outer s H E hr=>⟨_,_,(ag (aB (i:=3) jQ.nd rfl (Or.inl rfl) (k6 (aN (bp hr.OH) (ay (am K rfl) (pv 0) ah (fun _ _=>rfl)) aO (aM _)) (pv 1) (pv 2)))
   (ag (aB (i:=4) jQ.nd rfl (Or.inl rfl) (bt (a9 K rfl) (by rfl) T.cX (by kernel_rfl) (aa (bF (N:=(["word","turn"] : List Str)) (src:=[none,some 0]) rfl (by show cg _ (defScope jy) _ _ (["turn","yes","no","own","silent","loud"] : List Str) = true;decide +kernel) (by intro g' h;cases h) (bG K rfl (pv 3)) (fun _ _ _ _ _ _=>(aD (i:=0) (show (["word","turn"] : List Str).Nodup by decide +kernel) rfl (Or.inl rfl))) (fun _ _ _ _ _ _=>(lH (aN (Dr hr.OH) (pv 0) (ay (am K rfl) (pv 1) ah (fun _ _=>rfl)) (by with_unfolding_all rfl)))) (fun _ _ _ _ _ _=>(bq rfl rfl (pv 0)))) ae)))
   (ag (aB (i:=5) jQ.nd rfl (Or.inl rfl) (bt (a9 K rfl) (by rfl) T.cX (by kernel_rfl) (aa (bF (N:=(["word","turn"] : List Str)) (src:=[none,some 0]) rfl (by show cg _ (defScope jy) _ _ (["turn","yes","no","own","silent","loud"] : List Str) = true;decide +kernel) (by intro g' h;cases h) (bG K rfl (pv 3)) (fun _ _ _ _ _ _=>(aD (i:=0) (show (["word","turn"] : List Str).Nodup by decide +kernel) rfl (Or.inl rfl))) (fun _ _ _ _ _ _=>(lH (aN (wN hr.OH) (pv 0) (ay (am K rfl) (pv 1) ah (fun _ _=>rfl)) (by with_unfolding_all rfl)))) (fun _ _ _ _ _ _=>(bq rfl rfl (pv 0)))) ae)))
   (ag (bv (aN (bp hr.OH) (ay (am K rfl) (pv 0) ah (fun _ _=>rfl)) aO (aM _)) (aj (aE (aV (bD (aV (aa (pv 4) (aa (pv 2) ae))) (bD (aV (aa (pv 5) (aa (pv 2) ae))) ae))))) aW)
   (aj (aE (aV (bD (aV (aa (pv 1) (aa (pv 4) ae))) (bD (aV (aa (pv 1) (aa (pv 5) ae))) ae))))))))),(au (aH (EA (aZ (aq bw (aq aK ac ak) be)) ac ac) ao)
   (au (aH (bz dA (ab (bW (cx ac) ao (aZ (aq Ha ac (aq aK ac ak))) (bS ac)) af)) ao)
   (au (aH (bz dA (ab (bW (cx ac) ao (aZ (aq Ha ac (aq aK ac ak))) (bS ac)) af)) ao)
   (au (cI (aZ (aq bw (aq aK ac ak) be)) (aL (bo (ab (bo (ab ac (ab ac af))) (ab (bo (ab ac (ab ac af))) af)))) bj)
   (aL (bo (ab (bo (ab ac (ab ac af))) (ab (bo (ab ac (ab ac af))) af)))))))),fun xs Z Q h=>?_⟩)
 obtain⟨h,ws,a,b,q,n,rfl,hn,hq,k⟩:=h;have h1:=hq.1.le hn;have h2:=hq.2.le hn;have hd:=kS ws
 have cmp:∀(ys:List (List Int)) (neg:Bool) (K':List AV->SA->Om->Prop) (v0:Option AV) (sd:D),ys.length<=32->(∀ρ,K' (((ys.filter fun v=>if neg then !decide (v∈ws) else decide (v∈ws)).map wdD).map AV.d) ρ Z) ->
   cy (dX 0) (uG (aOp (aIn neg) (gE 0) (aOp aIx (gE 1) (aC (D.int 1))))) (jk (gE 0)) ((ys.map wdD).map AV.d) [] [v0,some (.d (.tup [sd,.tup (ws.map wdD),a,b]))] Z K':=fun ys neg K' v0 sd hl hk=>by
  refine Jm (fun d=>if neg then !inD d (ws.map wdD) else inD d (ws.map wdD)) id (fun d hd' Q q=>?_) (fun d hd' _ Q q=>?_) (sF (m:=0) (by rw[List.length_map];omega)) (fun ρ=>?_)
  ·walk_at "ab"
   exact⟨by omega,q⟩
  ·walk_at "ab"
   exact q
  ·have:((ys.map wdD).filter fun d=>if neg then !inD d (ws.map wdD) else inD d (ws.map wdD)).map id=(ys.filter fun v=>if neg then !decide (v∈ws) else decide (v∈ws)).map wdD:=by
    rw[List.map_id,List.filter_map]
    congr 2
    funext v
    simp[sO]
   rw[this];exact hk ρ
 cases h<;>simp only[goF,goS,if_true,if_false,Bool.false_eq_true,wwD] at k ⊢<;>walk_at "ab"
 ·refine cmp q.2 true _ _ _ h2 fun ρ=>⟨_,aS _,?_⟩
  walk_at "ab";refine cmp q.2 false _ _ _ h2 fun ρ=>⟨_,aS _,?_⟩;walk_at "ab";rw[ax];exact k
 ·refine cmp q.1 true _ _ _ h1 fun ρ=>⟨_,aS _,?_⟩
  walk_at "ab";refine cmp q.1 false _ _ _ h1 fun ρ=>⟨_,aS _,?_⟩;walk_at "ab";rw[ax];exact k
structure En where
 bits:List Int
 at_:Int
 q:WW
noncomputable def En.d(e:En):D:=.tup [.lst (e.bits.map D.int),.int e.at_,.tup (e.q.1.map wdD),.tup (e.q.2.map wdD)]
noncomputable def bT(bs:List Int)(q:WW):Ta->List En
 |.en i=>[⟨bs,i,q⟩]
 |.nd h ws a b=>bT (bs++[0]) (goF h ws q) a++bT (bs++[1]) (goS h ws q) b
structure Wt where
 bits:List Int
 u:Ta
 q:WW
noncomputable def Wt.d(e:Wt):D:=.tup [.lst (e.bits.map D.int),e.u.d,.tup (e.q.1.map wdD),.tup (e.q.2.map wdD)]
noncomputable def Wt.ends(e:Wt):List En:=bT e.bits e.q e.u
noncomputable def wsz:List Wt->Nat
 | []=>0
 |e::r=>e.u.size+wsz r
theorem fA:∀a b:List Wt,wsz (a++b)=wsz a+wsz b
 | [],b=>by simp[wsz]
 |e::a,b=>by simp only[List.cons_append,wsz,fA a b];omega
theorem CU:∀a:List Wt,a.length<=wsz a
 | []=>by simp[wsz]
 |e::a=>by
  have:=CU a;have:1<=e.u.size:=by cases e.u<;>simp only[Ta.size]<;>omega
  simp only[wsz,List.length_cons];omega
theorem oW:∀(u:Ta)(bs:List Int)(q:WW),(bT bs q u).length=u.lvs
 |.en i,_,_=>rfl
 |.nd h ws a b,bs,q=>by simp only[bT,List.length_append,oW a,oW b,Ta.lvs]
noncomputable def okW(n:Nat)(m:Nat)(e:Wt):Prop:=e.u.ok n/\Ww n e.q/\e.bits.length+e.u.dp<=m
noncomputable def Im:ASp:=fun xs Z Q=>∃(n:Nat)(q:WW)(u:Ta),xs=[.d (csD n q.1 q.2),.d u.d]/\n<=5/\Ww n q/\u.ok n/\u.dp<=400/\u.size<=400/\Q (.d (.lst ((bT [] q u).map En.d))) Z
theorem gS{t u:AS}{D:cB}{ρ:SA}{Z:Om}(h:∀N:SA->Om->Prop,(∀ρ' Z',u D ρ' Z'->N ρ' Z')->t { D with nx:=N } ρ Z):Au t u D ρ Z:=h (u D) fun _ _ h=>h
theorem Ic(T:Txt K mg t):az P w K mg base CX0 2 t.ft t.pN ["case","talk"] (bg Im):=by
 have G_went_on:az P w K mg base _ _ _ _ _ _:=Ck T
 refine T.Ed.okD cS (fun xs Z Q h=>by obtain⟨n,q,u,rfl,_⟩:=h;rfl) (fun cdv A outer s H E hr=>⟨_,_,(ag (aB (i:=2) cS.nd rfl (Or.inl rfl) (bh ae))
   (ag (aB (i:=3) cS.nd rfl (Or.inl rfl) (bh (bD (aV (fQ (bh ae) (aa (pv 1) (aa (ay (am K rfl) (pv 0) ah (fun _ _=>rfl)) (aa (ay (am K rfl) (pv 0) ah (fun _ _=>rfl)) ae))))) ae)))
   (ag (nE PassesOwn.never (bd K rfl (pv 3) (fun _=>rfl)) (ag (pH (hU PySem.F.plainAttrs_list PySem.F.slot_list_pop PySem.F.type_list_pop iG (pv 3)) (dS K rfl (n:=4) rfl (aX (aD (i:=4) cS.nd rfl (Or.inl rfl)) (aX (aD (i:=5) cS.nd rfl (Or.inl rfl)) (aX (aD (i:=6) cS.nd rfl (Or.inl rfl)) (aX (aD (i:=7) cS.nd rfl (Or.inl rfl)) dQ))))))
   (aj (bv (aN (bp hr.OH) (ay (am K rfl) (pv 5) ah (fun _ _=>rfl)) aO (aM _)) (aj (bO (dn PySem.F.plainAttrs_list PySem.F.slot_list_append PySem.F.type_list_append bc (pv 2) (bD (aV (aa (pv 4) (aa (ay (am K rfl) (pv 5) ah (fun _ _=>rfl)) (aa (pv 6) (aa (pv 7) ae))))) ae)))) (ag (pH (ai G_went_on (hr.mono (by omega)) (by rfl) T.uH T.vp T.uT .nil ar (aa (pv 5) (aa (pv 6) (aa (pv 7) ae)))) (dS K rfl (n:=2) rfl (aX (aD (i:=8) cS.nd rfl (Or.inl rfl)) (aX (aD (i:=9) cS.nd rfl (Or.inl rfl)) dQ))))
   (ag (bO (dn PySem.F.plainAttrs_list PySem.F.slot_list_append PySem.F.type_list_append bc (pv 3) (bD (aV (aa (aT (aQ cm (aQ bN cn)) (pv 4) (bh (av ah ae))) (aa (ay (am K rfl) (pv 5) ah (fun _ _=>rfl)) (aa (ay (am K rfl) (pv 9) ah (fun _ _=>rfl)) (aa (ay (am K rfl) (pv 9) ah (fun _ _=>rfl)) ae))))) ae)))
   (aj (bO (dn PySem.F.plainAttrs_list PySem.F.slot_list_append PySem.F.type_list_append bc (pv 3) (bD (aV (aa (aT (aQ cm (aQ bN cn)) (pv 4) (bh (av ah ae))) (aa (ay (am K rfl) (pv 5) ah (fun _ _=>rfl)) (aa (ay (am K rfl) (pv 8) ah (fun _ _=>rfl)) (aa (ay (am K rfl) (pv 8) ah (fun _ _=>rfl)) ae))))) ae))))))))))
   (aj (aE (pv 2)))))),(au (aH (dJ af) ao)
   (au (aH (dJ (ab (bo (ab (dP af) (ab ac (ab (aq aK ac ak) (ab (aq aK ac ak) af))))) af)) ao)
   (au (qE (dI ac) (au (aH (mt ac) (kb (bH ao (bH ao (bH ao (bH ao kg))))))
   (cI (aZ (aq bw (aq aK ac ak) be)) (cC (bu ac (ab (bo (ab ac (ab (aq aK ac ak) (ab ac (ab ac af))))) af))) (au (aH (ap (ab ac (ab ac (ab ac af)))) (kb (bH ao (bH ao kg))))
   (au (cC (bu ac (ab (bo (ab (aq dm ac (dP (ab ak af))) (ab (aq aK ac ak) (ab (aq aK ac ak) (ab (aq aK ac ak) af))))) af)))
   (cC (bu ac (ab (bo (ab (aq dm ac (dP (ab ak af))) (ab (aq aK ac ak) (ab (aq aK ac ak) (ab (aq aK ac ak) af))))) af))))))))
   (aL zW)))),fun xs Z Q h=>?_⟩)
 obtain⟨n,q,u,rfl,hn,hq,hu,hdp,hsz,k⟩:=h;simp only[csD];walk_at "s1";intro l1 hl1;walk_at "s1";intro l2 hl2;walk_at "s1";obtain⟨n21,hl2⟩:=bQ hl2;have n12:=Ne.symm n21
 obtain⟨Pv,iP⟩:=JF fun j ρ Z'=>∃(W:List Wt)(es:List En)(v4 v5 v6 v7 v8 v9:Option AV),ρ=[some (.d (csD n q.1 q.2)),some (.d u.d),some (.r (.ref l1)),some (.r (.ref l2)),v4,v5,v6,v7,v8,v9]/\Z'=om2 Z l1 l2 (.own ((es.map En.d).map AV.d)) (.own ((W.map Wt.d).map AV.d))/\(∀e∈W,okW n u.dp e) /\
  es++(W.reverse.flatMap Wt.ends)=bT [] q u/\es.length+wsz W<=u.size/\j=wsz W
 refine⟨Pv,⟨_,(iP _ _ _).mpr ⟨[⟨[],u,q⟩],[],_,_,_,_,_,_,rfl,rfl,by simpa[okW] using⟨hu,hq⟩,by simp[Wt.ends],by simp[wsz],rfl⟩⟩,fun j ρ Z' h=>?_⟩
 obtain⟨W,es,v4,v5,v6,v7,v8,v9,rfl,rfl,hW,hE,hS,rfl⟩:=(iP _ _ _).mp h;clear h;rcases List.eq_nil_or_concat W with rfl|⟨W',e,rfl⟩
 ·simp only[List.map_nil]
  walk_at "a1";simp only[cz];refine⟨false,rfl,?_⟩;rw[if_neg (by decide)]
  try walk_at "a1"
  simp only[kB n12];walk_at "ab";simp only[List.reverse_nil,List.flatMap_nil,List.append_nil] at hE;subst hE;rw[jF]
  ·exact k
  ·exact((Ex.refl Z).over hl1).over hl2 |>.over hl1
 ·rw[List.concat_eq_append] at hW hE hS ⊢
  have hWl:=CU W';rw[fA] at hS;simp only[List.map_append,List.map_cons,List.map_nil];obtain⟨bs,u2,q2⟩:=e;obtain⟨hu2,hq2,hb2⟩:=hW _ (List.mem_append_right _ (List.mem_singleton.mpr rfl));have hW':∀e∈W',okW n u.dp e:=fun e he=>hW e (List.mem_append_left _ he);simp only[List.reverse_append,List.reverse_cons,List.reverse_nil,List.nil_append,List.flatMap_append,List.flatMap_cons,List.flatMap_nil,List.append_nil,Wt.ends,List.cons_append] at hE
  simp only[Wt.d]
  cases u2 with
  |en i=>
   simp only[Ta.d];walk_at "a1";simp only[cz,cM];refine⟨true,by simp,?_⟩
   rw[if_pos rfl];refine⟨Pv (wsz W'),fun ρ' Z' h=>⟨_,by rw[fA];simp[wsz,Ta.size],h⟩,?_⟩
   refine gS fun N hN=>?_;walk_at "a1";simp only[cz,cM];walk_at "a1";refine hN _ _ ?_;clear hN;walk_at "a1";simp only[kB n12,jT n12];walk_at "a1";refine⟨iM (m:=0) (by omega),?_⟩
   refine(iP _ _ _).mpr ⟨W',es++[⟨bs,i,q2⟩],_,_,_,_,_,_,rfl,by simp[En.d],hW',?_,?_,rfl⟩
   ·rw[←hE];simp[bT]
   ·simp[wsz,Ta.size] at hS ⊢;omega
  |nd hh ws a b=>
   simp only[Ta.d];have hE2:¬ (if hh then ("yes":Str) else ("no":Str))="end":=by cases hh<;>decide +kernel
   walk_at "a1";simp only[cz,cM];refine⟨true,by simp,?_⟩
   rw[if_pos rfl];refine⟨Pv (wsz (W'++[⟨bs++[1],b,goS hh ws q2⟩,⟨bs++[0],a,goF hh ws q2⟩])),fun ρ' Z' h=>⟨_,by rw[fA,fA];simp only[wsz,Ta.size];omega,h⟩,?_⟩
   refine gS fun N hN=>?_;walk_at "a1";simp only[cz,cM];walk_at "a1";refine hN _ _ ?_;clear hN;walk_at "a1";simp only[hE2,if_false];refine gS fun N hN=>?_;walk_at "a1";refine⟨hh,ws,a.d,b.d,q2,n,rfl,hn,hq2,?_⟩;have hb3:bs.length+(Ta.nd hh ws a b).dp<=u.dp:=hb2;simp only[Ta.dp] at hb3;have hbl:bs.length<=400:=by omega
   walk_at "a1";refine hN _ _ ?_;clear hN;simp only[wwD];refine gS fun N hN=>?_;walk_at "a1";simp only[cz,cM];walk_at "a1";have hsz2:W'.length+1<sizeLine:=iM (m:=0) (by omega)
   refine⟨sF (m:=0) (by omega),iM (m:=0) (by omega),hN _ _ ?_⟩
   clear hN;walk_at "a1";simp only[cz,cM];walk_at "a1";refine⟨sF (m:=0) (by omega),hsz2,?_⟩
   refine(iP _ _ _).mpr ⟨W'++[⟨bs++[1],b,goS hh ws q2⟩,⟨bs++[0],a,goF hh ws q2⟩],es,_,_,_,_,_,_,rfl,by simp[Wt.d],?_,?_,?_,rfl⟩
   ·intro e he
    rcases List.mem_append.mp he with h|h
    ·exact hW' e h
    ·rcases List.mem_cons.mp h with rfl|h
     ·exact⟨hu2.2.2,hq2.s,by simp only[List.length_append,List.length_cons,List.length_nil];omega⟩
     ·rw[List.mem_singleton.mp h]
      exact⟨hu2.2.1,hq2.f,by simp only[List.length_append,List.length_cons,List.length_nil];omega⟩
   ·rw[←hE];simp[bT,Wt.ends]
   ·rw[fA];simp only[wsz,Ta.size] at hS ⊢;omega
noncomputable def has(q:WW):Bool:=!q.1.isEmpty && !q.2.isEmpty
noncomputable def MS:ASp:=fun xs Z Q=>∃q:WW,xs=[.d (wwD q)]/\Q (.d (.bl (has q))) Z
theorem MP(T:Txt K mg t):az P w K mg base CX0 1 t.dq t.kD ["words"] (bg MS):=by
 refine T.zj.okD wm (fun xs Z Q h=>by obtain⟨q,rfl,_⟩:=h;rfl) (fun cdv A outer s H E hr=>⟨_,_,(aj (aE (dD K rfl (bU BU (aG (ba K rfl) (by rfl) T.dH (by kernel_rfl) (aa (ay (am K rfl) (pv 0) ah (fun _ _=>rfl)) ae)) ah (aM _)) (iS (bU BU (aG (ba K rfl) (by rfl) T.dH (by kernel_rfl) (aa (ay (am K rfl) (pv 0) ah (fun _ _=>rfl)) ae)) ah (aM _)))))),(aL (fe (aq g8 (bz eA (ab (aq aK ac ak) af)) ak) (aq g8 (bz eA (ab (aq aK ac ak) af)) ak))),fun xs Z Q h=>?_⟩)
 obtain⟨q,rfl,k⟩:=h;simp only[wwD];walk_at "ab";rw[ax];have e1:∀ws:List (List Int),(decide (0<(ws.length:Int)))=!ws.isEmpty:=fun ws=>by cases ws<;>simp<;>omega
 by_cases h:0<(q.1.length:Int)
 ·rw[if_pos h]
  have e:(!q.1.isEmpty)=true:=by rw[←e1];exact decide_eq_true h
  unfold has at k;rw[e,Bool.true_and,←e1] at k
  exact k
 ·rw[if_neg h]
  have e:(!q.1.isEmpty)=false:=by rw[←e1];exact decide_eq_false h
  unfold has at k;rw[e,Bool.false_and] at k;rw[decide_eq_false h];exact k
noncomputable def dO:Ta->WW->Ta
 |.en i,_=>.en i
 |.nd h ws a b,q=>if has (goF h ws q) then (if has (goS h ws q) then .nd h ws (dO a (goF h ws q)) (dO b (goS h ws q)) else dO a q) else dO b q
noncomputable def eN:Ta->WW->List Ta
 |.en i,_=>[.en i]
 |.nd h ws a b,q=>if has (goF h ws q) then (if has (goS h ws q) then .nd h ws a b::(eN b (goS h ws q)++eN a (goF h ws q)) else eN a q) else eN b q
theorem i6:∀(u:Ta)(q:WW),(eN u q).length<=u.size
 |.en i,_=>Nat.le_refl _
 |.nd h ws a b,q=>by
  have h1:=i6 a q;have h2:=i6 b q;have h3:=i6 a (goF h ws q);have h4:=i6 b (goS h ws q);simp only[eN,Ta.size];split
  ·split
   ·simp;omega
   ·omega
  ·omega
theorem lP{n:Nat}:∀ {u:Ta} (q:WW),u.ok n->(dO u q).ok n/\(dO u q).dp<=u.dp/\(dO u q).size<=u.size
 |.en i,_,h=>⟨h,Nat.le_refl _,Nat.le_refl _⟩
 |.nd hh ws a b,q,h=>by
  obtain⟨a1,a2,a3⟩:=lP (goF hh ws q) h.2.1;obtain⟨b1,b2,b3⟩:=lP (goS hh ws q) h.2.2;obtain⟨c1,c2,c3⟩:=lP q h.2.1;obtain⟨d1,d2,d3⟩:=lP q h.2.2;simp only[dO,Ta.dp,Ta.size];split
  ·split
   ·exact⟨⟨h.1,a1,b1⟩,by simp only[Ta.dp];omega,by simp only[Ta.size];omega⟩
   ·exact⟨c1,by omega,by omega⟩
  ·exact⟨d1,by omega,by omega⟩
noncomputable def nM:List Ta->List Ta->List Ta
 | [],st=>st
 |.en i::r,st=>nM r (st++[.en i])
 |.nd h ws _ _::r,st=>match st.reverse with
  |y::x::bB=>nM r (bB.reverse++[.nd h ws x y])
  |_=>[]
theorem jh:∀(u:Ta)(q:WW)(r st:List Ta),nM ((eN u q).reverse++r) st=nM r (st++[dO u q])
 |.en i,_,r,st=>by simp[eN,nM,dO]
 |.nd h ws a b,q,r,st=>by
  simp only[eN,dO];split
  ·split
   ·simp only[List.reverse_cons,List.reverse_append,List.append_assoc,List.singleton_append,List.cons_append,List.nil_append]
    rw[jh a,jh b];simp[nM]
   ·exact jh a q r st
  ·exact jh b q r st
structure Wc where
 u:Ta
 q:WW
noncomputable def Wc.d(e:Wc):D:=.tup [e.u.d,.tup (e.q.1.map wdD),.tup (e.q.2.map wdD)]
noncomputable def wcs:List Wc->Nat
 | []=>0
 |e::r=>e.u.size+wcs r
theorem fv:∀a b:List Wc,wcs (a++b)=wcs a+wcs b
 | [],b=>by simp[wcs]
 |e::a,b=>by simp only[List.cons_append,wcs,fv a b];omega
theorem BA:∀a:List Wc,a.length<=wcs a
 | []=>by simp[wcs]
 |e::a=>by
  have:=BA a;have:1<=e.u.size:=by cases e.u<;>simp only[Ta.size]<;>omega
  simp only[wcs,List.length_cons];omega
noncomputable def Iz:ASp:=fun xs Z Q=>∃(n:Nat)(q:WW)(u:Ta),xs=[.d (csD n q.1 q.2),.d u.d]/\n<=5/\Ww n q/\u.ok n/\u.size<=400/\Q (.d (.lst ((eN u q).reverse.map Ta.d))) Z
theorem Jh(T:Txt K mg t):az P w K mg base CX0 2 t.cE t.iH ["case","talk"] (bg Iz):=by
 have G_went_on:az P w K mg base _ _ _ _ _ _:=Ck T;have G_has_pairs:az P w K mg base _ _ _ _ _ _:=MP T
 refine T.tR.okD b9 (fun xs Z Q h=>by obtain⟨n,q,u,rfl,_⟩:=h;rfl) (fun cdv A outer s H E hr=>⟨_,_,(ag (aB (i:=2) b9.nd rfl (Or.inl rfl) (bh ae))
   (ag (aB (i:=3) b9.nd rfl (Or.inl rfl) (bh (bD (aV (aa (pv 1) (aa (ay (am K rfl) (pv 0) ah (fun _ _=>rfl)) (aa (ay (am K rfl) (pv 0) ah (fun _ _=>rfl)) ae)))) ae)))
   (ag (nE PassesOwn.never (bd K rfl (pv 3) (fun _=>rfl)) (ag (pH (hU PySem.F.plainAttrs_list PySem.F.slot_list_pop PySem.F.type_list_pop iG (pv 3)) (dS K rfl (n:=3) rfl (aX (aD (i:=4) b9.nd rfl (Or.inl rfl)) (aX (aD (i:=5) b9.nd rfl (Or.inl rfl)) (aX (aD (i:=6) b9.nd rfl (Or.inl rfl)) dQ)))))
   (ag (bv (aN (bp hr.OH) (ay (am K rfl) (pv 4) ah (fun _ _=>rfl)) aO (aM _)) (ag (bO (dn PySem.F.plainAttrs_list PySem.F.slot_list_append PySem.F.type_list_append bc (pv 2) (aa (pv 4) ae)))
   (aj zo)) aW)
   (ag (pH (ai G_went_on (hr.mono (by omega)) (by rfl) T.uH T.vp T.uT .nil ar (aa (pv 4) (aa (pv 5) (aa (pv 6) ae)))) (dS K rfl (n:=2) rfl (aX (aD (i:=7) b9.nd rfl (Or.inl rfl)) (aX (aD (i:=8) b9.nd rfl (Or.inl rfl)) dQ))))
   (aj (bv (dc (bd K rfl (ai G_has_pairs (hr.mono (by omega)) (by rfl) T.pP T.qa T.p9 .nil ar (aa (pv 7) ae)) (fun _=>rfl))) (aj (bO (dn PySem.F.plainAttrs_list PySem.F.slot_list_append PySem.F.type_list_append bc (pv 3) (bD (aV (aa (ay (am K rfl) (pv 4) ah (fun _ _=>rfl)) (aa (pv 5) (aa (pv 6) ae)))) ae)))) (aj (bv (dc (bd K rfl (ai G_has_pairs (hr.mono (by omega)) (by rfl) T.pP T.qa T.p9 .nil ar (aa (pv 8) ae)) (fun _=>rfl))) (aj (bO (dn PySem.F.plainAttrs_list PySem.F.slot_list_append PySem.F.type_list_append bc (pv 3) (bD (aV (aa (ay (am K rfl) (pv 4) ah (fun _ _=>rfl)) (aa (pv 5) (aa (pv 6) ae)))) ae)))) (ag (bO (dn PySem.F.plainAttrs_list PySem.F.slot_list_append PySem.F.type_list_append bc (pv 2) (aa (pv 4) ae)))
   (ag (bO (dn PySem.F.plainAttrs_list PySem.F.slot_list_append PySem.F.type_list_append bc (pv 3) (bD (aV (aa (ay (am K rfl) (pv 4) ah (fun _ _=>rfl)) (aa (ay (am K rfl) (pv 7) ah (fun _ _=>rfl)) (aa (ay (am K rfl) (pv 7) ah (fun _ _=>rfl)) ae)))) ae)))
   (aj (bO (dn PySem.F.plainAttrs_list PySem.F.slot_list_append PySem.F.type_list_append bc (pv 3) (bD (aV (aa (ay (am K rfl) (pv 4) ah (fun _ _=>rfl)) (aa (ay (am K rfl) (pv 8) ah (fun _ _=>rfl)) (aa (ay (am K rfl) (pv 8) ah (fun _ _=>rfl)) ae)))) ae))))))))))))))
   (aj (aE (Aw K rfl (pv 2) (yw rQ ah))))))),(au (aH (dJ af) ao)
   (au (aH (dJ (ab (bo (ab ac (ab (aq aK ac ak) (ab (aq aK ac ak) af)))) af)) ao)
   (au (qE (dI ac) (au (aH (mt ac) (kb (bH ao (bH ao (bH ao kg)))))
   (au (cI (aZ (aq bw (aq aK ac ak) be)) (au (cC (bu ac (ab ac af)))
   LN) bj)
   (au (aH (ap (ab ac (ab ac (ab ac af)))) (kb (bH ao (bH ao kg))))
   (cI (eV (dI (ap (ab ac af)))) (cC (bu ac (ab (bo (ab (aq aK ac ak) (ab ac (ab ac af)))) af))) (cI (eV (dI (ap (ab ac af)))) (cC (bu ac (ab (bo (ab (aq aK ac ak) (ab ac (ab ac af)))) af))) (au (cC (bu ac (ab ac af)))
   (au (cC (bu ac (ab (bo (ab (aq aK ac ak) (ab (aq aK ac ak) (ab (aq aK ac ak) af)))) af)))
   (cC (bu ac (ab (bo (ab (aq aK ac ak) (ab (aq aK ac ak) (ab (aq aK ac ak) af)))) af)))))))))))
   (aL (Kz ac))))),fun xs Z Q h=>?_⟩)
 obtain⟨n,q,u,rfl,hn,hq,hu,hsz,k⟩:=h;simp only[csD];walk_at "s1";intro l1 hl1;walk_at "s1";intro l2 hl2;walk_at "s1";obtain⟨n21,hl2⟩:=bQ hl2;have n12:=Ne.symm n21
 obtain⟨Pv,iP⟩:=JF fun j ρ Z'=>∃(W:List Wc)(es:List Ta)(v4 v5 v6 v7 v8:Option AV),ρ=[some (.d (csD n q.1 q.2)),some (.d u.d),some (.r (.ref l1)),some (.r (.ref l2)),v4,v5,v6,v7,v8]/\Z'=om2 Z l1 l2 (.own ((es.map Ta.d).map AV.d)) (.own ((W.map Wc.d).map AV.d))/\(∀e∈W,e.u.ok n/\Ww n e.q) /\
  es++(W.reverse.flatMap fun e=>eN e.u e.q)=eN u q/\es.length+wcs W<=u.size/\j=wcs W
 refine⟨Pv,⟨_,(iP _ _ _).mpr ⟨[⟨u,q⟩],[],_,_,_,_,_,rfl,rfl,by simpa using⟨hu,hq⟩,by simp,by simp[wcs],rfl⟩⟩,fun j ρ Z' h=>?_⟩
 obtain⟨W,es,v4,v5,v6,v7,v8,rfl,rfl,hW,hE,hS,rfl⟩:=(iP _ _ _).mp h;clear h;rcases List.eq_nil_or_concat W with rfl|⟨W',e,rfl⟩
 ·simp only[List.map_nil]
  walk_at "a1";simp only[cz];refine⟨false,rfl,?_⟩;rw[if_neg (by decide)]
  try walk_at "a1"
  simp only[kB n12];walk_at "ab";simp only[List.reverse_nil,List.flatMap_nil,List.append_nil] at hE;subst hE;have eo:∀A B,(om2 Z l1 l2 A B).only Z=Z:=fun A B=>jF (((Ex.refl Z).over hl1).over hl2);rw[eo,←List.map_reverse]
  exact k
 ·rw[List.concat_eq_append] at hW hE hS ⊢
  have hWl:=BA W';rw[fv] at hS;simp only[List.map_append,List.map_cons,List.map_nil];obtain⟨u2,q2⟩:=e;obtain⟨hu2,hq2⟩:=hW _ (List.mem_append_right _ (List.mem_singleton.mpr rfl));have hW':∀e∈W',e.u.ok n/\Ww n e.q:=fun e he=>hW e (List.mem_append_left _ he);simp only[List.reverse_append,List.reverse_cons,List.reverse_nil,List.nil_append,List.flatMap_append,List.flatMap_cons,List.flatMap_nil,List.append_nil,List.cons_append] at hE
  simp only[Wc.d]
  cases u2 with
  |en i=>
   simp only[Ta.d];walk_at "a1";simp only[cz,cM];refine⟨true,by simp,?_⟩
   rw[if_pos rfl];refine⟨Pv (wcs W'),fun ρ' Z' h=>⟨_,by rw[fv];simp[wcs,Ta.size],h⟩,?_⟩
   walk_at "s1";simp only[cz,cM];walk_at "a1";walk_at "s1";walk_at "s1";simp only[kB n12,jT n12];walk_at "a1";refine⟨iM (m:=0) (by omega),?_⟩
   refine(iP _ _ _).mpr ⟨W',es++[.en i],_,_,_,_,_,rfl,by simp[Ta.d],hW',?_,?_,rfl⟩
   ·rw[←hE];simp[eN]
   ·simp[wcs,Ta.size] at hS ⊢;omega
  |nd hh ws a b=>
   simp only[Ta.d];have hE2:¬ (if hh then ("yes":Str) else ("no":Str))="end":=by cases hh<;>decide +kernel
   walk_at "a1";simp only[cz,cM];refine⟨true,by simp,?_⟩
   rw[if_pos rfl];have lt:∀W2:List Wc,wcs W2<=a.size+b.size->∀ρ' Z',Pv (wcs (W'++W2)) ρ' Z'->∃m',m'<wcs (W'++[⟨.nd hh ws a b,q2⟩])/\Pv m' ρ' Z':=fun W2 h2 ρ' Z' h=>⟨_,by rw[fv,fv];simp only[wcs,Ta.size];omega,h⟩
   refine⟨fun ρ' Z'=>∃m',m'<wcs (W'++[⟨.nd hh ws a b,q2⟩])/\Pv m' ρ' Z',fun ρ' Z' h=>h,?_⟩;simp only[eN] at hE;refine gS fun N hN=>?_;walk_at "a1";simp only[cz,cM];walk_at "a1";refine hN _ _ ?_;clear hN;refine gS fun N hN=>?_;walk_at "a1";simp only[hE2,if_false];refine hN _ _ ?_;clear hN;refine gS fun N hN=>?_;walk_at "a1";refine⟨hh,ws,a.d,b.d,q2,n,rfl,hn,hq2,?_⟩;walk_at "a1";refine hN _ _ ?_
   clear hN;walk_at "a1";refine⟨_,rfl,?_⟩
   have up:∀(W2:List Wc)(es2:List Ta)(v4 v5 v6 v7 v8:Option AV),wcs W2<=a.size+b.size->es2.length<=es.length+1->(∀e∈W2,e.u.ok n/\Ww n e.q)->es2++(W2.reverse.flatMap fun e=>eN e.u e.q)++(W'.reverse.flatMap fun e=>eN e.u e.q)=eN u q ->
     ∃m',m'<wcs (W'++[⟨.nd hh ws a b,q2⟩])/\Pv m' [some (.d (csD n q.1 q.2)),some (.d u.d),some (.r (.ref l1)),some (.r (.ref l2)),v4,v5,v6,v7,v8] (om2 Z l1 l2 (.own ((es2.map Ta.d).map AV.d)) (.own (((W'++W2).map Wc.d).map AV.d))):=fun W2 es2 v4 v5 v6 v7 v8 h1 h2 h3 h4=>
    lt W2 h1 _ _ ((iP _ _ _).mpr ⟨W'++W2,es2,_,_,_,_,_,rfl,rfl,fun e he=>(List.mem_append.mp he).elim (hW' e) (h3 e),by simpa using h4,by rw[fv];simp only[wcs,Ta.size] at hS;omega,rfl⟩)
   have s1:W'.length<sizeLine:=iM (m:=0) (by omega)
   have s2:W'.length+1<sizeLine:=iM (m:=0) (by simp only[wcs,Ta.size] at hS;have:=Ta.dL a;have:=Ta.dL b;omega)
   have s3:es.length<sizeLine:=iM (m:=0) (by omega)
   cases hf:has (goF hh ws q2) with
   |false=>
    simp only[hf,if_false,Bool.false_eq_true] at hE;walk_at "ab";simp only[cz,cM];walk_at "ab";refine⟨s1,?_⟩;have:=up [⟨b,q2⟩] es (some (AV.d (Ta.nd hh ws a b).d)) (some (.d (.tup (q2.1.map wdD)))) (some (.d (.tup (q2.2.map wdD)))) (some (.d (wwD (goF hh ws q2)))) (some (.d (wwD (goS hh ws q2)))) (by simp[wcs]) (by omega) (by simpa using⟨hu2.2.2,hq2⟩) (by rw[←hE];simp)
    simpa[Wc.d,Ta.d] using this
   |true=>
    simp only[hf,if_true] at hE;walk_at "ab";refine⟨_,rfl,?_⟩;walk_at "ab"
    cases hg:has (goS hh ws q2) with
    |false=>
     simp only[hg,if_false,Bool.false_eq_true] at hE;walk_at "ab";simp only[cz,cM];walk_at "ab";refine⟨s1,?_⟩;have:=up [⟨a,q2⟩] es (some (AV.d (Ta.nd hh ws a b).d)) (some (.d (.tup (q2.1.map wdD)))) (some (.d (.tup (q2.2.map wdD)))) (some (.d (wwD (goF hh ws q2)))) (some (.d (wwD (goS hh ws q2)))) (by simp[wcs]) (by omega) (by simpa using⟨hu2.2.1,hq2⟩) (by rw[←hE];simp)
     simpa[Wc.d,Ta.d] using this
    |true=>
     simp only[hg,if_true] at hE;walk_at "ab";simp only[kB n12,jT n12];simp only[wwD];walk_at "ab";simp only[cz,cM];walk_at "ab";refine⟨s3,s1,s2,?_⟩
     have:=up [⟨a,goF hh ws q2⟩,⟨b,goS hh ws q2⟩] (es ++ [.nd hh ws a b]) (some (AV.d (Ta.nd hh ws a b).d)) (some (.d (.tup (q2.1.map wdD)))) (some (.d (.tup (q2.2.map wdD)))) (some (.d (wwD (goF hh ws q2)))) (some (.d (wwD (goS hh ws q2)))) (by simp [wcs]) (by simp) (by
      intro e he;rcases List.mem_cons.mp he with rfl|h
      ·exact⟨hu2.2.1,hq2.f⟩
      ·rw[List.mem_singleton.mp h];exact⟨hu2.2.2,hq2.s⟩) (by rw[←hE];simp)
     simpa[Wc.d,Ta.d,wwD] using this
noncomputable def LZ:ASp:=fun xs Z Q=>∃(n:Nat)(q:WW)(u:Ta),xs=[.d (csD n q.1 q.2),.d u.d]/\n<=5/\Ww n q/\u.ok n/\u.size<=400/\Q (.d (dO u q).d) Z
theorem Mw(T:Txt K mg t):az P w K mg base CX0 3 t.rW t.HG ["case","talk"] (bg LZ):=by
 have G_kept_upward:az P w K mg base _ _ _ _ _ _:=Jh T
 refine T.Nr.okD rO (fun xs Z Q h=>by obtain⟨n,q,u,rfl,_⟩:=h;rfl) (fun cdv A outer s H E hr=>⟨_,_,(ag (aB (i:=2) rO.nd rfl (Or.inl rfl) (bh ae))
   (ag (fq PassesOwn.never rfl (bG K rfl (ai G_kept_upward (hr.mono (by omega)) (by rfl) T.tV T.tQ T.t7 .nil ar (aa (pv 0) (aa (pv 1) ae)))) (aD (i:=3) rO.nd rfl (Or.inl rfl)) (aj (bv (aN (bp hr.OH) (ay (am K rfl) (pv 3) ah (fun _ _=>rfl)) aO (aM _)) (aj (bO (dn PySem.F.plainAttrs_list PySem.F.slot_list_append PySem.F.type_list_append bc (pv 2) (aa (pv 3) ae)))) (ag (aB (i:=4) rO.nd rfl (Or.inl rfl) (hU PySem.F.plainAttrs_list PySem.F.slot_list_pop PySem.F.type_list_pop iG (pv 2)))
   (ag (aB (i:=5) rO.nd rfl (Or.inl rfl) (hU PySem.F.plainAttrs_list PySem.F.slot_list_pop PySem.F.type_list_pop iG (pv 2)))
   (aj (bO (dn PySem.F.plainAttrs_list PySem.F.slot_list_append PySem.F.type_list_append bc (pv 2) (bD (aV (aa (ay (am K rfl) (pv 3) ah (fun _ _=>rfl)) (aa (ay (am K rfl) (pv 3) ah (fun _ _=>rfl)) (aa (pv 5) (aa (pv 4) ae))))) ae)))))))))
   (aj (aE (ay (am K rfl) (pv 2) ah (fun _ _=>rfl)))))),(au (aH (dJ af) ao)
   (au (ja (cx (ap (ab ac (ab ac af)))) ao (cI (aZ (aq bw (aq aK ac ak) be)) (cC (bu ac (ab ac af))) (au (aH (mt ac) ao)
   (au (aH (mt ac) ao)
   (cC (bu ac (ab (bo (ab (aq aK ac ak) (ab (aq aK ac ak) (ab ac (ab ac af))))) af)))))))
   (aL (aq aK ac ak)))),fun xs Z Q h=>?_⟩)
 obtain⟨n,q,u,rfl,hn,hq,hu,hsz,k⟩:=h;have hlen:=i6 u q;have hw0:nM (eN u q).reverse []=[dO u q]:=by have:=jh u q [] [];simpa[nM] using this
 generalize hR:(eN u q).reverse=R at hw0;have hRl:R.length<=400:=by rw[←hR,List.length_reverse];omega
 walk_at "ab";intro l hl;refine⟨n,q,u,rfl,hn,hq,hu,hsz,?_⟩;rw[hR];walk_at "ab";refine nY (fun i ρ Z'=>∃(st:List Ta)(v3 v4 v5:Option AV),ρ=[some (.d (csD n q.1 q.2)),some (.d u.d),some (.r (.ref l)),v3,v4,v5]/\Z'=Z.put l (.own ((st.map Ta.d).map AV.d))/\st.length<=i/\nM (R.drop i) st=[dO u q]) ⟨[],_,_,_,rfl,rfl,Nat.le_refl _,by simpa using hw0⟩ ?_ ?_
 ·rintro i d ρ Z' N hd ⟨st,v3,v4,v5,rfl,rfl,hst,hwk⟩ kN
  obtain⟨v,hv,rfl⟩:=eK hd;obtain⟨hi,ev⟩:=List.getElem?_eq_some_iff.mp hv;rw[List.drop_eq_getElem_cons hi,ev] at hwk;have hs1:st.length<sizeLine:=iM (m:=0) (by omega)
  cases v with
  |en j=>
   simp only[Ta.d];walk_at "ab";exact⟨hs1,kN _ _ ⟨st++[.en j],_,_,_,rfl,by simp[Ta.d],by simp;omega,by simpa[nM] using hwk⟩⟩
  |nd hh ws a b=>
   have hE2:¬ (if hh then ("yes":Str) else ("no":Str))="end":=by cases hh<;>decide +kernel
   rcases List.eq_nil_or_concat st with rfl|⟨st1,y,rfl⟩
   ·simp[nM] at hwk
   rw[List.concat_eq_append] at *;rcases List.eq_nil_or_concat st1 with rfl|⟨st2,x,rfl⟩
   ·simp[nM] at hwk
   rw[List.concat_eq_append] at *;simp only[Ta.d,List.map_append,List.map_cons,List.map_nil];walk_at "ab";simp only[hE2,if_false];simp only[List.length_append,List.length_cons,List.length_nil] at hst;refine⟨iM (m:=0) (by omega),kN _ _ ⟨st2++[.nd hh ws x y],_,_,_,rfl,by simp[Ta.d],by simp;omega,by simpa[nM] using hwk⟩⟩
 ·rintro ρ Z' ⟨st,v3,v4,v5,rfl,rfl,hst,hwk⟩
  rw[List.length_map,List.drop_length] at hwk;simp only[nM] at hwk;subst hwk;walk_at "ab";rw[jF ((Ex.refl Z).new hl)];exact k
theorem jK{q:WW}:has q=true↔q.1≠[]/\q.2≠[]:=by
 unfold has;rw[Bool.and_eq_true];constructor
 ·rintro⟨a,b⟩
  exact⟨fun e=>by rw[e] at a;simp at a,fun e=>by rw[e] at b;simp at b⟩
 ·rintro⟨a,b⟩
  exact⟨by cases h:q.1<;>simp_all,by cases h:q.2<;>simp_all⟩
theorem jo:∀(u:Ta)(bs:List Int)(q:WW),has q=true->∀e∈bT bs q (dO u q),has e.q=true
 |.en i,bs,q,h,e,he=>by simp only[dO,bT,List.mem_singleton] at he;rw[he];exact h
 |.nd hh ws a b,bs,q,h,e,he=>by
  cases hF:has (goF hh ws q) with
  |false=>simp only[dO,hF,if_false,Bool.false_eq_true] at he;exact jo b bs q h e he
  |true=>
   cases hS:has (goS hh ws q) with
   |false=>simp only[dO,hF,hS,if_true,if_false,Bool.false_eq_true] at he;exact jo a bs q h e he
   |true=>
    simp only[dO,hF,hS,if_true,bT] at he;rcases List.mem_append.mp he with he|he
    ·exact jo a _ _ hF e he
    ·exact jo b _ _ hS e he
theorem Hr{h:Bool}{ws:List (List Int)}{q:WW}{y z:List Int}(hy:y∈q.1)(hz:z∈q.2):
  (Ta.bit y z h ws=true->y∈(goS h ws q).1/\z∈(goS h ws q).2)/\(Ta.bit y z h ws=false->y∈(goF h ws q).1/\z∈(goF h ws q).2):=by
 cases h<;>simp only[Ta.bit,goF,goS,if_true,if_false,Bool.false_eq_true,decide_eq_true_eq,decide_eq_false_iff_not,List.mem_filter,hy,hz,true_and,and_true,Bool.not_eq_true',imp_self,and_self]
theorem nW{y z:List Int}:∀(u:Ta)(q:WW),y∈q.1->z∈q.2->Ta.fin y z (dO u q)=Ta.fin y z u
 |.en i,q,hy,hz=>by simp[dO]
 |.nd hh ws a b,q,hy,hz=>by
  have h:has q=true:=jK.mpr ⟨List.ne_nil_of_mem hy,List.ne_nil_of_mem hz⟩;obtain⟨b1,b2⟩:=Hr (h:=hh) (ws:=ws) hy hz
  cases hF:has (goF hh ws q) with
  |false=>
   have hb:Ta.bit y z hh ws=true:=by
    cases e:Ta.bit y z hh ws with
    |true=>rfl
    |false=>
     have:=b2 e;have:has (goF hh ws q)=true:=jK.mpr ⟨List.ne_nil_of_mem this.1,List.ne_nil_of_mem this.2⟩;rw[hF] at this;cases this
   simp only[dO,hF,Ta.fin,hb,if_true,if_false,Bool.false_eq_true];exact nW b q hy hz
  |true=>
   cases hS:has (goS hh ws q) with
   |false=>
    have hb:Ta.bit y z hh ws=false:=by
     cases e:Ta.bit y z hh ws with
     |false=>rfl
     |true=>
      have:=b1 e;have:has (goS hh ws q)=true:=jK.mpr ⟨List.ne_nil_of_mem this.1,List.ne_nil_of_mem this.2⟩;rw[hS] at this;cases this
    simp only[dO,hF,hS,Ta.fin,hb,if_true,if_false,Bool.false_eq_true];exact nW a q hy hz
   |true=>
    simp only[dO,hF,hS,if_true,Ta.fin]
    cases e:Ta.bit y z hh ws with
    |true=>simp only[if_true];exact nW b _ (b1 e).1 (b1 e).2
    |false=>simp only[if_false,Bool.false_eq_true];exact nW a _ (b2 e).1 (b2 e).2
noncomputable def IZ(b:Bool)(q:WW)(i:Nat):Bool:=(prl q.1 q.2).all fun p=>ppB b p.1 p.2 i
theorem Mb{h:Bool}{ws:List (List Int)}{q:WW}{y z:List Int}:
  (Ta.bit y z h ws=true->¬ (y∈(goF h ws q).1/\z∈(goF h ws q).2))/\(Ta.bit y z h ws=false->¬ (y∈(goS h ws q).1/\z∈(goS h ws q).2)):=by
 cases h<;>simp only[Ta.bit,goF,goS,if_true,if_false,Bool.false_eq_true,decide_eq_true_eq,decide_eq_false_iff_not,List.mem_filter,Bool.not_eq_true']
 ·exact⟨fun h1 h2=>h2.2.2 h1,fun h1 h2=>h1 h2.2.2⟩
 ·exact⟨fun h1 h2=>h2.1.2 h1,fun h1 h2=>h1 h2.1.2⟩
theorem Mz{h:Bool}{ws:List (List Int)}{q:WW}:((∀v∈(goF h ws q).1,v∈q.1)/\∀v∈(goF h ws q).2,v∈q.2)/\((∀v∈(goS h ws q).1,v∈q.1)/\∀v∈(goS h ws q).2,v∈q.2):=by
 cases h<;>simp only[goF,goS,if_true,if_false,Bool.false_eq_true,List.mem_filter]<;>exact⟨⟨fun v hv=>by first|exact hv|exact hv.1,fun v hv=>by first|exact hv|exact hv.1⟩,fun v hv=>by first|exact hv|exact hv.1,fun v hv=>by first|exact hv|exact hv.1⟩
theorem n8:∀ {u:Ta} {bs:List Int} {q:WW} {e:En},e∈bT bs q u->(∀v∈e.q.1,v∈q.1)/\∀v∈e.q.2,v∈q.2
 |.en i,bs,q,e,h=>by simp only[bT,List.mem_singleton] at h;subst h;exact⟨fun _ h=>h,fun _ h=>h⟩
 |.nd hh ws a b,bs,q,e,h=>by
  obtain⟨⟨f1,f2⟩,s1,s2⟩:=Mz (h:=hh) (ws:=ws) (q:=q);rcases List.mem_append.mp h with h|h
  ·obtain⟨h1,h2⟩:=n8 h
   exact⟨fun v hv=>f1 v (h1 v hv),fun v hv=>f2 v (h2 v hv)⟩
  ·obtain⟨h1,h2⟩:=n8 h
   exact⟨fun v hv=>s1 v (h1 v hv),fun v hv=>s2 v (h2 v hv)⟩
theorem wg{n:Nat}:∀ {u:Ta} {bs:List Int} {q:WW} {e:En},u.ok n->Ww n q->e∈bT bs q u->(0<=e.at_/\e.at_<n)/\Ww n e.q
 |.en i,bs,q,e,hu,hq,h=>by simp only[bT,List.mem_singleton] at h;subst h;exact⟨hu,hq⟩
 |.nd hh ws a b,bs,q,e,hu,hq,h=>by
  rcases List.mem_append.mp h with h|h
  ·exact wg hu.2.1 hq.f h
  ·exact wg hu.2.2 hq.s h
noncomputable def inE(y z:List Int)(e:En):Bool:=decide (y∈e.q.1) && decide (z∈e.q.2)
theorem nv{y z:List Int}:∀(u:Ta)(bs:List Int)(q:WW),y∈q.1->z∈q.2->∃e:En,(bT bs q u).filter (inE y z)=[e]/\e.bits=bs++Ta.way y z u/\e.at_=Ta.fin y z u/\inE y z e=true
 |.en i,bs,q,hy,hz=>by
  have:inE y z ⟨bs,i,q⟩=true:=by simp[inE,hy,hz]
  exact⟨⟨bs,i,q⟩,by simp[bT,this],by simp[Ta.way],rfl,this⟩
 |.nd hh ws a b,bs,q,hy,hz=>by
  obtain⟨b1,b2⟩:=Hr (h:=hh) (ws:=ws) hy hz;obtain⟨c1,c2⟩:=Mb (h:=hh) (ws:=ws) (q:=q) (y:=y) (z:=z)
  have nil:∀(v:Ta)(cs:List Int)(q':WW),¬ (y∈q'.1/\z∈q'.2)->(bT cs q' v).filter (inE y z)=[]:=fun v cs q' hn=>List.filter_eq_nil_iff.mpr fun e he=>by
   obtain⟨h1,h2⟩:=n8 he;simp only[inE,Bool.and_eq_true,decide_eq_true_eq];exact fun⟨g1,g2⟩=>hn ⟨h1 y g1,h2 z g2⟩
  simp only[bT,List.filter_append]
  cases hb:Ta.bit y z hh ws with
  |true=>
   obtain⟨m1,m2⟩:=b1 hb;obtain⟨e,h1,h2,h3,h4⟩:=nv b (bs++[1]) _ m1 m2;refine⟨e,by rw[nil a _ _ (c1 hb),h1];rfl,?_,?_,h4⟩
   ·rw[h2];simp[Ta.way,hb]
   ·rw[h3];simp[Ta.fin,hb]
  |false=>
   obtain⟨m1,m2⟩:=b2 hb;obtain⟨e,h1,h2,h3,h4⟩:=nv a (bs++[0]) _ m1 m2;refine⟨e,by rw[nil b _ _ (c2 hb),h1];rfl,?_,?_,h4⟩
   ·rw[h2];simp[Ta.way,hb]
   ·rw[h3];simp[Ta.fin,hb]
theorem lW{ys zs:List (List Int)}{y z:List Int}:(y,z)∈prl ys zs↔y∈ys/\z∈zs:=by
 constructor
 ·intro h;exact xb h
 ·rintro⟨hy,hz⟩
  unfold prl;exact List.mem_flatMap.mpr ⟨y,hy,List.mem_map.mpr ⟨z,hz,rfl⟩⟩
theorem Du(b:Bool)(u:Ta)(q:WW):((prl q.1 q.2).find? (fau b u)).isNone=((bT [] q u).filter fun e=>has e.q).all fun e=>IZ b e.q e.at_.toNat:=by
 rw[Bool.eq_iff_iff,Option.isNone_iff_eq_none,List.find?_eq_none,List.all_eq_true];constructor
 ·intro h e he
  obtain⟨he,hh⟩:=List.mem_filter.mp he;unfold IZ;rw[List.all_eq_true];rintro⟨y,z⟩ hp;obtain⟨hy,hz⟩:=lW.mp hp;obtain⟨s1,s2⟩:=n8 he;obtain⟨e',h1,_,h3,_⟩:=nv u [] q (s1 y hy) (s2 z hz);have:e∈(bT [] q u).filter (inE y z):=List.mem_filter.mpr ⟨he,by simp[inE,hy,hz]⟩
  rw[h1,List.mem_singleton] at this;subst this;have:=h (y,z) (lW.mpr ⟨s1 y hy,s2 z hz⟩);rw[h3];simpa[fau] using this
 ·rintro h ⟨y,z⟩ hp
  obtain⟨hy,hz⟩:=lW.mp hp;obtain⟨e,h1,_,h3,h4⟩:=nv u [] q hy hz;have he:e∈(bT [] q u).filter (inE y z):=by rw[h1];simp
  simp only[inE,Bool.and_eq_true,decide_eq_true_eq] at h4;have:=h e (List.mem_filter.mpr ⟨(List.mem_filter.mp he).1,jK.mpr ⟨List.ne_nil_of_mem h4.1,List.ne_nil_of_mem h4.2⟩⟩);unfold IZ at this;rw[List.all_eq_true] at this;have:=this (y,z) (lW.mpr h4);rw[h3] at this;simp[fau,this]
theorem FV(b:Bool)(u:Ta)(q:WW):((prl q.1 q.2).find? (fau b (dO u q))).isNone=((prl q.1 q.2).find? (fau b u)).isNone:=by
 rw[Bool.eq_iff_iff,Option.isNone_iff_eq_none,Option.isNone_iff_eq_none,List.find?_eq_none,List.find?_eq_none]
 have:∀p∈prl q.1 q.2,fau b (dO u q) p=fau b u p:=fun p hp=>by
  obtain⟨hy,hz⟩:=xb hp;simp only[fau,nW u q hy hz]
 exact⟨fun h p hp=>by rw[←this p hp];exact h p hp,fun h p hp=>by rw[this p hp];exact h p hp⟩
noncomputable def fN:WW->Ta->Sy
 |q,.en i=>.is i ((q.1.headD []).getD i.toNat 0)
 |q,.nd h ws l r=>.jn (!h) (fN (goF h ws q) l) (fN (goS h ws q) r)
noncomputable def BS(e:En):Sy:=.is e.at_ ((e.q.1.headD []).getD e.at_.toNat 0)
noncomputable def tE:List Ta->List Sy->List Sy->Option (List Sy)
 | [],st,_=>some st
 |.en _::r,st,x::W=>tE r (x::st) W
 |.nd h _ _ _::r,b::a::st,W=>tE r (.jn (!h) a b::st) W
 |_,_,_=>none
noncomputable def Ta.post:Ta->List Ta
 |.en i=>[.en i]
 |.nd h ws l r=>Ta.post l++Ta.post r++[.nd h ws l r]
theorem ww:∀u:Ta,(mh u).post.map Tr.d=(Ta.post u).map Ta.d
 |.en i=>rfl
 |.nd h ws l r=>by
  have e:(mh (.nd h ws l r)).d=(Ta.nd h ws l r).d:=oY _;simp only[mh,Tr.post,Ta.post,List.map_append,ww l,ww r,List.map_cons,List.map_nil];simp only[mh] at e;rw[e]
theorem kA:∀u:Ta,(Ta.post u).length=u.size
 |.en i=>rfl
 |.nd h ws l r=>by simp[Ta.post,Ta.size,kA l,kA r];omega
theorem tu:∀(u:Ta)(bs:List Int)(q:WW)(r:List Ta)(st W:List Sy),tE (Ta.post u++r) st ((bT bs q u).map BS++W)=tE r (fN q u::st) W
 |.en i,bs,q,r,st,W=>rfl
 |.nd h ws a b,bs,q,r,st,W=>by
  simp only[Ta.post,bT,List.map_append,List.append_assoc];rw[tu a,tu b];rfl
theorem BV:∀u:Ta,u.dp<=u.size
 |.en i=>Nat.zero_le _
 |.nd h ws l r=>by
  have:=BV l;have:=BV r;simp only[Ta.dp,Ta.size];omega
theorem HR{n:Nat}{e:En}(hw:Ww n e.q)(h0:0<=e.at_)(h1:e.at_<n)(hh:has e.q=true):∃y ys,e.q.1=y::ys/\atI (((y.map D.int)).map AV.d) e.at_=some (.d (.int (y.getD e.at_.toNat 0))):=by
 obtain⟨h2,_⟩:=jK.mp hh;obtain⟨y,ys,ey⟩:=List.exists_cons_of_ne_nil h2;have hl:y.length=n:=(cu (hw.1.2 y (by rw[ey];exact List.mem_cons_self ..))).1
 obtain⟨z,mz,hz,ez⟩:=Cg (f:=AV.d ∘ D.int) (xs:=y) h0 (by omega)
 refine⟨y,ys,ey,?_⟩;rw[List.map_map,ez,List.getD_eq_getElem?_getD,hz];rfl
noncomputable def IC:ASp:=fun xs Z Q=>∃(n:Nat)(q:WW)(u:Ta),xs=[.d (csD n q.1 q.2),.d u.d]/\n<=5/\Ww n q/\has q=true/\u.ok n/\u.size<=400/\((prl q.1 q.2).find? (fau false u)).isNone=true/\Q (.d (fN q (dO u q)).d) Z
theorem IT(T:Txt K mg t):az P t.wo K mg base CX0 4 t.du t.lc ["case","talk"] (bg IC):=by
 have G_lets_by:az P t.wo K mg base _ _ _ _ _ _:=BY T;have G_cut:az P t.wo K mg base _ _ _ _ _ _:=Mw T;have G_ends_of:az P t.wo K mg base _ _ _ _ _ _:=Ic T;have G_upward:az P t.wo K mg base _ _ _ _ _ _:=mW T
 refine T.ya.okD cD (fun xs Z Q h=>by obtain ⟨n,q,u,rfl,_⟩:=h;rfl) (fun cdv A outer s H E hr=>⟨_,_,(ag (bv (dc (bd K rfl (ai G_lets_by (hr.mono (by omega)) (by rfl) T.vn T.uF T.uA .nil ar (aa (pv 0) (av aO (aa (pv 1) ae)))) (fun _=>rfl))) (aj eM) aW)
   (ag (aB (i:=2) cD.nd rfl (Or.inl rfl) (ai G_cut (hr.mono (by omega)) (by rfl) T.M6 T.NC T.Np .nil ar (aa (pv 0) (aa (pv 1) ae))))
   (ag (wE (i:=3) cD.nd rfl (Or.inl rfl) (N:=(["bits","place","yes","no"] : List Str)) (src:=[none,none,none,none]) rfl (by show cg _ (defScope ix) _ _ (["case","talk","kept","leaves","waiting","done","part","other","one"] : List Str) = true;decide +kernel) (by intro g' h;cases h) (bG K rfl (ai G_ends_of (hr.mono (by omega)) (by rfl) T.Dz T.Db T.D3 .nil ar (aa (pv 0) (aa (pv 2) ae)))) (fun _ _ _ _ _ _=>(dS K rfl (n:=4) rfl (aX (aD (i:=0) (show (["bits","place","yes","no"] : List Str).Nodup by decide +kernel) rfl (Or.inl rfl)) (aX (aD (i:=1) (show (["bits","place","yes","no"] : List Str).Nodup by decide +kernel) rfl (Or.inl rfl)) (aX (aD (i:=2) (show (["bits","place","yes","no"] : List Str).Nodup by decide +kernel) rfl (Or.inl rfl)) (aX (aD (i:=3) (show (["bits","place","yes","no"] : List Str).Nodup by decide +kernel) rfl (Or.inl rfl)) dQ)))))) (fun _ _ _ _ _ _=>bK) (fun _ _ _ _ _ _=>(bq rfl rfl (aV (av aO (aa (pv 1) (aa (ay (am K rfl) (ay (am K rfl) (pv 2) ah (fun _ _=>rfl)) (pv 1) (fun _ _=>rfl)) ae)))))))
   (ag (aB (i:=4) cD.nd rfl (Or.inl rfl) (Aw K rfl (pv 3) (yw rQ ah)))
   (ag (aB (i:=5) cD.nd rfl (Or.inl rfl) (bh ae))
   (ag (fq PassesOwn.never rfl (bG K rfl (ai G_upward (hr.mono (by omega)) (by rfl) T.sU T.sD T.si .nil ar (aa (pv 2) (av aO ae)))) (aD (i:=6) cD.nd rfl (Or.inl rfl)) (aj (bv (aN (bp hr.OH) (ay (am K rfl) (pv 6) ah (fun _ _=>rfl)) aO (aM _)) (aj (bO (dn PySem.F.plainAttrs_list PySem.F.slot_list_append PySem.F.type_list_append bc (pv 5) (aa (hU PySem.F.plainAttrs_list PySem.F.slot_list_pop PySem.F.type_list_pop iG (pv 4)) ae)))) (ag (aB (i:=7) cD.nd rfl (Or.inl rfl) (hU PySem.F.plainAttrs_list PySem.F.slot_list_pop PySem.F.type_list_pop iG (pv 5)))
   (ag (aB (i:=8) cD.nd rfl (Or.inl rfl) (hU PySem.F.plainAttrs_list PySem.F.slot_list_pop PySem.F.type_list_pop iG (pv 5)))
   (aj (bO (dn PySem.F.plainAttrs_list PySem.F.slot_list_append PySem.F.type_list_append bc (pv 5) (bD (aV (aa (CO T.tH (wt (v:=.ref t.cr) rfl T.qQ rfl) (ay (am K rfl) (pv 6) ah (fun _ _=>rfl)) (fun _ _=>rfl)) (aa (pv 8) (aa (pv 7) ae)))) ae)))))))))
   (aj (aE (ay (am K rfl) (pv 5) ah (fun _ _=>rfl)))))))))),(au (cI (eV (dI (ap (ab ac (ab be (ab ac af)))))) ga bj)
   (au (aH (ap (ab ac (ab ac af))) ao)
   (au (aH (bW (cx (ap (ab ac (ab ac af)))) (kb (bH ao (bH ao (bH ao (bH ao kg))))) gZ (bS (bo (ab be (ab ac (ab (aq aK (aq aK ac ak) ac) af)))))) ao)
   (au (aH (K1 ac) ao)
   (au (aH (dJ af) ao)
   (au (ja (cx (ap (ab ac (ab be af)))) ao (cI (aZ (aq bw (aq aK ac ak) be)) (cC (bu ac (ab (mt ac) af))) (au (aH (mt ac) ao)
   (au (aH (mt ac) ao)
   (cC (bu ac (ab (bo (ab (Hb (aq aK ac ak)) (ab ac (ab ac af)))) af)))))))
   (aL (aq aK ac ak)))))))),fun xs Z Q h=>?_⟩)
 obtain⟨n,q,u,rfl,hn,hq,hh,hu,hsz,hlet,k⟩:=h;have hudp:=BV u;walk_at "s1";refine⟨false,n,q.1,q.2,u,rfl,⟨hn,hu,by omega,hq.1,hq.2⟩,?_⟩
 rw[hlet];walk_at "s1";refine⟨n,q,u,rfl,hn,hq,hu,hsz,?_⟩;obtain⟨co,cd,cs⟩:=lP q hu;have ce:=jo u [] q hh;generalize dO u q=v at *;have hvd:=BV v;walk_at "s1";refine⟨n,q,v,rfl,hn,hq,co,by omega,by omega,?_⟩
 have hel:=oW v [] q;have hvl:=Ta.dL v;walk_at "a1";refine og (rs:=((bT [] q v).map BS).map Sy.d) (fun ρ=>∃v0 v1 v2 v3,ρ=[v0,v1,v2,v3]) ⟨_,_,_,_,rfl⟩ (by simp) (Nat.le_of_lt (a7 (by simp;omega))) (fun i a r ρ N h1 h2 hR hN=>?_) (fun ρ hR=>⟨_,aS _,?_⟩)
 ·obtain⟨v0,v1,v2,v3,rfl⟩:=hR
  simp only[List.map_map,List.getElem?_map,Option.map_eq_some_iff] at h1 h2;obtain⟨e,he,rfl⟩:=h1;obtain⟨e',he',rfl⟩:=h2;rw[he] at he';cases he';have hm:=List.mem_of_getElem? he;obtain⟨⟨a0,a1⟩,aw⟩:=wg co hq hm;obtain⟨y,ys,ey,ea⟩:=HR aw a0 a1 (ce e hm);simp only[Function.comp_apply,En.d];walk_at "a1";refine hN _ ⟨_,_,_,_,rfl⟩ fun Q1 q1=>?_;simp only[BS,Function.comp_apply] at q1;rw[ey] at q1 ⊢
  simp only[List.map_cons,wdD];walk_at "a1";exact⟨_,ea,_,rfl,q1⟩
 walk_at "s1";have hE:=tu v [] q [] [] [];rw[List.append_nil,List.append_nil] at hE;generalize hL:(bT [] q v).map BS=L at hE;have hLl:L.length=v.lvs:=by rw[←hL,List.length_map,hel]
 have hpo:=kA v;intro lw hlw;walk_at "s1";intro ld hld;obtain⟨hne,hld0⟩:=bQ hld;walk_at "s1";refine⟨mh v,"end",by rw[oY],nV v,by rw[(m6 v).1];omega,?_⟩
 rw[ww];generalize hR:Ta.post v=R at *;walk_at "a1";have ow0:((Z.put lw (OC.own (List.map AV.d (List.map Sy.d L).reverse))).put ld (OC.own []))=om2 Z lw ld (.own ((L.reverse.map Sy.d).map AV.d)) (.own ((([]:List Sy).reverse.map Sy.d).map AV.d)):=by rw[om2,←List.map_reverse];rfl
 rw[ow0];refine nY (fun i ρ Z'=>∃(st W:List Sy)(v6 v7 v8:Option AV),ρ=[some (AV.d (csD n q.fst q.snd)),some (AV.d u.d),some (AV.d v.d),some (AV.d (D.lst (List.map Sy.d L))),some (AV.r (V.ref lw)),some (AV.r (V.ref ld)),v6,v7,v8]/\Z'=om2 Z lw ld (.own ((W.reverse.map Sy.d).map AV.d)) (.own ((st.reverse.map Sy.d).map AV.d))/\st.length<=i/\tE (R.drop i) st W=some [fN q v]) ⟨[],L,_,_,_,rfl,rfl,Nat.le_refl _,by rw[List.drop_zero,hE];rfl⟩ ?_ ?_
 ·rintro i d ρ Z' N hd ⟨st,W,v6,v7,v8,rfl,rfl,hst,hwk⟩ kN
  obtain⟨e,hv,rfl⟩:=eK hd;obtain⟨hi,ev⟩:=List.getElem?_eq_some_iff.mp hv;rw[List.drop_eq_getElem_cons hi,ev] at hwk;have hs1:st.length<sizeLine:=lq (by omega)
  cases e with
  |en j=>
   cases W with
   |nil=>simp[tE] at hwk
   |cons x W=>
    simp only[Ta.d];walk_at "a1";rw[kB hne.symm];have eW:((x::W).reverse.map Sy.d).map AV.d=(W.reverse.map Sy.d).map AV.d++[.d x.d]:=by simp
    refine⟨⟨_,cz⟩,_,rfl,.d x.d,by rw[eW];simp,(st.reverse.map Sy.d).map AV.d,by rw[jT hne.symm,cz],by simp;omega,?_⟩
    rw[eW,List.dropLast_concat,jT hne.symm,cM];exact kN _ _ ⟨x::st,W,_,_,_,rfl,by simp,by simp;omega,by simpa[tE] using hwk⟩
  |nd hh ws a b=>
   have hE2:¬ (if hh then ("yes":Str) else ("no":Str))="end":=by cases hh<;>decide +kernel
   rcases st with _|⟨y,_|⟨x,st⟩⟩
   ·simp[tE] at hwk
   ·simp[tE] at hwk
   have eS:((y::x::st).reverse.map Sy.d).map AV.d=((st.reverse.map Sy.d).map AV.d++[.d x.d])++[.d y.d]:=by simp
   have eS2:((y::x::st).reverse.map Sy.d).map AV.d=((st.reverse.map Sy.d).map AV.d++[.d x.d])++[.d y.d]:=eS;simp only[Ta.d];rw[eS];walk_at "a1";simp only[hE2,if_false];refine zz rfl cz ?_;rw[cM];refine zz rfl cz ?_;rw[cM];simp only[List.set_cons_zero,List.set_cons_succ];have hl:((st.reverse.map Sy.d).map AV.d).length<sizeLine:=lq (by simp at hst ⊢;omega)
   have fin:=kN [some (AV.d (csD n q.fst q.snd)),some (AV.d u.d),some (AV.d v.d),some (AV.d (D.lst (List.map Sy.d L))),some (AV.r (V.ref lw)),some (AV.r (V.ref ld)),some (AV.d (Ta.nd hh ws a b).d),some (.d y.d),some (.d x.d)] _ ⟨.jn (!hh) x y::st,W,_,_,_,rfl,rfl,by simp at hst ⊢;omega,by simpa[tE] using hwk⟩
   cases hh
   ·walk_at "a1"
    refine⟨⟨_,cz⟩,V.str (Str.ofString "and"),by kernel_rfl,D.str (Str.ofString "and"),rfl,_,cz,hl,?_⟩
    rw[cM];simpa[Sy.d,Ta.d] using fin
   ·walk_at "a1"
    refine⟨⟨_,cz⟩,V.str (Str.ofString "or"),by kernel_rfl,D.str (Str.ofString "or"),rfl,_,cz,hl,?_⟩
    rw[cM];simpa[Sy.d,Ta.d] using fin
 ·rintro ρ Z' ⟨st,W,v6,v7,v8,rfl,rfl,hst,hwk⟩
  rw[List.length_map,List.drop_length] at hwk;simp only[tE,Option.some.injEq] at hwk;subst hwk;dsimp only;walk_at "a1";rw[cz];refine⟨_,rfl,_,rfl,_,rfl,?_⟩;rw[om2,jF (((Ex.refl Z).new hlw).new (by rw[Om.OB hne];exact hld0))]
  exact k
theorem jx:∀(u:Ta)(bs bs':List Int)(q:WW),∀e∈bT bs q u,∃e'∈bT bs' q u,e'.q=e.q/\e'.at_=e.at_
 |.en i,bs,bs',q,e,he=>by
  simp only[bT,List.mem_singleton] at he;subst he;exact⟨⟨bs',i,q⟩,by simp[bT],rfl,rfl⟩
 |.nd h ws a b,bs,bs',q,e,he=>by
  simp only[bT] at he ⊢;rcases List.mem_append.mp he with he|he
  ·obtain⟨e',h1,h2⟩:=jx a _ (bs'++[0]) _ e he
   exact⟨e',List.mem_append_left _ h1,h2⟩
  ·obtain⟨e',h1,h2⟩:=jx b _ (bs'++[1]) _ e he
   exact⟨e',List.mem_append_right _ h1,h2⟩
noncomputable def oR(b:Bool)(q:WW)(v:Ta):Prop:=∀bs,∀e∈bT bs q v,has e.q=true/\∀y∈e.q.1,∀z∈e.q.2,ppB b y z e.at_.toNat=true
theorem oR.nd{b:Bool}{q:WW}{h:Bool}{ws:List (List Int)}{l r:Ta}(x:oR b q (.nd h ws l r)):oR b (goF h ws q) l/\oR b (goS h ws q) r:=by
 constructor
 ·intro bs e he
  have:=jx l bs ([]++[0]) (goF h ws q) e he;obtain⟨e',he',e1,e2⟩:=this;obtain⟨z1,z2⟩:=x [] e' (by simp only[bT];exact List.mem_append_left _ he')
  rw[e1] at z1 z2;rw[e2] at z2;exact⟨z1,z2⟩
 ·intro bs e he
  have:=jx r bs ([]++[1]) (goS h ws q) e he;obtain⟨e',he',e1,e2⟩:=this;obtain⟨z1,z2⟩:=x [] e' (by simp only[bT];exact List.mem_append_right _ he')
  rw[e1] at z1 z2;rw[e2] at z2;exact⟨z1,z2⟩
theorem sW{n:Nat}:∀(v:Ta)(q:WW),Ww n q->oR false q v->(∀y∈q.1,(fN q v).val y=true)/\∀z∈q.2,(fN q v).val z=false
 |.en i,q,hw,ho=>by
  obtain⟨h1,h2⟩:=ho [] ⟨[],i,q⟩ (by simp[bT])
  obtain⟨h3,h4⟩:=jK.mp h1;obtain⟨y0,ys,ey⟩:=List.exists_cons_of_ne_nil h3;have ey:q.1=y0::ys:=ey;obtain⟨z0,zs,ez⟩:=List.exists_cons_of_ne_nil h4;have m0:y0∈q.1:=by rw[ey];exact List.mem_cons_self ..
  have k0:z0∈q.2:=by rw[ez];exact List.mem_cons_self ..
  have pp:∀y∈q.1,∀z∈q.2,y.getD i.toNat 0≠z.getD i.toNat 0:=fun y hy z hz=>by
   have:=h2 y hy z hz;simpa[ppB] using this
  simp only[fN,Sy.val,ey,List.headD_cons];refine⟨fun y hy=>?_,fun z hz=>?_⟩
  ·rw[←ey] at hy
   have a1:=pp y hy z0 k0;have a2:=pp y0 m0 z0 k0;rcases iV (hw.1.2 y hy) i.toNat with b1|b1<;>rcases iV (hw.1.2 y0 m0) i.toNat with b2|b2<;>rcases iV (hw.2.2 z0 k0) i.toNat with b3|b3<;>simp_all
  ·have a1:=pp y0 m0 z hz
   simpa using Ne.symm a1
 |.nd h ws l r,q,hw,ho=>by
  obtain⟨o1,o2⟩:=ho.nd;obtain⟨a1,a2⟩:=sW l _ hw.f o1;obtain⟨b1,b2⟩:=sW r _ hw.s o2
  cases h with
  |true=>
   simp only[goF,goS,if_true] at a1 a2 b1 b2;simp only[fN,Bool.not_true,Sy.val,Bool.false_eq_true,if_false];simp only[goF,goS,if_true];refine⟨fun y hy=>?_,fun z hz=>by rw[a2 z hz,b2 z hz];rfl⟩
   by_cases hm:y∈ws
   ·rw[b1 y (List.mem_filter.mpr ⟨hy,by simpa using hm⟩),Bool.or_true]
   ·rw[a1 y (List.mem_filter.mpr ⟨hy,by simpa using hm⟩),Bool.true_or]
  |false=>
   simp only[goF,goS,if_false,Bool.false_eq_true] at a1 a2 b1 b2;simp only[fN,Bool.not_false,Sy.val,if_true];simp only[goF,goS,if_false,Bool.false_eq_true];refine⟨fun y hy=>by rw[a1 y hy,b1 y hy];rfl,fun z hz=>?_⟩
   by_cases hm:z∈ws
   ·rw[b2 z (List.mem_filter.mpr ⟨hz,by simpa using hm⟩),Bool.and_false]
   ·rw[a2 z (List.mem_filter.mpr ⟨hz,by simpa using hm⟩),Bool.false_and]
theorem wV{n:Nat}:∀(v:Ta)(q:WW),Ww n q->v.ok n->(fN q v).ok n/\(fN q v).dp=v.dp/\(fN q v).lvs=v.lvs
 |.en i,q,hw,ho=>by
  refine⟨⟨ho.1,ho.2,?_⟩,rfl,rfl⟩
  cases e:q.1 with
  |nil=>left;simp
  |cons y ys=>exact iV (hw.1.2 y (by rw[e];exact List.mem_cons_self ..)) i.toNat
 |.nd h ws l r,q,hw,ho=>by
  obtain⟨a1,a2,a3⟩:=wV l _ hw.f ho.2.1;obtain⟨b1,b2,b3⟩:=wV r _ hw.s ho.2.2;exact⟨⟨a1,b1⟩,by simp only[fN,Sy.dp,Ta.dp,a2,b2],by simp only[fN,Sy.lvs,Ta.lvs,a3,b3]⟩
theorem Bm{b:Bool}{u:Ta}{q:WW}(hh:has q=true)(hl:((prl q.1 q.2).find? (fau b u)).isNone=true):oR b q (dO u q):=by
 intro bs e he;obtain⟨e',he',e1,e2⟩:=jx _ bs [] q e he;have h1:=jo u [] q hh e' he';rw[←FV,Du,List.all_eq_true] at hl
 have h2:=hl e' (List.mem_filter.mpr ⟨he',h1⟩);rw[e1] at h1;refine⟨h1,fun y hy z hz=>?_⟩;rw[e1,e2] at h2;unfold IZ at h2;exact List.all_eq_true.mp h2 (y,z) (lW.mpr ⟨hy,hz⟩)
theorem zK:¬ Str.ofString "and"=Str.ofString "or":=by decide +kernel
noncomputable def agS:Sy->Sy
 |.is i b=>.is i (1-b)
 |.jn a l r=>.jn (!a) (agS l) (agS r)
noncomputable def AZ:ASp:=fun xs Z Q=>∃(x:Sy)(n:Nat),xs=[.d x.d]/\x.ok n/\x.dp<=15/\Q (.d (agS x).d) Z
noncomputable def tN(_:List AV):ASp:=fun xs Z Q=>∃(i b:Int),xs=[.d (Sy.is i b).d]/\Q (.d (Sy.is i (1-b)).d) Z
noncomputable def mG(_:List AV):ASp:=fun xs Z Q=>∃(a:Bool)(l r x y:D),xs=[.d (.tup [.str (if a then "and" else "or"),l,r]),.d x,.d y]/\Q (.d (.tup [.str (if !a then "and" else "or"),x,y])) Z
theorem sg(T:Txt K mg t):az P t.wo K mg base CX0 6 t.da t.lU ["saying"] (bg AZ):=by
 have G_folded:∀b',az P t.wo K mg b' CX0 4 t.dh t.gM ["tree","leaf","of_leaf","of_fork"] (l9 1 P t.wo K mg b'):=fun b'=>qP 1 T;refine T.gY.okD Ac (fun xs Z Q h=>by obtain⟨x,n,rfl,_⟩:=h;rfl) (fun A outer s H E hr=>?_)
 refine⟨_,_,(aj (aE (nB G_folded (hr.mono (by omega)) (by rfl) T.nQ T.nJ T.nL (aa (pv 0) (av aO (aa (kY (x:="against") rfl rfl T.gY.tab T.gY.hd rfl) (aa (kY (x:="against") rfl rfl T.gY.tab T.gY.hd rfl) ae))))))),(aL (xi (j1:=[]) (j2:=[]) (s1:=tN) (s2:=mG) ?F0 ?F1 ac be)),fun xs Z Q h=>?main⟩
 case F0=>
  intro b' H f σ caps cA L cb hc hl;obtain rfl:caps=[]:=List.length_eq_zero_iff.mp (hc.1);refine ii (ps:=["leaf"]) (cs:=[]) L ⟨rfl,rfl,rfl,by decide +kernel,by decide +kernel,by decide +kernel,by decide +kernel⟩ (Fq b') (fun pm c ctv us hl=>match us,hl with | [_],_=>rfl) (fun xs Z Q h=>by obtain⟨i,b,rfl,_⟩:=h;rfl) (fun cd A outer s H hr=>⟨_,_,(aV (av aO (aa (ay (am K rfl) (pv 0) ah (fun _ _=>rfl)) (aa (aT de ah (ay (am K rfl) (pv 0) ah (fun _ _=>rfl))) ae)))),(bo (ab be (ab (aq aK ac ak) (ab (aq eR ak (aq aK ac ak)) af)))),fun xs Z Q h=>?_⟩)
  obtain⟨i,b,rfl,q⟩:=h;simp only[Sy.d] at q ⊢;walk_at "ab";exact q
 case F1=>
  intro b' H f σ caps cA L cb hc hl;obtain rfl:caps=[]:=List.length_eq_zero_iff.mp (hc.1);refine ii (ps:=["part","one","other"]) (cs:=[]) L ⟨rfl,rfl,rfl,by decide +kernel,by decide +kernel,by decide +kernel,by decide +kernel⟩ (Fq b') (fun pm c ctv us hl=>match us,hl with | [_,_,_],_=>rfl) (fun xs Z Q h=>by obtain⟨a,l,r,x,y,rfl,_⟩:=h;rfl) (fun cd A outer s H hr=>⟨_,_,(aV (aa (CO T.vF (wt (v:=.ref t.cT) rfl T.wF rfl) (ay (am K rfl) (pv 0) ah (fun _ _=>rfl)) (fun _ _=>rfl)) (aa (pv 1) (aa (pv 2) ae)))),(bo (ab (Hb (aq aK ac ak)) (ab ac (ab ac af)))),fun xs Z Q h=>?_⟩)
  obtain⟨a,l,r,x,y,rfl,q⟩:=h;walk_at "ab";cases a
  ·exact⟨.str "and",by rw[if_neg (by decide)];simp[vU,zK],_,rfl,q⟩
  ·exact⟨.str "or",by rw[if_pos rfl];simp[vU],_,rfl,q⟩
 case main=>
  obtain⟨x,n,rfl,hx,hd,k⟩:=h;walk_at "ab";refine⟨cq x,(mZ x).symm,jR x,hX hd,fun e=>(agS (ko e)).d,[],rfl,[],rfl,fun q he Z1 Q1 h=>?_,fun q l r he Z1 Q1 h=>?_,?_⟩
  ·obtain⟨i,b,rfl,_⟩:=F6 hx he
   exact⟨i,b,rfl,h⟩
  ·obtain⟨a,l',r',rfl,rfl,rfl⟩:=EO hx he
   have h:Q1 (.d (agS (ko (cq (.jn a l' r')))).d) Z1:=h;rw[iy] at h;show mG [] [_,.d (agS (ko (cq l'))).d,.d (agS (ko (cq r'))).d] Z1 Q1;rw[iy,iy];exact⟨a,(cq l').d,(cq r').d,_,_,rfl,h⟩
  ·rw[ax]
   show Q (.d (agS (ko (cq x))).d) Z;rw[iy];exact k
noncomputable def G5:ASp:=fun xs Z Q=>∃(n:Nat) (ys zs:List (List Int)),xs=[.d (csD n ys zs)]/\Q (.d (csD n zs ys)) Z
theorem Gm(T:Txt K mg t):az P w K mg base CX0 1 t.cw t.gK ["case"] (bg G5):=by
 refine T.sY.okD qr (fun xs Z Q h=>by obtain⟨n,ys,zs,rfl,_⟩:=h;rfl) (fun cdv A outer s H E hr=>⟨_,_,(aj (aE (aV (aa (ay (am K rfl) (pv 0) ah (fun _ _=>rfl)) (aa (ay (am K rfl) (pv 0) ah (fun _ _=>rfl)) (aa (ay (am K rfl) (pv 0) ah (fun _ _=>rfl)) ae)))))),(aL (bo (ab (aq aK ac ak) (ab (aq aK ac ak) (ab (aq aK ac ak) af))))),fun xs Z Q h=>?_⟩)
 obtain⟨n,ys,zs,rfl,k⟩:=h;simp only[csD] at k ⊢;walk_at "a1";rw[ax];exact k
noncomputable def LF:ASp:=fun xs Z Q=>∃n:Nat,xs=[.d (.int n)]/\n<=5/\Q (.d (.lst ((wl n).map wdD))) Z
theorem IU(ws:List (List Int)):(ws.flatMap fun w=>[w++[0],w++[1]]).length=2*ws.length:=by
 induction ws with
 |nil=>rfl
 |cons a r ih=>rw[List.flatMap_cons,List.length_append,ih];simp;omega
theorem Ce(T:Txt K mg t):az P w K mg base CX0 1 t.dv t.kU ["places"] (bg LF):=by
 refine T.xT.okD fZ (fun xs Z Q h=>by obtain⟨n,rfl,_⟩:=h;rfl) (fun cdv A outer s H E hr=>⟨_,_,(ag (aB (i:=1) fZ.nd rfl (Or.inl rfl) (bh (bD (aV ae) ae)))
   (ag (fq PassesOwn.never rfl (fz rfl T.j8 (aa (pv 0) ae)) (aD (i:=2) fZ.nd rfl (Or.inl rfl)) (aj (wE (i:=1) fZ.nd rfl (Or.inl rfl) (N:=(["word","bit"] : List Str)) (src:=[none,none]) rfl (by show cg _ (defScope ik) _ _ (["places","words","place"] : List Str) = true;decide +kernel) (by intro g' h;cases h;rfl) (bG K rfl (pv 1)) (fun _ _ _ _ _ _=>(aD (i:=0) (show (["word","bit"] : List Str).Nodup by decide +kernel) rfl (Or.inl rfl))) (fun _ _ _ _ _ _=>bK) (fun _ _ _ _ _ _=>(F5 rfl rfl rfl (by intro g' h;cases h) (bG K rfl (aV (av ah (av ah ae)))) (aD (i:=1) (show (["word","bit"] : List Str).Nodup by decide +kernel) rfl (Or.inl rfl)) bK (bq rfl rfl (aT (aQ cm (aQ bN cn)) (pv 0) (aV (aa (pv 1) ae)))))))))
   (aj (aE (pv 1))))),(au (aH (dP (ab (bo af) af)) ao)
   (au (ja (m8 (ab ac af)) ao (aH (bW (cx ac) ao gZ (JZ (cx (bo (ab ak (ab ak af)))) ao gZ (bS (aq dm ac (bo (ab ac af)))))) ao))
   (aL ac))),fun xs Z Q h=>?_⟩)
 obtain⟨n,rfl,hn,k⟩:=h;walk_at "s1";walk_at "s1";refine⟨by omega,by omega,qK (fun i ρ Z'=>Z'=Z/\∃v2,ρ=[some (.d (.int n)),some (.d (.lst ((wl i).map wdD))),v2]) ⟨rfl,_,rfl⟩ ?_ ?_⟩
 ·rintro i ρ Z1 N hi ⟨rfl,v2,rfl⟩ kN
  have hw:=ki (n:=i) (by omega)
  walk_at "a1";refine sJ (fun j xs ρ Z'=>Z'=Z1/\(∃v v',ρ=[v,v'])/\xs=((((wl i).take j).flatMap fun w=>[w++[0],w++[1]]).map wdD).map AV.d) ⟨rfl,⟨_,_,rfl⟩,rfl⟩ ?_ ?_
  ·rintro j d xs ρ Z' N hd ⟨rfl,⟨v,v',rfl⟩,rfl⟩ kN2
   obtain⟨x,hx,rfl⟩:=eK hd;have hx1:=(cu (List.mem_of_getElem? hx)).1;have hj:=(List.getElem?_eq_some_iff.mp hx).1
   have et:(((wl i).take (j+1)).flatMap fun w=>[w++[0],w++[1]])=((wl i).take j).flatMap (fun w=>[w++[0],w++[1]])++[x++[0],x++[1]]:=by
    rw[List.take_succ,hx,List.flatMap_append];simp
   have hl2:=IU ((wl i).take j);rw[List.length_take] at hl2;walk_at "ab";exact⟨sF (m:=0) (by omega),a7 (by omega),sF (m:=0) (by omega),a7 (by omega),kN2 _ _ _ ⟨rfl,⟨_,_,rfl⟩,by rw[et];simp⟩⟩
  ·rintro xs ρ Z' ⟨rfl,_,rfl⟩
   rw[List.length_map,List.take_length];refine⟨_,aS _,kN _ _ ⟨rfl,_,rfl⟩⟩
 ·rintro ρ Z1 ⟨rfl,v2,rfl⟩
  walk_at "a1";rw[ax];exact k
noncomputable def num(w:List Int):Int:=w.foldl (fun a b=>2*a+b) 0
theorem HI:∀ {w:List Int},(∀b∈w,b=0\/b=1)->∀a:Int,0<=a->0<=w.foldl (fun a b=>2*a+b) a/\w.foldl (fun a b=>2*a+b) a<(a+1)*2^w.length
 | [],_,a,ha=>by simp;omega
 |b::w,h,a,ha=>by
  have hb:=h b List.mem_cons_self;obtain⟨h1,h2⟩:=HI (fun x hx=>h x (List.mem_cons_of_mem _ hx)) (2*a+b) (by omega)
  refine⟨h1,Int.lt_of_lt_of_le h2 ?_⟩;have:(2*a+b+1)*2^w.length<=(2*a+2)*2^w.length:=Int.mul_le_mul_of_nonneg_right (by omega) (Int.le_of_lt (Int.pow_pos (by decide)))
  rw[List.length_cons,Int.pow_succ];refine Int.le_trans this (Int.le_of_eq ?_);rw[show 2*a+2=(a+1)*2 from by omega,Int.mul_assoc,Int.mul_comm 2]
noncomputable def yM:ASp:=fun xs Z Q=>∃(tb w:List Int),xs=[.d (wdD tb),.d (wdD w)]/\(∀b∈w,b=0\/b=1)/\tb.length=2^w.length/\Q (.d (.int (tb.getD (num w).toNat 0))) Z
theorem HC(T:Txt K mg t):az P w K mg base CX0 1 t.dY t.mH ["table","word"] (bg yM):=by
 refine T.Bd.okD iq (fun xs Z Q h=>by obtain⟨tb,w,rfl,_⟩:=h;rfl) (fun cdv A outer s H E hr=>⟨_,_,(ag (aB (i:=2) iq.nd rfl (Or.inl rfl) ah)
   (ag (fq PassesOwn.never rfl (bG K rfl (pv 1)) (aD (i:=3) iq.nd rfl (Or.inl rfl)) (aj (aB (i:=2) iq.nd rfl (Or.inl rfl) (aT (aQ cm (aQ bN cn)) (aT (aQ nj mJ) ah (pv 2)) (pv 3)))))
   (aj (aE (ay (am K rfl) (pv 0) (pv 2) (fun _ _=>rfl)))))),(au (aH ak ao)
   (au (ja (cx ac) ao (aH (aq dm (aq sH ak ac) ac) ao))
   (aL (aq aK ac ac)))),fun xs Z Q h=>?_⟩)
 obtain⟨tb,w,rfl,hb,hl,k⟩:=h;obtain⟨n1,n2⟩:=HI hb 0 (Int.le_refl _);walk_at "s1";walk_at "s1";refine nY (fun i ρ Z'=>Z'=Z/\∃v3,ρ=[some (.d (wdD tb)),some (.d (wdD w)),some (.d (.int (num (w.take i)))),v3]) ⟨rfl,_,rfl⟩ ?_ ?_
 ·rintro i d ρ Z1 N hd ⟨rfl,v3,rfl⟩ kN
  obtain⟨b,hb1,rfl⟩:=L2.eK hd;walk_at "a1"
  have e:num (w.take (i+1))=2*num (w.take i)+b:=by
   unfold num;rw[List.take_succ,hb1,List.foldl_append];rfl
  exact⟨vG (by decide),kN _ _ ⟨rfl,_,by rw[e]⟩⟩
 ·rintro ρ Z1 ⟨rfl,v3,rfl⟩
  rw[List.length_map,List.take_length];walk_at "a1";refine⟨_,F4 n1 ?_,?_⟩
  ·rw[hl]
   unfold num;simpa using n2
  ·refine⟨_,rfl,?_⟩
   rw[ax];exact k
theorem EH:∀c:Fin 6,Builtin.Int.intBits ((2^c.val:Nat):Int)=c.val+1:=by decide +kernel
noncomputable def Mu:ASp:=fun xs Z Q=>∃(tb:List Int)(c:Nat),xs=[.d (wdD tb)]/\tb.length=2^c/\c<=5/\Q (.d (.int c)) Z
theorem Mv(T:Txt K mg t):az P w K mg base CX0 1 t.dg t.kI ["table"] (bg Mu):=by
 refine T.yc.okD wP (fun xs Z Q h=>by obtain⟨tb,c,rfl,_⟩:=h;rfl) (fun cdv A outer s H E hr=>⟨_,_,(aj (aE (aT de (hU PySem.F.plainAttrs_int PySem.F.slot_int_bit_length PySem.F.type_int_bit_length DT (aG (ba K rfl) (by rfl) T.dH (by kernel_rfl) (aa (pv 0) ae))) ah))),(aL (aq eR (MM (bz eA (ab ac af))) ak)),fun xs Z Q h=>?_⟩)
 obtain⟨tb,c,rfl,hl,hc,k⟩:=h;walk_at "a1";rw[hl,EH ⟨c,by omega⟩,ax]
 simpa using k
noncomputable def FQ:ASp:=fun xs Z Q=>∃i:Int,xs=[.d (.int i)]/\Q (.d (.bl true)) Z
theorem yy(T:Txt K mg t):az P w K mg base CX0 1 t.d7 t.m9 ["thing"] (bg FQ):=by
 refine T.Ab.okD yX (fun xs Z Q h=>by obtain⟨x,rfl,_⟩:=h;rfl) (fun cdv A outer s H E hr=>⟨_,_,(aj (aE (dD K rfl (aG rR (by rfl) T.f6 (by kernel_rfl) (aa (pv 0) (aa (nu (v:=.ty "int") (by rfl) T.BM (by kernel_rfl) (by rfl)) ae))) (iS (HZ K rfl (aG rR (by rfl) T.f6 (by kernel_rfl) (aa (pv 0) (aa (nu (v:=.ty "bool") (by rfl) T.MW (by kernel_rfl) (by rfl)) ae)))))))),(aL (fe (bz EG (ab ac (ab yT af))) (Lc (bz EG (ab ac (ab yT af)))))),fun xs Z Q h=>?_⟩)
 obtain⟨i,rfl,k⟩:=h;walk_at "a1";refine⟨by decide,?_⟩
 rw[if_pos (show isD "int" (D.int i)=true from rfl),ax]
 exact⟨by decide,k⟩
noncomputable def ME:ASp:=fun xs Z Q=>∃i:Int,xs=[.d (.int i)]/\(i=0\/i=1)/\Q (.d (.bl true)) Z
theorem MB(T:Txt K mg t):az P w K mg base CX0 2 t.gC t.sk ["thing"] (bg ME):=by
 have G_is_whole:az P w K mg base _ _ _ _ _ _:=yy T;refine T.Fn.okD Ev (fun xs Z Q h=>by obtain⟨x,rfl,_⟩:=h;rfl) (fun cdv A outer s H E hr=>⟨_,_,(aj (aE (dD K rfl (ai G_is_whole (hr.mono (by omega)) (by rfl) T.rC T.rE T.rF .nil ar (aa (pv 0) ae)) (iS (yJ uJ uJ ah (pv 0) ah))))),(aL (fe (ap (ab ac af)) (wW g8 g8 ak ac ak))),fun xs Z Q h=>?_⟩)
 obtain⟨i,rfl,hi,k⟩:=h;walk_at "a1";refine⟨_,rfl,true,rfl,?_⟩;rw[if_pos rfl,if_pos (by omega),ax,decide_eq_true (by omega)]
 exact k
noncomputable def IS:ASp:=fun xs Z Q=>∃n:Nat,xs=[.d (.int n)]/\1<=n/\n<=5/\Q (.d (.bl true)) Z
theorem CY(T:Txt K mg t):az P w K mg base CX0 2 t.cQ t.jI ["thing"] (bg IS):=by
 have G_is_whole:az P w K mg base _ _ _ _ _ _:=yy T;refine T.wO.okD tO (fun xs Z Q h=>by obtain⟨n,rfl,_⟩:=h;rfl) (fun cdv A outer s H E hr=>⟨_,_,(aj (aE (dD K rfl (ai G_is_whole (hr.mono (by omega)) (by rfl) T.rC T.rE T.rF .nil ar (aa (pv 0) ae)) (iS (yJ uJ uJ ah (pv 0) (wt (v:=.int 5) rfl T.tM ⟨_,rfl⟩)))))),(aL (fe (ap (ab ac af)) (wW g8 g8 ak ac ak))),fun xs Z Q h=>?_⟩)
 obtain⟨n,rfl,hn1,hn,k⟩:=h;walk_at "a1";refine⟨_,rfl,true,rfl,?_⟩;rw[if_pos rfl,if_pos (by omega),ax,decide_eq_true (by omega)]
 exact k
noncomputable def MT:ASp:=fun xs Z Q=>∃(n:Nat)(v:List Int),xs=[.d (.int n),.d (wdD v)]/\v∈wl n/\1<=n/\n<=5/\Q (.d (.bl true)) Z
theorem Ld(T:Txt K mg t):az P w K mg base CX0 3 t.fu t.oQ ["places","thing"] (bg MT):=by
 have G_is_bit:az P w K mg base _ _ _ _ _ _:=MB T;have G_are_places:az P w K mg base _ _ _ _ _ _:=CY T
 refine T.DA.okD Bo (fun xs Z Q h=>by obtain ⟨n,v,rfl,_⟩:=h;rfl) (fun cdv A outer s H E hr=>⟨_,_,(ag (bv (PW.pt (p5 (dc (bd K rfl (ai G_are_places (hr.mono (by omega)) (by rfl) T.nU T.nn T.ou .nil ar (aa (pv 0) ae)) (fun _=>rfl))) (lg (dc (bd K rfl (aG rR (by rfl) T.f6 (by kernel_rfl) (aa (pv 1) (aa (nu (v:=.ty "tuple") (by rfl) T.cX (by kernel_rfl) (by rfl)) ae))) (fun _=>rfl)))))) (aj (aE qf)) aW)
   (aj (aE (dD K rfl (bU (bp hr.OH) (aG (ba K rfl) (by rfl) T.dH (by kernel_rfl) (aa (pv 1) ae)) (pv 0) (aM _)) (iS (aG (pK K rfl rfl) (by rfl) T.Gf (by kernel_rfl) (aa (bF (N:=(["bit"]:List Str)) (src:=[none]) rfl (by show cg _ (defScope lS) _ _ (["places","thing"]:List Str)=true;decide +kernel) (by intro g' h;cases h) (bG K rfl (pv 1)) (fun _ _ _ _ _ _=>(aD (i:=0) (show (["bit"]:List Str).Nodup by decide +kernel) rfl (Or.inl rfl))) (fun _ _ _ _ _ _=>bK) (fun _ _ _ _ _ _=>(bq rfl rfl (ai G_is_bit (hr.mono (by omega)) (by rfl) T.GW T.Fi T.E2 .nil ar (aa (pv 0) ae))))) ae))))))),(au (cI (xU (eV (dI (ap (ab ac af)))) (eV (dI (bz EG (ab ac (ab yT af)))))) (aL yu) bj)
   (aL (fe (aq bw (bz eA (ab ac af)) ac) (bz BF (ab (bW (cx ac) ao gZ (bS (ap (ab ac af)))) af))))),fun xs Z Q h=>?_⟩)
 obtain⟨n,v,rfl,hv,hn1,hn,k⟩:=h;obtain⟨hl,hb⟩:=cu hv;walk_at "s1";refine⟨n,rfl,hn1,hn,true,rfl,?_⟩;rw[if_neg (by decide)]
 refine⟨by decide,?_⟩
 rw[if_neg (by rw[show isD "tuple" (wdD v)=true from rfl];decide),if_pos (by rw[hl])]
 refine dU (rs:=(v.map fun _=>true).map D.bl) (by simp) (Nat.le_of_lt (a7 (by simp;omega))) (fun j a r h1 h2 Q q=>?_) (fun ρ=>⟨_,aS _,_,rfl,?_⟩)
 ·simp only[List.map_map,List.getElem?_map,Option.map_eq_some_iff] at h1 h2
  obtain⟨y,hy,rfl⟩:=h1;obtain⟨_,_,rfl⟩:=h2;simp only[Function.comp_apply] at q ⊢;walk_at "a1";exact⟨y,rfl,hb y (List.mem_of_getElem? hy),q⟩
 ·rw[ax,show (v.map fun _=>true).all id=true from by simp]
  exact k
theorem KD:∀a b:List Int,yO (a.map D.int) (b.map D.int)=true
 | [],_=>by simp[yO]
 |_::_,[]=>by simp[yO]
 |x::xs,y::ys=>by
  simp only[List.map_cons,yO];split
  ·exact KD xs ys
  ·rfl
theorem Kj:∀a b:List Int,xx (a.map D.int) (b.map D.int)=eU a b
 | [],[]=>rfl
 | [],_::_=>rfl
 |_::_,[]=>rfl
 |x::xs,y::ys=>by
  simp only[List.map_cons,xx,eU,lx];by_cases h:x=y
  ·rw[if_pos (by simpa using h),if_pos h,Kj xs ys]
  ·rw[if_neg (by simpa using h),if_neg h]
   rfl
noncomputable def KQ:ASp:=fun xs Z Q=>∃ws:List (List Int),xs=[.d (.lst (ws.map wdD))]/\Ris ws/\ws.Nodup/\ws.length<=32/\Q (.d (.bl true)) Z
theorem L5(T:Txt K mg t):az P w K mg base CX0 1 t.dz t.kR ["some"] (bg KQ):=by
 refine T.zr.okD wr (fun xs Z Q h=>by obtain⟨x,rfl,_⟩:=h;rfl) (fun cdv A outer s H E hr=>⟨_,_,(aj (aE (aG (pK K rfl rfl) (by rfl) T.Gf (by kernel_rfl) (aa (bF (N:=(["k","some"]:List Str)) (src:=[none,some 0]) rfl (by show cg _ (defScope ie) _ _ (["some"]:List Str)=true;decide +kernel) (by intro g' h;cases h) (fz rfl T.j8 (aa (aT de (aG (ba K rfl) (by rfl) T.dH (by kernel_rfl) (aa (pv 0) ae)) ah) ae)) (fun _ _ _ _ _ _=>(aD (i:=0) (show (["k","some"]:List Str).Nodup by decide +kernel) rfl (Or.inl rfl))) (fun _ _ _ _ _ _=>bK) (fun _ _ _ _ _ _=>(bq rfl rfl (bU (Md hr.OH) (ay (am K rfl) (pv 1) (pv 0) (fun _ _=>rfl)) (ay (am K rfl) (pv 1) (aT (aQ cm (aQ bN cn)) (pv 0) ah) (fun _ _=>rfl)) (aM _))))) ae)))),(aL (bz BF (ab (bW (m8 (ab (aq eR (bz eA (ab ac af)) ak) af)) ao gZ (bS (aq N1 (aq aK ac ac) (aq aK ac (aq dm ac ak))))) af))),fun xs Z Q h=>?_⟩)
 obtain⟨ws,rfl,hr,hn,hl,k⟩:=h;walk_at "a1";have e0:((ws.length:Int)-1).toNat=ws.length-1:=by omega
 refine⟨by omega,by omega,?_⟩
 rw[e0];have hsz:(ml 0 (ws.length-1)).length=ws.length-1:=by simp[ml]
 refine dU (rs:=(List.replicate (ws.length-1) true).map D.bl) (by rw[hsz];simp) (Nat.le_of_lt (a7 (by omega))) (fun j a r h1 h2 Q q=>?_) (fun ρ=>⟨_,aS _,_,rfl,?_⟩)
 ·have hj:j<ws.length-1:=by rw[←hsz];exact(List.getElem?_eq_some_iff.mp h1).1
  obtain rfl:r=D.bl true:=by simp[hj] at h2;exact h2.symm
  simp[ml,hj] at h1;subst h1;have a1:atI ((ws.map wdD).map AV.d) (j:Int)=some (.d (wdD ws[j])):=gG j rfl (by simp[show j<ws.length by omega])
  have a2:atI ((ws.map wdD).map AV.d) ((j:Int)+1)=some (.d (wdD ws[j+1])):=gG (j+1) rfl (by simp[show j+1<ws.length by omega])
  walk_at "a1";refine⟨_,a1,_,a2,?_⟩
  have hlt:eU ws[j] ws[j+1]=true:=by
   have h1:eU ws[j+1] ws[j]=false:=List.pairwise_iff_getElem.mp hr j (j+1) (by omega) (by omega) (by omega)
   cases e:eU ws[j] ws[j+1] with
   |true=>rfl
   |false=>exact absurd (AB _ _ h1 e) (List.pairwise_iff_getElem.mp hn j (j+1) (by omega) (by omega) (by omega))
  rw[JA];refine⟨_,_,rfl,rfl,by rw[GM];decide,KD _ _,?_⟩
  rw[show ltD (wdD ws[j]) (wdD ws[j+1])=true from (Kj _ _).trans hlt]
  exact q
 ·rw[ax,show (List.replicate (ws.length-1) true).all id=true from by simp]
  exact k
noncomputable def SqA(Z:Om)(x:AV)(ds:List D):Prop:=x=.d (.tup ds)\/(∃l,x=.r (.ref l)/\Z l=some (.frz ds))\/x=.d (.lst ds)
theorem SqA.len{Z:Om}{x:AV}{ds:List D}(h:SqA Z x ds):ia Z x=some ds.length:=by
 rcases h with rfl|⟨l,rfl,e⟩|rfl
 ·simp[ia,e8]
 ·simp[ia,e8,eT,e]
 ·simp[ia,e8,eT]
theorem SqA.dat{Z:Om}{x:AV}{ds:List D}(h:SqA Z x ds):∃d,bn Z x=some d/\(tyD d == "list" || tyD d == "tuple")=true:=by
 rcases h with rfl|⟨l,rfl,e⟩|rfl
 ·exact⟨_,rfl,rfl⟩
 ·exact⟨.lst ds,by simp[bn,e],rfl⟩
 ·exact⟨_,rfl,rfl⟩
theorem SqA.frz{Z:Om}{x:AV}{ds:List D}(h:SqA Z x ds){K:D->Om->Prop}(k:∀d,kt d=some ds->K d Z):kj Z x K:=by
 rcases h with rfl|⟨l,rfl,e⟩|rfl
 ·exact k _ rfl
 ·simp only[kj,e]
  exact k _ rfl
 ·exact k _ rfl
noncomputable def Ly:ASp:=fun xs Z Q=>∃(n:Nat)(x:AV) (ws:List (List Int)),xs=[.d (.int n),x]/\SqA Z x (ws.map wdD)/\1<=n/\n<=5/\Wds n ws/\ws≠[]/\Q (.d (.tup ((ic ws).map wdD))) Z
theorem LA(T:Txt K mg t):az P w K mg base CX0 4 t.bR t.fb ["places","some"] (bg Ly):=by
 have G_is_word:az P w K mg base _ _ _ _ _ _:=Ld T;have G_is_rising:az P w K mg base _ _ _ _ _ _:=L5 T
 refine T.o8.okD iw (fun xs Z Q h=>by obtain ⟨n,x,ws,rfl,_⟩:=h;rfl) (fun cdv A outer s H E hr=>⟨_,_,(ag (bv (dc (bd K rfl (aG Eb (by rfl) T.f6 (by kernel_rfl) (aa (pv 1) (bD (aV (aa (nu (v:=.ty "list") (by rfl) T.Ao (by kernel_rfl) (by rfl)) (aa (nu (v:=.ty "tuple") (by rfl) T.cX (by kernel_rfl) (by rfl)) ae))) ae))) (fun _=>rfl))) (aj eM) aW)
   (ag (bv (aN (bp hr.OH) (aG (ba K rfl) (by rfl) T.dH (by kernel_rfl) (aa (pv 1) ae)) ah (aM _)) (aj eM) aW)
   (ag (bv (dc (bd K rfl (aG (pK K rfl rfl) (by rfl) T.Gf (by kernel_rfl) (aa (bF (N:=(["word","places"] : List Str)) (src:=[none,some 0]) rfl (by show cg _ (defScope cN) _ _ (["places","some","ordered"] : List Str) = true;decide +kernel) (by intro g' h;cases h) (bG K rfl (pv 1)) (fun _ _ _ _ _ _=>(aD (i:=0) (show (["word","places"] : List Str).Nodup by decide +kernel) rfl (Or.inl rfl))) (fun _ _ _ _ _ _=>bK) (fun _ _ _ _ _ _=>(bq rfl rfl (ai G_is_word (hr.mono (by omega)) (by rfl) T.DE T.DN T.C8 .nil ar (aa (pv 1) (aa (pv 0) ae)))))) ae)) (fun _=>rfl))) (aj eM) aW)
   (ag (aB (i:=2) iw.nd rfl (Or.inl rfl) (aG xI (by rfl) T.G4 (by kernel_rfl) (aa (bF (N:=(["word"] : List Str)) (src:=[none]) rfl (by show cg _ (defScope cN) _ _ (["places","some","ordered"] : List Str) = true;decide +kernel) (by intro g' h;cases h) (bG K rfl (pv 1)) (fun _ _ _ _ _ _=>(aD (i:=0) (show (["word"] : List Str).Nodup by decide +kernel) rfl (Or.inl rfl))) (fun _ _ _ _ _ _=>bK) (fun _ _ _ _ _ _=>(bq rfl rfl (bt (a9 K rfl) (by rfl) T.cX (by kernel_rfl) (aa (bF (N:=(["bit"] : List Str)) (src:=[none]) rfl (by with_unfolding_all rfl) (by intro g' h;cases h) (bG K rfl (pv 0)) (fun _ _ _ _ _ _=>(aD (i:=0) (show (["bit"] : List Str).Nodup by decide +kernel) rfl (Or.inl rfl))) (fun _ _ _ _ _ _=>bK) (fun _ _ _ _ _ _=>(bq rfl rfl (bt pF (by rfl) T.BM (by kernel_rfl) (aa (pv 0) ae))))) ae))))) ae)))
   (ag (bv (dc (bd K rfl (ai G_is_rising (hr.mono (by omega)) (by rfl) T.yB T.yP T.x8 .nil ar (aa (pv 2) ae)) (fun _=>rfl))) (aj eM) aW)
   (aj (aE (bt (a9 K rfl) (by rfl) T.cX (by kernel_rfl) (aa (pv 2) ae))))))))),(au (cI (eV (dI (La ac (ab yT (ab yT af))))) ga bj)
   (au (cI (aZ (aq bw (bz eA (ab ac af)) ak)) ga bj)
   (au (cI (eV (dI (bz BF (ab (bW (cx ac) ao gZ (bS (ap (ab ac (ab ac af))))) af)))) ga bj)
   (au (aH (bz G8 (ab (bW (cx ac) ao gZ (bS (bz dA (ab (bW (cx ac) ao gZ (bS (bz GJ (ab ac af)))) af)))) af)) ao)
   (au (cI (eV (dI (ap (ab ac af)))) ga bj)
   (aL (bz dA (ab ac af)))))))),fun xs Z Q h=>?_⟩)
 obtain⟨n,x,ws,rfl,hx,hn1,hn,hw,hne,k⟩:=h;have hwl:=hw.le hn;walk_at "s1";simp only[EY];walk_at "a1"
 obtain⟨d,hd1,hd2⟩:=hx.dat
 refine⟨d,hd1,?_⟩;rw[hd2,if_neg (by decide)]
 have hlen:=hx.len;rw[List.length_map] at hlen;have hpos:0<ws.length:=List.length_pos_iff.mpr hne;walk_at "s1";refine⟨_,hlen,?_⟩;rw[if_neg (by simp;omega)]
 walk_at "s1";refine hx.frz fun d' hd'=>⟨_,hd',?_⟩;refine dU (rs:=(ws.map fun _=>true).map D.bl) (by simp) (Nat.le_of_lt (a7 (by simp;omega))) (fun j a r h1 h2 Q q=>?_) (fun ρ=>⟨_,aS _,_,rfl,?_⟩)
 ·simp only[List.map_map,List.getElem?_map,Option.map_eq_some_iff] at h1 h2
  obtain⟨y,hy,rfl⟩:=h1;obtain⟨_,_,rfl⟩:=h2;simp only[Function.comp_apply] at q ⊢;walk_at "a1";exact⟨n,y,rfl,hw.2 y (List.mem_of_getElem? hy),hn1,hn,q⟩
 rw[show (ws.map fun _=>true).all id=true from by simp]
 walk_at "s1";refine hx.frz fun d' hd'=>⟨_,hd',?_⟩;refine dU (rs:=ws.map wdD) (by simp) (Nat.le_of_lt (a7 (by simp;omega))) (fun j a r h1 h2 Q q=>?_) (fun ρ=>⟨_,aS _,ws,rfl,fun y hy e=>?_,by omega,?_⟩)
 ·simp only[List.getElem?_map,Option.map_eq_some_iff] at h1 h2
  obtain⟨_,⟨y,hy,rfl⟩,rfl⟩:=h1;obtain⟨y',hy',rfl⟩:=h2;rw[hy] at hy';cases hy';have hyl:=(cu (hw.2 y (List.mem_of_getElem? hy))).1;walk_at "a1";refine dU (rs:=y.map D.int) (by simp) (Nat.le_of_lt (a7 (by simp;omega))) (fun j a r h1 h2 Q q=>?_) (fun ρ=>⟨_,aS _,q⟩)
  simp only[List.getElem?_map,Option.map_eq_some_iff] at h1 h2;obtain⟨_,⟨z,hz,rfl⟩,rfl⟩:=h1;obtain⟨z',hz',rfl⟩:=h2;rw[hz] at hz';cases hz';walk_at "a1";exact q
 ·have:=(cu (hw.2 y hy)).1
  rw[e] at this;simp at this;omega
 have hs:=nX ws;walk_at "s1";refine⟨ic ws,rfl,yf ws,(l4 ws).nodup_iff.mpr hw.1,by omega,?_⟩
 refine⟨true,rfl,?_⟩;rw[if_neg (by decide),ax]
 exact k
noncomputable def D2:ASp:=fun xs Z Q=>∃(n:Nat)(x y:AV) (ys zs:List (List Int)),xs=[.d (.int n),x,y]/\SqA Z x (ys.map wdD)/\SqA Z y (zs.map wdD)/\1<=n/\n<=5/\Wds n ys/\Wds n zs/\ys≠[]/\zs≠[]/\(∀v∈ys,v ∉ zs)/\Q (.d (csD n (ic ys) (ic zs))) Z
theorem D1(T:Txt K mg t):az P w K mg base CX0 5 t.fm t.pI ["places","yes","no"] (bg D2):=by
 have G_are_places:az P w K mg base _ _ _ _ _ _:=CY T;have G_words_in_order:az P w K mg base _ _ _ _ _ _:=LA T
 refine T.Dp.okD mO (fun xs Z Q h=>by obtain ⟨n,x,y,ys,zs,rfl,_⟩:=h;rfl) (fun cdv A outer s H E hr=>⟨_,_,(ag (bv (dc (bd K rfl (ai G_are_places (hr.mono (by omega)) (by rfl) T.nU T.nn T.ou .nil ar (aa (pv 0) ae)) (fun _=>rfl))) (aj eM) aW)
   (ag (aB (i:=3) mO.nd rfl (Or.inl rfl) (ai G_words_in_order (hr.mono (by omega)) (by rfl) T.i9 T.jd T.jB .nil ar (aa (pv 0) (aa (pv 1) ae))))
   (ag (aB (i:=4) mO.nd rfl (Or.inr rfl) (ai G_words_in_order (hr.mono (by omega)) (by rfl) T.i9 T.jd T.jB .nil ar (aa (pv 0) (aa (pv 2) ae))))
   (ag (bv (bd K rfl (aG (DY K rfl rfl) (by rfl) T.Nk (by kernel_rfl) (aa (bF (N:=(["word","no_words"] : List Str)) (src:=[none,some 4]) rfl (by show cg _ (defScope lE) _ _ (["places","yes","no","yes_words","no_words"] : List Str) = true;decide +kernel) (by intro g' h;cases h) (bG K rfl (pv 3)) (fun _ _ _ _ _ _=>(aD (i:=0) (show (["word","no_words"] : List Str).Nodup by decide +kernel) rfl (Or.inl rfl))) (fun _ _ _ _ _ _=>bK) (fun _ _ _ _ _ _=>(bq rfl rfl (bU (wN hr.OH) (pv 0) (pv 1) (by with_unfolding_all rfl))))) ae)) (fun _=>rfl)) (aj eM) aW)
   (aj (aE (aV (aa (bt pF (by rfl) T.BM (by kernel_rfl) (aa (pv 0) ae)) (aa (pv 3) (aa (pv 4) ae)))))))))),(au (cI (eV (dI (ap (ab ac af)))) ga bj)
   (au (aH (ap (ab ac (ab ac af))) ao)
   (au (aH (ap (ab ac (ab ac af))) ao)
   (au (cI (dI (bz BF (ab (bW (cx ac) ao gZ (bS (aq Ha ac ac))) af))) ga bj)
   (aL (bo (ab (bz GJ (ab ac af)) (ab ac (ab ac af))))))))),fun xs Z Q h=>?_⟩)
 obtain⟨n,x,y,ys,zs,rfl,hx,hy,hn1,hn,hys,hzs,hy0,hz0,hd,k⟩:=h;have hyl:=hys.le hn;have hzl:=hzs.le hn;have hsy:=nX ys;have hsz:=nX zs;walk_at "s1";refine⟨n,rfl,hn1,hn,true,rfl,?_⟩;rw[if_neg (by decide)]
 walk_at "s1";refine⟨n,x,ys,rfl,hx,hn1,hn,hys,hy0,?_⟩;walk_at "s1";refine⟨n,y,zs,rfl,hy,hn1,hn,hzs,hz0,?_⟩;walk_at "s1";refine dU (rs:=((ic ys).map fun _=>false).map D.bl) (by simp) (Nat.le_of_lt (a7 (by simp;omega))) (fun j a r h1 h2 Q q=>?_) (fun ρ=>⟨_,aS _,_,rfl,?_⟩)
 ·simp only[List.map_map,List.getElem?_map,Option.map_eq_some_iff] at h1 h2
  obtain⟨v,hv,rfl⟩:=h1;obtain⟨_,_,rfl⟩:=h2;simp only[Function.comp_apply] at q ⊢;walk_at "a1";refine⟨by have:=kS (ic zs);omega,?_⟩
  rw[sO,decide_eq_false fun h=>hd v (xN.mp (List.mem_of_getElem? hv)) (xN.mp h)];exact q
 rw[if_neg (by simp),ax]
 exact k
noncomputable def Em:ASp:=fun xs Z Q=>∃(n:Nat)(tb:List Int),xs=[.d (wdD tb)]/\tb.length=2^n/\n<=5/\((wl n).filter fun v=>decide (tb.getD (num v).toNat 0=1))≠[]/\((wl n).filter fun v=>decide (tb.getD (num v).toNat 0=0))≠[]/\Q (.d (csD n ((wl n).filter fun v=>decide (tb.getD (num v).toNat 0=1)) ((wl n).filter fun v=>decide (tb.getD (num v).toNat 0=0)))) Z
theorem DB(T:Txt K mg t):az P w K mg base CX0 2 t.d9 t.lG ["table"] (bg Em):=by
 have G_all_words:az P w K mg base _ _ _ _ _ _:=Ce T;have G_places_of:az P w K mg base _ _ _ _ _ _:=Mv T;have G_value_at:az P w K mg base _ _ _ _ _ _:=HC T
 refine T.Di.okD gA (fun xs Z Q h=>by obtain ⟨n,tb,rfl,_⟩:=h;rfl) (fun cdv A outer s H E hr=>⟨_,_,(ag (aB (i:=1) gA.nd rfl (Or.inl rfl) (ai G_places_of (hr.mono (by omega)) (by rfl) T.xF T.yl T.yE .nil ar (aa (pv 0) ae)))
   (ag (aB (i:=2) gA.nd rfl (Or.inl rfl) (ai G_all_words (hr.mono (by omega)) (by rfl) T.p6 T.pQ T.pX .nil ar (aa (pv 1) ae)))
   (ag (aB (i:=3) gA.nd rfl (Or.inl rfl) (bt (a9 K rfl) (by rfl) T.cX (by kernel_rfl) (aa (bF (N:=(["word","table"] : List Str)) (src:=[none,some 0]) rfl (by show cg _ (defScope jf) _ _ (["table","places","words","yes","no"] : List Str) = true;decide +kernel) (by intro g' h;cases h) (bG K rfl (pv 2)) (fun _ _ _ _ _ _=>(aD (i:=0) (show (["word","table"] : List Str).Nodup by decide +kernel) rfl (Or.inl rfl))) (fun _ _ _ _ _ _=>(lH (aN (bp hr.OH) (ai G_value_at (hr.mono (by omega)) (by rfl) T.sI T.tF T.qZ .nil ar (aa (pv 1) (aa (pv 0) ae))) ah (aM _)))) (fun _ _ _ _ _ _=>(bq rfl rfl (pv 0)))) ae)))
   (ag (aB (i:=4) gA.nd rfl (Or.inl rfl) (bt (a9 K rfl) (by rfl) T.cX (by kernel_rfl) (aa (bF (N:=(["word","table"] : List Str)) (src:=[none,some 0]) rfl (by show cg _ (defScope jf) _ _ (["table","places","words","yes","no"] : List Str) = true;decide +kernel) (by intro g' h;cases h) (bG K rfl (pv 2)) (fun _ _ _ _ _ _=>(aD (i:=0) (show (["word","table"] : List Str).Nodup by decide +kernel) rfl (Or.inl rfl))) (fun _ _ _ _ _ _=>(lH (aN (bp hr.OH) (ai G_value_at (hr.mono (by omega)) (by rfl) T.sI T.tF T.qZ .nil ar (aa (pv 1) (aa (pv 0) ae))) ah (aM _)))) (fun _ _ _ _ _ _=>(bq rfl rfl (pv 0)))) ae)))
   (ag (bv (PW.pt (p5 (aN (bp hr.OH) (aG (ba K rfl) (by rfl) T.dH (by kernel_rfl) (aa (pv 3) ae)) ah (aM _)) (lg (aN (bp hr.OH) (aG (ba K rfl) (by rfl) T.dH (by kernel_rfl) (aa (pv 4) ae)) ah (aM _))))) (aj eM) aW)
   (aj (aE (aV (aa (pv 1) (aa (pv 3) (aa (pv 4) ae))))))))))),(au (aH (ap (ab ac af)) ao)
   (au (aH (ap (ab ac af)) ao)
   (au (aH (bz dA (ab (bW (cx ac) ao (aZ (aq bw (ap (ab ac (ab ac af))) ak)) (bS ac)) af)) ao)
   (au (aH (bz dA (ab (bW (cx ac) ao (aZ (aq bw (ap (ab ac (ab ac af))) ak)) (bS ac)) af)) ao)
   (au (cI (xU (aZ (aq bw (bz eA (ab ac af)) ak)) (aZ (aq bw (bz eA (ab ac af)) ak))) ga bj)
   (aL (bo (ab ac (ab ac (ab ac af)))))))))),fun xs Z Q h=>?_⟩)
 obtain⟨n,tb,rfl,htl,hn,h1,h0,k⟩:=h;have hwl:=ki hn;walk_at "s1";refine⟨tb,n,rfl,htl,hn,?_⟩;walk_at "s1";refine⟨n,rfl,hn,?_⟩;walk_at "s1"
 have val:∀(b:Int)(v:List Int),v∈wl n->∀Q:Bool->Om->Prop,Q (decide (tb.getD (num v).toNat 0=b)) Z->uG (aOp (Hf false) (E1 yM (kf (gE 1) (kf (gE 0) wH))) (aC (D.int b))) [some (AV.d (wdD v)),some (AV.d (wdD tb))] Z Q:=fun b v hv Q q=>by
  obtain⟨e1,e2⟩:=cu hv;walk_at "a1";refine⟨tb,v,rfl,e2,by rw[e1];exact htl,_,rfl,by simp[dep],?_⟩
  rw[show eqD (D.int (tb.getD (num v).toNat 0)) (D.int b)=decide (tb.getD (num v).toNat 0=b) from by rw[lx];rfl]
  exact q
 refine BP wdD (fun v=>decide (tb.getD (num v).toNat 0=1)) wdD (Nat.le_of_lt (a7 (by omega))) (fun v hv Q q=>val 1 v hv Q q) (fun v hv _ Q q=>?_) (fun ρ=>⟨_,aS _,?_⟩)
 ·walk_at "a1"
  exact q
 walk_at "s1";refine BP wdD (fun v=>decide (tb.getD (num v).toNat 0=0)) wdD (Nat.le_of_lt (a7 (by omega))) (fun v hv Q q=>val 0 v hv Q q) (fun v hv _ Q q=>?_) (fun ρ=>⟨_,aS _,?_⟩)
 ·walk_at "a1"
  exact q
 generalize ((wl n).filter fun v=>decide (tb.getD (num v).toNat 0=1))=A1 at *;generalize ((wl n).filter fun v=>decide (tb.getD (num v).toNat 0=0))=A0 at *;have l1:=List.length_pos_iff.mpr h1;have l0:=List.length_pos_iff.mpr h0;walk_at "s1";rw[if_neg (by omega),if_neg (by omega),ax]
 exact k
noncomputable def jnF(a:Bool):Nat->List Sy->Sy
 |0,ss=>ss.headD (.is 0 0)
 |r+1,ss=>if ss.length=1 then ss.headD (.is 0 0) else .jn a (jnF a r (ss.take ((ss.length+1) / 2))) (jnF a r (ss.drop ((ss.length+1) / 2)))
theorem BT{l r:Nat}(h2:2<=l)(h:l<=2^(r+1)):1<=(l+1) / 2/\(l+1) / 2<l/\(l+1) / 2<=2^r/\l-(l+1) / 2<=2^r:=by
 rw[Nat.pow_succ] at h;omega
theorem qv{P:Nat->List Sy->Sy->Prop}(a:Bool)(h1:∀r x,P r [x] x)(h2:∀r ss x y,2<=ss.length->P r (ss.take ((ss.length+1) / 2)) x->P r (ss.drop ((ss.length+1) / 2)) y->P (r+1) ss (.jn a x y)):∀(r:Nat)(ss:List Sy),ss≠[]->ss.length<=2^r->P r ss (jnF a r ss)
 |0,ss,h0,hl=>by
  have hp:=List.length_pos_iff.mpr h0;obtain⟨x,rfl⟩:=List.length_eq_one_iff.mp (by simp at hl;omega:ss.length=1)
  exact h1 0 x
 |r+1,ss,h0,hl=>by
  have hp:=List.length_pos_iff.mpr h0;unfold jnF;by_cases h:ss.length=1
  ·rw[if_pos h]
   obtain⟨x,rfl⟩:=List.length_eq_one_iff.mp h;exact h1 _ x
  ·rw[if_neg h]
   obtain⟨g1,g2,g3,g4⟩:=BT (r:=r) (by omega:2<=ss.length) hl
   refine h2 r ss _ _ (by omega) (qv a h1 h2 r _ ?_ ?_) (qv a h1 h2 r _ ?_ ?_)
   ·exact fun e=>by have:=congrArg List.length e;rw[List.length_take,List.length_nil] at this;omega
   ·rw[List.length_take];omega
   ·exact fun e=>by have:=congrArg List.length e;rw[List.length_drop,List.length_nil] at this;omega
   ·rw[List.length_drop];omega
theorem qL(a:Bool)(r:Nat)(ss:List Sy)(h0:ss≠[])(hl:ss.length<=2^r)(v:List Int):(jnF a r ss).val v=if a then ss.all (fun x=>x.val v) else ss.any fun x=>x.val v:=by
 refine qv (P:=fun r ss y=>y.val v=if a then ss.all (fun x=>x.val v) else ss.any fun x=>x.val v) a (fun r x=>by cases a<;>simp) (fun r ss x y h2 hx hy=>?_) r ss h0 hl
 simp only[Sy.val,hx,hy];generalize (ss.length+1) / 2=g;have e:=List.take_append_drop g ss;cases a
 ·rw[if_neg (by decide),if_neg (by decide),if_neg (by decide),if_neg (by decide),←List.any_append,e]
 ·rw[if_pos rfl,if_pos rfl,if_pos rfl,if_pos rfl,←List.all_append,e]
theorem w5{n:Nat}(a:Bool)(r:Nat)(ss:List Sy)(h0:ss≠[])(hl:ss.length<=2^r)(dd ll:Nat)(h:∀x∈ss,x.ok n/\x.dp<=dd/\x.lvs<=ll):(jnF a r ss).ok n/\(jnF a r ss).dp<=r+dd/\(jnF a r ss).lvs<=ss.length*ll:=by
 refine qv (P:=fun r ss y=>(∀x∈ss,x.ok n/\x.dp<=dd/\x.lvs<=ll)->y.ok n/\y.dp<=r+dd/\y.lvs<=ss.length*ll) a (fun r x h=>?_) (fun r ss x y h2 hx hy h=>?_) r ss h0 hl h
 ·obtain⟨a1,a2,a3⟩:=h x (List.mem_singleton.mpr rfl)
  exact⟨a1,by omega,by simpa using a3⟩
 ·obtain⟨a1,a2,a3⟩:=hx fun z hz=>h z (List.mem_of_mem_take hz)
  obtain⟨b1,b2,b3⟩:=hy fun z hz=>h z (List.mem_of_mem_drop hz);refine⟨⟨a1,b1⟩,by simp only[Sy.dp];omega,?_⟩
  have e:ss.length=(ss.take ((ss.length+1) / 2)).length+(ss.drop ((ss.length+1) / 2)).length:=by rw[List.length_take,List.length_drop];omega
  rw[e,Nat.add_mul];simp only[Sy.lvs];omega
theorem vw(a:Bool):∀(r:Nat)(ss:List Sy),ss≠[]->agS (jnF a r ss)=jnF (!a) r (ss.map agS)
 |0,ss,h=>by cases ss with
  |nil=>exact absurd rfl h
  |cons x xs=>rfl
 |r+1,ss,h=>by
  unfold jnF;rw[List.length_map];by_cases h1:ss.length=1
  ·rw[if_pos h1,if_pos h1]
   obtain⟨x,rfl⟩:=List.length_eq_one_iff.mp h1;rfl
  ·rw[if_neg h1,if_neg h1]
   have hp:=List.length_pos_iff.mpr h;simp only[agS];rw[vw a r _ (fun e=>by have:=congrArg List.length e;rw[List.length_take,List.length_nil] at this;omega),vw a r _ (fun e=>by have:=congrArg List.length e;rw[List.length_drop,List.length_nil] at this;omega),List.map_take,List.map_drop]
noncomputable def lfW(g:Int->Int)(v:List Int):List Sy:=(List.range v.length).map fun(i:Nat)=>Sy.is (i:Int) (g (v.getD i 0))
noncomputable def isW(v:List Int):Sy:=jnF true 3 (lfW (fun b=>b) v)
noncomputable def anW(v:List Int):Sy:=jnF false 3 (lfW (fun b=>1-b) v)
noncomputable def byY(ys:List (List Int)):Sy:=jnF false 5 (ys.map isW)
noncomputable def byN(zs:List (List Int)):Sy:=jnF true 5 (zs.map anW)
theorem ir(g:Int->Int)(v:List Int):(lfW g v).length=v.length:=by simp[lfW]
theorem HJ{n:Nat}{v:List Int}(hv:v∈wl n){g:Int->Int}(hg:∀b,b=0\/b=1->g b=0\/g b=1):∀x∈lfW g v,x.ok n/\x.dp<=0/\x.lvs<=1:=fun x hx=>by
 obtain⟨i,hi,rfl⟩:=List.mem_map.mp hx;have hl:=(cu hv).1;have hi:=List.mem_range.mp hi;exact⟨⟨by omega,by omega,hg _ (iV hv i)⟩,Nat.le_refl _,Nat.le_refl _⟩
theorem eZ{n:Nat}{v:List Int}(hn:1<=n)(hv:v∈wl n)(g:Int->Int):lfW g v≠[]:=fun e=>by
 have:=congrArg List.length e;rw[ir,(cu hv).1] at this;simp at this;omega
theorem CN{n:Nat}{u v:List Int}(hu:u∈wl n)(hv:v∈wl n)(h:∀i<n,u.getD i 0=v.getD i 0):u=v:=by
 have lu:=(cu hu).1;have lv:=(cu hv).1;refine List.ext_getElem (by omega) fun i h1 h2=>?_
 have:=h i (by omega)
 simpa[List.getElem?_eq_getElem h1,List.getElem?_eq_getElem h2] using this
theorem G3{n:Nat}{v:List Int}(hn1:1<=n)(hn:n<=5)(hv:v∈wl n):((isW v).ok n/\(isW v).dp<=3/\(isW v).lvs<=5)/\(anW v).ok n/\(anW v).dp<=3/\(anW v).lvs<=5:=by
 have hl:=(cu hv).1;obtain⟨a1,a2,a3⟩:=w5 (n:=n) true 3 _ (eZ hn1 hv fun b=>b) (by rw[ir];omega) 0 1 (HJ hv fun b h=>h)
 obtain⟨b1,b2,b3⟩:=w5 (n:=n) false 3 _ (eZ hn1 hv fun b=>1-b) (by rw[ir];omega) 0 1 (HJ hv fun b h=>by omega)
 rw[ir] at a3 b3;exact⟨⟨a1,a2,by unfold isW;omega⟩,b1,b2,by unfold anW;omega⟩
theorem qI{n:Nat}{v u:List Int}(hn1:1<=n)(hn:n<=5)(hv:v∈wl n)(hu:u∈wl n):(isW v).val u=decide (u=v)/\(anW v).val u=!decide (u=v):=by
 have hl:=(cu hv).1;unfold isW anW;rw[qL true 3 _ (eZ hn1 hv _) (by rw[ir];omega),qL false 3 _ (eZ hn1 hv _) (by rw[ir];omega)]
 simp only[if_true,if_false,Bool.false_eq_true,lfW,List.all_map,List.any_map,Function.comp_def,Sy.val,Int.toNat_natCast];refine⟨?_,?_⟩
 ·rw[Bool.eq_iff_iff,List.all_eq_true,decide_eq_true_eq]
  constructor
  ·intro h
   exact CN hu hv fun i hi=>by simpa using h i (List.mem_range.mpr (by omega))
  ·rintro rfl i _
   simp
 ·rw[Bool.eq_iff_iff,List.any_eq_true,Bool.not_eq_true',decide_eq_false_iff_not]
  constructor
  ·rintro⟨i,hi,h⟩ rfl
   have:=iV hu i;simp only[decide_eq_true_eq] at h;omega
  ·intro h
   by_cases q:∃i,i<n/\u.getD i 0≠v.getD i 0
   ·obtain⟨i,hi,hq⟩:=q
    refine⟨i,List.mem_range.mpr (by omega),?_⟩
    have a:=iV hu i;have b:=iV hv i;simp only[decide_eq_true_eq];omega
   ·exact absurd (CN hu hv fun i hi=>by
     by_cases e:u.getD i 0=v.getD i 0
     ·exact e
     ·exact absurd ⟨i,hi,e⟩ q) h
theorem uL{n:Nat}{ws:List (List Int)}(hn1:1<=n)(hn:n<=5)(hw:Wds n ws)(h0:ws≠[]):((byY ws).ok n/\(byY ws).dp<=8/\(byY ws).lvs<=160)/\(byN ws).ok n/\(byN ws).dp<=8/\(byN ws).lvs<=160:=by
 have hl:=hw.le hn
 obtain ⟨a1,a2,a3⟩:=w5 (n:=n) false 5 (ws.map isW) (by simpa using h0) (by simpa using hl) 3 5 (fun x hx=>by
  obtain⟨v,hv,rfl⟩:=List.mem_map.mp hx
  exact(G3 hn1 hn (hw.2 v hv)).1)
 obtain ⟨b1,b2,b3⟩:=w5 (n:=n) true 5 (ws.map anW) (by simpa using h0) (by simpa using hl) 3 5 (fun x hx=>by
  obtain⟨v,hv,rfl⟩:=List.mem_map.mp hx
  exact(G3 hn1 hn (hw.2 v hv)).2)
 rw[List.length_map] at a3 b3;exact⟨⟨a1,a2,by unfold byY;omega⟩,b1,b2,by unfold byN;omega⟩
theorem o0{n:Nat}{ws:List (List Int)}(hn1:1<=n)(hn:n<=5)(hw:Wds n ws)(h0:ws≠[]){u:List Int}(hu:u∈wl n):(byY ws).val u=decide (u∈ws)/\(byN ws).val u=!decide (u∈ws):=by
 have hl:=hw.le hn;unfold byY byN;rw[qL false 5 _ (by simpa using h0) (by simpa using hl),qL true 5 _ (by simpa using h0) (by simpa using hl)]
 simp only[if_true,if_false,Bool.false_eq_true,List.all_map,List.any_map,Function.comp_def];refine⟨?_,?_⟩
 ·rw[Bool.eq_iff_iff,List.any_eq_true,decide_eq_true_eq]
  constructor
  ·rintro⟨v,hv,h⟩
   rw[(qI hn1 hn (hw.2 v hv) hu).1,decide_eq_true_eq] at h;rw[h];exact hv
  ·exact fun h=>⟨u,h,by rw[(qI hn1 hn hu hu).1];simp⟩
 ·rw[Bool.eq_iff_iff,List.all_eq_true,Bool.not_eq_true',decide_eq_false_iff_not]
  constructor
  ·intro h hm
   have:=h u hm;rw[(qI hn1 hn hu hu).2] at this;simp at this
  ·intro h v hv
   rw[(qI hn1 hn (hw.2 v hv) hu).2];simp only[Bool.not_eq_true',decide_eq_false_iff_not];rintro rfl;exact h hv
theorem Nd{n:Nat}{ws:List (List Int)}(hn1:1<=n)(hw:Wds n ws)(h0:ws≠[]):agS (byY ws)=byN ws:=by
 unfold byY byN;rw[vw false 5 _ (by simpa using h0),List.map_map]
 congr 1
 refine List.map_congr_left fun v hv=>?_;simp only[Function.comp_apply,isW,anW];rw[vw true 3 _ (eZ hn1 (hw.2 v hv) _)];simp only[lfW,List.map_map,Function.comp_def,agS,Bool.not_true]
theorem vH{n:Nat}{v:List Int}(hv:v∈wl n):∀ {x:Sy},x.ok n->(agS x).val v=!x.val v
 |.is i b,⟨h1,h2,h3⟩=>by
  have:=iV hv i.toNat
  simp only[agS,Sy.val];rw[Bool.eq_iff_iff,Bool.not_eq_true',decide_eq_true_eq,decide_eq_false_iff_not];omega
 |.jn a l r,⟨h1,h2⟩=>by
  simp only[agS,Sy.val,vH hv h1,vH hv h2];cases a<;>simp
theorem Fx{n:Nat}:∀ {x:Sy},x.ok n->(agS x).ok n/\(agS x).dp=x.dp/\(agS x).lvs=x.lvs
 |.is i b,⟨h1,h2,h3⟩=>⟨⟨h1,h2,by omega⟩,rfl,rfl⟩
 |.jn a l r,⟨h1,h2⟩=>by
  obtain⟨a1,a2,a3⟩:=Fx h1;obtain⟨b1,b2,b3⟩:=Fx h2;exact⟨⟨a1,b1⟩,by simp only[agS,Sy.dp,a2,b2],by simp only[agS,Sy.lvs,a3,b3]⟩
noncomputable def pz(r:Nat):ASp:=fun xs Z Q=>∃(a:Bool)(ss:List Sy),xs=[.d (.str (if a then "and" else "or")),.d (.lst (ss.map Sy.d))]/\ss≠[]/\ss.length<=2^r/\r<=6/\Q (.d (jnF a r ss).d) Z
theorem p8(T:Txt K mg t)(r:Nat)(kk:Nat)(sp:ASp)(G_joined:az P w K mg base CX0 kk t.eO t.kK ["join","some"] (bg sp))(hs:∀r',r=r'+1->sp=pz r'):az P w K mg base CX0 (kk+1) t.eO t.kK ["join","some"] (bg (pz r)):=by
 refine T.Ge.okD uB (fun xs Z Q h=>by obtain ⟨a,ss,rfl,_⟩:=h;rfl) (fun cdv A outer s H E hr=>⟨_,_,(ag (bv (aN (bp hr.OH) (aG (ba K rfl) (by rfl) T.dH (by kernel_rfl) (aa (pv 1) ae)) ah (aM _)) (aj (aE (ay (am K rfl) (pv 1) ah (fun _ _=>rfl)))) aW)
   (ag (aB (i:=2) uB.nd rfl (Or.inl rfl) (aT qF (aT (aQ cm (aQ bN cn)) (aG (ba K rfl) (by rfl) T.dH (by kernel_rfl) (aa (pv 1) ae)) ah) ah))
   (aj (aE (aV (aa (pv 0) (aa (ai G_joined (hr.mono (by omega)) (by rfl) T.fO T.fR T.fS .nil ar (aa (pv 0) (aa (sB (Al K rfl) (pv 1) vY (vN (pv 2))) ae))) (aa (ai G_joined (hr.mono (by omega)) (by rfl) T.fO T.fR T.fS .nil ar (aa (pv 0) (aa (sB (Al K rfl) (pv 1) (vN (pv 2)) vY) ae))) ae)))))))),(au (cI (aZ (aq bw (bz eA (ab ac af)) ak)) (aL (aq aK ac ak)) bj)
   (au (aH (aq kr (aq dm (bz eA (ab ac af)) ak) ak) ao)
   (aL (bo (ab ac (ab (ap (ab ac (ab (LK ac Ak (Bc ac)) af))) (ab (ap (ab ac (ab (LK ac (Bc ac) Ak) af))) af))))))),fun xs Z Q h=>?_⟩)
 obtain⟨a,ss,rfl,h0,hl,hr6,k⟩:=h;have hpos:=List.length_pos_iff.mpr h0;walk_at "s1";refine mj (fun h1=>?_) (fun h1=>?_)
 ·obtain⟨x,rfl⟩:=List.length_eq_one_iff.mp (by omega:ss.length=1)
  refine⟨_,rfl,_,rfl,?_⟩;rw[ax]
  cases r with
  |zero=>exact k
  |succ r=>simp only[jnF,List.length_singleton,if_true] at k;exact k
 ·obtain⟨r',rfl⟩:∃r',r=r'+1:=⟨r-1,by
   cases r with
   |zero=>simp at hl;omega
   |succ r=>rfl⟩
  cases hs r' rfl;obtain⟨g1,g2,g3,g4⟩:=BT (r:=r') (by omega:2<=ss.length) hl
  simp only[jnF] at k;rw[if_neg (by omega)] at k
  generalize hg:(ss.length+1) / 2=g at *;have eg:((ss.length:Int)+1) / 2=(g:Int):=by omega
  have e1:ib (ss.map Sy.d) none (some (g:Int))=(ss.take g).map Sy.d:=by
   rw[yV]
   congr 1
   unfold ib;rw[HT.sIx_none,HT.sIx_nat,List.drop_zero,Nat.sub_zero,Nat.min_eq_left (by omega)]
  have e2:ib (ss.map Sy.d) (some (g:Int)) none=(ss.drop g).map Sy.d:=by
   rw[yV]
   congr 1
   unfold ib;rw[HT.sIx_none,HT.sIx_nat,Nat.min_eq_left (by omega),List.take_of_length_le (by simp)]
  walk_at "s1";rw[eg];refine⟨⟨by decide,by decide⟩,?_⟩
  rw[e1,e2];refine⟨a,ss.take g,rfl,fun e=>by have:=congrArg List.length e;rw[List.length_take,List.length_nil] at this;omega,by rw[List.length_take];omega,by omega,?_⟩
  refine⟨a,ss.drop g,rfl,fun e=>by have:=congrArg List.length e;rw[List.length_drop,List.length_nil] at this;omega,by rw[List.length_drop];omega,by omega,_,rfl,?_⟩
  rw[ax];exact k
theorem gk(T:Txt K mg t):∀r,az P w K mg base CX0 (r+1) t.eO t.kK ["join","some"] (bg (pz r))
 |0=>p8 T 0 0 Mq KM (fun r' h=>by omega)
 |r+1=>p8 T (r+1) (r+1) _ (gk T r) (fun r' h=>by cases h;rfl)
theorem Co{te:AE}{v:List Int}(g:Int->Int){Z:Om}{KK:List AV->SA->Om->Prop}{ρ:SA}(hl:v.length<=5)(h0:∃a b,ρ=[a,b])(he:∀(j:Nat)(Q:AV->Om->Prop),Q (.d (Sy.is (j:Nat) (g (v.getD j 0))).d) Z->te [some (.d (.int (j:Nat))),some (.d (.int (v.getD j 0)))] Z Q)(hk:∀ρ,KK (((lfW g v).map Sy.d).map AV.d) ρ Z):
  cy (xZ 2 (kL (dX 0) (kL (dX 1) x5))) io (jk te) (ku (v.map D.int)) [] ρ Z KK:=by
 refine og (rs:=(lfW g v).map Sy.d) (fun ρ=>∃u u',ρ=[u,u']) h0 (by simp[ku,lfW]) (Nat.le_of_lt (a7 (by simp[ku];omega))) (fun j e r ρ N h1 h2 ⟨u,u',eρ⟩ kN=>?_) (fun ρ _=>hk ρ)
 subst eρ;obtain⟨d,hd,rfl⟩:=oI h1;rw[List.getElem?_map,Option.map_eq_some_iff] at hd;obtain⟨x,hx,rfl⟩:=hd;have hj:=(List.getElem?_eq_some_iff.mp hx).1;rw[lfW,List.map_map,List.getElem?_map,List.getElem?_range hj,Option.map_some] at h2;cases h2;have ex:v.getD j 0=x:=by rw[List.getD_eq_getElem?_getD,hx];rfl
 rw[←ex]
 exact⟨_,rfl,rfl,_,_,rfl,_,_,rfl,rfl,kN _ ⟨_,_,rfl⟩ fun Q q=>he j Q q⟩
noncomputable def IG:ASp:=fun xs Z Q=>∃(n:Nat)(v:List Int),xs=[.d (wdD v)]/\1<=n/\n<=5/\v∈wl n/\Q (.d (isW v).d) Z
theorem Jx(T:Txt K mg t):az P w K mg base CX0 5 t.cH t.iL ["word"] (bg IG):=by
 have G_joined:az P w K mg base _ _ _ _ _ _:=gk T 3;refine T.tY.okD rY (fun xs Z Q h=>by obtain⟨n,v,rfl,_⟩:=h;rfl) (fun cdv A outer s H E hr=>⟨_,_,(aj (aE (ai G_joined (hr.mono (by omega)) (by rfl) T.fO T.fR T.fS .nil ar (av aO (aa (bF (N:=(["place","bit"]:List Str)) (src:=[none,none]) rfl (by show cg _ (defScope fH) _ _ (["word"]:List Str)=true;decide +kernel) (by intro g' h;cases h) (BZ K rfl (by rfl) T.pZ (aa (pv 0) ae)) (fun _ _ _ _ _ _=>(dS K rfl (n:=2) rfl (aX (aD (i:=0) (show (["place","bit"]:List Str).Nodup by decide +kernel) rfl (Or.inl rfl)) (aX (aD (i:=1) (show (["place","bit"]:List Str).Nodup by decide +kernel) rfl (Or.inl rfl)) dQ)))) (fun _ _ _ _ _ _=>bK) (fun _ _ _ _ _ _=>(bq rfl rfl (aV (av aO (aa (pv 0) (aa (pv 1) ae))))))) ae))))),(aL (ap (ab be (ab (bW (Fd (ab ac af)) (kb (bH ao (bH ao kg))) gZ (bS (bo (ab be (ab ac (ab ac af)))))) af)))),fun xs Z Q h=>?_⟩)
 obtain⟨n,v,rfl,hn1,hn,hv,k⟩:=h;have hl:=(cu hv).1;simp only[wdD];walk_at "a1";refine Co (fun b=>b) (by omega) ⟨_,_,rfl⟩ (fun j Q q=>?_) (fun ρ=>⟨_,aS _,?_⟩)
 ·walk_at "a1"
  exact q
 ·refine⟨true,lfW (fun b=>b) v,rfl,eZ hn1 hv _,by rw[ir];omega,by decide,_,rfl,?_⟩
  rw[ax];exact k
noncomputable def Iy:ASp:=fun xs Z Q=>∃(n:Nat)(v:List Int),xs=[.d (wdD v)]/\1<=n/\n<=5/\v∈wl n/\Q (.d (anW v).d) Z
theorem Jk(T:Txt K mg t):az P w K mg base CX0 5 t.bJ t.eL ["word"] (bg Iy):=by
 have G_joined:az P w K mg base _ _ _ _ _ _:=gk T 3;refine T.nw.okD mN (fun xs Z Q h=>by obtain⟨n,v,rfl,_⟩:=h;rfl) (fun cdv A outer s H E hr=>⟨_,_,(aj (aE (ai G_joined (hr.mono (by omega)) (by rfl) T.fO T.fR T.fS .nil ar (av aO (aa (bF (N:=(["place","bit"]:List Str)) (src:=[none,none]) rfl (by show cg _ (defScope df) _ _ (["word"]:List Str)=true;decide +kernel) (by intro g' h;cases h) (BZ K rfl (by rfl) T.pZ (aa (pv 0) ae)) (fun _ _ _ _ _ _=>(dS K rfl (n:=2) rfl (aX (aD (i:=0) (show (["place","bit"]:List Str).Nodup by decide +kernel) rfl (Or.inl rfl)) (aX (aD (i:=1) (show (["place","bit"]:List Str).Nodup by decide +kernel) rfl (Or.inl rfl)) dQ)))) (fun _ _ _ _ _ _=>bK) (fun _ _ _ _ _ _=>(bq rfl rfl (aV (av aO (aa (pv 0) (aa (aT de ah (pv 1)) ae))))))) ae))))),(aL (ap (ab be (ab (bW (Fd (ab ac af)) (kb (bH ao (bH ao kg))) gZ (bS (bo (ab be (ab ac (ab (aq eR ak ac) af)))))) af)))),fun xs Z Q h=>?_⟩)
 obtain⟨n,v,rfl,hn1,hn,hv,k⟩:=h;have hl:=(cu hv).1;simp only[wdD];walk_at "a1";refine Co (fun b=>1-b) (by omega) ⟨_,_,rfl⟩ (fun j Q q=>?_) (fun ρ=>⟨_,aS _,?_⟩)
 ·walk_at "a1"
  exact q
 ·refine⟨false,lfW (fun b=>1-b) v,rfl,eZ hn1 hv _,by rw[ir];omega,by decide,_,rfl,?_⟩
  rw[ax];exact k
theorem Cb{te:AE}{f:List Int->Sy}{ws:List (List Int)}{Z:Om}{v0:Option AV}{KK:List AV->SA->Om->Prop}(hl:ws.length<=32)(he:∀v∈ws,∀Q:AV->Om->Prop,Q (.d (f v).d) Z->te [some (.d (wdD v))] Z Q)(hk:∀ρ,KK (((ws.map f).map Sy.d).map AV.d) ρ Z):cy (dX 0) io (jk te) ((ws.map wdD).map AV.d) [] [v0] Z KK:=by
 refine dU (rs:=(ws.map f).map Sy.d) (by simp) (Nat.le_of_lt (a7 (by simp;omega))) (fun j a r h1 h2 Q q=>?_) hk
 simp only[List.map_map,List.getElem?_map,Option.map_eq_some_iff] at h1 h2;obtain⟨y,hy,rfl⟩:=h1;obtain⟨y',hy',rfl⟩:=h2;rw[hy] at hy';cases hy';exact he y (List.mem_of_getElem? hy) Q q
noncomputable def MQ:ASp:=fun xs Z Q=>∃(n:Nat) (ys zs:List (List Int)),xs=[.d (csD n ys zs)]/\1<=n/\n<=5/\Wds n ys/\ys≠[]/\Q (.d (byY ys).d) Z
theorem FA(T:Txt K mg t):az P w K mg base CX0 7 t.gI t.tm ["case"] (bg MQ):=by
 have G_joined:az P w K mg base _ _ _ _ _ _:=gk T 5;have G_is_the_word:az P w K mg base _ _ _ _ _ _:=Jx T;refine T.Gu.okD DW (fun xs Z Q h=>by obtain⟨n,ys,zs,rfl,_⟩:=h;rfl) (fun cdv A outer s H E hr=>⟨_,_,(aj (aE (ai G_joined (hr.mono (by omega)) (by rfl) T.fO T.fR T.fS .nil ar (av aO (aa (bF (N:=(["word"]:List Str)) (src:=[none]) rfl (by show cg _ (defScope nz) _ _ (["case"]:List Str)=true;decide +kernel) (by intro g' h;cases h) (bG K rfl (ay (am K rfl) (pv 0) ah (fun _ _=>rfl))) (fun _ _ _ _ _ _=>(aD (i:=0) (show (["word"]:List Str).Nodup by decide +kernel) rfl (Or.inl rfl))) (fun _ _ _ _ _ _=>bK) (fun _ _ _ _ _ _=>(bq rfl rfl (ai G_is_the_word (hr.mono (by omega)) (by rfl) T.tP T.tK T.tU .nil ar (aa (pv 0) ae))))) ae))))),(aL (ap (ab be (ab (bW (cx (aq aK ac ak)) ao gZ (bS (ap (ab ac af)))) af)))),fun xs Z Q h=>?_⟩)
 obtain⟨n,ys,zs,rfl,hn1,hn,hy,hy0,k⟩:=h;have hl:=hy.le hn;simp only[csD];walk_at "a1";refine Cb (f:=isW) hl (fun v hv Q q=>?_) (fun ρ=>⟨_,aS _,?_⟩)
 ·walk_at "a1"
  exact⟨n,v,rfl,hn1,hn,hy.2 v hv,q⟩
 ·refine⟨false,ys.map isW,rfl,by simpa using hy0,by simpa using hl,by decide,_,rfl,?_⟩
  rw[ax];exact k
noncomputable def L9:ASp:=fun xs Z Q=>∃(n:Nat) (ys zs:List (List Int)),xs=[.d (csD n ys zs)]/\1<=n/\n<=5/\Wds n zs/\zs≠[]/\Q (.d (byN zs).d) Z
theorem Hj(T:Txt K mg t):az P w K mg base CX0 7 t.jV t.vT ["case"] (bg L9):=by
 have G_joined:az P w K mg base _ _ _ _ _ _:=gk T 5;have G_is_another_word:az P w K mg base _ _ _ _ _ _:=Jk T;refine T.JG.okD HL (fun xs Z Q h=>by obtain⟨n,ys,zs,rfl,_⟩:=h;rfl) (fun cdv A outer s H E hr=>⟨_,_,(aj (aE (ai G_joined (hr.mono (by omega)) (by rfl) T.fO T.fR T.fS .nil ar (av aO (aa (bF (N:=(["word"]:List Str)) (src:=[none]) rfl (by show cg _ (defScope qM) _ _ (["case"]:List Str)=true;decide +kernel) (by intro g' h;cases h) (bG K rfl (ay (am K rfl) (pv 0) ah (fun _ _=>rfl))) (fun _ _ _ _ _ _=>(aD (i:=0) (show (["word"]:List Str).Nodup by decide +kernel) rfl (Or.inl rfl))) (fun _ _ _ _ _ _=>bK) (fun _ _ _ _ _ _=>(bq rfl rfl (ai G_is_another_word (hr.mono (by omega)) (by rfl) T.n9 T.oB T.nl .nil ar (aa (pv 0) ae))))) ae))))),(aL (ap (ab be (ab (bW (cx (aq aK ac ak)) ao gZ (bS (ap (ab ac af)))) af)))),fun xs Z Q h=>?_⟩)
 obtain⟨n,ys,zs,rfl,hn1,hn,hy,hy0,k⟩:=h;have hl:=hy.le hn;simp only[csD];walk_at "a1";refine Cb (f:=anW) hl (fun v hv Q q=>?_) (fun ρ=>⟨_,aS _,?_⟩)
 ·walk_at "a1"
  exact⟨n,v,rfl,hn1,hn,hy.2 v hv,q⟩
 ·refine⟨true,zs.map anW,rfl,by simpa using hy0,by simpa using hl,by decide,_,rfl,?_⟩
  rw[ax];exact k
noncomputable def wor(n:Nat)(x:Sy):List Int:=(wl n).map fun v=>b01 (x.val v)
noncomputable def LJ:ASp:=fun xs Z Q=>∃(n:Nat)(x:Sy),xs=[.d (.int n),.d x.d]/\n<=5/\x.ok n/\x.dp<=15/\Q (.d (wdD (wor n x))) Z
theorem HE(T:Txt K mg t):az P w K mg base CX0 7 t.d8 t.mR ["places","saying"] (bg LJ):=by
 have G_value:az P w K mg base _ _ _ _ _ _:=sq T;have G_all_words:az P w K mg base _ _ _ _ _ _:=Ce T;refine T.zL.okD yA (fun xs Z Q h=>by obtain⟨n,x,rfl,_⟩:=h;rfl) (fun cdv A outer s H E hr=>⟨_,_,(aj (aE (bt (a9 K rfl) (by rfl) T.cX (by kernel_rfl) (aa (bF (N:=(["word","saying"]:List Str)) (src:=[none,some 1]) rfl (by show cg _ (defScope jE) _ _ (["places","saying"]:List Str)=true;decide +kernel) (by intro g' h;cases h) (bG K rfl (ai G_all_words (hr.mono (by omega)) (by rfl) T.p6 T.pQ T.pX .nil ar (aa (pv 0) ae))) (fun _ _ _ _ _ _=>(aD (i:=0) (show (["word","saying"]:List Str).Nodup by decide +kernel) rfl (Or.inl rfl))) (fun _ _ _ _ _ _=>bK) (fun _ _ _ _ _ _=>(bq rfl rfl (ai G_value (hr.mono (by omega)) (by rfl) T.fL T.fJ T.dR .nil ar (aa (pv 1) (aa (pv 0) ae)))))) ae)))),(aL (bz dA (ab (bW (cx (ap (ab ac af))) ao gZ (bS (ap (ab ac (ab ac af))))) af))),fun xs Z Q h=>?_⟩)
 obtain⟨n,x,rfl,hn,hx,hd,k⟩:=h;have hl:=ki hn;walk_at "a1";refine⟨n,rfl,hn,?_⟩;walk_at "a1";refine dU (rs:=(wor n x).map D.int) (by simp[wor]) (Nat.le_of_lt (a7 (by simp;omega))) (fun j a r h1 h2 Q q=>?_) (fun ρ=>⟨_,aS _,?_⟩)
 ·simp only[wor,List.map_map,List.getElem?_map,Option.map_eq_some_iff] at h1 h2
  obtain⟨y,hy,rfl⟩:=h1;obtain⟨y',hy',rfl⟩:=h2;rw[hy] at hy';cases hy';simp only[Function.comp_apply] at q ⊢;walk_at "a1";exact⟨x,y,rfl,by rw[(cu (List.mem_of_getElem? hy)).1];exact hx,hd,q⟩
 ·rw[ax]
  exact k
theorem pw5(q:Nat):(1*2^q:Int)=((2^q:Nat):Int):=by rw[Int.one_mul,Int.natCast_pow];rfl
noncomputable def MY:ASp:=fun xs Z Q=>∃(n:Nat)(x y:Sy),xs=[.d (.int n),.d x.d,.d y.d]/\n<=5/\x.ok n/\y.ok n/\x.dp<=12/\y.dp<=12/\Q (.d (.bl true)) Z
theorem Lp(T:Txt K mg t):az P w K mg base CX0 8 t.cW t.jS ["_law_places","_law_one","_law_other"] (bg MY):=by
 have G_joined:az P w K mg base _ _ _ _ _ _:=gk T 1;have G_l_word:az P w K mg base _ _ _ _ _ _:=C0 T;have G_value:az P w K mg base _ _ _ _ _ _:=sq T;have G_leaves:az P w K mg base _ _ _ _ _ _:=vd T;have G_deep:az P w K mg base _ _ _ _ _ _:=Bt T
 refine T.wn.okD cj (fun xs Z Q h=>by obtain ⟨n,x,y,rfl,_⟩:=h;rfl) (fun cdv A outer s H E hr=>⟨_,_,(ag (aB (i:=3) cj.nd rfl (Or.inl rfl) (ai G_joined (hr.mono (by omega)) (by rfl) T.fO T.fR T.fS .nil ar (av aO (fQ (bh (aa (pv 1) (aa (pv 2) ae))) ae))))
   (ag (aB (i:=4) cj.nd rfl (Or.inl rfl) (ai G_joined (hr.mono (by omega)) (by rfl) T.fO T.fR T.fS .nil ar (av aO (fQ (bh (aa (pv 1) (aa (pv 2) ae))) ae))))
   (ag (fq PassesOwn.never rfl (fz rfl T.j8 (aa (aT so ah (pv 0)) ae)) (aD (i:=5) cj.nd rfl (Or.inl rfl)) (ag (aB (i:=6) cj.nd rfl (Or.inl rfl) (ai G_l_word (hr.mono (by omega)) (by rfl) T.yt T.x6 T.xQ .nil ar (aa (pv 0) (aa (pv 5) ae))))
   (ag (aB (i:=7) cj.nd rfl (Or.inl rfl) (bh (aa (ai G_value (hr.mono (by omega)) (by rfl) T.fL T.fJ T.dR .nil ar (aa (pv 1) (aa (pv 6) ae))) (aa (ai G_value (hr.mono (by omega)) (by rfl) T.fL T.fJ T.dR .nil ar (aa (pv 2) (aa (pv 6) ae))) ae))))
   (aj (bv (PW.pt (p5 (aN (kT hr.OH) (ai G_value (hr.mono (by omega)) (by rfl) T.fL T.fJ T.dR .nil ar (aa (pv 3) (aa (pv 6) ae))) (aG (Dd K rfl rfl) (by rfl) T.zb (by kernel_rfl) (aa (pv 7) ae)) (aM _)) (lg (aN (kT hr.OH) (ai G_value (hr.mono (by omega)) (by rfl) T.fL T.fJ T.dR .nil ar (aa (pv 4) (aa (pv 6) ae))) (aG (Da K rfl rfl) (by rfl) T.uK (by kernel_rfl) (aa (pv 7) ae)) (aM _))))) (aj (aE qf)) aW)))))
   (ag (aB (i:=8) cj.nd rfl (Or.inl rfl) (aT (aQ cm (aQ bN cn)) (ai G_leaves (hr.mono (by omega)) (by rfl) T.gU T.g6 T.gW .nil ar (aa (pv 1) ae)) (ai G_leaves (hr.mono (by omega)) (by rfl) T.gU T.g6 T.gW .nil ar (aa (pv 2) ae))))
   (ag (aB (i:=9) cj.nd rfl (Or.inl rfl) (aT (aQ cm (aQ bN cn)) ah (aG (iZ rfl) (by rfl) T.uK (by kernel_rfl) (aa (ai G_deep (hr.mono (by omega)) (by rfl) T.nh T.mM T.mS .nil ar (aa (pv 1) ae)) (aa (ai G_deep (hr.mono (by omega)) (by rfl) T.nh T.mM T.mS .nil ar (aa (pv 2) ae)) ae)))))
   (aj (aE (bU (bp hr.OH) (bh (aa (ai G_leaves (hr.mono (by omega)) (by rfl) T.gU T.g6 T.gW .nil ar (aa (pv 3) ae)) (aa (ai G_leaves (hr.mono (by omega)) (by rfl) T.gU T.g6 T.gW .nil ar (aa (pv 4) ae)) (aa (ai G_deep (hr.mono (by omega)) (by rfl) T.nh T.mM T.mS .nil ar (aa (pv 3) ae)) (aa (ai G_deep (hr.mono (by omega)) (by rfl) T.nh T.mM T.mS .nil ar (aa (pv 4) ae)) ae))))) (bh (aa (pv 8) (aa (pv 8) (aa (pv 9) (aa (pv 9) ae))))) (aM _))))))))),(au (aH (ap (ab be (ab (dP (ab ac (ab ac af))) af))) ao)
   (au (aH (ap (ab be (ab (dP (ab ac (ab ac af))) af))) ao)
   (au (ja (m8 (ab (aq kr ak ac) af)) ao (au (aH (ap (ab ac (ab ac af))) ao)
   (au (aH (dP (ab (ap (ab ac (ab ac af))) (ab (ap (ab ac (ab ac af))) af))) ao)
   (cI (xU (aZ (aq bw (ap (ab ac (ab ac af))) (bz LM (ab ac af)))) (aZ (aq bw (ap (ab ac (ab ac af))) (bz LO (ab ac af))))) (aL yu) bj))))
   (au (aH (aq dm (ap (ab ac af)) (ap (ab ac af))) ao)
   (au (aH (aq dm ak (bz vO (ab (ap (ab ac af)) (ab (ap (ab ac af)) af)))) ao)
   (aL (aq bw (dP (ab (ap (ab ac af)) (ab (ap (ab ac af)) (ab (ap (ab ac af)) (ab (ap (ab ac af)) af))))) (dP (ab ac (ab ac (ab ac (ab ac af)))))))))))),fun xs Z Q h=>?_⟩)
 obtain⟨n,x,y,rfl,hn,hx,hy,dx,dy,k⟩:=h;have ej:∀a,jnF a 1 [x,y]=.jn a x y:=fun a=>by simp[jnF]
 have hwl:=ki hn;have hwp:=fD n;walk_at "s1";refine⟨true,[x,y],rfl,by simp,by simp,by decide,?_⟩
 walk_at "s1";refine⟨false,[x,y],rfl,by simp,by simp,by decide,?_⟩
 rw[ej,ej];have d2:∀a,(Sy.jn a x y).dp<=15:=fun a=>by simp only[Sy.dp];omega
 walk_at "s1";rw[pw5,←hwp]
 refine⟨⟨by omega,by omega,by decide⟩,by omega,by omega,qK (fun i ρ Z'=>Z'=Z/\∃v5 v6 v7,ρ=[some (.d (.int n)),some (.d x.d),some (.d y.d),some (.d (Sy.jn true x y).d),some (.d (Sy.jn false x y).d),v5,v6,v7,none,none]) ⟨rfl,_,_,_,rfl⟩ ?_ ?_⟩
 ·rintro i ρ Z' N hi ⟨rfl,v5,v6,v7,rfl⟩ kN
  rw[Int.toNat_natCast] at hi;have hv:(wl n)[i]?=some (wl n)[i]:=List.getElem?_eq_getElem hi;generalize (wl n)[i]=v at hv;have hvn:=(cu (List.mem_of_getElem? hv)).1;walk_at "s1";rw[Int.zero_add];refine⟨n,i,v,rfl,hn,hv,?_⟩;have ox:x.ok v.length:=by rw[hvn];exact hx
  have oy:y.ok v.length:=by rw[hvn];exact hy
  walk_at "s1";refine⟨x,v,rfl,ox,by omega,y,v,rfl,oy,by omega,_,rfl,?_⟩
  walk_at "a1";refine⟨.jn true x y,v,rfl,⟨ox,oy⟩,d2 true,[b01 (x.val v),b01 (y.val v)],rfl,by simp,_,rfl,by simp[dep],?_⟩
  rw[show eqD (D.int (b01 ((Sy.jn true x y).val v))) (D.int (Aa [b01 (x.val v),b01 (y.val v)]))=true from by simp only[Sy.val];cases x.val v<;>cases y.val v<;>rfl,if_neg (by decide)]
  refine⟨.jn false x y,v,rfl,⟨ox,oy⟩,d2 false,[b01 (x.val v),b01 (y.val v)],rfl,by simp,_,rfl,by simp[dep],?_⟩
  rw[show eqD (D.int (b01 ((Sy.jn false x y).val v))) (D.int (AU [b01 (x.val v),b01 (y.val v)]))=true from by simp only[Sy.val];cases x.val v<;>cases y.val v<;>rfl,if_neg (by decide)]
  exact kN _ _ ⟨rfl,_,_,_,rfl⟩
 ·rintro ρ Z' ⟨rfl,v5,v6,v7,rfl⟩
  dsimp only;walk_at "s1";refine⟨x,rfl,by omega,y,rfl,by omega,?_⟩
  walk_at "s1";refine⟨x,rfl,by omega,y,rfl,by omega,_,rfl,_,rfl,.jn true x y,rfl,d2 true,.jn false x y,rfl,d2 false,.jn true x y,rfl,d2 true,.jn false x y,rfl,d2 false,_,rfl,by simp[dep,fP],?_⟩
  have em:(1:Int)+(if (y.dp:Int)>(x.dp:Int) then (y.dp:Int) else (x.dp:Int))=((1+max x.dp y.dp:Nat):Int):=by split<;>omega
  rw[ax,em,show eqD (D.lst [D.int ((Sy.jn true x y).lvs:Int),D.int ((Sy.jn false x y).lvs:Int),D.int ((Sy.jn true x y).dp:Int),D.int ((Sy.jn false x y).dp:Int)]) (D.lst [D.int (↑x.lvs + ↑y.lvs),D.int (↑x.lvs + ↑y.lvs),D.int ((1+max x.dp y.dp:Nat):Int),D.int ((1+max x.dp y.dp:Nat):Int)])=true from by
   simp only[Sy.lvs,Sy.dp,Int.natCast_add]
   exact fT _]
  exact k
theorem mI{α:Type}{p q:α->Bool}:∀ {ws:List α},(∀v∈ws,p v=q v)->ws.find? p=ws.find? q
 | [],_=>rfl
 |v::ws,h=>by
  rw[List.find?_cons,List.find?_cons,h v List.mem_cons_self,mI fun u hu=>h u (List.mem_cons_of_mem _ hu)]
noncomputable def K9:ASp:=fun xs Z Q=>∃(n:Nat) (ys zs:List (List Int)) (x:Sy),xs=[.d (csD n ys zs),.d x.d]/\n<=5/\Wds n ys/\Wds n zs/\x.ok n/\x.dp<=15/\Q (.d (.bl true)) Z
theorem Mt(T:Txt K mg t):az P t.wo K mg base CX0 9 t.di t.ln ["_law_case_here","_law_saying_here"] (bg K9):=by
 have G_missed:az P t.wo K mg base _ _ _ _ _ _:=rK T;have G_parts:az P t.wo K mg base _ _ _ _ _ _:=vt T;have G_swapped_case:az P t.wo K mg base _ _ _ _ _ _:=Gm T;have G_against:az P t.wo K mg base _ _ _ _ _ _:=sg T;have G_value:az P t.wo K mg base _ _ _ _ _ _:=sq T
 refine T.zq.okD f7 (fun xs Z Q h=>by obtain ⟨n,ys,zs,x,rfl,_⟩:=h;rfl) (fun cdv A outer s H E hr=>⟨_,_,(ag (aB (i:=2) f7.nd rfl (Or.inl rfl) (ai G_missed (hr.mono (by omega)) (by rfl) T.sw T.sL T.rP .nil ar (aa (pv 0) (aa (pv 1) ae))))
   (ag (aB (i:=3) f7.nd rfl (Or.inl rfl) (ai G_swapped_case (hr.mono (by omega)) (by rfl) T.tG T.q9 T.rM .nil ar (aa (pv 0) ae)))
   (ag (aB (i:=4) f7.nd rfl (Or.inl rfl) (ai G_missed (hr.mono (by omega)) (by rfl) T.sw T.sL T.rP .nil ar (aa (pv 3) (aa (ai G_against (hr.mono (by omega)) (by rfl) T.pA T.pc T.jw .nil ar (aa (pv 1) ae)) ae))))
   (ag (bv (PW.pt (p5 (aN px (pv 2) kG (aM _)) (lg (aN px (pv 4) kG (aM _))))) (aj (aE (dD K rfl (bU px (pv 2) kG (aM _)) (dD K rfl (bU px (pv 4) kG (aM _)) (iS (ai G_parts (hr.mono (by omega)) (by rfl) T.oD T.nZ T.nD .nil ar (aa (pv 3) (aa (ai G_against (hr.mono (by omega)) (by rfl) T.pA T.pc T.jw .nil ar (aa (pv 1) ae)) ae)))))))) aW)
   (ag (bv (aN (bp hr.OH) (ay (am K rfl) (pv 2) ah (fun _ _=>rfl)) aO (aM _)) (aj (aE (bU (bp hr.OH) (pv 4) (aV (av aO (aa (ay (am K rfl) (pv 2) ah (fun _ _=>rfl)) ae))) (aM _)))) aW)
   (ag (bv (aN (bp hr.OH) (ay (am K rfl) (pv 4) ah (fun _ _=>rfl)) aO (aM _)) (aj (aE (bU (bp hr.OH) (pv 4) (aV (av aO (aa (ay (am K rfl) (pv 2) ah (fun _ _=>rfl)) ae))) (aM _)))) aW)
   (aj (aE (dD K rfl (bU (wN hr.OH) (ay (am K rfl) (pv 4) ah (fun _ _=>rfl)) (ay (am K rfl) (pv 0) ah (fun _ _=>rfl)) (by with_unfolding_all rfl)) (iS (bU (bp hr.OH) (ai G_value (hr.mono (by omega)) (by rfl) T.fL T.fJ T.dR .nil ar (aa (pv 1) (aa (ay (am K rfl) (pv 4) ah (fun _ _=>rfl)) ae))) ah (aM _)))))))))))),(au (aH (ap (ab ac (ab ac af))) ao)
   (au (aH (ap (ab ac af)) ao)
   (au (aH (ap (ab ac (ab (ap (ab ac af)) af))) ao)
   (au (cI (xU (aZ (aq vk ac qd)) (aZ (aq vk ac qd))) (aL (fe (aq vk ac qd) (fe (aq vk ac qd) (ap (ab ac (ab (ap (ab ac af)) af)))))) bj)
   (au (cI (aZ (aq bw (aq aK ac ak) be)) (aL (aq bw ac (bo (ab be (ab (aq aK ac ak) af))))) bj)
   (au (cI (aZ (aq bw (aq aK ac ak) be)) (aL (aq bw ac (bo (ab be (ab (aq aK ac ak) af))))) bj)
   (aL (fe (aq Ha (aq aK ac ak) (aq aK ac ak)) (aq bw (ap (ab ac (ab (aq aK ac ak) af))) ak))))))))),fun xs Z Q h=>?_⟩)
 obtain⟨n,ys,zs,x,rfl,hn,hy,hz,hx,hd,k⟩:=h;obtain⟨g1,g2,g3⟩:=Fx hx;have e1:zs.find? (fun v=>!(agS x).val v)=zs.find? (fun v=>x.val v):=mI fun v hv=>by rw[vH (hz.2 v hv) hx,Bool.not_not]
 have e2:ys.find? (fun v=>(agS x).val v)=ys.find? (fun v=>!x.val v):=mI fun v hv=>vH (hy.2 v hv) hx;walk_at "s1";refine⟨n,ys,zs,x,rfl,hy,hz,hx,hd,?_⟩;walk_at "s1";refine⟨n,ys,zs,rfl,?_⟩;walk_at "s1";refine⟨x,n,rfl,hx,hd,n,zs,ys,agS x,rfl,hz,hy,g1,by omega,?_⟩
 have pB:DR (agS x) zs ys=((zs.find? fun v=>x.val v).isNone && (ys.find? fun v=>!x.val v).isNone):=by simp only[DR,e1,e2]
 simp only[At,e1,e2]
 cases a1:ys.find? (fun v=>!x.val v) with
 |none=>
  cases a2:zs.find? (fun v=>x.val v) with
  |none=>
   rw[a1,a2] at pB;walk_at "s1";refine⟨x,n,rfl,hx,hd,n,zs,ys,agS x,rfl,hz,hy,g1,by omega,_,rfl,?_⟩
   rw[ax,pB];exact k
  |some z=>
   walk_at "s1";walk_at "s1";rw[ax,fT];exact⟨by simp[dep,fP,wdD,gm],k⟩
 |some y=>
  cases a2:zs.find? (fun v=>x.val v) with
  |none=>
   walk_at "s1";walk_at "s1";walk_at "s1";rw[ax,fT];exact⟨by simp[dep,fP,wdD,gm],k⟩
  |some z=>
   walk_at "s1";walk_at "s1";walk_at "s1";have hzm:=List.mem_of_find?_eq_some a2;have hzv:x.val z=true:=by simpa using List.find?_some a2
   refine⟨_,.inr rfl,_,rfl,_,rfl,_,.inr rfl,by have:=kS zs;omega,?_⟩
   rw[sO,decide_eq_true hzm,if_pos rfl];refine⟨x,z,rfl,by rw[(cu (hz.2 z hzm)).1];exact hx,hd,_,rfl,by simp[dep],?_⟩
   rw[ax,hzv];exact k
noncomputable def Jr:ASp:=fun xs Z Q=>∃(n:Nat) (ys zs:List (List Int)) (x:Sy),xs=[.d (csD n ys zs),.d x.d]/\n<=5/\gP n x ys zs/\x.ok n/\x.dp<=15/\x.lvs<=160/\Q (.d (.bl true)) Z
theorem IL(T:Txt K mg t):az P t.wo K mg base CX0 14 t.cF t.iT ["_law_case_here","_law_saying_here"] (bg Jr):=by
 have G_talk_of:az P t.wo K mg base _ _ _ _ _ _:=K0 T;have G_talk_leaves:az P t.wo K mg base _ _ _ _ _ _:=rD T;have G_talk_deep:az P t.wo K mg base _ _ _ _ _ _:=xf T;have G_leaves:az P t.wo K mg base _ _ _ _ _ _:=vd T;have G_deep:az P t.wo K mg base _ _ _ _ _ _:=Bt T;have G_lets_by:az P t.wo K mg base _ _ _ _ _ _:=BY T;have G_saying_of:az P t.wo K mg base _ _ _ _ _ _:=IT T;have G_parts:az P t.wo K mg base _ _ _ _ _ _:=su T
 refine T.tW.okD hZ (fun xs Z Q h=>by obtain ⟨n,ys,zs,x,rfl,_⟩:=h;rfl) (fun cdv A outer s H E hr=>⟨_,_,(ag (aB (i:=2) hZ.nd rfl (Or.inl rfl) (ai G_talk_of (hr.mono (by omega)) (by rfl) T.DM T.Eg T.pD .nil ar (aa (pv 0) (aa (pv 1) ae))))
   (ag (bv (PW.pt (p5 (aN (kT hr.OH) (aV (aa (ai G_talk_leaves (hr.mono (by omega)) (by rfl) T.ug T.t5 T.ub .nil ar (aa (pv 2) ae)) (aa (ai G_talk_deep (hr.mono (by omega)) (by rfl) T.zn T.xR T.zD .nil ar (aa (pv 2) ae)) ae))) (aV (aa (ai G_leaves (hr.mono (by omega)) (by rfl) T.gU T.g6 T.gW .nil ar (aa (pv 1) ae)) (aa (ai G_deep (hr.mono (by omega)) (by rfl) T.nh T.mM T.mS .nil ar (aa (pv 1) ae)) ae))) (aM _)) (lg (dc (bd K rfl (ai G_lets_by (hr.mono (by omega)) (by rfl) T.vn T.uF T.uA .nil ar (aa (pv 0) (av aO (aa (pv 2) ae)))) (fun _=>rfl)))))) (aj (aE qf)) aW)
   (ag (aB (i:=3) hZ.nd rfl (Or.inl rfl) (ai G_saying_of (hr.mono (by omega)) (by rfl) T.yq T.zA T.xA .nil ar (aa (pv 0) (aa (pv 2) ae))))
   (aj (aE (dD K rfl (ai G_parts (hr.mono (by omega)) (by rfl) T.oD T.nZ T.nD .nil ar (aa (pv 0) (aa (pv 3) ae))) (dD K rfl (bU uJ (ai G_leaves (hr.mono (by omega)) (by rfl) T.gU T.g6 T.gW .nil ar (aa (pv 3) ae)) (ai G_leaves (hr.mono (by omega)) (by rfl) T.gU T.g6 T.gW .nil ar (aa (pv 1) ae)) (aM _)) (iS (bU uJ (ai G_deep (hr.mono (by omega)) (by rfl) T.nh T.mM T.mS .nil ar (aa (pv 3) ae)) (ai G_deep (hr.mono (by omega)) (by rfl) T.nh T.mM T.mS .nil ar (aa (pv 1) ae)) (aM _)))))))))),(au (aH (ap (ab ac (ab ac af))) ao)
   (au (cI (xU (aZ (aq bw (bo (ab (ap (ab ac af)) (ab (ap (ab ac af)) af))) (bo (ab (ap (ab ac af)) (ab (ap (ab ac af)) af))))) (eV (dI (ap (ab ac (ab be (ab ac af))))))) (aL yu) bj)
   (au (aH (ap (ab ac (ab ac af))) ao)
   (aL (fe (ap (ab ac (ab ac af))) (fe (aq g8 (ap (ab ac af)) (ap (ab ac af))) (aq g8 (ap (ab ac af)) (ap (ab ac af))))))))),fun xs Z Q h=>?_⟩)
 obtain⟨n,ys,zs,x,rfl,hn,PA',hx,hd,hl,k⟩:=h;obtain⟨o1,o2,o3⟩:=pL PA'.y PA'.z hx;have o4:=Ta.dL (bX ys zs x)
 have hlt:((prl ys zs).find? (fau false (bX ys zs x))).isNone=true:=by
  rw[Option.isNone_iff_eq_none,List.find?_eq_none];rintro⟨y,z⟩ hm;obtain⟨my,mz⟩:=lW.mp hm;have:=(gL my mz (PA'.z.2 z mz) hx (PA'.vy y my) (PA'.vz z mz)).1;simpa[fau,ppB] using this
 have hh:has (ys,zs)=true:=jK.mpr ⟨PA'.y1,PA'.z1⟩;have hW:Ww n (ys,zs):=⟨PA'.y,PA'.z⟩;obtain⟨co,cd,cs⟩:=lP (ys,zs) o1;obtain⟨m1,m2,m3⟩:=wV _ _ hW co;obtain⟨v1,v2⟩:=sW _ _ hW (Bm hh hlt);have c4:=Ta.dL (dO (bX ys zs x) (ys,zs));have PB:gP n (fN (ys,zs) (dO (bX ys zs x) (ys,zs))) ys zs:=⟨PA'.y,PA'.z,v1,v2,PA'.y1,PA'.z1⟩;have elv:(bX ys zs x).lvs=x.lvs:=by omega
 walk_at "s1";refine⟨n,ys,zs,x,rfl,hn,PA',hx,hd,?_⟩;walk_at "s1";refine⟨_,rfl,by omega,_,rfl,by omega,_,rfl,x,rfl,hd,x,rfl,hd,_,rfl,by simp[dep,fP],?_⟩
 rw[elv,o2,fT,if_neg (by decide)]
 refine⟨false,n,ys,zs,_,rfl,⟨hn,o1,by omega,PA'.y,PA'.z⟩,_,rfl,?_⟩
 rw[hlt,if_neg (by decide)]
 walk_at "s1";refine⟨n,(ys,zs),bX ys zs x,rfl,hn,hW,hh,o1,by omega,hlt,?_⟩
 generalize fN (ys,zs) (dO (bX ys zs x) (ys,zs))=m at *;refine⟨n,ys,zs,m,rfl,PB,m1,by omega,_,rfl,?_⟩
 rw[if_pos rfl];refine⟨m,rfl,by omega,x,rfl,hd,_,rfl,_,rfl,?_⟩
 rw[if_pos (by omega)]
 refine⟨m,rfl,by omega,x,rfl,hd,_,rfl,_,rfl,?_⟩
 rw[ax,decide_eq_true (by omega)]
 exact k
theorem IK:∀n:Fin 6,∀j:Fin 32,∀v∈(wl n.val)[j.val]?,num v=(j.val:Int):=by decide +kernel
noncomputable def tbW(n:Nat)(tb:List Int)(b:Int):List (List Int):=(wl n).filter fun v=>decide (tb.getD (num v).toNat 0=b)
structure Tb(n:Nat)(tb:List Int):Prop where
 len:tb.length=2^n
 bits:∀b∈tb,b=0\/b=1
 y1:tbW n tb 1≠[]
 z1:tbW n tb 0≠[]
theorem xG{n j:Nat}{tb v:List Int}(hn:n<=5)(hv:(wl n)[j]?=some v):(num v).toNat=j:=by
 have hj:=(List.getElem?_eq_some_iff.mp hv).1;have:=ki hn;rw[IK ⟨n,by omega⟩ ⟨j,by omega⟩ v hv]
 rfl
theorem Ku{n:Nat}{tb:List Int}{x:Sy}(hn:n<=5)(h:Tb n tb)(hx:∀v∈wl n,x.val v=decide (v∈tbW n tb 1)):wor n x=tb:=by
 refine List.ext_getElem? fun j=>?_;by_cases hj:j<(wl n).length
 ·have hv:(wl n)[j]?=some (wl n)[j]:=List.getElem?_eq_getElem hj
  generalize (wl n)[j]=v at hv;have hm:=List.mem_of_getElem? hv;have hjt:j<tb.length:=by rw[h.len,←fD];exact hj
  rw[wor,List.getElem?_map,hv,Option.map_some,hx v hm,List.getElem?_eq_getElem hjt];have e:tb.getD (num v).toNat 0=tb[j]:=by rw[xG (tb:=tb) hn hv,List.getD_eq_getElem?_getD,List.getElem?_eq_getElem hjt];rfl
  have hb:=h.bits _ (List.getElem_mem hjt)
  congr 1
  have hmem:v∈tbW n tb 1↔tb[j]=1:=by simp only[tbW,List.mem_filter,hm,true_and,e,decide_eq_true_eq]
  by_cases q:tb[j]=1
  ·rw[decide_eq_true (hmem.mpr q),q];rfl
  ·rw[decide_eq_false (fun z=>q (hmem.mp z))]
   have:tb[j]=0:=by omega
   rw[this];rfl
 ·rw[List.getElem?_eq_none (by rw[wor,List.length_map];omega),List.getElem?_eq_none (by rw[h.len,←fD];omega)]
theorem iW{n:Nat}{tb:List Int}{b:Int}:(tbW n tb b).Sublist (wl n):=List.filter_sublist
theorem GV{n:Nat}{tb v:List Int}(hn:n<=5)(h:Tb n tb)(hv:v∈wl n):(v∈tbW n tb 1)=¬ (v∈tbW n tb 0):=by
 obtain⟨j,hj,rfl⟩:=List.getElem_of_mem hv;have hjt:j<tb.length:=by rw[h.len,←fD];exact hj
 have e:tb.getD (num (wl n)[j]).toNat 0=tb[j]:=by rw[xG (tb:=tb) hn (List.getElem?_eq_getElem hj),List.getD_eq_getElem?_getD,List.getElem?_eq_getElem hjt];rfl
 have hb:=h.bits _ (List.getElem_mem hjt);simp only[tbW,List.mem_filter,hv,true_and,e,decide_eq_true_eq,eq_iff_iff];omega
noncomputable def Lo:ASp:=fun xs Z Q=>∃(n:Nat)(tb:List Int),xs=[.d (wdD tb)]/\n<=5/\Tb n tb/\Q (.d (csD n (tbW n tb 1) (tbW n tb 0))) Z
theorem HB(T:Txt K mg t):az P w K mg base CX0 2 t.d9 t.lG ["table"] (bg Lo):=
 (DB T).weak fun xs Z Q ⟨n,tb,e,hn,h,k⟩=>⟨n,tb,e,h.len,hn,h.y1,h.z1,k⟩
theorem LU{n:Nat}{tb:List Int}(hn:n<=5)(h:Tb n tb):Tb n (tb.map fun b=>1-b)/\tbW n (tb.map fun b=>1-b) 1=tbW n tb 0/\tbW n (tb.map fun b=>1-b) 0=tbW n tb 1:=by
 have key:∀b b':Int,b+b'=1->tbW n (tb.map fun b=>1-b) b=tbW n tb b':=fun b b' hb=>by
  refine List.filter_congr fun v hv=>?_;obtain⟨j,hj,rfl⟩:=List.getElem_of_mem hv;have hjt:j<tb.length:=by rw[h.len,←fD];exact hj
  rw[xG (tb:=tb) hn (List.getElem?_eq_getElem hj),List.getD_eq_getElem?_getD,List.getD_eq_getElem?_getD,List.getElem?_map,List.getElem?_eq_getElem hjt];simp only[Option.map_some,Option.getD_some];rw[decide_eq_decide];omega
 have k1:=key 1 0 (by decide)
 have k0:=key 0 1 (by decide)
 exact⟨⟨by rw[List.length_map];exact h.len,fun b hb=>by obtain⟨c,hc,rfl⟩:=List.mem_map.mp hb;have:=h.bits c hc;omega,by rw[k1];exact h.z1,by rw[k0];exact h.y1⟩,k1,k0⟩
theorem AJ:∀x:Sy,dep x.d<=x.dp+2
 |.is i b=>by simp[Sy.d,dep,fP]
 |.jn a l r=>by
  have h1:=AJ l;have h2:=AJ r;simp only[Sy.d,dep,fP,Sy.dp];omega
noncomputable def M7:ASp:=fun xs Z Q=>∃(n:Nat)(tb:List Int),xs=[.d (.int n),.d (wdD tb)]/\1<=n/\n<=5/\Tb n tb/\Q (.d (.bl true)) Z
theorem Nz(T:Txt K mg t):az P t.wo K mg base CX0 9 t.cP t.j9 ["_law_places","_law_table_here"] (bg M7):=by
 have G_case_by:az P t.wo K mg base _ _ _ _ _ _:=HB T;have G_table_by:az P t.wo K mg base _ _ _ _ _ _:=HE T;have G_by_yes:az P t.wo K mg base _ _ _ _ _ _:=FA T;have G_by_no:az P t.wo K mg base _ _ _ _ _ _:=Hj T;have G_against:az P t.wo K mg base _ _ _ _ _ _:=sg T
 refine T.wL.okD iJ (fun xs Z Q h=>by obtain ⟨n,tb,rfl,_⟩:=h;rfl) (fun cdv A outer s H E hr=>⟨_,_,(ag (aB (i:=2) iJ.nd rfl (Or.inl rfl) (ai G_case_by (hr.mono (by omega)) (by rfl) T.l8 T.l6 T.md .nil ar (aa (pv 1) ae)))
   (ag (bv (PW.pt (p5 (aN (kT hr.OH) (ai G_table_by (hr.mono (by omega)) (by rfl) T.nk T.m5 T.m7 .nil ar (aa (pv 0) (aa (ai G_by_yes (hr.mono (by omega)) (by rfl) T.nF T.nH T.om .nil ar (aa (pv 2) ae)) ae))) (pv 1) (aM _)) (lg (aN (kT hr.OH) (ai G_table_by (hr.mono (by omega)) (by rfl) T.nk T.m5 T.m7 .nil ar (aa (pv 0) (aa (ai G_by_no (hr.mono (by omega)) (by rfl) T.xw T.wR T.w4 .nil ar (aa (pv 2) ae)) ae))) (pv 1) (aM _))))) (aj (aE qf)) aW)
   (ag (aB (i:=3) iJ.nd rfl (Or.inl rfl) (ai G_case_by (hr.mono (by omega)) (by rfl) T.l8 T.l6 T.md .nil ar (aa (bt (a9 K rfl) (by rfl) T.cX (by kernel_rfl) (aa (bF (N:=(["_law_bit"] : List Str)) (src:=[none]) rfl (by show cg _ (defScope f8) _ _ (["_law_places","_law_table_here","_law_case_here","_law_other"] : List Str) = true;decide +kernel) (by intro g' h;cases h) (bG K rfl (pv 1)) (fun _ _ _ _ _ _=>(aD (i:=0) (show (["_law_bit"] : List Str).Nodup by decide +kernel) rfl (Or.inl rfl))) (fun _ _ _ _ _ _=>bK) (fun _ _ _ _ _ _=>(bq rfl rfl (aT de ah (pv 0))))) ae)) ae)))
   (aj (aE (bU (bp hr.OH) (ai G_against (hr.mono (by omega)) (by rfl) T.pA T.pc T.jw .nil ar (aa (ai G_by_yes (hr.mono (by omega)) (by rfl) T.nF T.nH T.om .nil ar (aa (pv 2) ae)) ae)) (ai G_by_no (hr.mono (by omega)) (by rfl) T.xw T.wR T.w4 .nil ar (aa (pv 3) ae)) (aM _))))))),(au (aH (ap (ab ac af)) ao)
   (au (cI (xU (aZ (aq bw (ap (ab ac (ab (ap (ab ac af)) af))) ac)) (aZ (aq bw (ap (ab ac (ab (ap (ab ac af)) af))) ac))) (aL yu) bj)
   (au (aH (ap (ab (bz dA (ab (bW (cx ac) ao gZ (bS (aq eR ak ac))) af)) af)) ao)
   (aL (aq bw (ap (ab (ap (ab ac af)) af)) (ap (ab ac af))))))),fun xs Z Q h=>?_⟩)
 obtain⟨n,tb,rfl,hn1,hn,h,k⟩:=h;have hy:Wds n (tbW n tb 1):=Wds.sub iW hn;have hz:Wds n (tbW n tb 0):=Wds.sub iW hn;obtain⟨a1,a2,a3⟩:=(uL hn1 hn hy h.y1).1;obtain⟨b1,b2,b3⟩:=(uL hn1 hn hz h.z1).2;obtain⟨nt,n1,n0⟩:=LU hn h;have ey:wor n (byY (tbW n tb 1))=tb:=Ku hn h fun v hv=>(o0 hn1 hn hy h.y1 hv).1
 have ez:wor n (byN (tbW n tb 0))=tb:=Ku hn h fun v hv=>by
  rw[(o0 hn1 hn hz h.z1 hv).2,Bool.eq_iff_iff,Bool.not_eq_true',decide_eq_false_iff_not,decide_eq_true_eq,GV hn h hv]
 have hlt:tb.length<=32:=by rw[h.len];exact Nat.pow_le_pow_right (by decide) hn
 walk_at "s1";refine⟨n,tb,rfl,hn,h,?_⟩;walk_at "s1";refine⟨n,tbW n tb 1,tbW n tb 0,rfl,hn1,hn,hy,h.y1,n,_,rfl,hn,a1,by omega,?_⟩
 rw[ey];refine⟨_,rfl,by simp only[wdD,dep,gm];omega,?_⟩
 rw[fT,if_neg (by decide)]
 refine⟨n,tbW n tb 1,tbW n tb 0,rfl,hn1,hn,hz,h.z1,n,_,rfl,hn,b1,by omega,?_⟩
 rw[ez];refine⟨_,rfl,by simp only[wdD,dep,gm];omega,?_⟩
 rw[fT,if_neg (by decide)]
 walk_at "s1";refine dU (rs:=(tb.map fun b=>1-b).map D.int) (by simp) (Nat.le_of_lt (a7 (by simp;omega))) (fun j a r h1 h2 Q q=>?_) (fun ρ=>⟨_,aS _,?_⟩)
 ·simp only[List.map_map,List.getElem?_map,Option.map_eq_some_iff] at h1 h2
  obtain⟨y,hy,rfl⟩:=h1;obtain⟨y',hy',rfl⟩:=h2;rw[hy] at hy';cases hy';simp only[Function.comp_apply] at q ⊢;walk_at "a1";exact q
 refine⟨n,tb.map fun b=>1-b,rfl,hn,nt,?_⟩;rw[n1,n0];refine⟨n,tbW n tb 1,tbW n tb 0,rfl,hn1,hn,hy,h.y1,byY (tbW n tb 1),n,rfl,a1,by omega,n,tbW n tb 0,tbW n tb 1,rfl,hn1,hn,hy,h.y1,?_⟩
 rw[Nd hn1 hy h.y1];refine⟨_,rfl,_,rfl,?_,?_⟩
 ·have:=AJ (byN (tbW n tb 1))
  obtain⟨_,b2',_⟩:=(uL hn1 hn hy h.y1).2;omega
 ·rw[ax,fT]
  exact k
theorem kC{α β:Type}(f:α->β):∀(xs:List α)(i:Nat),(xs.map f).eraseIdx i=(xs.eraseIdx i).map f
 | [],_=>rfl
 |x::xs,0=>rfl
 |x::xs,i+1=>by simp[kC f xs i]
theorem K5:∀n:Fin 6,Ris (wl n.val):=by unfold Ris;decide +kernel
noncomputable def K3(K:W.Frag):ASp:=fun xs Z Q=>∃(p:Addr)(n:Nat) (ys zs:List (List Int)),xs=[.r (.ref p),.d (csD n ys zs)]/\lj K Z p/\1<=n/\n<=5/\ys.Sublist (wl n)/\zs.Sublist (wl n)/\ys≠[]/\zs≠[]/\(∀v∈ys,v ∉ zs)/\∀(ys' zs':List (List Int)) (c:Pq),ys'.Sublist ys->zs'.Sublist zs->ys'≠[]->zs'≠[]->Q (.d (csD n ys' zs')) (Z.put p (pdO K c))
theorem MA(T:Txt K mg t):az P w K mg base CX0 6 t.fE t.oX ["_law_pen_here","_law_case_here"] (bg (K3 K)):=by
 have G_l_draw:az P w K mg base _ _ _ _ _ _:=me T;have G_case_of:az P w K mg base _ _ _ _ _ _:=D1 T
 refine T.Ez.okD fk (fun xs Z Q h=>by obtain⟨p,n,ys,zs,rfl,_⟩:=h;rfl) (fun cdv A outer s H E hr=>⟨_,_,(ag (pH (pv 1) (dS K rfl (n:=3) rfl (aX (aD (i:=2) fk.nd rfl (Or.inl rfl)) (aX (aD (i:=3) fk.nd rfl (Or.inl rfl)) (aX (aD (i:=4) fk.nd rfl (Or.inl rfl)) dQ)))))
   (ag (aB (i:=5) fk.nd rfl (Or.inl rfl) (bh (aa (bt (mC K rfl) (by rfl) T.Ao (by kernel_rfl) (aa (pv 3) ae)) (aa (bt (mC K rfl) (by rfl) T.Ao (by kernel_rfl) (aa (pv 4) ae)) ae))))
   (ag (aB (i:=6) fk.nd rfl (Or.inl rfl) (ai G_l_draw (hr.mono (by omega)) (by rfl) T.bA T.bE T.bC .nil ar (aa (pv 0) (av ah ae))))
   (ag (bv (aN BU (aG (ba K rfl) (by rfl) T.dH (by kernel_rfl) (aa (ay (am K rfl) (pv 5) (pv 6) (fun _ _=>rfl)) ae)) ah (aM _)) (aj (bO (dn PySem.F.plainAttrs_list PySem.F.slot_list_pop PySem.F.type_list_pop zE (ay (am K rfl) (pv 5) (pv 6) (fun _ _=>rfl)) (aa (ai G_l_draw (hr.mono (by omega)) (by rfl) T.bA T.bE T.bC .nil ar (aa (pv 0) (aa (aG (ba K rfl) (by rfl) T.dH (by kernel_rfl) (aa (ay (am K rfl) (pv 5) (pv 6) (fun _ _=>rfl)) ae)) ae))) ae)))) aW)
   (aj (aE (ai G_case_of (hr.mono (by omega)) (by rfl) T.D4 T.D5 T.DQ .nil ar (aa (pv 2) (aa (ay (am K rfl) (pv 5) ah (fun _ _=>rfl)) (aa (ay (am K rfl) (pv 5) ah (fun _ _=>rfl)) ae)))))))))),(au (aH ac (kb (bH ao (bH ao (bH ao kg)))))
   (au (aH (dJ (ab (bz Cf (ab ac af)) (ab (bz Cf (ab ac af)) af))) ao)
   (au (aH (ap (ab ac (ab ak af))) ao)
   (au (cI (aZ (aq g8 (bz eA (ab (aq aK ac ac) af)) ak)) (cC (Ci (aq aK ac ac) (ab (ap (ab ac (ab (bz eA (ab (aq aK ac ac) af)) af))) af))) bj)
   (aL (ap (ab ac (ab (aq aK IQ ak) (ab (aq aK zW ak) af))))))))),fun xs Z Q h=>?_⟩)
 obtain⟨p,n,ys,zs,rfl,hp,hn1,hn,sy,sz,hy0,hz0,hdj,k⟩:=h;have hyl:=Nat.le_trans sy.length_le (ki hn);have hzl:=Nat.le_trans sz.length_le (ki hn);obtain⟨c0,hp0⟩:=id hp;simp only[csD];walk_at "s1";walk_at "s1";intro l1 h1 l2 h2 l3 h3;obtain⟨n21,h2⟩:=bQ h2;obtain⟨n32,h3⟩:=bQ h3;obtain⟨n31,h3⟩:=bQ h3;have np1:=hp.ne h1;have np2:=hp.ne h2;have np3:=hp.ne h3;have hpx:∀ {c:Pq} {A B C:OC},lj K ((((Z.put p (pdO K c)).put l1 A).put l2 B).put l3 C) p:=fun {c A B C}=>⟨c,by rw[Om.OB np3,Om.OB np2,Om.OB np1,Om.OD]⟩
 have e0:Z.put p (pdO K c0)=Z:=by funext b;by_cases hb:b=p<;>simp[Om.put,hb,hp0]
 have eput:∀ {c c':Pq} {A B C:OC},((((Z.put p (pdO K c)).put l1 A).put l2 B).put l3 C).put p (pdO K c')=(((Z.put p (pdO K c')).put l1 A).put l2 B).put l3 C:=fun {c c' A B C}=>by
  rw[Om.OF np3,Om.OF np2,Om.OF np1,Om.OE]
 rw[←e0]
 walk_at "s1";refine⟨p,2,rfl,hpx,by decide,by decide,fun g c g0 g1=>?_⟩
 rw[eput];refine qH (fun ρ' Z'=>∃(ys' zs':List (List Int)) (c:Pq) (g:Int),ys'.Sublist ys/\zs'.Sublist zs/\ys'≠[]/\zs'≠[]/\Z'=(((Z.put p (pdO K c)).put l1 (OC.own (List.map AV.d (List.map wdD ys')))).put l2 (OC.own (List.map AV.d (List.map wdD zs')))).put l3 (OC.own [AV.r (V.ref l1),AV.r (V.ref l2)])/\ρ'=[some (AV.r (V.ref p)),some (AV.d (D.tup [D.int ↑n,D.tup (List.map wdD ys),D.tup (List.map wdD zs)])),some (AV.d (D.int ↑n)),some (AV.d (D.tup (List.map wdD ys))),some (AV.d (D.tup (List.map wdD zs))),some (AV.r (V.ref l3)),some (.d (.int g))]) (fun M kM=>?_) ?_
 ·have a3:∀ {A B C D:OC},(((Z.put p A).put l1 B).put l2 C).put l3 D l3=some D:=Om.OD
  have a2:∀ {A B C D:OC},(((Z.put p A).put l1 B).put l2 C).put l3 D l2=some C:=fun {A B C D}=>by rw[Om.OB n32.symm,Om.OD]
  have a1:∀ {A B C D:OC},(((Z.put p A).put l1 B).put l2 C).put l3 D l1=some B:=fun {A B C D}=>by rw[Om.OB n31.symm,Om.OB n21.symm,Om.OD]
  have m1:∀ {A B C D E:OC},((((Z.put p A).put l1 B).put l2 C).put l3 D).put l1 E=(((Z.put p A).put l1 E).put l2 C).put l3 D:=fun {A B C D E}=>by rw[Om.OF n31.symm,Om.OF n21.symm,Om.OE]
  have m2:∀ {A B C D E:OC},((((Z.put p A).put l1 B).put l2 C).put l3 D).put l2 E=(((Z.put p A).put l1 B).put l2 E).put l3 D:=fun {A B C D E}=>by rw[Om.OF n32.symm,Om.OE]
  have er_map:∀(ws:List (List Int)) (j:Nat),(List.map AV.d (List.map wdD ws)).eraseIdx j=List.map AV.d (List.map wdD (ws.eraseIdx j)):=fun ws j=>by rw[kC,kC]
  have er_ne:∀ {ws:List (List Int)} {j:Nat},1<ws.length->ws.eraseIdx j≠[]:=fun {ws j} h e=>by
   have:=congrArg List.length e;rw[List.length_eraseIdx,List.length_nil] at this;split at this<;>omega
  rcases(by omega:g=0\/g=1) with rfl|rfl
  ·walk_at "a1"
   rw[a1];refine⟨ys.length,by simp,mj (fun h1=>?_) (fun h1=>kM _ _ ⟨ys,zs,c,_,.refl _,.refl _,hy0,hz0,rfl,rfl⟩)⟩
   refine⟨⟨_,rfl⟩,ys.length,by simp,p,ys.length,rfl,hpx,by omega,by omega,fun j c j0 j1=>?_⟩
   rw[eput];obtain⟨j,rfl⟩:=Int.eq_ofNat_of_zero_le j0;have hj:j<ys.length:=by omega
   refine⟨_,j,rfl,a1,by simp;omega,⟨.d (wdD ys[j]),by simp[hj]⟩,?_⟩
   rw[m1,er_map];exact kM _ _ ⟨ys.eraseIdx j,zs,c,_,List.eraseIdx_sublist ..,.refl _,er_ne (by omega),hz0,rfl,rfl⟩
  ·walk_at "a1"
   rw[a2];refine⟨zs.length,by simp,mj (fun h1=>?_) (fun h1=>kM _ _ ⟨ys,zs,c,_,.refl _,.refl _,hy0,hz0,rfl,rfl⟩)⟩
   refine⟨⟨_,rfl⟩,zs.length,by simp,p,zs.length,rfl,hpx,by omega,by omega,fun j c j0 j1=>?_⟩
   rw[eput];obtain⟨j,rfl⟩:=Int.eq_ofNat_of_zero_le j0;have hj:j<zs.length:=by omega
   refine⟨_,j,rfl,a2,by simp;omega,⟨.d (wdD zs[j]),by simp[hj]⟩,?_⟩
   rw[m2,er_map];exact kM _ _ ⟨ys,zs.eraseIdx j,c,_,.refl _,List.eraseIdx_sublist ..,hy0,er_ne (by omega),rfl,rfl⟩
 rintro ρ Z' ⟨ys',zs',c',g,sy',sz',hy',hz',rfl,rfl⟩;have wy:Wds n ys':=Wds.sub (sy'.trans sy) hn;have wz:Wds n zs':=Wds.sub (sz'.trans sz) hn;have srt:∀ {ws:List (List Int)},ws.Sublist (wl n)->ic ws=ws:=fun {ws} h=>HX (List.Perm.refl _) ((K5 ⟨n,by omega⟩).sublist h)
 walk_at "a1";unfold G9;refine⟨l3,_,rfl,Om.OD,?_⟩;simp only[CG,kj];rw[show (((Z.put p (pdO K c')).put l1 (OC.own (List.map AV.d (List.map wdD ys')))).put l2 (OC.own (List.map AV.d (List.map wdD zs')))).put l3 (OC.own [AV.r (V.ref l1),AV.r (V.ref l2)]) l1=some (OC.own (List.map AV.d (List.map wdD ys'))) from by rw[Om.OB n31.symm,Om.OB n21.symm,Om.OD]]
 dsimp only;refine⟨_,aS _,?_⟩;rw[show ∀(E:OC),((((Z.put p (pdO K c')).put l1 (OC.own (List.map AV.d (List.map wdD ys')))).put l2 (OC.own (List.map AV.d (List.map wdD zs')))).put l3 (OC.own [AV.r (V.ref l1),AV.r (V.ref l2)])).put l1 E=(((Z.put p (pdO K c')).put l1 E).put l2 (OC.own (List.map AV.d (List.map wdD zs')))).put l3 (OC.own [AV.r (V.ref l1),AV.r (V.ref l2)]) from fun E=>by rw[Om.OF n31.symm,Om.OF n21.symm,Om.OE]]
 rw[show ∀(E:OC),(((Z.put p (pdO K c')).put l1 E).put l2 (OC.own (List.map AV.d (List.map wdD zs')))).put l3 (OC.own [AV.r (V.ref l1),AV.r (V.ref l2)]) l2=some (OC.own (List.map AV.d (List.map wdD zs'))) from fun E=>by rw[Om.OB n32.symm,Om.OD]]
 dsimp only;refine⟨_,aS _,by rw[Om.OB n32,Om.OD],_,.inl rfl,_,rfl,?_⟩
 rw[Om.OD];dsimp only;refine⟨_,rfl,n,_,_,ys',zs',rfl,.inr (.inr rfl),.inr (.inr rfl),hn1,hn,wy,wz,hy',hz',fun v hv hv2=>hdj v (sy'.mem hv) (sz'.mem hv2),_,rfl,?_⟩;rw[srt (sy'.trans sy),srt (sz'.trans sz),e0,nG ?_ hp.some]
 ·exact k ys' zs' c' sy' sz' hy' hz'
 intro b hb;have b1:b≠l1:=fun e=>by subst e;rw[Om.OB (Ne.symm np1),h1] at hb;cases hb
 have b2:b≠l2:=fun e=>by subst e;rw[Om.OB (Ne.symm np2),h2] at hb;cases hb
 have b3:b≠l3:=fun e=>by subst e;rw[Om.OB (Ne.symm np3),h3] at hb;cases hb
 rw[Om.OB b3,Om.OB b2,Om.OB b3,Om.OB b2,Om.OB b1]
theorem E7{n j:Nat}{tb:List Int}{b:Int}(hn:n<=5)(hl:tb.length=2^n)(h:tb[j]?=some b):tbW n tb b≠[]:=by
 have hj:=(List.getElem?_eq_some_iff.mp h).1;have hjw:j<(wl n).length:=by rw[fD];omega
 refine List.ne_nil_of_mem (a:=(wl n)[j]) (List.mem_filter.mpr ⟨List.getElem_mem hjw,?_⟩);rw[xG (tb:=tb) hn (List.getElem?_eq_getElem hjw),List.getD_eq_getElem?_getD,h];simp
theorem yi{n:Nat}{tb:List Int}(hn:n<=5)(hl:tb.length=2^n)(hb:∀b∈tb,b=0\/b=1)(h0:(0:Int)∈tb)(h1:(1:Int)∈tb):Tb n tb:=by
 obtain⟨i,hi⟩:=List.getElem?_of_mem h0;obtain⟨j,hj⟩:=List.getElem?_of_mem h1;exact⟨hl,hb,E7 hn hl hj,E7 hn hl hi⟩
noncomputable def Ll(K:W.Frag):ASp:=fun xs Z Q=>∃(p:Addr)(n:Nat),xs=[.r (.ref p),.d (.int n)]/\lj K Z p/\1<=n/\n<=5/\∀(tb:List Int)(c:Pq),Tb n tb->Q (.d (wdD tb)) (Z.put p (pdO K c))
theorem Mh(T:Txt K mg t):az P w K mg base CX0 2 t.eX t.pG ["_law_pen_here","_law_places"] (bg (Ll K)):=by
 have G_l_draw:az P w K mg base _ _ _ _ _ _:=me T
 refine T.Dj.okD mU (fun xs Z Q h=>by obtain ⟨p,n,rfl,_⟩:=h;rfl) (fun cdv A outer s H E hr=>⟨_,_,(ag (wE (i:=2) mU.nd rfl (Or.inl rfl) (N:=(["_law_k","_law_pen_here"] : List Str)) (src:=[none,some 0]) rfl (by show cg _ (defScope lF) _ _ (["_law_pen_here","_law_places","_law_found","_law_at"] : List Str) = true;decide +kernel) (by intro g' h;cases h) (fz rfl T.j8 (aa (aT so ah (pv 1)) ae)) (fun _ _ _ _ _ _=>(aD (i:=0) (show (["_law_k","_law_pen_here"] : List Str).Nodup by decide +kernel) rfl (Or.inl rfl))) (fun _ _ _ _ _ _=>bK) (fun _ _ _ _ _ _=>(bq rfl rfl (ai G_l_draw (hr.mono (by omega)) (by rfl) T.bA T.bE T.bC .nil ar (aa (pv 1) (av ah ae))))))
   (ag (bv (aN (bp hr.OH) (pv 2) (aT (aQ nj mJ) (sB (Al K rfl) (pv 2) vY (vN ah)) (aG (ba K rfl) (by rfl) T.dH (by kernel_rfl) (aa (pv 2) ae))) (aM _)) (ag (aB (i:=3) mU.nd rfl (Or.inl rfl) (ai G_l_draw (hr.mono (by omega)) (by rfl) T.bA T.bE T.bC .nil ar (aa (pv 0) (aa (aG (ba K rfl) (by rfl) T.dH (by kernel_rfl) (aa (pv 2) ae)) ae))))
   (aj (pH (aT de ah (ay (am K rfl) (pv 2) (pv 3) (fun _ _=>rfl))) (K2 (pv 2) (pv 3) Fy)))) aW)
   (aj (aE (bt (a9 K rfl) (by rfl) T.cX (by kernel_rfl) (aa (pv 2) ae)))))),(au (aH (HV (m8 (ab (aq kr ak ac) af)) ao gZ (bS (ap (ab ac (ab ak af))))) ao)
   (au (cI (aZ (aq bw ac (aq sH (LK ac Ak (Bc ak)) (bz eA (ab ac af))))) (au (aH (ap (ab ac (ab (bz eA (ab ac af)) af))) ao)
   (aH (aq eR ak (aq aK ac ac)) (N3 ac ac))) bj)
   (aL (bz dA (ab ac af))))),fun xs Z Q h=>?_⟩)
 obtain⟨p,n,rfl,hp,hn1,hn,k⟩:=h;have hwl:=ki hn;have hw2:=EI hn1;have hwp:=fD n;obtain⟨c0,hp0⟩:=id hp;have e0:Z.put p (pdO K c0)=Z:=by funext b;by_cases hb:b=p<;>simp[Om.put,hb,hp0]
 walk_at "s1";rw[pw5,←hwp,Int.toNat_natCast]
 refine⟨⟨by omega,by omega,by decide⟩,by omega,by omega,?_⟩
 refine Jz (fun Z'=>∃c,Z'=Z.put p (pdO K c)) D.int (fun _ b=>b=0\/b=1) ⟨c0,e0.symm⟩ (Nat.le_of_lt (a7 (by simp[ml];omega))) (fun i a ha Z' hS Q q=>?_) (fun bs ρ Z' hlen hR hS=>?_)
 ·obtain⟨c,rfl⟩:=hS
  walk_at "a1";refine⟨p,2,rfl,bZ,by decide,by decide,fun r c r0 r1=>?_⟩
  rw[Om.OE];exact q r _ (by omega) ⟨c,rfl⟩
 obtain⟨c,rfl⟩:=hS;have hlen:bs.length=(wl n).length:=by rw[hlen];simp[ml]
 have hb:∀b∈bs,b=0\/b=1:=fun b hb=>by
  obtain⟨i,hi⟩:=List.getElem?_of_mem hb;exact hR i b hi
 intro l hl;obtain⟨nlp,hl⟩:=bQ hl;show Au _ _ _ _ (om2 Z p l (pdO K c) (.own ((bs.map D.int).map AV.d)));refine qH (fun ρ' Z'=>∃(tb:List Int)(c:Pq)(v3:Option AV),Tb n tb/\Z'=om2 Z p l (pdO K c) (.own ((tb.map D.int).map AV.d))/\ρ'=[some (AV.r (V.ref p)),some (AV.d (D.int n)),some (AV.r (V.ref l)),v3]) (fun M kM=>?_) ?_
 ·obtain⟨b0,br,rfl⟩:∃b0 br,bs=b0::br:=List.exists_cons_of_ne_nil (fun e=>by rw[e] at hlen;simp at hlen;omega)
  have h2:2<=(b0::br).length:=by omega
  have hll:(b0::br).length<=32:=by omega
  have hl2:(b0::br).length=2^n:=by omega
  have eu:und (AV.d (D.int b0)::List.map AV.d (List.map D.int br))=some ((b0::br).map D.int):=aS ((b0::br).map D.int)
  have ec:ib ((b0::br).map D.int) none (some 1)=[D.int b0]:=by
   unfold ib;rw[HT.sIx_none,show HT.sIx ((b0::br).map D.int).length ((b0::br).map D.int).length (some 1)=1 from by show min 1 _=1;simp]
   rfl
  have ee:eqD (D.lst ((b0::br).map D.int)) (D.lst (List.replicate (b0::br).length [D.int b0]).flatten)=decide (b0::br=List.replicate (b0::br).length b0):=by
   rw[show (List.replicate (b0::br).length [D.int b0]).flatten=(List.replicate (b0::br).length b0).map D.int from by simp]
   exact Bp _ _
  walk_at "a1";rw[cz];dsimp only;rw[eu];refine⟨_,rfl,(b0::br).length,by simp,by omega,by omega,by rw[ec];exact Nat.le_of_lt (a7 (by simp at hll ⊢;omega)),_,rfl,by simp only[dep,gm];omega,?_⟩
  rw[ec];have b0b:=hb b0 List.mem_cons_self;refine mj (fun h=>?_) (fun h=>kM _ _ ⟨b0::br,c,_,?_,rfl,rfl⟩)
  ·rw[ee] at h
   have h:=of_decide_eq_true h
   have hall:∀i b,(b0::br)[i]?=some b->b=b0:=fun i b hi=>by
    rw[h] at hi;exact List.eq_of_mem_replicate (List.mem_of_getElem? hi)
   show Au _ _ _ _ (om2 Z p l (pdO K c) (.own (((b0::br).map D.int).map AV.d)));clear eu ec ee;generalize b0::br=bs at *;walk_at "s1";rw[cz];refine⟨bs.length,by simp,p,bs.length,rfl,⟨c,kB nlp.symm⟩,by omega,by omega,fun j c j0 j1=>?_⟩
   rw[jT nlp.symm];obtain⟨j,rfl⟩:=Int.eq_ofNat_of_zero_le j0;have hj:j<bs.length:=by omega
   have hjb:bs[j]?=some bs[j]:=List.getElem?_eq_getElem hj;have ejb:=hall j _ hjb;walk_at "a1";rw[cz];refine⟨_,rfl,.d (.int bs[j]),gG j rfl (by rw[List.getElem?_map,List.getElem?_map,hjb];rfl),_,rfl,_,rfl,j,by unfold ixN;simp[hj],?_⟩
   rw[cM,ejb,show (List.map AV.d (List.map D.int bs)).set j (AV.d (D.int (1-b0)))=((bs.set j (1-b0)).map D.int).map AV.d from by rw[List.map_set,List.map_set]]
   refine kM _ _ ⟨bs.set j (1-b0),c,_,?_,rfl,rfl⟩;have hm1:1-b0∈bs.set j (1-b0):=List.mem_of_getElem? (i:=j) (by rw[List.getElem?_set];simp[hj])
   have hm0:b0∈bs.set j (1-b0):=by
    obtain⟨i,hi,hij⟩:∃i,i<bs.length/\i≠j:=⟨if j=0 then 1 else 0,by split<;>omega,by split<;>omega⟩
    refine List.mem_of_getElem? (i:=i) ?_;rw[List.getElem?_set_ne (Ne.symm hij),List.getElem?_eq_getElem hi,hall i _ (List.getElem?_eq_getElem hi)]
   have hbb:∀b∈bs.set j (1-b0),b=0\/b=1:=fun b hb'=>by
    rcases List.mem_or_eq_of_mem_set hb' with h|h
    ·exact hb b h
    ·omega
   have hl3:(bs.set j (1-b0)).length=2^n:=by rw[List.length_set];exact hl2
   rcases b0b with rfl|rfl
   ·exact yi hn hl3 hbb hm0 hm1
   ·exact yi hn hl3 hbb hm1 hm0
  ·rw[ee] at h
   have h:=fun e=>h (decide_eq_true e)
   obtain⟨b,hbm,hbn⟩:∃b∈b0::br,b≠b0:=by
    by_cases q:∃b∈b0::br,b≠b0
    ·exact q
    ·exact absurd (List.eq_replicate_iff.mpr ⟨rfl,fun b hb=>by
      by_cases e:b=b0
      ·exact e
      ·exact absurd ⟨b,hb,e⟩ q⟩) h
   have bb:=hb b hbm;rcases(by omega:(b0=0/\b=1)\/(b0=1/\b=0)) with⟨rfl,rfl⟩|⟨rfl,rfl⟩
   ·exact yi hn hl2 hb List.mem_cons_self hbm
   ·exact yi hn hl2 hb hbm List.mem_cons_self
 rintro ρ Z' ⟨tb,c,v3,hT,rfl,rfl⟩;walk_at "a1";rw[cz];dsimp only;rw[aS];refine⟨_,rfl,?_⟩;rw[Lx hp hl];exact k tb c hT
theorem fV{X Y:Om}{l:Addr}{A:OC}(h:Ex X Y):Ex (X.put l A) (Y.put l A):=fun b hb=>by
 by_cases e:b=l
 ·subst e;rw[Om.OD,Om.OD]
 ·rw[Om.OB e] at hb ⊢
  rw[Om.OB e];exact h b hb
noncomputable def JH(K:W.Frag):ASp:=fun xs Z Q=>∃(p:Addr)(n:Nat),xs=[.r (.ref p),.d (.int n)]/\lj K Z p/\1<=n/\n<=5/\∀(ys zs:List (List Int)) (c:Pq),Wds n ys->Wds n zs->ys≠[]->zs≠[]->Q (.d (csD n ys zs)) (Z.put p (pdO K c))
theorem Jn(T:Txt K mg t):az P w K mg base CX0 2 t.gD t.rN ["_law_pen_here","_law_places"] (bg (JH K)):=by
 have G_l_draw:az P w K mg base _ _ _ _ _ _:=me T;have G_l_word:az P w K mg base _ _ _ _ _ _:=C0 T
 refine T.FX.okD ff (fun xs Z Q h=>by obtain ⟨p,n,rfl,_⟩:=h;rfl) (fun cdv A outer s H E hr=>⟨_,_,(ag (aB (i:=2) ff.nd rfl (Or.inl rfl) (ai G_l_draw (hr.mono (by omega)) (by rfl) T.bA T.bE T.bC .nil ar (aa (pv 0) (av ah ae))))
   (ag (aB (i:=3) ff.nd rfl (Or.inl rfl) (bh (fQ (bh ae) (fQ (bh ae) (fQ (bh ae) ae)))))
   (ag (fq PassesOwn.never rfl (fz rfl T.j8 (aa (aT so ah (pv 1)) ae)) (aD (i:=4) ff.nd rfl (Or.inl rfl)) (ag (aB (i:=5) ff.nd rfl (Or.inl rfl) (ay (am K rfl) (bh (aa (aT (aQ cm (aQ bN cn)) ah (ai G_l_draw (hr.mono (by omega)) (by rfl) T.bA T.bE T.bC .nil ar (aa (pv 0) (av ah ae)))) (aa (ay (am K rfl) (bh (av ah (av ah (av ah (av ah (av ah (av ah ae))))))) (ai G_l_draw (hr.mono (by omega)) (by rfl) T.bA T.bE T.bC .nil ar (aa (pv 0) (av ah ae))) (fun _ _=>rfl)) (aa (ai G_l_draw (hr.mono (by omega)) (by rfl) T.bA T.bE T.bC .nil ar (aa (pv 0) (av ah ae))) ae)))) (aG (lV rfl) (by rfl) T.zb (by kernel_rfl) (aa (pv 2) (av ah ae))) (fun _ _=>rfl)))
   (aj (bO (dn PySem.F.plainAttrs_list PySem.F.slot_list_append PySem.F.type_list_append bc (ay (am K rfl) (pv 3) (pv 5) (fun _ _=>rfl)) (aa (ai G_l_word (hr.mono (by omega)) (by rfl) T.yt T.x6 T.xQ .nil ar (aa (pv 1) (aa (pv 4) ae))) ae))))))
   (ag (fq PassesOwn.never rfl (bG K rfl (aV (av ah (av ah ae)))) (aD (i:=5) ff.nd rfl (Or.inl rfl)) (aj (bv (aN (bp hr.OH) (ay (am K rfl) (pv 3) (pv 5) (fun _ _=>rfl)) (bh ae) (aM _)) (ag (aB (i:=6) ff.nd rfl (Or.inl rfl) (ay (am K rfl) (bh (aa (ay (am K rfl) (pv 3) (aT de ah (pv 5)) (fun _ _=>rfl)) (aa (ay (am K rfl) (pv 3) ah (fun _ _=>rfl)) ae))) (bt pF (by rfl) T.BM (by kernel_rfl) (aa (bU Ki (aG (ba K rfl) (by rfl) T.dH (by kernel_rfl) (aa (ay (am K rfl) (pv 3) ah (fun _ _=>rfl)) ae)) (aG (ba K rfl) (by rfl) T.dH (by kernel_rfl) (aa (ay (am K rfl) (pv 3) (aT de ah (pv 5)) (fun _ _=>rfl)) ae)) (aM _)) ae)) (fun _ _=>rfl)))
   (aj (bO (dn PySem.F.plainAttrs_list PySem.F.slot_list_append PySem.F.type_list_append bc (ay (am K rfl) (pv 3) (pv 5) (fun _ _=>rfl)) (aa (dn PySem.F.plainAttrs_list PySem.F.slot_list_pop PySem.F.type_list_pop zE (pv 6) (aa (ai G_l_draw (hr.mono (by omega)) (by rfl) T.bA T.bE T.bC .nil ar (aa (pv 0) (aa (aG (ba K rfl) (by rfl) T.dH (by kernel_rfl) (aa (pv 6) ae)) ae))) ae)) ae))))) aW)))
   (aj (aE (aV (aa (pv 1) (aa (bt (a9 K rfl) (by rfl) T.cX (by kernel_rfl) (aa (ay (am K rfl) (pv 3) ah (fun _ _=>rfl)) ae)) (aa (bt (a9 K rfl) (by rfl) T.cX (by kernel_rfl) (aa (ay (am K rfl) (pv 3) ah (fun _ _=>rfl)) ae)) ae)))))))))),(au (aH (ap (ab ac (ab ak af))) ao)
   (au (aH (dJ (ab (dJ af) (ab (dJ af) (ab (dJ af) af)))) ao)
   (au (ja (m8 (ab (aq kr ak ac) af)) ao (au (aH (aq aK (dP (ab (aq dm ak (ap (ab ac (ab ak af)))) (ab (aq aK (dP (ab ak (ab ak (ab ak (ab ak (ab ak (ab ak af))))))) (ap (ab ac (ab ak af)))) (ab (ap (ab ac (ab ak af))) af)))) (bz vO (ab ac (ab ak af)))) ao)
   (cC (bu (aq aK ac ac) (ab (ap (ab ac (ab ac af))) af)))))
   (au (ja (cx (bo (ab ak (ab ak af)))) ao (cI (aZ (aq bw (aq aK ac ac) (dP af))) (au (aH (aq aK (dJ (ab (aq aK ac (aq eR ak ac)) (ab (aq aK ac ak) af))) (bz GJ (ab (aq g8 (bz eA (ab (aq aK ac ak) af)) (bz eA (ab (aq aK ac (aq eR ak ac)) af))) af))) ao)
   (cC (bu (aq aK ac ac) (ab (Ci ac (ab (ap (ab ac (ab (bz eA (ab ac af)) af))) af)) af)))) bj))
   (aL (bo (ab ac (ab (bz dA (ab (aq aK ac ak) af)) (ab (bz dA (ab (aq aK ac ak) af)) af))))))))),fun xs Z Q h=>?_⟩)
 obtain⟨p,n,rfl,hp,hn1,hn,k⟩:=h;have hwl:=ki hn;have hw2:=EI hn1;have hwp:=fD n;walk_at "s1";refine⟨p,6,rfl,hp,by decide,by decide,fun g c g0 g1=>?_⟩
 walk_at "s1";intro l0 h0 l1 h1 l2 h2 l3 h3;obtain⟨n0p,h0⟩:=bQ h0;obtain⟨n10,h1⟩:=bQ h1;obtain⟨n1p,h1⟩:=bQ h1;obtain⟨n21,h2⟩:=bQ h2;obtain⟨n20,h2⟩:=bQ h2;obtain⟨n2p,h2⟩:=bQ h2;obtain⟨n32,h3⟩:=bQ h3;obtain⟨n31,h3⟩:=bQ h3;obtain⟨n30,h3⟩:=bQ h3;obtain⟨n3p,h3⟩:=bQ h3;obtain⟨S,hS⟩:∃S:Pq->List (List Int)->List (List Int)->List (List Int)->Om,∀c A0 A1 A2,S c A0 A1 A2=((((Z.put p (pdO K c)).put l0 (.own ((A0.map wdD).map AV.d))).put l1 (.own ((A1.map wdD).map AV.d))).put l2 (.own ((A2.map wdD).map AV.d))).put l3 (.own [.r (.ref l0),.r (.ref l1),.r (.ref l2)]):=⟨_,fun _ _ _ _=>rfl⟩
 have s3:∀ {c A0 A1 A2},S c A0 A1 A2 l3=some (.own [.r (.ref l0),.r (.ref l1),.r (.ref l2)]):=fun {c A0 A1 A2}=>by rw[hS,Om.OD]
 have s2:∀ {c A0 A1 A2},S c A0 A1 A2 l2=some (.own ((A2.map wdD).map AV.d)):=fun {c A0 A1 A2}=>by rw[hS,Om.OB n32.symm,Om.OD]
 have s1:∀ {c A0 A1 A2},S c A0 A1 A2 l1=some (.own ((A1.map wdD).map AV.d)):=fun {c A0 A1 A2}=>by rw[hS,Om.OB n31.symm,Om.OB n21.symm,Om.OD]
 have s0:∀ {c A0 A1 A2},S c A0 A1 A2 l0=some (.own ((A0.map wdD).map AV.d)):=fun {c A0 A1 A2}=>by rw[hS,Om.OB n30.symm,Om.OB n20.symm,Om.OB n10.symm,Om.OD]
 have sp_:∀ {c A0 A1 A2},S c A0 A1 A2 p=some (pdO K c):=fun {c A0 A1 A2}=>by rw[hS,Om.OB n3p.symm,Om.OB n2p.symm,Om.OB n1p.symm,Om.OB n0p.symm,Om.OD]
 have t2:∀ {c A0 A1 A2 B},(S c A0 A1 A2).put l2 (.own ((B.map wdD).map AV.d))=S c A0 A1 B:=fun {c A0 A1 A2 B}=>by rw[hS,hS,Om.OF n32.symm,Om.OE]
 have t1:∀ {c A0 A1 A2 B},(S c A0 A1 A2).put l1 (.own ((B.map wdD).map AV.d))=S c A0 B A2:=fun {c A0 A1 A2 B}=>by rw[hS,hS,Om.OF n31.symm,Om.OF n21.symm,Om.OE]
 have t0:∀ {c A0 A1 A2 B},(S c A0 A1 A2).put l0 (.own ((B.map wdD).map AV.d))=S c B A1 A2:=fun {c A0 A1 A2 B}=>by rw[hS,hS,Om.OF n30.symm,Om.OF n20.symm,Om.OF n10.symm,Om.OE]
 have tp:∀ {c c' A0 A1 A2},(S c A0 A1 A2).put p (pdO K c')=S c' A0 A1 A2:=fun {c c' A0 A1 A2}=>by rw[hS,hS,Om.OF n3p.symm,Om.OF n2p.symm,Om.OF n1p.symm,Om.OF n0p.symm,Om.OE]
 rw[show ((((Z.put p (pdO K c)).put l0 (OC.own [])).put l1 (OC.own [])).put l2 (OC.own [])).put l3 (OC.own [AV.r (V.ref l0),AV.r (V.ref l1),AV.r (V.ref l2)])=S c [] [] [] from (hS c [] [] []).symm]
 walk_at "s1";rw[pw5,←hwp]
 refine⟨⟨by omega,by omega,by decide⟩,by omega,by omega,qK (fun i ρ Z'=>∃c A0 A1 A2 v4 v5,A0.Sublist ((wl n).take i)/\A1.Sublist ((wl n).take i)/\A2.Sublist ((wl n).take i)/\A0.length+A1.length+A2.length=i/\Z'=S c A0 A1 A2/\ρ=[some (.r (.ref p)),some (.d (.int n)),some (.d (.int g)),some (.r (.ref l3)),v4,v5,none]) ⟨c,[],[],[],_,_,by simp,by simp,by simp,rfl,rfl,rfl⟩ ?_ ?_⟩
 ·rintro i ρ Z' N hi ⟨c,A0,A1,A2,v4,v5,q0,q1,q2,hsum,rfl,rfl⟩ kN
  rw[Int.toNat_natCast] at hi;have hv:(wl n)[i]?=some (wl n)[i]:=List.getElem?_eq_getElem hi;generalize (wl n)[i]=v at hv;have et:(wl n).take (i+1)=(wl n).take i++[v]:=by rw[List.take_succ,hv];rfl
  have e1:∀ {A:List (List Int)},A.Sublist ((wl n).take i)->A.Sublist ((wl n).take (i+1)):=fun {A} h=>by rw[et];exact h.trans (List.sublist_append_left _ _)
  have e2:∀ {A:List (List Int)},A.Sublist ((wl n).take i)->(A++[v]).Sublist ((wl n).take (i+1)):=fun {A} h=>by rw[et];exact h.append (List.Sublist.refl _)
  walk_at "s1";refine⟨p,2,rfl,⟨c,sp_⟩,by decide,by decide,fun a c a0 a1=>⟨_,rfl,?_⟩⟩
  rw[tp];refine⟨p,6,rfl,⟨c,sp_⟩,by decide,by decide,fun b c b0 b1=>⟨_,rfl,?_⟩⟩
  rw[tp]
  obtain⟨b',eb,b2,b3⟩:∃b':Int,atI [AV.d (D.int 0),AV.d (D.int 0),AV.d (D.int 0),AV.d (D.int 0),AV.d (D.int 1),AV.d (D.int 2)] b=some (.d (.int b'))/\0<=b'/\b'<=2:=by
   rcases(by omega:b=0\/b=1\/b=2\/b=3\/b=4\/b=5) with rfl|rfl|rfl|rfl|rfl|rfl<;>exact⟨_,rfl,by decide,by decide⟩
  refine⟨_,eb,p,3,rfl,⟨c,sp_⟩,by decide,by decide,fun d c d0 d1=>?_⟩
  rw[tp]
  obtain⟨x,ex,x0,x2⟩:∃x:Int,atI [AV.d (D.int (1+a)),AV.d (D.int b'),AV.d (D.int d)] (if 2<g then 2 else g)=some (.d (.int x))/\0<=x/\x<=2:=by
   rcases(by split<;>omega:(if 2<g then 2 else g)=0\/(if 2<g then 2 else g)=1\/(if 2<g then 2 else g)=2) with e|e|e<;>rw[e]<;>exact⟨_,rfl,by omega,by omega⟩
  refine⟨_,rfl,_,ex,?_⟩;rw[s3,Int.zero_add];have lA:=q0.length_le;have lB:=q1.length_le;have lC:=q2.length_le;have lT:((wl n).take i).length<=32:=by rw[List.length_take];omega
  have apl:∀A:List (List Int),List.map AV.d (List.map wdD A)++[AV.d (wdD v)]=((A++[v]).map wdD).map AV.d:=fun A=>by simp
  rcases(by omega:x=0\/x=1\/x=2) with rfl|rfl|rfl
  ·refine⟨_,rfl,_,rfl,_,rfl,l0,rfl,⟨_,s0⟩,n,i,v,rfl,hn,hv,_,s0,by rw[List.length_map,List.length_map];exact Nat.lt_of_le_of_lt (by omega:A0.length<=32) (by simp[sizeLine]),?_⟩
   rw[apl,t0];exact kN _ _ ⟨c,A0++[v],A1,A2,_,_,e2 q0,e1 q1,e1 q2,by simp;omega,rfl,rfl⟩
  ·refine⟨_,rfl,_,rfl,_,rfl,l1,rfl,⟨_,s1⟩,n,i,v,rfl,hn,hv,_,s1,by rw[List.length_map,List.length_map];exact Nat.lt_of_le_of_lt (by omega:A1.length<=32) (by simp[sizeLine]),?_⟩
   rw[apl,t1];exact kN _ _ ⟨c,A0,A1++[v],A2,_,_,e1 q0,e2 q1,e1 q2,by simp;omega,rfl,rfl⟩
  ·refine⟨_,rfl,_,rfl,_,rfl,l2,rfl,⟨_,s2⟩,n,i,v,rfl,hn,hv,_,s2,by rw[List.length_map,List.length_map];exact Nat.lt_of_le_of_lt (by omega:A2.length<=32) (by simp[sizeLine]),?_⟩
   rw[apl,t2];exact kN _ _ ⟨c,A0,A1,A2++[v],_,_,e1 q0,e1 q1,e2 q2,by simp;omega,rfl,rfl⟩
 rintro ρ Z' ⟨c,A0,A1,A2,v4,v5,q0,q1,q2,hsum,rfl,rfl⟩;rw[Int.toNat_natCast,List.take_length] at q0 q1 q2;rw[Int.toNat_natCast] at hsum;dsimp only;have rs:∀ {c A0 A1 A2} {Z2:Om},Ex (S c A0 A1 A2) Z2->Z2 l3=some (.own [.r (.ref l0),.r (.ref l1),.r (.ref l2)])/\Z2 l2=some (.own ((A2.map wdD).map AV.d))/\Z2 l1=some (.own ((A1.map wdD).map AV.d))/\Z2 l0=some (.own ((A0.map wdD).map AV.d))/\Z2 p=some (pdO K c):=fun {c A0 A1 A2 Z2} hex=>⟨(hex l3 (by rw[s3];rfl)).trans s3,(hex l2 (by rw[s2];rfl)).trans s2,(hex l1 (by rw[s1];rfl)).trans s1,(hex l0 (by rw[s0];rfl)).trans s0,(hex p (by rw[sp_];rfl)).trans sp_⟩
 walk_at "s1";show kh _ _ _ (List.map AV.d [D.int 1,D.int 2]) _ _;refine nY (fun i ρ Z'=>∃c A0 A1 A2 v5 v6,Wds n A0/\Wds n A1/\Wds n A2/\A0.length+A1.length+A2.length=(wl n).length/\(1<=i->A1≠[])/\(2<=i->A2≠[])/\Ex (S c A0 A1 A2) Z'/\ρ=[some (.r (.ref p)),some (.d (.int n)),some (.d (.int g)),some (.r (.ref l3)),v4,v5,v6]) ⟨c,A0,A1,A2,_,_,Wds.sub q0 hn,Wds.sub q1 hn,Wds.sub q2 hn,hsum,fun h=>by omega,fun h=>by omega,Ex.refl _,rfl⟩ ?_ ?_
 ·clear q0 q1 q2 hsum
  rintro i d ρ Z' N hd ⟨c,A0,A1,A2,v5,v6,w0,w1,w2,hsum,hn1',hn2',hex,rfl⟩ kN;have hi:i<2:=by have:=(List.getElem?_eq_some_iff.mp hd).1;simpa using this
  have r3:Z' l3=_:=(hex l3 (by rw[s3];rfl)).trans s3
  have r2:Z' l2=_:=(hex l2 (by rw[s2];rfl)).trans s2
  have r1:Z' l1=_:=(hex l1 (by rw[s1];rfl)).trans s1
  have r0:Z' l0=_:=(hex l0 (by rw[s0];rfl)).trans s0
  have wer:∀ {A:List (List Int)} {j:Nat},Wds n A->Wds n (A.eraseIdx j):=fun {A j} h=>⟨h.1.sublist (List.eraseIdx_sublist ..),fun v hv=>h.2 v ((List.eraseIdx_sublist ..).mem hv)⟩;have wone:∀ {A:List (List Int)} {v:List Int},v∈A->Wds n A->Wds n [v]:=fun {A v} hv h=>⟨by simp,fun u hu=>by rw[List.mem_singleton.mp hu];exact h.2 v hv⟩
  have eqnil:∀ws:List (List Int),eqD (D.lst (ws.map wdD)) (D.lst [])=ws.isEmpty:=fun ws=>by cases ws<;>rfl
  have dw:∀ws:List (List Int),dep (D.lst (ws.map wdD))<=100:=fun ws=>by simp only[dep];have:=kS ws;omega
  rcases(by omega:i=0\/i=1) with rfl|rfl
  ·cases hd
   walk_at "a1";rw[r3];refine⟨_,rfl,_,rfl,.lst (A1.map wdD),by simp only[bn,r1];rw[aS];rfl,dw _,?_⟩
   refine mj (fun he=>?_) (fun he=>?_)
   ·rw[eqnil,List.isEmpty_iff] at he
    subst he;walk_at "s1";rw[r3];refine⟨_,rfl,_,rfl,_,rfl,_,rfl,fun q hq=>?_⟩;have hex:Ex (S c A0 [] A2) (Z'.put q (OC.own [AV.r (V.ref l2),AV.r (V.ref l0)])):=hex.new hq;clear r3 r2 r1 r0;generalize Z'.put q (OC.own [AV.r (V.ref l2),AV.r (V.ref l0)])=Z2 at *;obtain⟨r3,r2,r1,r0,rp⟩:=rs hex;have z0:ia Z2 (.r (.ref l0))=some A0.length:=by simp[ia,e8,eT,r0]
    have z2:ia Z2 (.r (.ref l2))=some A2.length:=by simp[ia,e8,eT,r2]
    simp only[List.length_nil] at hsum;rw[r3];refine⟨_,rfl,_,rfl,_,z0,_,rfl,_,rfl,_,z2,?_⟩;by_cases hle:(A2.length:Int)<=(A0.length:Int)
    ·rw[if_pos hle]
     refine⟨_,rfl,_,rfl,_,rfl,l1,rfl,⟨_,r1⟩,l0,rfl,⟨_,r0⟩,_,z0,p,A0.length,rfl,⟨c,rp⟩,by omega,by omega,fun j c' j0 j1=>?_⟩
     obtain⟨j,rfl⟩:=Int.eq_ofNat_of_zero_le j0;have hj:j<A0.length:=by omega
     have hx1:=fV (l:=p) (A:=pdO K c') hex;rw[tp] at hx1;obtain⟨_,q2,q1,q0,_⟩:=rs hx1;refine⟨_,j,rfl,q0,by simp;omega,.d (wdD A0[j]),by simp[hj],?_⟩
     rw[kC,kC];have hx2:=fV (l:=l0) (A:=.own (((A0.eraseIdx j).map wdD).map AV.d)) hx1;rw[t0] at hx2;obtain⟨_,q2,q1,q0,_⟩:=rs hx2;refine⟨_,q1,by simp[sizeLine],?_⟩
     have hx3:=fV (l:=l1) (A:=.own (([A0[j]].map wdD).map AV.d)) hx2;rw[t1] at hx3;exact kN _ _ ⟨c',A0.eraseIdx j,[A0[j]],A2,_,_,wer w0,wone (List.getElem_mem hj) w0,w2,by simp[List.length_eraseIdx,hj];omega,fun _=>by simp,fun h=>by omega,hx3,rfl⟩
    ·rw[if_neg hle]
     refine⟨_,rfl,_,rfl,_,rfl,l1,rfl,⟨_,r1⟩,l2,rfl,⟨_,r2⟩,_,z2,p,A2.length,rfl,⟨c,rp⟩,by omega,by omega,fun j c' j0 j1=>?_⟩
     obtain⟨j,rfl⟩:=Int.eq_ofNat_of_zero_le j0;have hj:j<A2.length:=by omega
     have hx1:=fV (l:=p) (A:=pdO K c') hex;rw[tp] at hx1;obtain⟨_,q2,q1,q0,_⟩:=rs hx1;refine⟨_,j,rfl,q2,by simp;omega,.d (wdD A2[j]),by simp[hj],?_⟩
     rw[kC,kC];have hx2:=fV (l:=l2) (A:=.own (((A2.eraseIdx j).map wdD).map AV.d)) hx1;rw[t2] at hx2;obtain⟨_,q2,q1,q0,_⟩:=rs hx2;refine⟨_,q1,by simp[sizeLine],?_⟩
     have hx3:=fV (l:=l1) (A:=.own (([A2[j]].map wdD).map AV.d)) hx2;rw[t1] at hx3;exact kN _ _ ⟨c',A0,[A2[j]],A2.eraseIdx j,_,_,w0,wone (List.getElem_mem hj) w2,wer w2,by simp[List.length_eraseIdx,hj];omega,fun _=>by simp,fun h=>by omega,hx3,rfl⟩
   ·rw[eqnil,List.isEmpty_iff] at he
    exact kN _ _ ⟨c,A0,A1,A2,_,_,w0,w1,w2,hsum,fun _=>he,fun h=>by omega,hex,rfl⟩
  ·cases hd
   walk_at "a1";rw[r3];refine⟨_,rfl,_,rfl,.lst (A2.map wdD),by simp only[bn,r2];rw[aS];rfl,dw _,?_⟩
   refine mj (fun he=>?_) (fun he=>?_)
   ·rw[eqnil,List.isEmpty_iff] at he
    subst he;walk_at "s1";rw[r3];refine⟨_,rfl,_,rfl,_,rfl,_,rfl,fun q hq=>?_⟩;have hex:Ex (S c A0 A1 []) (Z'.put q (OC.own [AV.r (V.ref l1),AV.r (V.ref l0)])):=hex.new hq;clear r3 r2 r1 r0;generalize Z'.put q (OC.own [AV.r (V.ref l1),AV.r (V.ref l0)])=Z2 at *;obtain⟨r3,r2,r1,r0,rp⟩:=rs hex;have z0:ia Z2 (.r (.ref l0))=some A0.length:=by simp[ia,e8,eT,r0]
    have z1:ia Z2 (.r (.ref l1))=some A1.length:=by simp[ia,e8,eT,r1]
    simp only[List.length_nil] at hsum;rw[r3];refine⟨_,rfl,_,rfl,_,z0,_,rfl,_,rfl,_,z1,?_⟩;by_cases hle:(A1.length:Int)<=(A0.length:Int)
    ·rw[if_pos hle]
     refine⟨_,rfl,_,rfl,_,rfl,l2,rfl,⟨_,r2⟩,l0,rfl,⟨_,r0⟩,_,z0,p,A0.length,rfl,⟨c,rp⟩,by omega,by omega,fun j c' j0 j1=>?_⟩
     obtain⟨j,rfl⟩:=Int.eq_ofNat_of_zero_le j0;have hj:j<A0.length:=by omega
     have hx1:=fV (l:=p) (A:=pdO K c') hex;rw[tp] at hx1;obtain⟨_,q2,q1,q0,_⟩:=rs hx1;refine⟨_,j,rfl,q0,by simp;omega,.d (wdD A0[j]),by simp[hj],?_⟩
     rw[kC,kC];have hx2:=fV (l:=l0) (A:=.own (((A0.eraseIdx j).map wdD).map AV.d)) hx1;rw[t0] at hx2;obtain⟨_,q2,q1,q0,_⟩:=rs hx2;refine⟨_,q2,by simp[sizeLine],?_⟩
     have hx3:=fV (l:=l2) (A:=.own (([A0[j]].map wdD).map AV.d)) hx2;rw[t2] at hx3;exact kN _ _ ⟨c',A0.eraseIdx j,A1,[A0[j]],_,_,wer w0,w1,wone (List.getElem_mem hj) w0,by simp[List.length_eraseIdx,hj];omega,fun _=>hn1' (by omega),fun _=>by simp,hx3,rfl⟩
    ·rw[if_neg hle]
     refine⟨_,rfl,_,rfl,_,rfl,l2,rfl,⟨_,r2⟩,l1,rfl,⟨_,r1⟩,_,z1,p,A1.length,rfl,⟨c,rp⟩,by omega,by omega,fun j c' j0 j1=>?_⟩
     obtain⟨j,rfl⟩:=Int.eq_ofNat_of_zero_le j0;have hj:j<A1.length:=by omega
     have hx1:=fV (l:=p) (A:=pdO K c') hex;rw[tp] at hx1;obtain⟨_,q2,q1,q0,_⟩:=rs hx1;refine⟨_,j,rfl,q1,by simp;omega,.d (wdD A1[j]),by simp[hj],?_⟩
     rw[kC,kC];have hx2:=fV (l:=l1) (A:=.own (((A1.eraseIdx j).map wdD).map AV.d)) hx1;rw[t1] at hx2;obtain⟨_,q2,q1,q0,_⟩:=rs hx2;refine⟨_,q2,by simp[sizeLine],?_⟩
     have hx3:=fV (l:=l2) (A:=.own (([A1[j]].map wdD).map AV.d)) hx2;rw[t2] at hx3;exact kN _ _ ⟨c',A0,A1.eraseIdx j,[A1[j]],_,_,w0,wer w1,wone (List.getElem_mem hj) w1,by simp[List.length_eraseIdx,hj];omega,fun _ e=>by have:=congrArg List.length e;rw[List.length_eraseIdx,if_pos hj,List.length_nil] at this;omega,fun _=>by simp,hx3,rfl⟩
   ·rw[eqnil,List.isEmpty_iff] at he
    exact kN _ _ ⟨c,A0,A1,A2,_,_,w0,w1,w2,hsum,fun _=>hn1' (by omega),fun _=>he,hex,rfl⟩
 rintro ρ Z' ⟨c,A0,A1,A2,v5,v6,w0,w1,w2,hsum,hn1',hn2',hex,rfl⟩;have r3:Z' l3=_:=(hex l3 (by rw[s3];rfl)).trans s3
 have r2:Z' l2=_:=(hex l2 (by rw[s2];rfl)).trans s2
 have r1:Z' l1=_:=(hex l1 (by rw[s1];rfl)).trans s1
 dsimp only;walk_at "a1";rw[r3];refine⟨_,rfl,_,rfl,_,.inl (by simp only[bn,r1];rw[aS];rfl),_,rfl,_,rfl,_,.inl (by simp only[bn,r2];rw[aS];rfl),?_⟩
 have hfin:Z'.only Z=Z.put p (pdO K c):=by
  refine nG (fun b hb=>?_) hp.some
  rw [hex b (by
   rw[hS];by_cases e:b=l3
   ·rw[e,Om.OD];rfl
   rw[Om.OB e];by_cases e:b=l2
   ·rw[e,Om.OD];rfl
   rw[Om.OB e];by_cases e:b=l1
   ·rw[e,Om.OD];rfl
   rw[Om.OB e];by_cases e:b=l0
   ·rw[e,Om.OD];rfl
   rw[Om.OB e]
   exact hb),hS]
  have b0:b≠l0:=fun e=>by rw[e,Om.OB n0p,h0] at hb;cases hb
  have b1:b≠l1:=fun e=>by rw[e,Om.OB n1p,h1] at hb;cases hb
  have b2:b≠l2:=fun e=>by rw[e,Om.OB n2p,h2] at hb;cases hb
  have b3:b≠l3:=fun e=>by rw[e,Om.OB n3p,h3] at hb;cases hb
  rw[Om.OB b3,Om.OB b2,Om.OB b1,Om.OB b0]
 rw[hfin];exact k A1 A2 c w1 w2 (hn1' (by decide)) (hn2' (by decide))
theorem Fu{n:Nat}{x:Sy}{v:List Int}(hn:n<=5)(hv:v∈wl n):(wor n x).getD (num v).toNat 0=b01 (x.val v):=by
 obtain⟨j,hj,rfl⟩:=List.getElem_of_mem hv;rw[xG (tb:=wor n x) hn (List.getElem?_eq_getElem hj),List.getD_eq_getElem?_getD,wor,List.getElem?_map,List.getElem?_eq_getElem hj];rfl
theorem BD:∀(bs:List Int),(∀b∈bs,b=0\/b=1)->(0<bs.sum->(1:Int)∈bs)/\(bs.sum<bs.length->(0:Int)∈bs)/\0<=bs.sum/\bs.sum<=bs.length
 | [],_=>by simp
 |b::bs,h=>by
  obtain⟨i1,i2,i3,i4⟩:=BD bs fun c hc=>h c (List.mem_cons_of_mem _ hc);have hb:=h b List.mem_cons_self;simp only[List.sum_cons,List.length_cons,List.mem_cons,Int.natCast_add];refine⟨fun q=>?_,fun q=>?_,by omega,by omega⟩
  ·rcases hb with rfl|rfl
   ·exact .inr (i1 (by omega))
   ·exact .inl rfl
  ·rcases hb with rfl|rfl
   ·exact .inl rfl
   ·exact .inr (i2 (by omega))
theorem Ay{n:Nat}{x:Sy}(hn:n<=5)(h:Tb n (wor n x)):gP n x (tbW n (wor n x) 1) (tbW n (wor n x) 0):=by
 refine⟨Wds.sub iW hn,Wds.sub iW hn,fun v hv=>?_,fun v hv=>?_,h.y1,h.z1⟩
 ·obtain⟨a,b⟩:=List.mem_filter.mp hv
  rw[Fu hn a] at b;cases e:x.val v
  ·rw[e] at b;cases b
  ·rfl
 ·obtain⟨a,b⟩:=List.mem_filter.mp hv
  rw[Fu hn a] at b;cases e:x.val v
  ·rfl
  ·rw[e] at b;cases b
theorem DF{n:Nat}{tb:List Int}(hn1:1<=n)(hn:n<=5)(h:Tb n tb):gP n (byY (tbW n tb 1)) (tbW n tb 1) (tbW n tb 0)/\gP n (byN (tbW n tb 0)) (tbW n tb 1) (tbW n tb 0):=by
 have hy:Wds n (tbW n tb 1):=Wds.sub iW hn;have hz:Wds n (tbW n tb 0):=Wds.sub iW hn;refine⟨⟨hy,hz,fun v hv=>?_,fun v hv=>?_,h.y1,h.z1⟩,⟨hy,hz,fun v hv=>?_,fun v hv=>?_,h.y1,h.z1⟩⟩
 ·rw[(o0 hn1 hn hy h.y1 (hy.2 v hv)).1,decide_eq_true hv]
 ·rw[(o0 hn1 hn hy h.y1 (hz.2 v hv)).1]
  exact decide_eq_false fun e=>by rw[GV hn h (hz.2 v hv)] at e;exact e hv
 ·rw[(o0 hn1 hn hz h.z1 (hy.2 v hv)).2,decide_eq_false fun e=>by rw[GV hn h (hy.2 v hv)] at hv;exact hv e];rfl
 ·rw[(o0 hn1 hn hz h.z1 (hz.2 v hv)).2,decide_eq_true hv];rfl
theorem Lk(T:Txt K mg t):az P t.wo K mg base CX0 40 t.mq t.zg ["_law_script"] (wb K):=by
 have G_l_pen:az P t.wo K mg base _ _ _ _ _ _:=K4 T;have G_l_draw:az P t.wo K mg base _ _ _ _ _ _:=me T;have G_l_saying:az P t.wo K mg base _ _ _ _ _ _:=Ek T;have G_l_together:az P t.wo K mg base _ _ _ _ _ _:=Lp T;have G_table_by:az P t.wo K mg base _ _ _ _ _ _:=HE T;have G_case_by:az P t.wo K mg base _ _ _ _ _ _:=HB T;have G_parts:az P t.wo K mg base _ _ _ _ _ _:=su T;have G_l_fewer:az P t.wo K mg base _ _ _ _ _ _:=MA T
 have G_l_swapped:az P t.wo K mg base _ _ _ _ _ _:=Mt T;have G_l_table:az P t.wo K mg base _ _ _ _ _ _:=Mh T;have G_l_by_words:az P t.wo K mg base _ _ _ _ _ _:=Nz T;have G_l_led_right:az P t.wo K mg base _ _ _ _ _ _:=IL T;have G_by_yes:az P t.wo K mg base _ _ _ _ _ _:=FA T;have G_by_no:az P t.wo K mg base _ _ _ _ _ _:=Hj T;have G_l_case:az P t.wo K mg base _ _ _ _ _ _:=Jn T
 refine T.Nx.okA fU (fun xs Z Q h=>by obtain ⟨a,ns,rfl,_⟩:=h;rfl) (fun cdv A outer s H E hr=>⟨_,_,(ag (aB (i:=1) fU.nd rfl (Or.inl rfl) (ai G_l_pen (hr.mono (by omega)) (by rfl) T.Jy T.Ju T.Ik .nil ar (aa (pv 0) ae)))
   (ag (aB (i:=2) fU.nd rfl (Or.inl rfl) (aT (aQ cm (aQ bN cn)) ah (ai G_l_draw (hr.mono (by omega)) (by rfl) T.bA T.bE T.bC .nil ar (aa (pv 1) (av ah ae)))))
   (ag (aB (i:=3) fU.nd rfl (Or.inl rfl) (ai G_l_saying (hr.mono (by omega)) (by rfl) T.sC T.sr T.sA .nil ar (aa (pv 1) (aa (pv 2) (fQ (bh (av ah (av ah ae))) ae)))))
   (ag (aB (i:=4) fU.nd rfl (Or.inl rfl) (ai G_l_saying (hr.mono (by omega)) (by rfl) T.sC T.sr T.sA .nil ar (aa (pv 1) (aa (pv 2) (fQ (bh (av ah (av ah ae))) ae)))))
   (ag (bv (dc (bd K rfl (ai G_l_together (hr.mono (by omega)) (by rfl) T.xh T.wZ T.vZ .nil ar (aa (pv 2) (aa (pv 3) (aa (pv 4) ae)))) (fun _=>rfl))) (aj (aE qf)) aW)
   (ag (fq PassesOwn.never rfl (bG K rfl (bh (aa (pv 3) (aa (pv 4) ae)))) (aD (i:=5) fU.nd rfl (Or.inl rfl)) (ag (aB (i:=6) fU.nd rfl (Or.inl rfl) (ai G_table_by (hr.mono (by omega)) (by rfl) T.nk T.m5 T.m7 .nil ar (aa (pv 2) (aa (pv 5) ae))))
   (aj (bv (Hy ER ER ah (aG (Ds K rfl rfl) (by rfl) T.M5 (by kernel_rfl) (aa (pv 6) ae)) (aG (ba K rfl) (by rfl) T.dH (by kernel_rfl) (aa (pv 6) ae))) (ag (aB (i:=7) fU.nd rfl (Or.inl rfl) (ai G_case_by (hr.mono (by omega)) (by rfl) T.l8 T.l6 T.md .nil ar (aa (pv 6) ae)))
   (ag (bv (PW.pt (p5 (dc (bd K rfl (ai G_parts (hr.mono (by omega)) (by rfl) T.oD T.nZ T.nD .nil ar (aa (pv 7) (aa (pv 5) ae))) (fun _=>rfl))) (lg (dc (bd K rfl (ai G_parts (hr.mono (by omega)) (by rfl) T.oD T.nZ T.nD .nil ar (aa (ai G_l_fewer (hr.mono (by omega)) (by rfl) T.D0 T.Es T.Eo .nil ar (aa (pv 1) (aa (pv 7) ae))) (aa (pv 5) ae))) (fun _=>rfl)))))) (aj (aE qf)) aW)
   (aj (bv (dc (bd K rfl (ai G_l_swapped (hr.mono (by omega)) (by rfl) T.iB T.iE T.iA .nil ar (aa (pv 7) (aa (pv 5) ae))) (fun _=>rfl))) (aj (aE qf)) aW)))) aW))))
   (ag (fq PassesOwn.never rfl (fz rfl T.j8 (av ah ae)) (aD (i:=8) fU.nd rfl (Or.inl rfl)) (ag (aB (i:=6) fU.nd rfl (Or.inl rfl) (ai G_l_table (hr.mono (by omega)) (by rfl) T.Dm T.Dk T.DX .nil ar (aa (pv 1) (aa (pv 2) ae))))
   (ag (aB (i:=7) fU.nd rfl (Or.inl rfl) (ai G_case_by (hr.mono (by omega)) (by rfl) T.l8 T.l6 T.md .nil ar (aa (pv 6) ae)))
   (aj (bv (PW.pt (p5 (dc (bd K rfl (ai G_l_by_words (hr.mono (by omega)) (by rfl) T.vE T.xa T.wB .nil ar (aa (pv 2) (aa (pv 6) ae))) (fun _=>rfl))) (lg (dc (bd K rfl (ai G_l_led_right (hr.mono (by omega)) (by rfl) T.uh T.tJ T.ua .nil ar (aa (pv 7) (aa (ay (am K rfl) (bh (aa (ai G_by_yes (hr.mono (by omega)) (by rfl) T.nF T.nH T.om .nil ar (aa (pv 7) ae)) (aa (ai G_by_no (hr.mono (by omega)) (by rfl) T.xw T.wR T.w4 .nil ar (aa (pv 7) ae)) ae))) (pv 8) (fun _ _=>rfl)) ae))) (fun _=>rfl)))))) (aj (aE qf)) aW)))))
   (ag (aB (i:=7) fU.nd rfl (Or.inl rfl) (ai G_l_case (hr.mono (by omega)) (by rfl) T.Fe T.GE T.E6 .nil ar (aa (pv 1) (aa (pv 2) ae))))
   (aj (aE (dD K rfl (ai G_l_swapped (hr.mono (by omega)) (by rfl) T.iB T.iE T.iA .nil ar (aa (pv 7) (aa (pv 3) ae))) (dD K rfl (ai G_l_swapped (hr.mono (by omega)) (by rfl) T.iB T.iE T.iA .nil ar (aa (pv 7) (aa (pv 4) ae))) (iS (ai G_l_swapped (hr.mono (by omega)) (by rfl) T.iB T.iE T.iA .nil ar (aa (pv 7) (aa (ai G_by_yes (hr.mono (by omega)) (by rfl) T.nF T.nH T.om .nil ar (aa (pv 7) ae)) ae)))))))))))))))),(au (aH (ap (ab ac af)) ao)
   (au (aH (aq dm ak (ap (ab ac (ab ak af)))) ao)
   (au (aH (ap (ab ac (ab ac (ab (dP (ab ak (ab ak af))) af)))) ao)
   (au (aH (ap (ab ac (ab ac (ab (dP (ab ak (ab ak af))) af)))) ao)
   (au (cI (eV (dI (ap (ab ac (ab ac (ab ac af)))))) (aL yu) bj)
   (au (ja (cx (dP (ab ac (ab ac af)))) ao (au (aH (ap (ab ac (ab ac af))) ao)
   (cI (aZ (wW g8 g8 ak (bz Mm (ab ac af)) (bz eA (ab ac af)))) (au (aH (ap (ab ac af)) ao)
   (au (cI (xU (eV (dI (ap (ab ac (ab ac af))))) (eV (dI (ap (ab (ap (ab ac (ab ac af))) (ab ac af)))))) (aL yu) bj)
   (cI (eV (dI (ap (ab ac (ab ac af))))) (aL yu) bj))) bj)))
   (au (ja (m8 (ab ak af)) ao (au (aH (ap (ab ac (ab ac af))) ao)
   (au (aH (ap (ab ac af)) ao)
   (cI (xU (eV (dI (ap (ab ac (ab ac af))))) (eV (dI (ap (ab ac (ab (aq aK (dP (ab (ap (ab ac af)) (ab (ap (ab ac af)) af))) ac) af)))))) (aL yu) bj))))
   (au (aH (ap (ab ac (ab ac af))) ao)
   (aL (fe (ap (ab ac (ab ac af))) (fe (ap (ab ac (ab ac af))) (ap (ab ac (ab (ap (ab ac af)) af)))))))))))))),fun xs Z Q h=>?_⟩)
 obtain⟨a,ns,rfl,hl,rfl,k⟩:=h;walk_at "s1";refine⟨a,ns,rfl,hl,fun p c hp0=>?_⟩;walk_at "s1";refine⟨p,5,rfl,bZ,by decide,by decide,fun r c r0 r1=>⟨r,rfl,?_⟩⟩
 rw[Om.OE];obtain⟨n,hn⟩:∃n:Nat,1+r=(n:Int):=⟨(1+r).toNat,by omega⟩
 have hn1:1<=n:=by omega
 have hn5:n<=5:=by omega
 have hwp:=fD n;have hwl:=ki hn5;rw[hn];walk_at "s1";refine⟨p,n,rfl,bZ,hn1,hn5,fun x c hx hxd hxl=>?_⟩;rw[Om.OE];walk_at "s1";refine⟨p,n,rfl,bZ,hn1,hn5,fun y c hy hyd hyl=>?_⟩;rw[Om.OE];walk_at "s1";refine⟨n,x,y,rfl,hn5,hx,hy,hxd,hyd,_,rfl,?_⟩;rw[if_neg (by decide)]
 walk_at "s1";show kh _ _ _ (List.map AV.d [x.d,y.d]) _ _;refine nY (fun i ρ Z'=>lj K Z' p/\∃v5 v6 v7 v8,ρ=[some (kl K a ns),some (AV.r (V.ref p)),some (AV.d (D.int n)),some (.d x.d),some (.d y.d),v5,v6,v7,v8]) ⟨bZ,_,_,_,_,rfl⟩ ?_ ?_
 ·rintro i d ρ Z' N hd ⟨hp,v5,v6,v7,v8,rfl⟩ kN
  obtain⟨z,hz,hzd,rfl⟩:∃z:Sy,z.ok n/\z.dp<=12/\d=z.d:=by
   have hi:i<2:=by have:=(List.getElem?_eq_some_iff.mp hd).1;simpa using this
   rcases(by omega:i=0\/i=1) with rfl|rfl
   ·cases hd;exact⟨x,hx,hxd,rfl⟩
   ·cases hd;exact⟨y,hy,hyd,rfl⟩
  walk_at "s1";refine⟨n,z,rfl,hn5,hz,by omega,?_⟩
  walk_at "a1"
  have hb:∀b∈wor n z,b=0\/b=1:=fun b hb=>by
   obtain⟨v,_,rfl⟩:=List.mem_map.mp hb;cases z.val v
   ·exact .inl rfl
   ·exact .inr rfl
  have hlw:(wor n z).length=2^n:=by rw[wor,List.length_map,fD]
  obtain⟨u1,u2,_,_⟩:=BD _ hb;obtain⟨c,hpc⟩:=id hp;refine⟨wor n z,rfl,mj (fun h1=>mj (fun h2=>?_) (fun h2=>kN _ _ ⟨hp,_,_,_,_,rfl⟩)) (fun h1=>kN _ _ ⟨hp,_,_,_,_,rfl⟩)⟩;have hT:Tb n (wor n z):=yi hn5 hlw hb (u2 h2) (u1 h1);have PA':=Ay hn5 hT;have hdj:∀v∈tbW n (wor n z) 1,v ∉ tbW n (wor n z) 0:=fun v hv h0=>by have:=PA'.vy v hv;rw[PA'.vz v h0] at this;cases this
  walk_at "s1";refine⟨n,wor n z,rfl,hn5,hT,?_⟩;walk_at "s1";refine⟨n,_,_,z,rfl,PA',hz,by omega,_,rfl,?_⟩
  rw[if_neg (by decide)]
  refine⟨p,n,_,_,rfl,hp,hn1,hn5,iW,iW,hT.y1,hT.z1,hdj,fun ys' zs' c sy sz hy' hz'=>⟨n,ys',zs',z,rfl,PA'.sub sy sz hy' hz',hz,by omega,_,rfl,?_⟩⟩
  rw[if_neg (by decide)]
  refine⟨n,_,_,z,rfl,hn5,PA'.y,PA'.z,hz,by omega,_,rfl,?_⟩
  rw[if_neg (by decide)]
  exact kN _ _ ⟨bZ,_,_,_,_,rfl⟩
 rintro ρ Z' ⟨hp,v5,v6,v7,v8,rfl⟩;dsimp only;walk_at "s1";refine⟨by decide,by decide,qK (fun i ρ Z'=>lj K Z' p/\∃v6 v7 v8,ρ=[some (kl K a ns),some (AV.r (V.ref p)),some (AV.d (D.int n)),some (.d x.d),some (.d y.d),v5,v6,v7,v8]) ⟨hp,_,_,_,rfl⟩ ?_ ?_⟩
 ·rintro i ρ Z1 N hi ⟨hp,v6,v7,v8,rfl⟩ kN
  have hi:i<2:=hi;walk_at "s1";refine⟨p,n,rfl,hp,hn1,hn5,fun tb c hT=>?_⟩;have hp:lj K (Z1.put p (pdO K c)) p:=bZ;generalize Z1.put p (pdO K c)=Z2 at *;have hyW:Wds n (tbW n tb 1):=Wds.sub iW hn5;have hzW:Wds n (tbW n tb 0):=Wds.sub iW hn5;obtain⟨P1,P2⟩:=DF hn1 hn5 hT;obtain⟨a1,a2,a3⟩:=(uL hn1 hn5 hyW hT.y1).1;obtain⟨b1,b2,b3⟩:=(uL hn1 hn5 hzW hT.z1).2;walk_at "s1";refine⟨n,tb,rfl,hn5,hT,?_⟩
  walk_at "a1";refine⟨n,tb,rfl,hn1,hn5,hT,_,rfl,?_⟩;rw[if_neg (by decide)]
  refine⟨n,_,_,rfl,hn1,hn5,hyW,hT.y1,n,_,_,rfl,hn1,hn5,hzW,hT.z1,_,rfl,?_⟩;rcases(by omega:i=0\/i=1) with rfl|rfl
  ·refine⟨_,rfl,n,_,_,byY (tbW n tb 1),rfl,hn5,P1,a1,by omega,a3,_,rfl,?_⟩
   rw[if_neg (by decide)]
   exact kN _ _ ⟨hp,_,_,_,rfl⟩
  ·refine⟨_,rfl,n,_,_,byN (tbW n tb 0),rfl,hn5,P2,b1,by omega,b3,_,rfl,?_⟩
   rw[if_neg (by decide)]
   exact kN _ _ ⟨hp,_,_,_,rfl⟩
 ·rintro ρ Z1 ⟨hp,v6,v7,v8,rfl⟩
  dsimp only;walk_at "s1";refine⟨p,n,rfl,hp,hn1,hn5,fun ys zs c hyW hzW hy0 hz0=>?_⟩;obtain⟨a1,a2,a3⟩:=(uL hn1 hn5 hyW hy0).1;refine⟨n,ys,zs,x,rfl,hn5,hyW,hzW,hx,by omega,_,rfl,?_⟩
  rw[if_pos rfl];refine⟨n,ys,zs,y,rfl,hn5,hyW,hzW,hy,by omega,_,rfl,?_⟩
  rw[if_pos rfl];exact⟨n,ys,zs,rfl,hn1,hn5,hyW,hy0,n,ys,zs,byY ys,rfl,hn5,hyW,hzW,a1,by omega,k _⟩
end
theorem IA{P:Program}{w:World}{K:W.Frag}{mg:Str->Option Value}{base:Heap}{t:Adr}(hw:t.wo=w)(T:Txt K mg t):az P w K mg base CX0 40 t.mq t.zg ["_law_script"] (wb K):=by
 subst hw;exact Lk T
theorem KU(w:World){K:W.Frag}{h:Heap}{mg:Str->Option Value}(X:K.In h)(G:h.Ns mainGlobals mg){hV:Addr}{fd_upward:FuncData}{dh:Addr}{fd_folded:FuncData}{ci:Addr}{od_tree_deep an_tree_deep:Option Addr}{sl_tree_deep:Array (Option Value)}{oc_tree_deep kV_tree_deep dc_tree_deep pm_tree_deep cd_tree_deep ct_tree_deep:Value}{cJ:Addr}{fd_tree_leaves:FuncData}{d7:Addr}{fd_is_whole:FuncData}{gC:Addr}{fd_is_bit:FuncData}{cQ:Addr}{fd_are_places:FuncData}{fu:Addr}{fd_is_word:FuncData}{dz:Addr}{fd_is_rising:FuncData}{dv:Addr}{fd_all_words:FuncData}{fI:Addr}{od_value an_value:Option Addr}{sl_value:Array (Option Value)}{oc_value kV_value dc_value pm_value cd_value ct_value:Value}{ni:Addr}{fd_deep:FuncData}{g7:Addr}{fd_leaves:FuncData}{d8:Addr}{fd_table_by:FuncData}{da:Addr}{od_against an_against:Option Addr}{sl_against:Array (Option Value)}{oc_against kV_against dc_against pm_against cd_against ct_against:Value}{gR:Addr}{fd_missed:FuncData}{iD:Addr}{fd_parts:FuncData}{dg:Addr}{fd_places_of:FuncData}{dY:Addr}{fd_value_at:FuncData}{fm:Addr}{fd_case_of:FuncData}{bR:Addr}{fd_words_in_order:FuncData}{d9:Addr}{fd_case_by:FuncData}{d6:Addr}{fd_pairs_in:FuncData}{fC:Addr}{fd_went_on:FuncData}{ft:Addr}{fd_ends_of:FuncData}{dq:Addr}{fd_has_pairs:FuncData}{cE:Addr}{fd_kept_upward:FuncData}{rW:Addr}{fd_cut:FuncData}{gX:Addr}{fd_spoken:FuncData}{dr:Addr}{fd_talk_deep:FuncData}{cG:Addr}{fd_talk_leaves:FuncData}{cV:Addr}{fd_parts_pair:FuncData}{j7:Addr}{fd_fault:FuncData}{fg:Addr}{fd_lets_by:FuncData}{c7:Addr}{od_talk_of an_talk_of:Option Addr}{sl_talk_of:Array (Option Value)}{oc_talk_of kV_talk_of dc_talk_of pm_talk_of cd_talk_of ct_talk_of:Value}{dj:Addr}{fd_led_leaf:FuncData}{dk:Addr}{fd_led_join:FuncData}{cU:Addr}{fd_words_with:FuncData}{fc:Addr}{fd_greater:FuncData}{fw:Addr}{fd_smaller:FuncData}{du:Addr}{fd_saying_of:FuncData}{eO:Addr}{fd_joined:FuncData}{gI:Addr}{fd_by_yes:FuncData}{jV:Addr}{fd_by_no:FuncData}{cH:Addr}{fd_is_the_word:FuncData}{bJ:Addr}{fd_is_another_word:FuncData}{cw:Addr}{fd_swapped_case:FuncData}{jW:Addr}{fd_l_pen:FuncData}{hJ:Addr}{fd_l_draw:FuncData}{gT:Addr}{fd_l_word:FuncData}{c8:Addr}{fd_l_grown:FuncData}{dZ:Addr}{fd_l_saying:FuncData}{gD:Addr}{fd_l_case:FuncData}{eX:Addr}{fd_l_table:FuncData}{cP:Addr}{fd_l_by_words:FuncData}{cF:Addr}{fd_l_led_right:FuncData}{cW:Addr}{fd_l_together:FuncData}{di:Addr}{fd_l_swapped:FuncData}{fE:Addr}{fd_l_fewer:FuncData}{mq:Addr}{od_law an_law:Option Addr}{sl_law:Array (Option Value)}{oc_law kV_law dc_law pm_law cd_law ct_law:Value}{fM:Tok}{cT:Addr}{ep_OTHER_JOIN:Nat}{u_OTHER_JOIN_0 v_OTHER_JOIN_0 u_OTHER_JOIN_1 v_OTHER_JOIN_1:Tok}{cr:Addr}{ep_JOIN_OF_HAND:Nat}{u_JOIN_OF_HAND_0 v_JOIN_OF_HAND_0 u_JOIN_OF_HAND_1 v_JOIN_OF_HAND_1:Tok}{cc_tree_deep pp_tree_deep:Addr}{ko_tree_deep:Value}{kd_tree_deep:Option Addr}{kf_tree_deep:Array Value}{ks_tree_deep:Array (Option Value)}{cc_value pp_value:Addr}{ko_value:Value}{kd_value:Option Addr}{kf_value:Array Value}{ks_value:Array (Option Value)}{cc_against pp_against:Addr}{ko_against:Value}{kd_against:Option Addr}{kf_against:Array Value}{ks_against:Array (Option Value)}{cc_talk_of pp_talk_of:Addr}{ko_talk_of:Value}{kd_talk_of:Option Addr}{kf_talk_of:Array Value}{ks_talk_of:Array (Option Value)}(jg:bP K "upward" rJ hV fd_upward)(jC:bP K "folded" sR dh fd_folded)(kZ:W.nsIn K mainGlobals "tree_deep"=some (some (.ref ci)))(im:K.lookup ci=some ⟨oc_tree_deep,od_tree_deep,.func (W.fnOf "tree_deep" "tree_deep" (defArgs cO) (defBody cO) (defScope cO) .none kV_tree_deep dc_tree_deep pm_tree_deep an_tree_deep cd_tree_deep ct_tree_deep),sl_tree_deep⟩)(eD:W.codeIn K cd_tree_deep "tree_deep"=true)(ip:W.keepIn K (.ref ci)=true)(c5:bP K "tree_leaves" fG cJ fd_tree_leaves)(fh:bP K "is_whole" mP d7 fd_is_whole)(i7:bP K "is_bit" tj gC fd_is_bit)(dC:bP K "are_places" jG cQ fd_are_places)(gv:bP K "is_word" lS fu fd_is_word)(eB:bP K "is_rising" ie dz fd_is_rising)(eE:bP K "all_words" ik dv fd_all_words)(wS:W.nsIn K mainGlobals "value"=some (some (.ref fI)))(qN:K.lookup fI=some ⟨oc_value,od_value,.func (W.fnOf "value" "value" (defArgs iC) (defBody iC) (defScope iC) .none kV_value dc_value pm_value an_value cd_value ct_value),sl_value⟩)(lN:W.codeIn K cd_value "value"=true)(qB:W.keepIn K (.ref fI)=true)(oM:bP K "deep" zZ ni fd_deep)(jr:bP K "leaves" qS g7 fd_leaves)(fy:bP K "table_by" jE d8 fd_table_by)(oP:W.nsIn K mainGlobals "against"=some (some (.ref da)))(lZ:K.lookup da=some ⟨oc_against,od_against,.func (W.fnOf "against" "against" (defArgs eF) (defBody eF) (defScope eF) .none kV_against dc_against pm_against an_against cd_against ct_against),sl_against⟩)(gw:W.codeIn K cd_against "against"=true)(lL:W.keepIn K (.ref da)=true)(jv:bP K "missed" sV gR fd_missed)(lK:bP K "parts" wf iD fd_parts)(ek:bP K "places_of" lp dg fd_places_of)(fi:bP K "value_at" mY dY fd_value_at)(gh:bP K "case_of" lE fm fd_case_of)(ck:bP K "words_in_order" cN bR fd_words_in_order)(gu:bP K "case_by" jf d9 fd_case_by)(fj:bP K "pairs_in" ka d6 fd_pairs_in)(gc:bP K "went_on" jy fC fd_went_on)(gz:bP K "ends_of" pk ft fd_ends_of)(eC:bP K "has_pairs" kQ dq fd_has_pairs)(c6:bP K "kept_upward" iK cE fd_kept_upward)(u7:bP K "cut" Ht rW fd_cut)(ju:bP K "spoken" rG gX fd_spoken)(er:bP K "talk_deep" lb dr fd_talk_deep)(cZ:bP K "talk_leaves" iO cG fd_talk_leaves)(dG:bP K "parts_pair" jN cV fd_parts_pair)(lM:bP K "fault" wM j7 fd_fault)(gl:bP K "lets_by" oE fg fd_lets_by)(pM:W.nsIn K mainGlobals "talk_of"=some (some (.ref c7)))(lD:K.lookup c7=some ⟨oc_talk_of,od_talk_of,.func (W.fnOf "talk_of" "talk_of" (defArgs ei) (defBody ei) (defScope ei) .none kV_talk_of dc_talk_of pm_talk_of an_talk_of cd_talk_of ct_talk_of),sl_talk_of⟩)(gp:W.codeIn K cd_talk_of "talk_of"=true)(lJ:W.keepIn K (.ref c7)=true)(fx:bP K "led_leaf" gJ dj fd_led_leaf)(fF:bP K "led_join" ng dk fd_led_join)(dF:bP K "words_with" f9 cU fd_words_with)(gq:bP K "greater" lR fc fd_greater)(gx:bP K "smaller" lY fw fd_smaller)(eh:bP K "saying_of" ix du fd_saying_of)(jp:bP K "joined" qU eO fd_joined)(jA:bP K "by_yes" nz gI fd_by_yes)(l7:bP K "by_no" qM jV fd_by_no)(db:bP K "is_the_word" fH cH fd_is_the_word)(ca:bP K "is_another_word" df bJ fd_is_another_word)(cL:bP K "swapped_case" gF cw fd_swapped_case)(l5:bP K "_law_pen" xq jW fd_l_pen)(jb:bP K "_law_draw" sP hJ fd_l_draw)(je:bP K "_law_word" nI gT fd_l_word)(gf:bP K "_law_grown" pf c8 fd_l_grown)(eY:bP K "_law_saying" mT dZ fd_l_saying)(iY:bP K "_law_case" rh gD fd_l_case)(gb:bP K "_law_table" lF eX fd_l_table)(dE:bP K "_law_by_words" f8 cP fd_l_by_words)(c9:bP K "_law_led_right" iU cF fd_l_led_right)(dB:bP K "_law_together" jO cW fd_l_together)(eG:bP K "_law_swapped" kW di fd_l_swapped)(gg:bP K "_law_fewer" pr fE fd_l_fewer)(HK:W.nsIn K mainGlobals "law"=some (some (.ref mq)))(HM:K.lookup mq=some ⟨oc_law,od_law,.func (W.fnOf "law" "law" (defArgs uE) (defBody uE) (defScope uE) .none kV_law dc_law pm_law an_law cd_law ct_law),sl_law⟩)(Gk:W.codeIn K cd_law "law"=true)(BB:W.keepIn K (.ref mq)=true)(iX:W.nsIn K mainGlobals "MOST_PLACES"=some (some (.int 5 fM)))(jY:W.nsIn K mainGlobals "OTHER_JOIN"=some (some (.ref cT)))(jM:K.lookup cT=some { cls:=.type "dict",data:=.dict #[⟨PyData.keyHash w.params "and",.str "and" u_OTHER_JOIN_0,.str "or" v_OTHER_JOIN_0⟩,⟨PyData.keyHash w.params "or",.str "or" u_OTHER_JOIN_1,.str "and" v_OTHER_JOIN_1⟩] ep_OTHER_JOIN })(gQ:W.nsIn K mainGlobals "JOIN_OF_HAND"=some (some (.ref cr)))(h8:K.lookup cr=some { cls:=.type "dict",data:=.dict #[⟨PyData.keyHash w.params "yes",.str "yes" u_JOIN_OF_HAND_0,.str "or" v_JOIN_OF_HAND_0⟩,⟨PyData.keyHash w.params "no",.str "no" u_JOIN_OF_HAND_1,.str "and" v_JOIN_OF_HAND_1⟩] ep_JOIN_OF_HAND })(li:cd_tree_deep=.ref cc_tree_deep)(pY:K.lookup cc_tree_deep=some ⟨ko_tree_deep,kd_tree_deep,.fields kf_tree_deep,ks_tree_deep⟩)(p7:kf_tree_deep[11]?=some (.ref pp_tree_deep))(kP:(km K).contains ("tree_deep",cc_tree_deep,pp_tree_deep)=true)(kz:wK K cc_tree_deep pp_tree_deep=true)(wI:cd_value=.ref cc_value)(BE:K.lookup cc_value=some ⟨ko_value,kd_value,.fields kf_value,ks_value⟩)(CJ:kf_value[11]?=some (.ref pp_value))(w6:(km K).contains ("value",cc_value,pp_value)=true)(xj:wK K cc_value pp_value=true)(pd:cd_against=.ref cc_against)(vf:K.lookup cc_against=some ⟨ko_against,kd_against,.fields kf_against,ks_against⟩)(uC:kf_against[11]?=some (.ref pp_against))(pC:(km K).contains ("against",cc_against,pp_against)=true)(o7:wK K cc_against pp_against=true)(pi:cd_talk_of=.ref cc_talk_of)(uN:K.lookup cc_talk_of=some ⟨ko_talk_of,kd_talk_of,.fields kf_talk_of,ks_talk_of⟩)(vq:kf_talk_of[11]?=some (.ref pp_talk_of))(pw:(km K).contains ("talk_of",cc_talk_of,pp_talk_of)=true)(pJ:wK K cc_talk_of pp_talk_of=true)(EL:W.nsIn K mainGlobals "abs"=some none)(EX:W.nsIn K mainGlobals "all"=some none)(E4:W.nsIn K mainGlobals "any"=some none)(As:W.nsIn K mainGlobals "bool"=some none)(kF:W.nsIn K mainGlobals "enumerate"=some none)(G7:W.nsIn K mainGlobals "int"=some none)(j6:W.nsIn K mainGlobals "isinstance"=some none)(GZ:W.nsIn K mainGlobals "len"=some none)(Aq:W.nsIn K mainGlobals "list"=some none)(FS:W.nsIn K mainGlobals "max"=some none)(Hd:W.nsIn K mainGlobals "min"=some none)(xt:W.nsIn K mainGlobals "range"=some none)(tq:W.nsIn K mainGlobals "sorted"=some none)(Ft:W.nsIn K mainGlobals "sum"=some none)(vA:W.nsIn K mainGlobals "tuple"=some none)(F7:W.nsIn K mainGlobals "zip"=some none):∃t,t.wo=w/\Txt K mg t:=by
 have F_tree_deep:=pj (st:=cO) im eD ip;have F_value:=pj (st:=iC) qN lN qB;have F_against:=pj (st:=eF) lZ gw lL;have F_talk_of:=pj (st:=ei) lD gp lJ;have F_law:=pj (st:=uE) HM Gk BB
 exact⟨⟨hV,_,dh,_,ci,_,cJ,_,d7,_,gC,_,cQ,_,fu,_,dz,_,dv,_,fI,_,ni,_,g7,_,d8,_,da,_,gR,_,iD,_,dg,_,dY,_,fm,_,bR,_,d9,_,d6,_,fC,_,ft,_,dq,_,cE,_,rW,_,gX,_,dr,_,cG,_,cV,_,j7,_,fg,_,c7,_,dj,_,dk,_,cU,_,fc,_,fw,_,du,_,eO,_,gI,_,jV,_,cH,_,bJ,_,cw,_,jW,_,hJ,_,gT,_,c8,_,dZ,_,gD,_,eX,_,cP,_,cF,_,cW,_,di,_,fE,_,mq,_,w,cT,cr,fM,cc_tree_deep,pp_tree_deep,cc_value,pp_value,cc_against,pp_against,cc_talk_of,pp_talk_of⟩,rfl,⟨W.mg_of X G jg.g,jg.f,jg.e,jg.f.OG fun _ _ _ _ _ _ _ _=>rfl,
  W.mg_of X G jC.g,jC.f,jC.e,jC.f.OS fun _ _ _ _ _ _ _ _ _ _=>rfl,
  W.mg_of X G kZ,F_tree_deep,ip,F_tree_deep.OG (p0:="tree") (p1:="leaf") fun _ _ _ _ _ _ _ _=>rfl,
  W.mg_of X G c5.g,c5.f,c5.e,c5.f.OG fun _ _ _ _ _ _ _ _=>rfl,
  W.mg_of X G fh.g,fh.f,fh.e,fh.f.OI fun _ _ _ _ _ _ _=>rfl,
  W.mg_of X G i7.g,i7.f,i7.e,i7.f.OI fun _ _ _ _ _ _ _=>rfl,
  W.mg_of X G dC.g,dC.f,dC.e,dC.f.OI fun _ _ _ _ _ _ _=>rfl,
  W.mg_of X G gv.g,gv.f,gv.e,gv.f.OG fun _ _ _ _ _ _ _ _=>rfl,
  W.mg_of X G eB.g,eB.f,eB.e,eB.f.OI fun _ _ _ _ _ _ _=>rfl,
  W.mg_of X G eE.g,eE.f,eE.e,eE.f.OI fun _ _ _ _ _ _ _=>rfl,
  W.mg_of X G wS,F_value,qB,F_value.OG (p0:="saying") (p1:="word") fun _ _ _ _ _ _ _ _=>rfl,
  W.mg_of X G oM.g,oM.f,oM.e,oM.f.OI fun _ _ _ _ _ _ _=>rfl,
  W.mg_of X G jr.g,jr.f,jr.e,jr.f.OI fun _ _ _ _ _ _ _=>rfl,
  W.mg_of X G fy.g,fy.f,fy.e,fy.f.OG fun _ _ _ _ _ _ _ _=>rfl,
  W.mg_of X G oP,F_against,lL,F_against.OI (p0:="saying") fun _ _ _ _ _ _ _=>rfl,
  W.mg_of X G jv.g,jv.f,jv.e,jv.f.OG fun _ _ _ _ _ _ _ _=>rfl,
  W.mg_of X G lK.g,lK.f,lK.e,lK.f.OG fun _ _ _ _ _ _ _ _=>rfl,
  W.mg_of X G ek.g,ek.f,ek.e,ek.f.OI fun _ _ _ _ _ _ _=>rfl,
  W.mg_of X G fi.g,fi.f,fi.e,fi.f.OG fun _ _ _ _ _ _ _ _=>rfl,
  W.mg_of X G gh.g,gh.f,gh.e,gh.f.OK fun _ _ _ _ _ _ _ _ _=>rfl,
  W.mg_of X G ck.g,ck.f,ck.e,ck.f.OG fun _ _ _ _ _ _ _ _=>rfl,
  W.mg_of X G gu.g,gu.f,gu.e,gu.f.OI fun _ _ _ _ _ _ _=>rfl,
  W.mg_of X G fj.g,fj.f,fj.e,fj.f.OI fun _ _ _ _ _ _ _=>rfl,
  W.mg_of X G gc.g,gc.f,gc.e,gc.f.OK fun _ _ _ _ _ _ _ _ _=>rfl,
  W.mg_of X G gz.g,gz.f,gz.e,gz.f.OG fun _ _ _ _ _ _ _ _=>rfl,
  W.mg_of X G eC.g,eC.f,eC.e,eC.f.OI fun _ _ _ _ _ _ _=>rfl,
  W.mg_of X G c6.g,c6.f,c6.e,c6.f.OG fun _ _ _ _ _ _ _ _=>rfl,
  W.mg_of X G u7.g,u7.f,u7.e,u7.f.OG fun _ _ _ _ _ _ _ _=>rfl,
  W.mg_of X G ju.g,ju.f,ju.e,ju.f.OK fun _ _ _ _ _ _ _ _ _=>rfl,
  W.mg_of X G er.g,er.f,er.e,er.f.OI fun _ _ _ _ _ _ _=>rfl,
  W.mg_of X G cZ.g,cZ.f,cZ.e,cZ.f.OI fun _ _ _ _ _ _ _=>rfl,
  W.mg_of X G dG.g,dG.f,dG.e,dG.f.OS fun _ _ _ _ _ _ _ _ _ _=>rfl,
  W.mg_of X G lM.g,lM.f,lM.e,lM.f.OK fun _ _ _ _ _ _ _ _ _=>rfl,
  W.mg_of X G gl.g,gl.f,gl.e,gl.f.OK fun _ _ _ _ _ _ _ _ _=>rfl,
  W.mg_of X G pM,F_talk_of,lJ,F_talk_of.OG (p0:="case") (p1:="saying") fun _ _ _ _ _ _ _ _=>rfl,
  W.mg_of X G fx.g,fx.f,fx.e,fx.f.OG fun _ _ _ _ _ _ _ _=>rfl,
  W.mg_of X G fF.g,fF.f,fF.e,fF.f.OS fun _ _ _ _ _ _ _ _ _ _=>rfl,
  W.mg_of X G dF.g,dF.f,dF.e,dF.f.OK fun _ _ _ _ _ _ _ _ _=>rfl,
  W.mg_of X G gq.g,gq.f,gq.e,gq.f.OG fun _ _ _ _ _ _ _ _=>rfl,
  W.mg_of X G gx.g,gx.f,gx.e,gx.f.OG fun _ _ _ _ _ _ _ _=>rfl,
  W.mg_of X G eh.g,eh.f,eh.e,eh.f.OG fun _ _ _ _ _ _ _ _=>rfl,
  W.mg_of X G jp.g,jp.f,jp.e,jp.f.OG fun _ _ _ _ _ _ _ _=>rfl,
  W.mg_of X G jA.g,jA.f,jA.e,jA.f.OI fun _ _ _ _ _ _ _=>rfl,
  W.mg_of X G l7.g,l7.f,l7.e,l7.f.OI fun _ _ _ _ _ _ _=>rfl,
  W.mg_of X G db.g,db.f,db.e,db.f.OI fun _ _ _ _ _ _ _=>rfl,
  W.mg_of X G ca.g,ca.f,ca.e,ca.f.OI fun _ _ _ _ _ _ _=>rfl,
  W.mg_of X G cL.g,cL.f,cL.e,cL.f.OI fun _ _ _ _ _ _ _=>rfl,
  W.mg_of X G l5.g,l5.f,l5.e,l5.f.OI fun _ _ _ _ _ _ _=>rfl,
  W.mg_of X G jb.g,jb.f,jb.e,jb.f.OG fun _ _ _ _ _ _ _ _=>rfl,
  W.mg_of X G je.g,je.f,je.e,je.f.OG fun _ _ _ _ _ _ _ _=>rfl,
  W.mg_of X G gf.g,gf.f,gf.e,gf.f.O3 fun _ _ _ _ _ _ _ _ _ _ _=>rfl,
  W.mg_of X G eY.g,eY.f,eY.e,eY.f.OK fun _ _ _ _ _ _ _ _ _=>rfl,
  W.mg_of X G iY.g,iY.f,iY.e,iY.f.OG fun _ _ _ _ _ _ _ _=>rfl,
  W.mg_of X G gb.g,gb.f,gb.e,gb.f.OG fun _ _ _ _ _ _ _ _=>rfl,
  W.mg_of X G dE.g,dE.f,dE.e,dE.f.OG fun _ _ _ _ _ _ _ _=>rfl,
  W.mg_of X G c9.g,c9.f,c9.e,c9.f.OG fun _ _ _ _ _ _ _ _=>rfl,
  W.mg_of X G dB.g,dB.f,dB.e,dB.f.OK fun _ _ _ _ _ _ _ _ _=>rfl,
  W.mg_of X G eG.g,eG.f,eG.e,eG.f.OG fun _ _ _ _ _ _ _ _=>rfl,
  W.mg_of X G gg.g,gg.f,gg.e,gg.f.OG fun _ _ _ _ _ _ _ _=>rfl,
  W.mg_of X G HK,F_law,BB,F_law.OI (p0:="_law_script") fun _ _ _ _ _ _ _=>rfl,
  fun s v=>.of_eq rfl,
  W.mg_none_of X G EL,
  W.mg_none_of X G EX,
  W.mg_none_of X G E4,
  W.mg_none_of X G As,
  W.mg_none_of X G kF,
  W.mg_none_of X G G7,
  W.mg_none_of X G j6,
  W.mg_none_of X G GZ,
  W.mg_none_of X G Aq,
  W.mg_none_of X G FS,
  W.mg_none_of X G Hd,
  W.mg_none_of X G xt,
  W.mg_none_of X G tq,
  W.mg_none_of X G Ft,
  W.mg_none_of X G vA,
  W.mg_none_of X G F7,
  W.mg_of X G iX,
  W.mg_of X G jY,
  ⟨_,_,ep_OTHER_JOIN,jM,⟨rfl,rfl,rfl⟩,rfl,(.cons ⟨rfl,⟨_,rfl⟩,⟨_,rfl⟩⟩ (.cons ⟨rfl,⟨_,rfl⟩,⟨_,rfl⟩⟩ PySem.Paired.nil))⟩,
  W.mg_of X G gQ,
  ⟨_,_,ep_JOIN_OF_HAND,h8,⟨rfl,rfl,rfl⟩,rfl,(.cons ⟨rfl,⟨_,rfl⟩,⟨_,rfl⟩⟩ (.cons ⟨rfl,⟨_,rfl⟩,⟨_,rfl⟩⟩ PySem.Paired.nil))⟩,
  qC (st:=cO) im eD li kP kz,
  qC (st:=iC) qN lN wI w6 xj,
  qC (st:=eF) lZ gw pd pC o7,
  qC (st:=ei) lD gp pi pw pJ⟩⟩
noncomputable def inCls(s:PySem.Stmt)(j:Nat):PySem.Stmt:=match s with
 |.ClassDef _ _ _ b _ _ _ _ _ _ _=>b.getD j (.Pass ⟨0,0,0,0⟩)
 |_=>s
noncomputable abbrev oT(x:Array Value):Obj:=⟨.type "tuple",.none,.seq x 0,#[]⟩
noncomputable abbrev oF(n:Str)(i:Nat)(s:Str)(k:Tok)(c:Addr):Obj:=⟨.type "function",.none,.func (W.fnOf n n (defArgs (top i)) (defBody (top i)) (defScope (top i)) .none .none .none (.str s k) .none (.ref c) .none),#[]⟩
noncomputable abbrev oC(n:Str)(a b c:Tok)(l k:Int)(r:Addr)(e:Int)(u:Addr)(v w:Value)(x:Addr)(y:Int)(d:Tok):Obj:=⟨.type "code",.none,.fields #[.str n a,.str n b,.str "/claim/cut.py" c,.int l 0,.int k 0,.int 0 0,.int 0 0,.int 3 0,.ref r,.bool true,.int e 0,.ref u,.none,v,w,.ref x,.int y 0,.int l 0,.str "/claim/cut.py" d],#[]⟩
noncomputable def KK:PySem.Params->PySem.W.Frag:=fun P=>
 (nat_lit 2,⟨.none,.none,.dict #[] 0,#[]⟩)::
 (nat_lit 3,⟨.type "dict",.none,.dict #[⟨PyData.keyHash P "__name__",.str "__name__" 165,.str "law_unlikeplace_k13_whole_sayings_and_their" 668⟩,⟨PyData.keyHash P "__doc__",.str "__doc__" 166,.none⟩,⟨PyData.keyHash P "__package__",.str "__package__" 167,.none⟩,⟨PyData.keyHash P "__loader__",.str "__loader__" 168,.builtin "__main__.__loader__#opaque"⟩,⟨PyData.keyHash P "__spec__",.str "__spec__" 169,.none⟩,⟨PyData.keyHash P "__annotations__",.str "__annotations__" 170,.ref 6⟩,⟨PyData.keyHash P "__builtins__",.str "__builtins__" 171,.ref 4⟩,⟨PyData.keyHash P "__file__",.str "__file__" 173,.str "/claim/cut.py" 172⟩,⟨PyData.keyHash P "__cached__",.str "__cached__" 174,.none⟩,⟨PyData.keyHash P "upward",.str "upward" 199,.ref 21⟩,⟨PyData.keyHash P "folded",.str "folded" 213,.ref 28⟩,⟨PyData.keyHash P "tree_deep",.str "tree_deep" 221,.ref 35⟩,⟨PyData.keyHash P "tree_leaves",.str "tree_leaves" 227,.ref 40⟩,⟨PyData.keyHash P "MOST_PLACES",.str "MOST_PLACES" 231,.int 5 230⟩,⟨PyData.keyHash P "is_whole",.str "is_whole" 238,.ref 47⟩,⟨PyData.keyHash P "is_bit",.str "is_bit" 245,.ref 54⟩,⟨PyData.keyHash P "are_places",.str "are_places" 252,.ref 61⟩,⟨PyData.keyHash P "is_word",.str "is_word" 258,.ref 66⟩,⟨PyData.keyHash P "is_rising",.str "is_rising" 264,.ref 71⟩,⟨PyData.keyHash P "all_words",.str "all_words" 270,.ref 76⟩,⟨PyData.keyHash P "OTHER_JOIN",.str "OTHER_JOIN" 279,.ref 77⟩,⟨PyData.keyHash P "value",.str "value" 288,.ref 84⟩,⟨PyData.keyHash P "deep",.str "deep" 295,.ref 91⟩,⟨PyData.keyHash P "leaves",.str "leaves" 302,.ref 98⟩,⟨PyData.keyHash P "table_by",.str "table_by" 308,.ref 103⟩,⟨PyData.keyHash P "against",.str "against" 315,.ref 110⟩,⟨PyData.keyHash P "missed",.str "missed" 324,.ref 117⟩,⟨PyData.keyHash P "parts",.str "parts" 332,.ref 124⟩,⟨PyData.keyHash P "TalkError",.str "TalkError" 352,.ref 134⟩,⟨PyData.keyHash P "NoCase",.str "NoCase" 368,.ref 147⟩,⟨PyData.keyHash P "NoSaying",.str "NoSaying" 384,.ref 159⟩,⟨PyData.keyHash P "NoTalk",.str "NoTalk" 400,.ref 171⟩,⟨PyData.keyHash P "places_of",.str "places_of" 409,.ref 180⟩,⟨PyData.keyHash P "value_at",.str "value_at" 419,.ref 187⟩,⟨PyData.keyHash P "case_of",.str "case_of" 427,.ref 192⟩,⟨PyData.keyHash P "words_in_order",.str "words_in_order" 433,.ref 197⟩,⟨PyData.keyHash P "case_by",.str "case_by" 439,.ref 202⟩,⟨PyData.keyHash P "pairs_in",.str "pairs_in" 445,.ref 207⟩,⟨PyData.keyHash P "went_on",.str "went_on" 453,.ref 212⟩,⟨PyData.keyHash P "ends_of",.str "ends_of" 469,.ref 219⟩,⟨PyData.keyHash P "has_pairs",.str "has_pairs" 476,.ref 226⟩,⟨PyData.keyHash P "kept_upward",.str "kept_upward" 491,.ref 233⟩,⟨PyData.keyHash P "cut",.str "cut" 503,.ref 240⟩,⟨PyData.keyHash P "spoken",.str "spoken" 518,.ref 247⟩,⟨PyData.keyHash P "talk_deep",.str "talk_deep" 525,.ref 254⟩,⟨PyData.keyHash P "talk_leaves",.str "talk_leaves" 532,.ref 261⟩,⟨PyData.keyHash P "parts_pair",.str "parts_pair" 542,.ref 268⟩,⟨PyData.keyHash P "fault",.str "fault" 554,.ref 275⟩,⟨PyData.keyHash P "lets_by",.str "lets_by" 563,.ref 282⟩,⟨PyData.keyHash P "JOIN_OF_HAND",.str "JOIN_OF_HAND" 572,.ref 283⟩,⟨PyData.keyHash P "talk_of",.str "talk_of" 582,.ref 290⟩,⟨PyData.keyHash P "led_leaf",.str "led_leaf" 588,.ref 295⟩,⟨PyData.keyHash P "led_join",.str "led_join" 599,.ref 302⟩,⟨PyData.keyHash P "words_with",.str "words_with" 605,.ref 307⟩,⟨PyData.keyHash P "greater",.str "greater" 611,.ref 312⟩,⟨PyData.keyHash P "smaller",.str "smaller" 617,.ref 317⟩,⟨PyData.keyHash P "saying_of",.str "saying_of" 623,.ref 322⟩,⟨PyData.keyHash P "joined",.str "joined" 634,.ref 329⟩,⟨PyData.keyHash P "by_yes",.str "by_yes" 640,.ref 334⟩,⟨PyData.keyHash P "by_no",.str "by_no" 646,.ref 339⟩,⟨PyData.keyHash P "is_the_word",.str "is_the_word" 652,.ref 344⟩,⟨PyData.keyHash P "is_another_word",.str "is_another_word" 658,.ref 349⟩,⟨PyData.keyHash P "swapped_case",.str "swapped_case" 667,.ref 356⟩,⟨PyData.keyHash P "_law_pen",.str "_law_pen" 676,.ref 363⟩,⟨PyData.keyHash P "_law_draw",.str "_law_draw" 689,.ref 370⟩,⟨PyData.keyHash P "_law_word",.str "_law_word" 695,.ref 375⟩,⟨PyData.keyHash P "_law_grown",.str "_law_grown" 711,.ref 382⟩,⟨PyData.keyHash P "_law_saying",.str "_law_saying" 721,.ref 389⟩,⟨PyData.keyHash P "_law_case",.str "_law_case" 734,.ref 396⟩,⟨PyData.keyHash P "_law_table",.str "_law_table" 740,.ref 401⟩,⟨PyData.keyHash P "_law_by_words",.str "_law_by_words" 746,.ref 406⟩,⟨PyData.keyHash P "_law_led_right",.str "_law_led_right" 756,.ref 413⟩,⟨PyData.keyHash P "_law_together",.str "_law_together" 772,.ref 420⟩,⟨PyData.keyHash P "_law_swapped",.str "_law_swapped" 783,.ref 427⟩,⟨PyData.keyHash P "_law_fewer",.str "_law_fewer" 796,.ref 434⟩,⟨PyData.keyHash P "law",.str "law" 811,.ref 441⟩] 76,#[]⟩)::
 (nat_lit 15,oT #[])::
 (nat_lit 17,oT #[.str "tree" 192,.str "leaf" 193,.str "waiting" 194,.str "downward" 195,.str "part" 196])::
 (nat_lit 18,oT #[])::
 (nat_lit 20,oC "upward" 189 190 191 2 2 15 181 16 (.ref 17) (.ref 18) 19 197 198)::
 (nat_lit 21,oF "upward" 1 "unlikeplace.trees" 187 20)::
 (nat_lit 22,oT #[])::
 (nat_lit 24,oT #[.str "tree" 203,.str "leaf" 204,.str "of_leaf" 205,.str "of_fork" 206,.str "done" 207,.str "part" 208,.str "second" 209,.str "first" 210])::
 (nat_lit 25,oT #[])::
 (nat_lit 27,oC "folded" 200 201 202 12 4 22 181 23 (.ref 24) (.ref 25) 26 211 212)::
 (nat_lit 28,oF "folded" 2 "unlikeplace.trees" 187 27)::
 (nat_lit 29,oT #[])::
 (nat_lit 31,oT #[.str "tree" 217,.str "leaf" 218])::
 (nat_lit 32,oT #[])::
 (nat_lit 34,oC "tree_deep" 214 215 216 22 2 29 181 30 (.ref 31) (.ref 32) 33 219 220)::
 (nat_lit 35,oF "tree_deep" 3 "unlikeplace.trees" 187 34)::
 (nat_lit 36,oT #[])::
 (nat_lit 39,oC "tree_leaves" 222 223 224 24 2 36 181 37 .none .none 38 225 226)::
 (nat_lit 40,oF "tree_leaves" 4 "unlikeplace.trees" 187 39)::
 (nat_lit 41,oT #[])::
 (nat_lit 43,oT #[.str "thing" 235])::
 (nat_lit 44,oT #[])::
 (nat_lit 46,oC "is_whole" 232 233 234 28 1 41 181 42 (.ref 43) (.ref 44) 45 236 237)::
 (nat_lit 47,oF "is_whole" 7 "unlikeplace.words" 228 46)::
 (nat_lit 48,oT #[])::
 (nat_lit 50,oT #[.str "thing" 242])::
 (nat_lit 51,oT #[])::
 (nat_lit 53,oC "is_bit" 239 240 241 30 1 48 181 49 (.ref 50) (.ref 51) 52 243 244)::
 (nat_lit 54,oF "is_bit" 8 "unlikeplace.words" 228 53)::
 (nat_lit 55,oT #[])::
 (nat_lit 57,oT #[.str "thing" 249])::
 (nat_lit 58,oT #[])::
 (nat_lit 60,oC "are_places" 246 247 248 32 1 55 181 56 (.ref 57) (.ref 58) 59 250 251)::
 (nat_lit 61,oF "are_places" 9 "unlikeplace.words" 228 60)::
 (nat_lit 62,oT #[])::
 (nat_lit 65,oC "is_word" 253 254 255 34 2 62 181 63 .none .none 64 256 257)::
 (nat_lit 66,oF "is_word" 10 "unlikeplace.words" 228 65)::
 (nat_lit 67,oT #[])::
 (nat_lit 70,oC "is_rising" 259 260 261 38 1 67 181 68 .none .none 69 262 263)::
 (nat_lit 71,oF "is_rising" 11 "unlikeplace.words" 228 70)::
 (nat_lit 72,oT #[])::
 (nat_lit 75,oC "all_words" 265 266 267 40 1 72 181 73 .none .none 74 268 269)::
 (nat_lit 76,oF "all_words" 12 "unlikeplace.words" 228 75)::
 (nat_lit 77,⟨.type "dict",.none,.dict #[⟨PyData.keyHash P "and",.str "and" 273,.str "or" 274⟩,⟨PyData.keyHash P "or",.str "or" 275,.str "and" 276⟩] 2,#[]⟩)::
 (nat_lit 78,oT #[])::
 (nat_lit 80,oT #[.str "saying" 283,.str "word" 284])::
 (nat_lit 81,oT #[.str "word" 285])::
 (nat_lit 83,oC "value" 280 281 282 47 2 78 181 79 (.ref 80) (.ref 81) 82 286 287)::
 (nat_lit 84,oF "value" 15 "unlikeplace.sayings" 271 83)::
 (nat_lit 85,oT #[])::
 (nat_lit 87,oT #[.str "saying" 292])::
 (nat_lit 88,oT #[])::
 (nat_lit 90,oC "deep" 289 290 291 49 1 85 181 86 (.ref 87) (.ref 88) 89 293 294)::
 (nat_lit 91,oF "deep" 16 "unlikeplace.sayings" 271 90)::
 (nat_lit 92,oT #[])::
 (nat_lit 94,oT #[.str "saying" 299])::
 (nat_lit 95,oT #[])::
 (nat_lit 97,oC "leaves" 296 297 298 51 1 92 181 93 (.ref 94) (.ref 95) 96 300 301)::
 (nat_lit 98,oF "leaves" 17 "unlikeplace.sayings" 271 97)::
 (nat_lit 99,oT #[])::
 (nat_lit 102,oC "table_by" 303 304 305 53 2 99 181 100 .none .none 101 306 307)::
 (nat_lit 103,oF "table_by" 18 "unlikeplace.sayings" 271 102)::
 (nat_lit 104,oT #[])::
 (nat_lit 106,oT #[.str "saying" 312])::
 (nat_lit 107,oT #[])::
 (nat_lit 109,oC "against" 309 310 311 55 1 104 181 105 (.ref 106) (.ref 107) 108 313 314)::
 (nat_lit 110,oF "against" 19 "unlikeplace.sayings" 271 109)::
 (nat_lit 111,oT #[])::
 (nat_lit 113,oT #[.str "case" 319,.str "saying" 320,.str "word" 321])::
 (nat_lit 114,oT #[])::
 (nat_lit 116,oC "missed" 316 317 318 57 2 111 181 112 (.ref 113) (.ref 114) 115 322 323)::
 (nat_lit 117,oF "missed" 20 "unlikeplace.sayings" 271 116)::
 (nat_lit 118,oT #[])::
 (nat_lit 120,oT #[.str "case" 328,.str "saying" 329])::
 (nat_lit 121,oT #[])::
 (nat_lit 123,oC "parts" 325 326 327 65 2 118 181 119 (.ref 120) (.ref 121) 122 330 331)::
 (nat_lit 124,oF "parts" 21 "unlikeplace.sayings" 271 123)::
 (nat_lit 125,oT #[.type "ValueError"])::
 (nat_lit 132,oT #[])::
 (nat_lit 133,⟨.type "dict",.none,.dict #[⟨PyData.keyHash P "__module__",.str "__module__" 342,.str "unlikeplace.errors" 333⟩,⟨PyData.keyHash P "__firstlineno__",.str "__firstlineno__" 346,.int 68 345⟩,⟨PyData.keyHash P "__static_attributes__",.str "__static_attributes__" 347,.ref 132⟩,⟨PyData.keyHash P "__weakref__",.str "__weakref__" 349,.ref 135⟩,⟨PyData.keyHash P "__doc__",.str "__doc__" 350,.none⟩] 3,#[]⟩)::
 (nat_lit 134,⟨.type "type",.none,.cls ⟨"TalkError",[.type "ValueError"],[.ref 134,.type "ValueError",.type "Exception",.type "BaseException",.type "object"],133,"TalkError",true,[],[.ref 147,.ref 159,.ref 171],false,.none,false⟩,#[(.some (.ref 125)),.none,(.some (.str "TalkError" 335)),(.some (.str "TalkError" 343)),(.some (.builtin "ValueError.__new__")),(.some (.bool true))]⟩)::
 (nat_lit 135,⟨.type "getset_descriptor",.none,.fields #[.str "__weakref__" 348,.ref 134,.builtin "ExceptionGroup.__weakref__",.none],#[]⟩)::
 (nat_lit 138,oT #[.ref 134])::
 (nat_lit 145,oT #[])::
 (nat_lit 146,⟨.type "dict",.none,.dict #[⟨PyData.keyHash P "__module__",.str "__module__" 360,.str "unlikeplace.errors" 333⟩,⟨PyData.keyHash P "__firstlineno__",.str "__firstlineno__" 364,.int 70 363⟩,⟨PyData.keyHash P "__static_attributes__",.str "__static_attributes__" 365,.ref 145⟩,⟨PyData.keyHash P "__doc__",.str "__doc__" 366,.none⟩] 2,#[]⟩)::
 (nat_lit 147,⟨.type "type",.none,.cls ⟨"NoCase",[.ref 134],[.ref 147,.ref 134,.type "ValueError",.type "Exception",.type "BaseException",.type "object"],146,"NoCase",true,[],[],false,.none,false⟩,#[(.some (.ref 138)),.none,(.some (.str "NoCase" 353)),(.some (.str "NoCase" 361)),(.some (.builtin "ValueError.__new__")),(.some (.bool true))]⟩)::
 (nat_lit 150,oT #[.ref 134])::
 (nat_lit 157,oT #[])::
 (nat_lit 158,⟨.type "dict",.none,.dict #[⟨PyData.keyHash P "__module__",.str "__module__" 376,.str "unlikeplace.errors" 333⟩,⟨PyData.keyHash P "__firstlineno__",.str "__firstlineno__" 380,.int 72 379⟩,⟨PyData.keyHash P "__static_attributes__",.str "__static_attributes__" 381,.ref 157⟩,⟨PyData.keyHash P "__doc__",.str "__doc__" 382,.none⟩] 2,#[]⟩)::
 (nat_lit 159,⟨.type "type",.none,.cls ⟨"NoSaying",[.ref 134],[.ref 159,.ref 134,.type "ValueError",.type "Exception",.type "BaseException",.type "object"],158,"NoSaying",true,[],[],false,.none,false⟩,#[(.some (.ref 150)),.none,(.some (.str "NoSaying" 369)),(.some (.str "NoSaying" 377)),(.some (.builtin "ValueError.__new__")),(.some (.bool true))]⟩)::
 (nat_lit 162,oT #[.ref 134])::
 (nat_lit 169,oT #[])::
 (nat_lit 170,⟨.type "dict",.none,.dict #[⟨PyData.keyHash P "__module__",.str "__module__" 392,.str "unlikeplace.errors" 333⟩,⟨PyData.keyHash P "__firstlineno__",.str "__firstlineno__" 396,.int 74 395⟩,⟨PyData.keyHash P "__static_attributes__",.str "__static_attributes__" 397,.ref 169⟩,⟨PyData.keyHash P "__doc__",.str "__doc__" 398,.none⟩] 2,#[]⟩)::
 (nat_lit 171,⟨.type "type",.none,.cls ⟨"NoTalk",[.ref 134],[.ref 171,.ref 134,.type "ValueError",.type "Exception",.type "BaseException",.type "object"],170,"NoTalk",true,[],[],false,.none,false⟩,#[(.some (.ref 162)),.none,(.some (.str "NoTalk" 385)),(.some (.str "NoTalk" 393)),(.some (.builtin "ValueError.__new__")),(.some (.bool true))]⟩)::
 (nat_lit 174,oT #[])::
 (nat_lit 176,oT #[.str "table" 406])::
 (nat_lit 177,oT #[])::
 (nat_lit 179,oC "places_of" 403 404 405 77 1 174 181 175 (.ref 176) (.ref 177) 178 407 408)::
 (nat_lit 180,oF "places_of" 28 "unlikeplace.tables" 401 179)::
 (nat_lit 181,oT #[])::
 (nat_lit 183,oT #[.str "table" 413,.str "word" 414,.str "at" 415,.str "bit" 416])::
 (nat_lit 184,oT #[])::
 (nat_lit 186,oC "value_at" 410 411 412 79 2 181 181 182 (.ref 183) (.ref 184) 185 417 418)::
 (nat_lit 187,oF "value_at" 29 "unlikeplace.tables" 401 186)::
 (nat_lit 188,oT #[])::
 (nat_lit 191,oC "case_of" 422 423 424 85 3 188 181 189 .none .none 190 425 426)::
 (nat_lit 192,oF "case_of" 31 "unlikeplace.cases" 420 191)::
 (nat_lit 193,oT #[])::
 (nat_lit 196,oC "words_in_order" 428 429 430 93 2 193 181 194 .none .none 195 431 432)::
 (nat_lit 197,oF "words_in_order" 32 "unlikeplace.cases" 420 196)::
 (nat_lit 198,oT #[])::
 (nat_lit 201,oC "case_by" 434 435 436 104 1 198 181 199 .none .none 200 437 438)::
 (nat_lit 202,oF "case_by" 33 "unlikeplace.cases" 420 201)::
 (nat_lit 203,oT #[])::
 (nat_lit 206,oC "pairs_in" 440 441 442 112 1 203 181 204 .none .none 205 443 444)::
 (nat_lit 207,oF "pairs_in" 34 "unlikeplace.cases" 420 206)::
 (nat_lit 208,oT #[])::
 (nat_lit 211,oC "went_on" 448 449 450 115 3 208 181 209 .none .none 210 451 452)::
 (nat_lit 212,oF "went_on" 36 "unlikeplace.ends" 446 211)::
 (nat_lit 213,oT #[])::
 (nat_lit 215,oT #[.str "case" 457,.str "talk" 458,.str "ends" 459,.str "waiting" 460,.str "bits" 461,.str "part" 462,.str "yes" 463,.str "no" 464,.str "at_first" 465,.str "at_second" 466])::
 (nat_lit 216,oT #[])::
 (nat_lit 218,oC "ends_of" 454 455 456 122 2 213 181 214 (.ref 215) (.ref 216) 217 467 468)::
 (nat_lit 219,oF "ends_of" 37 "unlikeplace.ends" 446 218)::
 (nat_lit 220,oT #[])::
 (nat_lit 222,oT #[.str "words" 473])::
 (nat_lit 223,oT #[])::
 (nat_lit 225,oC "has_pairs" 470 471 472 134 1 220 181 221 (.ref 222) (.ref 223) 224 474 475)::
 (nat_lit 226,oF "has_pairs" 38 "unlikeplace.ends" 446 225)::
 (nat_lit 227,oT #[])::
 (nat_lit 229,oT #[.str "case" 480,.str "talk" 481,.str "downward" 482,.str "waiting" 483,.str "part" 484,.str "yes" 485,.str "no" 486,.str "at_first" 487,.str "at_second" 488])::
 (nat_lit 230,oT #[])::
 (nat_lit 232,oC "kept_upward" 477 478 479 136 2 227 181 228 (.ref 229) (.ref 230) 231 489 490)::
 (nat_lit 233,oF "kept_upward" 39 "unlikeplace.ends" 446 232)::
 (nat_lit 234,oT #[])::
 (nat_lit 236,oT #[.str "case" 495,.str "talk" 496,.str "done" 497,.str "part" 498,.str "second" 499,.str "first" 500])::
 (nat_lit 237,oT #[])::
 (nat_lit 239,oC "cut" 492 493 494 154 2 234 181 235 (.ref 236) (.ref 237) 238 501 502)::
 (nat_lit 240,oF "cut" 40 "unlikeplace.ends" 446 239)::
 (nat_lit 241,oT #[])::
 (nat_lit 243,oT #[.str "talk" 509,.str "yes" 510,.str "no" 511,.str "bits" 512,.str "part" 513,.str "own" 514,.str "bit" 515])::
 (nat_lit 244,oT #[])::
 (nat_lit 246,oC "spoken" 506 507 508 165 3 241 181 242 (.ref 243) (.ref 244) 245 516 517)::
 (nat_lit 247,oF "spoken" 42 "unlikeplace.talks" 504 246)::
 (nat_lit 248,oT #[])::
 (nat_lit 250,oT #[.str "talk" 522])::
 (nat_lit 251,oT #[])::
 (nat_lit 253,oC "talk_deep" 519 520 521 174 1 248 181 249 (.ref 250) (.ref 251) 252 523 524)::
 (nat_lit 254,oF "talk_deep" 43 "unlikeplace.talks" 504 253)::
 (nat_lit 255,oT #[])::
 (nat_lit 257,oT #[.str "talk" 529])::
 (nat_lit 258,oT #[])::
 (nat_lit 260,oC "talk_leaves" 526 527 528 176 1 255 181 256 (.ref 257) (.ref 258) 259 530 531)::
 (nat_lit 261,oF "talk_leaves" 44 "unlikeplace.talks" 504 260)::
 (nat_lit 262,oT #[])::
 (nat_lit 264,oT #[.str "rule" 536,.str "place" 537,.str "yes" 538,.str "no" 539])::
 (nat_lit 265,oT #[])::
 (nat_lit 267,oC "parts_pair" 533 534 535 178 4 262 181 263 (.ref 264) (.ref 265) 266 540 541)::
 (nat_lit 268,oF "parts_pair" 45 "unlikeplace.talks" 504 267)::
 (nat_lit 269,oT #[])::
 (nat_lit 271,oT #[.str "case" 546,.str "rule" 547,.str "talk" 548,.str "yes" 549,.str "no" 550,.str "place" 551])::
 (nat_lit 272,oT #[])::
 (nat_lit 274,oC "fault" 543 544 545 182 3 269 181 270 (.ref 271) (.ref 272) 273 552 553)::
 (nat_lit 275,oF "fault" 46 "unlikeplace.talks" 504 274)::
 (nat_lit 276,oT #[])::
 (nat_lit 278,oT #[.str "case" 558,.str "rule" 559,.str "talk" 560])::
 (nat_lit 279,oT #[])::
 (nat_lit 281,oC "lets_by" 555 556 557 188 3 276 181 277 (.ref 278) (.ref 279) 280 561 562)::
 (nat_lit 282,oF "lets_by" 47 "unlikeplace.talks" 504 281)::
 (nat_lit 283,⟨.type "dict",.none,.dict #[⟨PyData.keyHash P "yes",.str "yes" 566,.str "or" 567⟩,⟨PyData.keyHash P "no",.str "no" 568,.str "and" 569⟩] 2,#[]⟩)::
 (nat_lit 284,oT #[])::
 (nat_lit 286,oT #[.str "case" 576,.str "saying" 577,.str "led" 578])::
 (nat_lit 287,oT #[.str "case" 579])::
 (nat_lit 289,oC "talk_of" 573 574 575 192 2 284 181 285 (.ref 286) (.ref 287) 288 580 581)::
 (nat_lit 290,oF "talk_of" 50 "unlikeplace.leads" 564 289)::
 (nat_lit 291,oT #[])::
 (nat_lit 294,oC "led_leaf" 583 584 585 197 2 291 181 292 .none .none 293 586 587)::
 (nat_lit 295,oF "led_leaf" 51 "unlikeplace.leads" 564 294)::
 (nat_lit 296,oT #[])::
 (nat_lit 298,oT #[.str "case" 592,.str "join" 593,.str "one" 594,.str "other" 595,.str "says" 596])::
 (nat_lit 299,oT #[])::
 (nat_lit 301,oC "led_join" 589 590 591 199 4 296 181 297 (.ref 298) (.ref 299) 300 597 598)::
 (nat_lit 302,oF "led_join" 52 "unlikeplace.leads" 564 301)::
 (nat_lit 303,oT #[])::
 (nat_lit 306,oC "words_with" 600 601 602 205 3 303 181 304 .none .none 305 603 604)::
 (nat_lit 307,oF "words_with" 53 "unlikeplace.leads" 564 306)::
 (nat_lit 308,oT #[])::
 (nat_lit 311,oC "greater" 606 607 608 207 2 308 181 309 .none .none 310 609 610)::
 (nat_lit 312,oF "greater" 54 "unlikeplace.leads" 564 311)::
 (nat_lit 313,oT #[])::
 (nat_lit 316,oC "smaller" 612 613 614 209 2 313 181 314 .none .none 315 615 616)::
 (nat_lit 317,oF "smaller" 55 "unlikeplace.leads" 564 316)::
 (nat_lit 318,oT #[])::
 (nat_lit 321,oC "saying_of" 618 619 620 211 2 318 181 319 .none .none 320 621 622)::
 (nat_lit 322,oF "saying_of" 56 "unlikeplace.leads" 564 321)::
 (nat_lit 323,oT #[])::
 (nat_lit 325,oT #[.str "join" 629,.str "some" 630,.str "half" 631])::
 (nat_lit 326,oT #[])::
 (nat_lit 328,oC "joined" 626 627 628 227 2 323 181 324 (.ref 325) (.ref 326) 327 632 633)::
 (nat_lit 329,oF "joined" 58 "unlikeplace.plain" 624 328)::
 (nat_lit 330,oT #[])::
 (nat_lit 333,oC "by_yes" 635 636 637 232 1 330 181 331 .none .none 332 638 639)::
 (nat_lit 334,oF "by_yes" 59 "unlikeplace.plain" 624 333)::
 (nat_lit 335,oT #[])::
 (nat_lit 338,oC "by_no" 641 642 643 234 1 335 181 336 .none .none 337 644 645)::
 (nat_lit 339,oF "by_no" 60 "unlikeplace.plain" 624 338)::
 (nat_lit 340,oT #[])::
 (nat_lit 343,oC "is_the_word" 647 648 649 236 1 340 181 341 .none .none 342 650 651)::
 (nat_lit 344,oF "is_the_word" 61 "unlikeplace.plain" 624 343)::
 (nat_lit 345,oT #[])::
 (nat_lit 348,oC "is_another_word" 653 654 655 238 1 345 181 346 .none .none 347 656 657)::
 (nat_lit 349,oF "is_another_word" 62 "unlikeplace.plain" 624 348)::
 (nat_lit 350,oT #[])::
 (nat_lit 352,oT #[.str "case" 664])::
 (nat_lit 353,oT #[])::
 (nat_lit 355,oC "swapped_case" 661 662 663 241 1 350 181 351 (.ref 352) (.ref 353) 354 665 666)::
 (nat_lit 356,oF "swapped_case" 64 "unlikeplace.turned" 659 355)::
 (nat_lit 357,oT #[])::
 (nat_lit 359,oT #[.str "_law_script" 673])::
 (nat_lit 360,oT #[])::
 (nat_lit 362,oC "_law_pen" 670 671 672 244 1 357 181 358 (.ref 359) (.ref 360) 361 674 675)::
 (nat_lit 363,oF "_law_pen" 66 "law_unlikeplace_k13_whole_sayings_and_their" 668 362)::
 (nat_lit 364,oT #[])::
 (nat_lit 366,oT #[.str "_law_pen_here" 680,.str "_law_many" 681,.str "_law_digit" 682,.str "_law_script" 683,.str "_law_at" 684,.str "_law_cell" 685,.str "_law_number" 686])::
 (nat_lit 367,oT #[])::
 (nat_lit 369,oC "_law_draw" 677 678 679 246 2 364 181 365 (.ref 366) (.ref 367) 368 687 688)::
 (nat_lit 370,oF "_law_draw" 67 "law_unlikeplace_k13_whole_sayings_and_their" 668 369)::
 (nat_lit 371,oT #[])::
 (nat_lit 374,oC "_law_word" 690 691 692 263 2 371 181 372 .none .none 373 693 694)::
 (nat_lit 375,oF "_law_word" 68 "law_unlikeplace_k13_whole_sayings_and_their" 668 374)::
 (nat_lit 376,oT #[])::
 (nat_lit 378,oT #[.str "_law_pen_here" 699,.str "_law_places" 700,.str "_law_many" 701,.str "_law_room" 702,.str "_law_bits" 703,.str "_law_low" 704,.str "_law_high" 705,.str "_law_first" 706,.str "_law_join" 707,.str "_law_one" 708])::
 (nat_lit 379,oT #[])::
 (nat_lit 381,oC "_law_grown" 696 697 698 265 5 376 181 377 (.ref 378) (.ref 379) 380 709 710)::
 (nat_lit 382,oF "_law_grown" 69 "law_unlikeplace_k13_whole_sayings_and_their" 668 381)::
 (nat_lit 383,oT #[])::
 (nat_lit 385,oT #[.str "_law_pen_here" 715,.str "_law_places" 716,.str "_law_bits" 717,.str "_law_many" 718])::
 (nat_lit 386,oT #[])::
 (nat_lit 388,oC "_law_saying" 712 713 714 274 3 383 181 384 (.ref 385) (.ref 386) 387 719 720)::
 (nat_lit 389,oF "_law_saying" 70 "law_unlikeplace_k13_whole_sayings_and_their" 668 388)::
 (nat_lit 390,oT #[])::
 (nat_lit 392,oT #[.str "_law_pen_here" 725,.str "_law_places" 726,.str "_law_way" 727,.str "_law_sorts" 728,.str "_law_number" 729,.str "_law_at" 730,.str "_law_some" 731])::
 (nat_lit 393,oT #[])::
 (nat_lit 395,oC "_law_case" 722 723 724 277 2 390 181 391 (.ref 392) (.ref 393) 394 732 733)::
 (nat_lit 396,oF "_law_case" 71 "law_unlikeplace_k13_whole_sayings_and_their" 668 395)::
 (nat_lit 397,oT #[])::
 (nat_lit 400,oC "_law_table" 735 736 737 288 2 397 181 398 .none .none 399 738 739)::
 (nat_lit 401,oF "_law_table" 72 "law_unlikeplace_k13_whole_sayings_and_their" 668 400)::
 (nat_lit 402,oT #[])::
 (nat_lit 405,oC "_law_by_words" 741 742 743 294 2 402 181 403 .none .none 404 744 745)::
 (nat_lit 406,oF "_law_by_words" 73 "law_unlikeplace_k13_whole_sayings_and_their" 668 405)::
 (nat_lit 407,oT #[])::
 (nat_lit 409,oT #[.str "_law_case_here" 750,.str "_law_saying_here" 751,.str "_law_talk" 752,.str "_law_back" 753])::
 (nat_lit 410,oT #[])::
 (nat_lit 412,oC "_law_led_right" 747 748 749 300 2 407 181 408 (.ref 409) (.ref 410) 411 754 755)::
 (nat_lit 413,oF "_law_led_right" 74 "law_unlikeplace_k13_whole_sayings_and_their" 668 412)::
 (nat_lit 414,oT #[])::
 (nat_lit 416,oT #[.str "_law_places" 760,.str "_law_one" 761,.str "_law_other" 762,.str "_law_both" 763,.str "_law_either" 764,.str "_law_number" 765,.str "_law_word_here" 766,.str "_law_here" 767,.str "_law_many" 768,.str "_law_most" 769])::
 (nat_lit 417,oT #[])::
 (nat_lit 419,oC "_law_together" 757 758 759 306 3 414 181 415 (.ref 416) (.ref 417) 418 770 771)::
 (nat_lit 420,oF "_law_together" 75 "law_unlikeplace_k13_whole_sayings_and_their" 668 419)::
 (nat_lit 421,oT #[])::
 (nat_lit 423,oT #[.str "_law_case_here" 776,.str "_law_saying_here" 777,.str "_law_here" 778,.str "_law_turned" 779,.str "_law_there" 780])::
 (nat_lit 424,oT #[])::
 (nat_lit 426,oC "_law_swapped" 773 774 775 317 2 421 181 422 (.ref 423) (.ref 424) 425 781 782)::
 (nat_lit 427,oF "_law_swapped" 76 "law_unlikeplace_k13_whole_sayings_and_their" 668 426)::
 (nat_lit 428,oT #[])::
 (nat_lit 430,oT #[.str "_law_pen_here" 787,.str "_law_case_here" 788,.str "_law_places" 789,.str "_law_yes" 790,.str "_law_no" 791,.str "_law_some" 792,.str "_law_at" 793])::
 (nat_lit 431,oT #[])::
 (nat_lit 433,oC "_law_fewer" 784 785 786 328 2 428 181 429 (.ref 430) (.ref 431) 432 794 795)::
 (nat_lit 434,oF "_law_fewer" 77 "law_unlikeplace_k13_whole_sayings_and_their" 668 433)::
 (nat_lit 435,oT #[])::
 (nat_lit 437,oT #[.str "_law_script" 800,.str "_law_pen_here" 801,.str "_law_places" 802,.str "_law_one" 803,.str "_law_other" 804,.str "_law_saying_here" 805,.str "_law_table_here" 806,.str "_law_case_here" 807,.str "_law_turn" 808])::
 (nat_lit 438,oT #[])::
 (nat_lit 440,oC "law" 797 798 799 335 1 435 181 436 (.ref 437) (.ref 438) 439 809 810)::
 (nat_lit 441,oF "law" 78 "law_unlikeplace_k13_whole_sayings_and_their" 668 440)::[]
end My
noncomputable def PySem.W.Fast.tw6894247980046229166:PySem.Params->PySem.W.Frag:=My.KK
theorem PySem.W.Fast.te6894247980046229166:My.KK=PySem.W.Fast.tw6894247980046229166:=rfl
noncomputable def PySem.W.Fast.tw17708850202806934426:PySem.Program:=PySem.Challenge.pw_unlikeplace_k13_whole_sayings_and_their
theorem PySem.W.Fast.te17708850202806934426:PySem.Challenge.pw_unlikeplace_k13_whole_sayings_and_their=PySem.W.Fast.tw17708850202806934426:=rfl
namespace PySem.W.Fast
theorem te4676484669334384704:True:=⟨⟩
theorem te14494683458797130848:True:=⟨⟩
theorem te16739175230073246848:True:=⟨⟩
theorem te4563643662384244992:True:=⟨⟩
theorem te15280419186711534880:True:=⟨⟩
theorem te7509385213402490208:True:=⟨⟩
theorem te8606074790961325536:True:=⟨⟩
theorem te3330351222917325344:True:=⟨⟩
theorem te5424831594338219584:True:=⟨⟩
theorem te8945965204657016512:True:=⟨⟩
theorem te13643741744315413216:True:=⟨⟩
theorem te12232738754282438368:True:=⟨⟩
theorem te13819535601575609088:True:=⟨⟩
theorem te14848310171177798400:True:=⟨⟩
theorem te14239170037947947936:True:=⟨⟩
theorem te11901806944379789280:True:=⟨⟩
theorem te9890106246510345281:True:=⟨⟩
theorem te3351816512613380193:True:=⟨⟩
theorem te12359591512635160801:True:=⟨⟩
theorem te15260278460976296193:True:=⟨⟩
theorem te12266492469124889889:True:=⟨⟩
theorem te371970577893074273:True:=⟨⟩
theorem te1631577998251308449:True:=⟨⟩
theorem te12817151847535258049:True:=⟨⟩
theorem te3587884166054329793:True:=⟨⟩
theorem te15938809210217554561:True:=⟨⟩
theorem te1114820044532347521:True:=⟨⟩
theorem te1198122819094878881:True:=⟨⟩
theorem te16716152244188968641:True:=⟨⟩
theorem te17754585842185994977:True:=⟨⟩
theorem te1233848639724499713:True:=⟨⟩
theorem te3236855403903634401:True:=⟨⟩
theorem te13898475506435652898:True:=⟨⟩
theorem te14544259687821611330:True:=⟨⟩
theorem te15426774122784580994:True:=⟨⟩
theorem te12474090513961805218:True:=⟨⟩
theorem te11881579514835422658:True:=⟨⟩
theorem te917930527008179714:True:=⟨⟩
theorem te738330806077942338:True:=⟨⟩
theorem te1579833759440190018:True:=⟨⟩
noncomputable def My.sts_485:List PySem.Stmt:=[My.top 77,My.top 78]
noncomputable def tw14090711943884083938:List PySem.Stmt:=My.sts_485
theorem te14090711943884083938:My.sts_485=tw14090711943884083938:=rfl
theorem te15952591247872733922:True:=⟨⟩
theorem te12825146683076084578:True:=⟨⟩
theorem te4908980546485358434:True:=⟨⟩
theorem te13576750784921299842:True:=⟨⟩
theorem te8889890360306362435:True:=⟨⟩
theorem te9612269462304604675:True:=⟨⟩
theorem te15168045979871870595:True:=⟨⟩
theorem te12529587018616180419:True:=⟨⟩
theorem te14513296643992479459:True:=⟨⟩
theorem te12053735892533039843:True:=⟨⟩
theorem te11310328668747602851:True:=⟨⟩
theorem te3358415029124106179:True:=⟨⟩
theorem te5531996647075335268:True:=⟨⟩
theorem te17475392121206146180:True:=⟨⟩
theorem te7274042621007738020:True:=⟨⟩
theorem te11144628020841738500:True:=⟨⟩
theorem te17574193819559272740:True:=⟨⟩
theorem te3014285416350555492:True:=⟨⟩
theorem te10028044502626549124:True:=⟨⟩
theorem te1190665451561738660:True:=⟨⟩
theorem te2359971122473311716:True:=⟨⟩
theorem te13766355658889935428:True:=⟨⟩
theorem te15210189822608839268:True:=⟨⟩
theorem te3439730403948884612:True:=⟨⟩
theorem te12047922776049330884:True:=⟨⟩
theorem te16988086990163502884:True:=⟨⟩
theorem te16239484707368149796:True:=⟨⟩
theorem te12513799307244680004:True:=⟨⟩
theorem te3232883341525745540:True:=⟨⟩
theorem te8982597657725712292:True:=⟨⟩
theorem te10018477469163640772:True:=⟨⟩
theorem te4844223923145153541:True:=⟨⟩
theorem te6640174442234215429:True:=⟨⟩
theorem te5739807305293633701:True:=⟨⟩
theorem te7840058169197280421:True:=⟨⟩
theorem te10484492958797100261:True:=⟨⟩
theorem te6466015341479993605:True:=⟨⟩
noncomputable def My.sts_49:List PySem.Stmt:=[My.top 0,My.top 1,My.top 2,My.top 3,My.top 4,My.top 5,My.top 6,My.top 7,My.top 8,My.top 9,My.top 10,My.top 11,My.top 12,My.top 13,My.top 14,My.top 15]
noncomputable def tw2303913485560010053:List PySem.Stmt:=My.sts_49
theorem te2303913485560010053:My.sts_49=tw2303913485560010053:=rfl
theorem te9858189875409083717:True:=⟨⟩
theorem te4463904681891188165:True:=⟨⟩
theorem te15971943456167668197:True:=⟨⟩
theorem te4335536590652715525:True:=⟨⟩
theorem te12079742703609690629:True:=⟨⟩
theorem te5843860220565057029:True:=⟨⟩
theorem te9228605970032544357:True:=⟨⟩
theorem te13138112878005662373:True:=⟨⟩
theorem te9690576575997974245:True:=⟨⟩
theorem te8665018977497960325:True:=⟨⟩
theorem te17308241720981871493:True:=⟨⟩
theorem te3985764024042146693:True:=⟨⟩
theorem te6235576652461165574:True:=⟨⟩
theorem te1160376704420441190:True:=⟨⟩
theorem te12807747567778743494:True:=⟨⟩
theorem te6748043042134770918:True:=⟨⟩
theorem te6711992506528486630:True:=⟨⟩
theorem te11521162647613056294:True:=⟨⟩
theorem te17885006088016472358:True:=⟨⟩
theorem te10164864862854310246:True:=⟨⟩
theorem te6964599015799564774:True:=⟨⟩
theorem te3356305407321250374:True:=⟨⟩
theorem te16644787787372039974:True:=⟨⟩
theorem te2598120497356640070:True:=⟨⟩
theorem te14759671752479972198:True:=⟨⟩
theorem te15851101410902447078:True:=⟨⟩
theorem te9504278705280202726:True:=⟨⟩
theorem te14468926615430890567:True:=⟨⟩
theorem te15055900101878722759:True:=⟨⟩
theorem te6673637611483447495:True:=⟨⟩
theorem te1110548077022995751:True:=⟨⟩
theorem te10313893830844522887:True:=⟨⟩
theorem te15551682645924150695:True:=⟨⟩
theorem te10641360767033907719:True:=⟨⟩
theorem te3089109694562497095:True:=⟨⟩
theorem te11067148117433875111:True:=⟨⟩
theorem te14528117899136550599:True:=⟨⟩
theorem te2984164213296689895:True:=⟨⟩
theorem te15292777899909148551:True:=⟨⟩
theorem te3331561986963665799:True:=⟨⟩
theorem te10567376114717940647:True:=⟨⟩
theorem te6044220800047717480:True:=⟨⟩
theorem te11838464272737546376:True:=⟨⟩
theorem te9345325745092627688:True:=⟨⟩
theorem te13243166654407148776:True:=⟨⟩
theorem te10890146863246850568:True:=⟨⟩
theorem te8667378657023333960:True:=⟨⟩
theorem te5458084862604852840:True:=⟨⟩
theorem te3087434101853861480:True:=⟨⟩
theorem te11229746397328525992:True:=⟨⟩
theorem te11050221853689326312:True:=⟨⟩
theorem te18119468223691499240:True:=⟨⟩
theorem te10686249040490769224:True:=⟨⟩
theorem te11007940082946072424:True:=⟨⟩
theorem te298022796021513096:True:=⟨⟩
theorem te14485825779554425800:True:=⟨⟩
theorem te13390591864627324872:True:=⟨⟩
theorem te14402717639223507944:True:=⟨⟩
theorem te9662514149475443785:True:=⟨⟩
theorem te8586388467363018889:True:=⟨⟩
theorem te1865566477611206857:True:=⟨⟩
theorem te1444051799614765289:True:=⟨⟩
theorem te754803216167067017:True:=⟨⟩
noncomputable def My.view_39:PySem.Program:={ PySem.Challenge.pw_unlikeplace_k13_whole_sayings_and_their with main:={ PySem.Challenge.pw_unlikeplace_k13_whole_sayings_and_their.main with body:=[My.top 1,My.top 2,My.top 3,My.top 4,My.top 6,My.top 7,My.top 8,My.top 9,My.top 10,My.top 11,My.top 12,My.top 14,My.top 15,My.top 16,My.top 17,My.top 18,My.top 19,My.top 20,My.top 21,My.top 23,My.top 24,My.top 25,My.top 26,My.top 28,My.top 29,My.top 31,My.top 32,My.top 33,My.top 34,My.top 36,My.top 37,My.top 38,My.top 39,My.top 40,My.top 42,My.top 43,My.top 44,My.top 45,My.top 46,My.top 47,My.top 49,My.top 50,My.top 51,My.top 52,My.top 53,My.top 54,My.top 55,My.top 56,My.top 58,My.top 59,My.top 60,My.top 61,My.top 62,My.top 64,My.top 66,My.top 67,My.top 68,My.top 69,My.top 70,My.top 71,My.top 72,My.top 73,My.top 74,My.top 75,My.top 76,My.top 77,My.top 78] } }
noncomputable def tw17558725734770483625:PySem.Program:=My.view_39
theorem te17558725734770483625:My.view_39=tw17558725734770483625:=rfl
theorem te11585106500903118249:True:=⟨⟩
noncomputable def My.sts_405:List PySem.Stmt:=[My.top 64,My.top 65,My.top 66,My.top 67,My.top 68,My.top 69,My.top 70,My.top 71,My.top 72,My.top 73,My.top 74,My.top 75,My.top 76]
noncomputable def tw13652303735480172105:List PySem.Stmt:=My.sts_405
theorem te13652303735480172105:My.sts_405=tw13652303735480172105:=rfl
theorem te2074458105512904329:True:=⟨⟩
theorem te14633739431190838953:True:=⟨⟩
theorem te8387910709673373353:True:=⟨⟩
theorem te14168998814794867529:True:=⟨⟩
theorem te9255692289920515977:True:=⟨⟩
theorem te14788908691722039177:True:=⟨⟩
theorem te13607025843265789865:True:=⟨⟩
theorem te2006658156812390377:True:=⟨⟩
theorem te14347443592335188074:True:=⟨⟩
theorem te17582803742281237706:True:=⟨⟩
theorem te4110580023404003594:True:=⟨⟩
theorem te10485192954065754410:True:=⟨⟩
theorem te9238523618953473322:True:=⟨⟩
theorem te10496061790491462090:True:=⟨⟩
theorem te18089215911963323946:True:=⟨⟩
theorem te15959044720307240522:True:=⟨⟩
theorem te5763775432385901162:True:=⟨⟩
theorem te13008438934395875146:True:=⟨⟩
theorem te808619702604575690:True:=⟨⟩
theorem te1905771812803943435:True:=⟨⟩
theorem te7832363848949035019:True:=⟨⟩
theorem te9649495729788425323:True:=⟨⟩
theorem te3719796123181247723:True:=⟨⟩
theorem te862457367273072939:True:=⟨⟩
theorem te18277402058467332491:True:=⟨⟩
theorem te11213075897969752555:True:=⟨⟩
theorem te12710606330550485707:True:=⟨⟩
theorem te2760521084447714155:True:=⟨⟩
theorem te496134630284259179:True:=⟨⟩
theorem te11810557270954015595:True:=⟨⟩
theorem te75429426961918859:True:=⟨⟩
theorem te7972462929666101324:True:=⟨⟩
theorem te4226359472139466892:True:=⟨⟩
theorem te4593627915365631148:True:=⟨⟩
theorem te5329376052437504204:True:=⟨⟩
theorem te17578459101822935308:True:=⟨⟩
theorem te221810992442305900:True:=⟨⟩
theorem te10082997048207624684:True:=⟨⟩
theorem te5321098093327234796:True:=⟨⟩
theorem te11677608342211945196:True:=⟨⟩
theorem te7348025735334909708:True:=⟨⟩
theorem te8660056603271427852:True:=⟨⟩
theorem te13998455945342316396:True:=⟨⟩
theorem te6217836635332963212:True:=⟨⟩
noncomputable def My.sts_334:List PySem.Stmt:=[My.top 49,My.top 50,My.top 51,My.top 52,My.top 53,My.top 54,My.top 55,My.top 56,My.top 57,My.top 58,My.top 59,My.top 60,My.top 61,My.top 62,My.top 63]
noncomputable def tw19077643028028332:List PySem.Stmt:=My.sts_334
theorem te19077643028028332:My.sts_334=tw19077643028028332:=rfl
theorem te12827238357479533581:True:=⟨⟩
theorem te1702600724773129325:True:=⟨⟩
theorem te7934334704610169133:True:=⟨⟩
theorem te12118695726415543693:True:=⟨⟩
theorem te5029113740281423309:True:=⟨⟩
theorem te471005598214792685:True:=⟨⟩
theorem te12223931358679802541:True:=⟨⟩
theorem te8251825927562298317:True:=⟨⟩
theorem te9650821085539397613:True:=⟨⟩
theorem te12797013097693543438:True:=⟨⟩
theorem te17853202011802334318:True:=⟨⟩
theorem te4028167312098966798:True:=⟨⟩
theorem te1052116024256450926:True:=⟨⟩
theorem te5654853307523583726:True:=⟨⟩
noncomputable def My.sts_193:List PySem.Stmt:=[My.top 25]
noncomputable def tw3693139737805288238:List PySem.Stmt:=My.sts_193
theorem te3693139737805288238:My.sts_193=tw3693139737805288238:=rfl
theorem te11361094083557598190:True:=⟨⟩
theorem te8156175648784011343:True:=⟨⟩
theorem te5337261820602412143:True:=⟨⟩
theorem te14909462580780713167:True:=⟨⟩
theorem te16035898709935412527:True:=⟨⟩
theorem te8163830038704182639:True:=⟨⟩
theorem te2435446794473482895:True:=⟨⟩
theorem te7014569242285044463:True:=⟨⟩
theorem te5010851248475733775:True:=⟨⟩
theorem te7876848566936261423:True:=⟨⟩
theorem te17264627106151557007:True:=⟨⟩
theorem te10501231753392965551:True:=⟨⟩
theorem te3260859123408569295:True:=⟨⟩
theorem te571528559920406479:True:=⟨⟩
theorem te11584617088145177583:True:=⟨⟩
theorem te2321109910822440016:True:=⟨⟩
theorem te16231678298475159696:True:=⟨⟩
theorem te15510233467168970928:True:=⟨⟩
theorem te3281374508899767632:True:=⟨⟩
theorem te4866576486482527568:True:=⟨⟩
theorem te13680132927681798544:True:=⟨⟩
theorem te16273905295640286672:True:=⟨⟩
theorem te4143865052745087536:True:=⟨⟩
theorem te18056933689553907248:True:=⟨⟩
theorem te7329811268934015568:True:=⟨⟩
theorem te5070309823698594480:True:=⟨⟩
theorem te2029738264318535376:True:=⟨⟩
theorem te4872594833868880624:True:=⟨⟩
theorem te1229847785567968048:True:=⟨⟩
theorem te8145474360689892176:True:=⟨⟩
theorem te11289285571629152144:True:=⟨⟩
theorem te12848637583433963569:True:=⟨⟩
theorem te2479515376959151249:True:=⟨⟩
theorem te4416025909792871601:True:=⟨⟩
theorem te9545198928984075441:True:=⟨⟩
theorem te1121187500519377137:True:=⟨⟩
theorem te17747739133035106545:True:=⟨⟩
theorem te8862476724858045777:True:=⟨⟩
theorem te2886914592322265585:True:=⟨⟩
theorem te3022089772816355953:True:=⟨⟩
theorem te2197313969569097361:True:=⟨⟩
theorem te17656987309114428177:True:=⟨⟩
theorem te5129509961735476049:True:=⟨⟩
theorem te5759025638516527057:True:=⟨⟩
theorem te1434528958659998705:True:=⟨⟩
theorem te13346136752412243026:True:=⟨⟩
noncomputable def My.sts_208:List PySem.Stmt:=[My.top 26,My.top 27,My.top 28,My.top 29,My.top 30,My.top 31,My.top 32,My.top 33,My.top 34]
noncomputable def tw16540769217956063442:List PySem.Stmt:=My.sts_208
theorem te16540769217956063442:My.sts_208=tw16540769217956063442:=rfl
theorem te16414665383363708146:True:=⟨⟩
theorem te17659712271529684242:True:=⟨⟩
theorem te17740726322799124946:True:=⟨⟩
theorem te7800229259292909202:True:=⟨⟩
theorem te14497340752333535890:True:=⟨⟩
theorem te14761128720961544914:True:=⟨⟩
theorem te8517106684044108530:True:=⟨⟩
theorem te741169503423933234:True:=⟨⟩
theorem te7070314588033561490:True:=⟨⟩
theorem te12814117594937891762:True:=⟨⟩
theorem te10956892276088822803:True:=⟨⟩
theorem te5452358134825997395:True:=⟨⟩
theorem te6206475744703764755:True:=⟨⟩
theorem te5012762882890727763:True:=⟨⟩
theorem te6498127452072363443:True:=⟨⟩
theorem te16959207397883721139:True:=⟨⟩
theorem te7812226590517192147:True:=⟨⟩
theorem te1996901316286868019:True:=⟨⟩
theorem te9944122498698220179:True:=⟨⟩
noncomputable def My.sts_123:List PySem.Stmt:=[My.top 16,My.top 17,My.top 18,My.top 19,My.top 20,My.top 21,My.top 22,My.top 23]
noncomputable def tw3794634399946247987:List PySem.Stmt:=My.sts_123
theorem te3794634399946247987:My.sts_123=tw3794634399946247987:=rfl
theorem te2923089037997586291:True:=⟨⟩
theorem te85918578334372787:True:=⟨⟩
theorem te6432468824403908756:True:=⟨⟩
theorem te3347658871138699412:True:=⟨⟩
theorem te4487447983620125844:True:=⟨⟩
theorem te6825276225250661588:True:=⟨⟩
theorem te12626757471968643348:True:=⟨⟩
theorem te6865373346065453588:True:=⟨⟩
theorem te13213160725690620468:True:=⟨⟩
theorem te5958685440602121780:True:=⟨⟩
theorem te3692356130343319092:True:=⟨⟩
theorem te3519044205696609876:True:=⟨⟩
theorem te16017606104043401844:True:=⟨⟩
theorem te2807880839684445812:True:=⟨⟩
theorem te5701109318781128340:True:=⟨⟩
theorem te7610482712518321844:True:=⟨⟩
noncomputable def My.sts_257:List PySem.Stmt:=[My.top 35,My.top 36,My.top 37,My.top 38,My.top 39,My.top 40,My.top 41,My.top 42,My.top 43,My.top 44,My.top 45,My.top 46,My.top 47,My.top 48]
noncomputable def tw2438306063329883924:List PySem.Stmt:=My.sts_257
theorem te2438306063329883924:My.sts_257=tw2438306063329883924:=rfl
theorem te2528077419590126388:True:=⟨⟩
theorem te15951422953511120756:True:=⟨⟩
theorem te10274885107572109204:True:=⟨⟩
theorem te6247312820509071284:True:=⟨⟩
theorem te7159199794158610517:True:=⟨⟩
theorem te17458972330637178037:True:=⟨⟩
theorem te9942013728713227509:True:=⟨⟩
theorem te15362240867484327413:True:=⟨⟩
theorem te3775722031139624565:True:=⟨⟩
theorem te7539935385438439061:True:=⟨⟩
theorem te14651315609000327925:True:=⟨⟩
theorem te15843431691016663797:True:=⟨⟩
theorem te173182809401229462:True:=⟨⟩
theorem te10128015449338881174:True:=⟨⟩
theorem te6678804186896470262:True:=⟨⟩
theorem te10920576570694245750:True:=⟨⟩
theorem te16432132147376497142:True:=⟨⟩
theorem te11105044988545082870:True:=⟨⟩
theorem te12879786765773909654:True:=⟨⟩
theorem te16620145475947768566:True:=⟨⟩
theorem te3516668867642682102:True:=⟨⟩
theorem te4105703601047576310:True:=⟨⟩
theorem te9949326340387882870:True:=⟨⟩
theorem te12174480381335599990:True:=⟨⟩
theorem te4405006862912989078:True:=⟨⟩
theorem te13102568869966244790:True:=⟨⟩
theorem te10137358372594866199:True:=⟨⟩
theorem te11237497904380393655:True:=⟨⟩
theorem te893491782642859319:True:=⟨⟩
theorem te9040330283660405175:True:=⟨⟩
theorem te9013424295398782423:True:=⟨⟩
theorem te9424057049276640759:True:=⟨⟩
theorem te7870145600236459735:True:=⟨⟩
theorem te6747220115319909111:True:=⟨⟩
theorem te9264201987614696279:True:=⟨⟩
theorem te13595611034275300343:True:=⟨⟩
theorem te10317160524872600600:True:=⟨⟩
theorem te3024956330654714936:True:=⟨⟩
theorem te12256731122168195224:True:=⟨⟩
theorem te7008876968263099576:True:=⟨⟩
theorem te15553844328406906072:True:=⟨⟩
theorem te7435770933786749240:True:=⟨⟩
theorem te15630552739254953368:True:=⟨⟩
theorem te15639812588772115960:True:=⟨⟩
theorem te762906194184683096:True:=⟨⟩
theorem te12566352299839467160:True:=⟨⟩
theorem te14699330664295122680:True:=⟨⟩
theorem te15951693622745244440:True:=⟨⟩
theorem te15088536029780329272:True:=⟨⟩
theorem te12375207096857658200:True:=⟨⟩
theorem te10655619022029887320:True:=⟨⟩
theorem te11570932088230665112:True:=⟨⟩
theorem te6046140108995006392:True:=⟨⟩
theorem te6178721957137186776:True:=⟨⟩
theorem te9262740177245189145:True:=⟨⟩
theorem te11282894632210689113:True:=⟨⟩
theorem te16852572091162844345:True:=⟨⟩
theorem te12269420434663381369:True:=⟨⟩
theorem te5037165909370776953:True:=⟨⟩
theorem te9942941422122323353:True:=⟨⟩
theorem te2205704062225076665:True:=⟨⟩
theorem te5226187835453281817:True:=⟨⟩
theorem te9186762356327000601:True:=⟨⟩
theorem te18241209464898169369:True:=⟨⟩
theorem te10514699371789946425:True:=⟨⟩
theorem te9574231189030211225:True:=⟨⟩
theorem te14129996762597382809:True:=⟨⟩
theorem te17918001306140140185:True:=⟨⟩
theorem te17463533736243370681:True:=⟨⟩
theorem te13971696923225694905:True:=⟨⟩
theorem te17797591074189522617:True:=⟨⟩
theorem te13330076802337343225:True:=⟨⟩
theorem te13860177930451910393:True:=⟨⟩
theorem te12843806420450299673:True:=⟨⟩
theorem te1987956519656736633:True:=⟨⟩
theorem te6650775924168893337:True:=⟨⟩
theorem te2796616400214182809:True:=⟨⟩
theorem te12217808534775956441:True:=⟨⟩
theorem te16551870837428262873:True:=⟨⟩
theorem te2901379591404533721:True:=⟨⟩
theorem te12947216224138896377:True:=⟨⟩
theorem te14923391792242796570:True:=⟨⟩
theorem te2296747388116605018:True:=⟨⟩
theorem te1566160093766931546:True:=⟨⟩
theorem te11924576708380840058:True:=⟨⟩
theorem te15929659962567386266:True:=⟨⟩
theorem te5621688436472652986:True:=⟨⟩
theorem te2923549294547126522:True:=⟨⟩
theorem te2862048098398382426:True:=⟨⟩
theorem te11770495565080269178:True:=⟨⟩
theorem te2608112564873107834:True:=⟨⟩
theorem te5113512394396363162:True:=⟨⟩
theorem te1598520348547661242:True:=⟨⟩
theorem te11260299632867291610:True:=⟨⟩
theorem te9162199230200479258:True:=⟨⟩
theorem te1801635198211229210:True:=⟨⟩
theorem te17094819670234235450:True:=⟨⟩
theorem te3257874561285382778:True:=⟨⟩
theorem te11452731753784737434:True:=⟨⟩
theorem te3409354141424632570:True:=⟨⟩
theorem te10483493678230633434:True:=⟨⟩
theorem te1886231568297899035:True:=⟨⟩
theorem te18079531189620739163:True:=⟨⟩
theorem te4326079092587529435:True:=⟨⟩
theorem te8329021762843317467:True:=⟨⟩
theorem te3949112605546638651:True:=⟨⟩
theorem te9619192573089907067:True:=⟨⟩
theorem te3724204830459062715:True:=⟨⟩
theorem te18158958773417253371:True:=⟨⟩
theorem te8862807979610281467:True:=⟨⟩
theorem te6567136863375982235:True:=⟨⟩
theorem te1041613088857250619:True:=⟨⟩
theorem te2337920630263971675:True:=⟨⟩
theorem te11229093591961847739:True:=⟨⟩
theorem te2877677461379736507:True:=⟨⟩
theorem te1435268684944936923:True:=⟨⟩
theorem te2123751588566828092:True:=⟨⟩
theorem te6293464182176103484:True:=⟨⟩
theorem te13605087805239814300:True:=⟨⟩
theorem te436683378896682364:True:=⟨⟩
theorem te7122248528402301340:True:=⟨⟩
theorem te18096999813741097436:True:=⟨⟩
theorem te5793430247103304316:True:=⟨⟩
theorem te335634529980764828:True:=⟨⟩
theorem te16117507823414494940:True:=⟨⟩
noncomputable def My.sts_178:List PySem.Stmt:=[My.top 24]
noncomputable def tw4543447627127023388:List PySem.Stmt:=My.sts_178
theorem te4543447627127023388:My.sts_178=tw4543447627127023388:=rfl
theorem te13814558989167006524:True:=⟨⟩
theorem te1722018534107146140:True:=⟨⟩
theorem te6119349740259056604:True:=⟨⟩
theorem te9789568702372596061:True:=⟨⟩
theorem te12572058781888217469:True:=⟨⟩
theorem te18195032766122569117:True:=⟨⟩
theorem te365028946555862429:True:=⟨⟩
theorem te6610244186455399901:True:=⟨⟩
theorem te10755836606690362845:True:=⟨⟩
theorem te5440608095513559549:True:=⟨⟩
theorem te10338256230474355485:True:=⟨⟩
theorem te10735088031315462013:True:=⟨⟩
theorem te11384566182449743934:True:=⟨⟩
theorem te11711763258083277918:True:=⟨⟩
theorem te7656154450521317566:True:=⟨⟩
theorem te10345802820212928702:True:=⟨⟩
theorem te13746527323665617118:True:=⟨⟩
theorem te15186401457301262686:True:=⟨⟩
theorem te15701434933219479934:True:=⟨⟩
theorem te17107848784569527710:True:=⟨⟩
theorem te4723210489289183678:True:=⟨⟩
theorem te1811103975294280190:True:=⟨⟩
theorem te8389977275740881534:True:=⟨⟩
theorem te8376853494884018814:True:=⟨⟩
theorem te4460748444662842078:True:=⟨⟩
theorem te539479489036383966:True:=⟨⟩
theorem te15749622148736070430:True:=⟨⟩
theorem te322389936055373855:True:=⟨⟩
theorem te4908070943460682783:True:=⟨⟩
theorem te4658640451972922463:True:=⟨⟩
theorem te14898325474359315679:True:=⟨⟩
theorem te12095486161820564703:True:=⟨⟩
theorem te15642324531868091679:True:=⟨⟩
theorem te13045263042499928383:True:=⟨⟩
theorem te18103021722849571167:True:=⟨⟩
theorem te4569882326542610847:True:=⟨⟩
theorem te5783122782599954911:True:=⟨⟩
theorem te4852814484469129791:True:=⟨⟩
theorem te16883068873176557151:True:=⟨⟩
theorem te8879361995494596255:True:=⟨⟩
theorem te10752168519599721151:True:=⟨⟩
theorem te13337573704209264351:True:=⟨⟩
theorem te7453422405351400223:True:=⟨⟩
theorem te4107105177043578655:True:=⟨⟩
theorem te5388185389891085151:True:=⟨⟩
theorem te4597811311161565087:True:=⟨⟩
theorem te2323444368754879423:True:=⟨⟩
end PySem.W.Fast
open PySem PySem.W PyProof.Rows
local macro_rules | `(tactic| walk_at "q")=>`(tactic| (refine' L2.NQ ?d1 ?d2 ?d3 ?d4;(case d1=>k_is);(case d2=>k_is);(case d3=>k_is);(case d4=>k_is)))
set_option maxRecDepth 100000 in
set_option maxHeartbeats 0 in
theorem PySem.Challenge.cw_unlikeplace_k13_whole_sayings_and_their_holds : PySem.Challenge.rw_unlikeplace_k13_whole_sayings_and_their.Holds := by
 w_on;o_law
 o_head (PySem.W.kmHook My.KK [nat_lit 2,nat_lit 3,nat_lit 15,nat_lit 17,nat_lit 18,nat_lit 20,nat_lit 21,nat_lit 22,nat_lit 24,nat_lit 25,nat_lit 27,nat_lit 28,nat_lit 29,nat_lit 31,nat_lit 32,nat_lit 34,nat_lit 35,nat_lit 36,nat_lit 39,nat_lit 40,nat_lit 41,nat_lit 43,nat_lit 44,nat_lit 46,nat_lit 47,nat_lit 48,nat_lit 50,nat_lit 51,nat_lit 53,nat_lit 54,nat_lit 55,nat_lit 57,nat_lit 58,nat_lit 60,nat_lit 61,nat_lit 62,nat_lit 65,nat_lit 66,nat_lit 67,nat_lit 70,nat_lit 71,nat_lit 72,nat_lit 75,nat_lit 76,nat_lit 77,nat_lit 78,nat_lit 80,nat_lit 81,nat_lit 83,nat_lit 84,nat_lit 85,nat_lit 87,nat_lit 88,nat_lit 90,nat_lit 91,nat_lit 92,nat_lit 94,nat_lit 95,nat_lit 97,nat_lit 98,nat_lit 99,nat_lit 102,nat_lit 103,nat_lit 104,nat_lit 106,nat_lit 107,nat_lit 109,nat_lit 110,nat_lit 111,nat_lit 113,nat_lit 114,nat_lit 116,nat_lit 117,nat_lit 118,nat_lit 120,nat_lit 121,nat_lit 123,nat_lit 124,nat_lit 125,nat_lit 132,nat_lit 133,nat_lit 134,nat_lit 135,nat_lit 138,nat_lit 145,nat_lit 146,nat_lit 147,nat_lit 150,nat_lit 157,nat_lit 158,nat_lit 159,nat_lit 162,nat_lit 169,nat_lit 170,nat_lit 171,nat_lit 174,nat_lit 176,nat_lit 177,nat_lit 179,nat_lit 180,nat_lit 181,nat_lit 183,nat_lit 184,nat_lit 186,nat_lit 187,nat_lit 188,nat_lit 191,nat_lit 192,nat_lit 193,nat_lit 196,nat_lit 197,nat_lit 198,nat_lit 201,nat_lit 202,nat_lit 203,nat_lit 206,nat_lit 207,nat_lit 208,nat_lit 211,nat_lit 212,nat_lit 213,nat_lit 215,nat_lit 216,nat_lit 218,nat_lit 219,nat_lit 220,nat_lit 222,nat_lit 223,nat_lit 225,nat_lit 226,nat_lit 227,nat_lit 229,nat_lit 230,nat_lit 232,nat_lit 233,nat_lit 234,nat_lit 236,nat_lit 237,nat_lit 239,nat_lit 240,nat_lit 241,nat_lit 243,nat_lit 244,nat_lit 246,nat_lit 247,nat_lit 248,nat_lit 250,nat_lit 251,nat_lit 253,nat_lit 254,nat_lit 255,nat_lit 257,nat_lit 258,nat_lit 260,nat_lit 261,nat_lit 262,nat_lit 264,nat_lit 265,nat_lit 267,nat_lit 268,nat_lit 269,nat_lit 271,nat_lit 272,nat_lit 274,nat_lit 275,nat_lit 276,nat_lit 278,nat_lit 279,nat_lit 281,nat_lit 282,nat_lit 283,nat_lit 284,nat_lit 286,nat_lit 287,nat_lit 289,nat_lit 290,nat_lit 291,nat_lit 294,nat_lit 295,nat_lit 296,nat_lit 298,nat_lit 299,nat_lit 301,nat_lit 302,nat_lit 303,nat_lit 306,nat_lit 307,nat_lit 308,nat_lit 311,nat_lit 312,nat_lit 313,nat_lit 316,nat_lit 317,nat_lit 318,nat_lit 321,nat_lit 322,nat_lit 323,nat_lit 325,nat_lit 326,nat_lit 328,nat_lit 329,nat_lit 330,nat_lit 333,nat_lit 334,nat_lit 335,nat_lit 338,nat_lit 339,nat_lit 340,nat_lit 343,nat_lit 344,nat_lit 345,nat_lit 348,nat_lit 349,nat_lit 350,nat_lit 352,nat_lit 353,nat_lit 355,nat_lit 356,nat_lit 357,nat_lit 359,nat_lit 360,nat_lit 362,nat_lit 363,nat_lit 364,nat_lit 366,nat_lit 367,nat_lit 369,nat_lit 370,nat_lit 371,nat_lit 374,nat_lit 375,nat_lit 376,nat_lit 378,nat_lit 379,nat_lit 381,nat_lit 382,nat_lit 383,nat_lit 385,nat_lit 386,nat_lit 388,nat_lit 389,nat_lit 390,nat_lit 392,nat_lit 393,nat_lit 395,nat_lit 396,nat_lit 397,nat_lit 400,nat_lit 401,nat_lit 402,nat_lit 405,nat_lit 406,nat_lit 407,nat_lit 409,nat_lit 410,nat_lit 412,nat_lit 413,nat_lit 414,nat_lit 416,nat_lit 417,nat_lit 419,nat_lit 420,nat_lit 421,nat_lit 423,nat_lit 424,nat_lit 426,nat_lit 427,nat_lit 428,nat_lit 430,nat_lit 431,nat_lit 433,nat_lit 434,nat_lit 435,nat_lit 437,nat_lit 438,nat_lit 440,nat_lit 441] (fun _=>by kernel_rfl) [285,30,105,79])
 (case hw=>w_witness2)
 k_fill
 refine L2.E8 (l:=PySem.Challenge.rw_unlikeplace_k13_whole_sayings_and_their) (n:=63) (k:=40) (x:="_law_script") (CX:=L2.CX0) (sp:=My.wb) rfl (by decide) rfl ⟨rfl,by decide,by decide,rfl⟩ (fun w h Y=>by first | exact PySem.W.kIn_of Y | exact PySem.W.km_in_of Y) (fun w=>by kernel_rfl) ?F ?S ?C
 case F =>
  intro w mg fa h KX G hmg
  have T : ∃ t,t.wo = w/\My.Txt (L2.KOf KX) mg t:=by
   dsimp only [L2.KOf]
   refine' My.KU w KX G ?jg ?jC ?kZ ?im ?eD ?ip ?c5 ?fh ?i7 ?dC ?gv ?eB ?eE ?wS ?qN ?lN ?qB ?oM ?jr ?fy ?oP ?lZ ?gw ?lL ?jv ?lK ?ek ?fi ?gh ?ck ?gu ?fj ?gc ?gz ?eC ?c6 ?u7 ?ju ?er ?cZ ?dG ?lM ?gl ?pM ?lD ?gp ?lJ ?fx ?fF ?dF ?gq ?gx ?eh ?jp ?jA ?l7 ?db ?ca ?cL ?l5 ?jb ?je ?gf ?eY ?iY ?gb ?dE ?c9 ?dB ?eG ?gg ?HK ?HM ?Gk ?BB ?iX ?jY ?jM ?gQ ?h8 ?li ?pY ?p7 ?kP ?kz ?wI ?BE ?CJ ?w6 ?xj ?pd ?vf ?uC ?pC ?o7 ?pi ?uN ?vq ?pw ?pJ ?EL ?EX ?E4 ?As ?kF ?G7 ?j6 ?GZ ?Aq ?FS ?Hd ?xt ?tq ?Ft ?vA ?F7
   (case jg=>walk_at "q")
   (case jC=>walk_at "q")
   (case kZ=>k_is)
   (case im=>k_is)
   (case eD=>k_is)
   (case ip=>k_is)
   (case c5=>walk_at "q")
   (case fh=>walk_at "q")
   (case i7=>walk_at "q")
   (case dC=>walk_at "q")
   (case gv=>walk_at "q")
   (case eB=>walk_at "q")
   (case eE=>walk_at "q")
   (case wS=>k_is)
   (case qN=>k_is)
   (case lN=>k_is)
   (case qB=>k_is)
   (case oM=>walk_at "q")
   (case jr=>walk_at "q")
   (case fy=>walk_at "q")
   (case oP=>k_is)
   (case lZ=>k_is)
   (case gw=>k_is)
   (case lL=>k_is)
   (case jv=>walk_at "q")
   (case lK=>walk_at "q")
   (case ek=>walk_at "q")
   (case fi=>walk_at "q")
   (case gh=>walk_at "q")
   (case ck=>walk_at "q")
   (case gu=>walk_at "q")
   (case fj=>walk_at "q")
   (case gc=>walk_at "q")
   (case gz=>walk_at "q")
   (case eC=>walk_at "q")
   (case c6=>walk_at "q")
   (case u7=>walk_at "q")
   (case ju=>walk_at "q")
   (case er=>walk_at "q")
   (case cZ=>walk_at "q")
   (case dG=>walk_at "q")
   (case lM=>walk_at "q")
   (case gl=>walk_at "q")
   (case pM=>k_is)
   (case lD=>k_is)
   (case gp=>k_is)
   (case lJ=>k_is)
   (case fx=>walk_at "q")
   (case fF=>walk_at "q")
   (case dF=>walk_at "q")
   (case gq=>walk_at "q")
   (case gx=>walk_at "q")
   (case eh=>walk_at "q")
   (case jp=>walk_at "q")
   (case jA=>walk_at "q")
   (case l7=>walk_at "q")
   (case db=>walk_at "q")
   (case ca=>walk_at "q")
   (case cL=>walk_at "q")
   (case l5=>walk_at "q")
   (case jb=>walk_at "q")
   (case je=>walk_at "q")
   (case gf=>walk_at "q")
   (case eY=>walk_at "q")
   (case iY=>walk_at "q")
   (case gb=>walk_at "q")
   (case dE=>walk_at "q")
   (case c9=>walk_at "q")
   (case dB=>walk_at "q")
   (case eG=>walk_at "q")
   (case gg=>walk_at "q")
   (case HK=>k_is)
   (case HM=>k_is)
   (case Gk=>k_is)
   (case BB=>k_is)
   (case iX=>k_is)
   (case jY=>k_is)
   (case jM=>k_is)
   (case gQ=>k_is)
   (case h8=>k_is)
   (case li=>rfl)
   (case pY=>k_is)
   (case p7=>rfl)
   (case kP=>kernel_rfl)
   (case kz=>kernel_rfl)
   (case wI=>rfl)
   (case BE=>k_is)
   (case CJ=>rfl)
   (case w6=>kernel_rfl)
   (case xj=>kernel_rfl)
   (case pd=>rfl)
   (case vf=>k_is)
   (case uC=>rfl)
   (case pC=>kernel_rfl)
   (case o7=>kernel_rfl)
   (case pi=>rfl)
   (case uN=>k_is)
   (case vq=>rfl)
   (case pw=>kernel_rfl)
   (case pJ=>kernel_rfl)
   (case EL=>k_is)
   (case EX=>k_is)
   (case E4=>k_is)
   (case As=>k_is)
   (case kF=>k_is)
   (case G7=>k_is)
   (case j6=>k_is)
   (case GZ=>k_is)
   (case Aq=>k_is)
   (case FS=>k_is)
   (case Hd=>k_is)
   (case xt=>k_is)
   (case tq=>k_is)
   (case Ft=>k_is)
   (case vA=>k_is)
   (case F7=>k_is)
  obtain ⟨t,hw,T⟩:=T
  have e0:=hmg.symm.trans T.Nm
  cases e0
  exact ⟨_,T.Lf,fun base=>My.IA hw T⟩
 case S=>exact fun K H a ns hl hO hS=>My.Ea hl hO hS
 case C=>exact fun _ _ _ _ h=>h
