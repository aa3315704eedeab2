import PyProof.Rows.All
import Wide.All
import OpenK.AllK
import Wide.FinOn
import Lean
import PyProof.EqAt
import PyProof.EqKinds
import PyProof.TupleCall
import PyProof.NeKinds
import PyProof.Rows.StrLen
import PyProof.AutoIntG2
import PyProof.FactsAll.int_6
import PyProof.Rows.BootFacts.P1
import PyProof.ReprRoads
import PyProof.ListRange
import PyProof.TupleOfSeq
import PyProof.EnumMake
import PyProof.StrWalks
import PyProof.Rows.Range3
import PyProof.Rows.SetFrom
import KE.KIntText
import PyProof.FString
import PyProof.StrCalls2
import PyProof.StrOps2
import PyProof.SliceStr2
import PyProof.StrBlockI
import PyProof.StrBlockL
import PyProof.StrLaws
import OpenK.KOwn
import KE.KTryMore
import PyProof.ExcAttrAll.ValueError
import PyProof.NsDelKeeps
import KE.KRevIter
import PyProof.DictRoadsH
import PyProof.ListMulRoad
import PySem.Challenge.RW_unlikeplace_k50_whole_carried_along
noncomputable section
set_option Elab.async false
set_option linter.all false
set_option maxRecDepth 100000
namespace L2
open PySem PySem.Spec PyProof.Rows
noncomputable abbrev Key:=Sum Int Str
noncomputable def mo:Key->Value->Bool
 |.inl k,v=>Value.isInt k v
 |.inr x,v=>Value.isStrOf x v
noncomputable def M3(w:World):Key->Int
 |.inl k=>hashInt k
 |.inr x=>hashStr w x
theorem cj:∀ {k:Key} {v:Value},mo k v=true->(∃i t,k=Sum.inl i/\v=Value.int i t)\/(∃x t,k=Sum.inr x/\v=Value.str x t)
 |.inl i,v,h=>by
  obtain⟨t,e⟩:=Value.isInt_shape (k:=i) (v:=v) h;exact .inl ⟨i,t,rfl,e⟩
 |.inr x,v,h=>by
  obtain⟨t,e⟩:=Value.isStrOf_shape (x:=x) (v:=v) h;exact .inr ⟨x,t,rfl,e⟩
theorem Dl(i:Int)(t:Tok):mo (.inl i) (.int i t)=true:=by simp[mo,Value.isInt]
theorem vG(x:Str)(t:Tok):mo (.inr x) (.str x t)=true:=by simp[mo,Value.isStrOf]
theorem K9(a b:Int):decide ((Sum.inl a:Key)=Sum.inl b)=(a == b):=by
 by_cases e:a=b
 ·subst e;simp
 ·have h:¬ (Sum.inl a:Key)=Sum.inl b:=fun q=>e (Sum.inl.inj q)
  rw[decide_eq_false h];exact(beq_eq_false_iff_ne.mpr e).symm
theorem KQ(a b:Str):decide ((Sum.inr a:Key)=Sum.inr b)=decide (a=b):=by
 by_cases e:a=b
 ·subst e;simp
 ·have h:¬ (Sum.inr a:Key)=Sum.inr b:=fun q=>e (Sum.inr.inj q)
  rw[decide_eq_false h,decide_eq_false e]
theorem KJ(a:Int)(b:Str):decide ((Sum.inl a:Key)=Sum.inr b)=false:=decide_eq_false (fun q=>nomatch q)
theorem Lf(a:Str)(b:Int):decide ((Sum.inr a:Key)=Sum.inl b)=false:=decide_eq_false (fun q=>nomatch q)
noncomputable def bx(prog:Program)(w:World):PySem.KeyKind prog w Key where
 is:=mo
 hash:=M3 w
 inj:=fun v a b ha hb=>by
  rcases cj ha with⟨i,t,rfl,rfl⟩|⟨x,t,rfl,rfl⟩
  ·rcases cj hb with⟨j,u,rfl,e⟩|⟨y,u,rfl,e⟩
   ·injection e with e1 _;rw[e1]
   ·exact nomatch e
  ·rcases cj hb with⟨j,u,rfl,e⟩|⟨y,u,rfl,e⟩
   ·exact nomatch e
   ·injection e with e1 _;rw[e1]
 byValue:=fun k v h=>by
  rcases cj h with⟨i,t,rfl,rfl⟩|⟨x,t,rfl,rfl⟩<;>rfl
 pyHash:=fun hv h=>by
  rcases cj hv with⟨i,t,rfl,rfl⟩|⟨x,t,rfl,rfl⟩
  ·exact wpAny_pyHash_int h
  ·exact wpAny_pyHash_str h
 eqBool:=fun hu hv h=>by
  rcases cj hu with⟨i,t,rfl,rfl⟩|⟨x,t,rfl,rfl⟩
  ·rcases cj hv with⟨j,u,rfl,rfl⟩|⟨y,u,rfl,rfl⟩
   ·rw[K9] at h;exact wpAny_eqBool_int h
   ·rw[KJ] at h;exact SeqAt.EqAt.int_str i t y u _ _ _ _ h
  ·rcases cj hv with⟨j,u,rfl,rfl⟩|⟨y,u,rfl,rfl⟩
   ·rw[Lf] at h;exact SeqAt.EqAt.str_int x t j u _ _ _ _ h
   ·rw[KQ] at h;exact wpAny_eqBool_str h
 «strs»:=fun k x t v h=>by
  rcases cj h with⟨i,u,rfl,e⟩|⟨y,u,rfl,e⟩
  ·exact nomatch e
  ·injection e with e1 _
   subst e1;cases v<;>rfl
theorem Am(prog:Program)(w:World)(k:Key)(v:Value):(bx prog w).is k v=mo k v:=rfl
theorem xX(prog:Program)(w:World)(i:Int)(t:Tok):(bx prog w).is (.inl i) (.int i t)=true:=Dl i t
theorem lR(prog:Program)(w:World)(x:Str)(t:Tok):(bx prog w).is (.inr x) (.str x t)=true:=vG x t
inductive V where
 |non|bl (b:Bool)|int (i:Int)|str (x:Str)|byt (b:Array UInt8)|flt (b:UInt64)|ref (a:Addr)|ty (n:String)
 deriving DecidableEq
noncomputable def bp:V->Value->Prop
 |.non,u=>u=Value.none
 |.bl b,u=>u=Value.bool b
 |.int i,u=>∃t,u=Value.int i t
 |.str x,u=>∃t,u=Value.str x t
 |.byt b,u=>∃t,u=Value.bytes b t
 |.flt b,u=>∃t,u=Value.float b t
 |.ref a,u=>u=Value.ref a
 |.ty n,u=>u=Value.type n
noncomputable abbrev aT:List V->List Value->Prop:=Paired bp
theorem aT.length{xs:List V}{us:List Value}(r:aT xs us):xs.length=us.length:=Paired.length r
theorem aT.get:∀ {xs:List V} {us:List Value} {i:Nat} {x:V},aT xs us->xs[i]?=some x->∃u,us[i]?=some u/\bp x u
 |_,_,_,_,.nil,e=>by simp at e
 |_,_,0,_,.cons r _,e=>by simp at e;subst e;exact⟨_,rfl,r⟩
 |_,_,i+1,x,.cons _ t,e=>by
  obtain⟨u,h1,h2⟩:=aT.get (i:=i) (x:=x) t (by simpa using e)
  exact⟨u,by simpa using h1,h2⟩
theorem aT.set{x:V}{u:Value}(r:bp x u):∀ {xs:List V} {us:List Value} (i:Nat),aT xs us->aT (xs.set i x) (us.set i u)
 |_,_,_,.nil=>.nil
 |_,_,0,.cons _ t=>.cons r t
 |_,_,i+1,.cons q t=>.cons q (aT.set r i t)
theorem aT.append:∀ {xs ys:List V} {us ws:List Value},aT xs us->aT ys ws->aT (xs++ys) (us++ws)
 |_,_,_,_,.nil,s=>s
 |_,_,_,_,.cons r t,s=>.cons r (aT.append t s)
theorem aT.take:∀ {xs:List V} {us:List Value} (n:Nat),aT xs us->aT (xs.take n) (us.take n)
 |_,_,0,_=>.nil
 |_,_,_+1,.nil=>.nil
 |_,_,n+1,.cons r t=>.cons r (aT.take n t)
theorem aT.drop:∀ {xs:List V} {us:List Value} (n:Nat),aT xs us->aT (xs.drop n) (us.drop n)
 |_,_,0,r=>r
 |_,_,_+1,.nil=>.nil
 |_,_,n+1,.cons _ t=>aT.drop n t
noncomputable def uw:Option V->Option Value->Prop
 |some v,some u=>bp v u
 |none,none=>True
 |_,_=>False
noncomputable def KV{κ:Type}:List (κ×V)->List (κ×Value)->Prop:=Paired fun(p:κ×V) (q:κ×Value)=>p.1=q.1/\bp p.2 q.2
noncomputable def kV:Key->V
 |.inl i=>.int i
 |.inr x=>.str x
inductive HO where
 |lst (xs:List V)
 |tup (xs:List V)
 |dK (kvs:List (Key×V))|dT (kvs:List (List Key×V))
 |set (S:Int->Bool) (n:Nat)
 |ins (C dx:Addr) (fs:List (Str×V))
 |own (x:Addr)
 |xd (fs:List (Str×V))
 |met (f x:Addr)
 |rng (lo hi:Int)
 |frz (o:Obj) (u:HO)
 |tbl (ps:Array Value)
 |ext (φ:Heap->Prop)
noncomputable abbrev Hp:=Addr->Option HO
noncomputable def upd(H:Hp)(a:Addr)(o:HO):Hp:=fun b=>if b=a then some o else H b
theorem bY{H:Hp}{a:Addr}{o:HO}:upd H a o a=some o:=by unfold upd;rw[if_pos rfl]
theorem aD{H:Hp}{a b:Addr}{o:HO}(h:b≠a):upd H a o b=H b:=by unfold upd;rw[if_neg h]
theorem LS{H:Hp}{a b:Addr}{o u:HO}(h:H a=some o)(h':H b=some u)(d:o≠u):a≠b:=by
 intro e;subst e;rw[h] at h';exact d (Option.some.inj h')
theorem aW{H:Hp}{a b:Addr}{o:HO}(h:H a=some o)(h':H b=none):a≠b:=by
 intro e;subst e;rw[h] at h';cases h'
noncomputable def wD(h:Heap)(a:Addr)(items:Array Value):Prop:=IsTup h a items/\∃o,h.get? a=some o/\o.dict=none
theorem wD.lt{h:Heap}{a:Addr}{items:Array Value}(x:wD h a items):a<h.objs.size:=x.1.lt
theorem wD.new(h:Heap)(items:Array Value):wD (h.push { cls:=.type "tuple",data:=.seq items }) h.objs.size items:=⟨IsTup.new h items,_,Heap.get?_push_size _ rfl,rfl⟩
noncomputable def Bm(H:Hp)(a:Addr)(ps qs:Array Value):Prop:=TriplesOk qs.toList/\∀(pos:Pos)(cv:Value),codeAmong pos qs.toList=some cv ->
 ∃(c:Addr)(o:Obj)(vs:Array Value)(t:Tok)(q:Str),cv=.ref c/\H c=some (.frz o (.own a))/\o.data=.fields vs/\vs[1]?=some (.str q t)/\ps[0]?=some (.str q 0)
theorem Bm.mono{H H':Hp}{a:Addr}{ps qs:Array Value}(x:Bm H a ps qs)(k:∀b o u,H b=some (.frz o u)->H' b=some (.frz o u)):Bm H' a ps qs:=
 ⟨x.1,fun pos cv e=>let ⟨c,o,vs,t,q,e1,e2,r⟩:=x.2 pos cv e;⟨c,o,vs,t,q,e1,k _ _ _ e2,r⟩⟩
section
variable(P:Program)(w:World)
noncomputable def dc(H:Hp)(h:Heap)(a:Addr):HO->Prop
 |.lst xs=>xs.length<=sizeLine/\∃(its:List Value)(n:Nat),aT xs its/\h.get? a=some { cls:=.type "list",data:=.seq its.toArray n }
 |.tup xs=>xs.length<=sizeLine/\∃its:List Value,aT xs its/\wD h a its.toArray
 |.dK kvs=>kvs.length<=sizeLine/\(a == sysModules)=false/\∃vs,KV kvs vs/\h.DictOf (bx P w) a vs
 |.dT kvs=>kvs.length<=sizeLine/\(a == sysModules)=false/\∃xs:List (List Key×Addr×Value),
   Paired (fun(p:List Key×V) (q:List Key×Addr×Value)=>p.1=q.1/\H q.2.1=some (.tup (p.1.map kV))/\bp p.2 q.2.2) kvs xs /\
   ∃o es ep,h.get? a=some o/\o.ExactDict/\o.data=.dict es ep/\es.toList=xs.map (entryOfKey (tupleKind (bx P w)))/\(xs.map (·.1)).Nodup
 |.set S n=>h.SetOf (intKind P w) a S n
 |.ins C dx fs=>H dx=some (.own a)/\fs.length<=1000/\dx≠a/\h.get? a=some (W.instObj C dx) /\
   ∃mA,h.Ns1 dx mA/\(∀f,uw (fs.lookup f) (mA f))/\PySem.Within mA (fs.map (·.1))
 |.own _=>∃o,h.get? a=some o
 |.xd fs=>∃mA,h.Ns1 a mA/\∀f,uw (fs.lookup f) (mA f)
 |.rng lo hi=>∃t u v,h.get? a=some { cls:=.type "range",data:=.fields #[.int lo t,.int hi u,.int 1 v] }
 |.frz o u=>h.get? a=some o/\dc H h a u
 |.tbl ps=>∃qs:Array Value,h.get? a=some { cls:=.none,data:=.fields qs }/\Bm H a ps qs
 |.met f x=>h.get? a=some (W.methodObj (.ref f) (.ref x))
 |.ext φ=>φ h/\(∃o,h.get? a=some o)/\∀h1 h2:Heap,φ h1->(∀o,h1.get? a=some o->h2.get? a=some o)->φ h2
noncomputable def HOk(H:Hp)(h:Heap):Prop:=∀a o,H a=some o->dc P w H h a o
end
section
variable{P:Program}{w:World}{H H':Hp}{h h':Heap}{a:Addr}{o:HO}
theorem dc.lt(x:dc P w H h a o):a<h.objs.size:=by
 cases o with
 |lst xs=>obtain⟨_,_,_,_,e⟩:=x;exact Heap.lt_size e
 |tup xs=>obtain⟨_,_,_,p⟩:=x;exact p.lt
 |dK kvs=>obtain⟨_,_,_,_,o,_,_,e,_⟩:=x;exact Heap.lt_size e
 |dT kvs=>obtain⟨_,_,_,_,o,_,_,e,_⟩:=x;exact Heap.lt_size e
 |set S n=>obtain⟨o,_,_,_,e,_⟩:=x;exact Heap.lt_size e
 |ins C dx fs=>obtain⟨_,_,_,e,_⟩:=x;exact Heap.lt_size e
 |own y=>obtain⟨_,e⟩:=x;exact Heap.lt_size e
 |xd fs=>obtain⟨_,⟨_,_,_,e,_⟩,_⟩:=x;exact Heap.lt_size e
 |rng lo hi=>obtain⟨_,_,_,e⟩:=x;exact Heap.lt_size e
 |frz ob u=>obtain⟨e,_⟩:=x;exact Heap.lt_size e
 |tbl ps=>obtain⟨qs,e,_⟩:=x;exact Heap.lt_size e
 |met f y=>exact Heap.lt_size (show h.get? a=some _ from x)
 |ext φ=>obtain⟨_,⟨_,e⟩,_⟩:=x;exact Heap.lt_size e
theorem Paired.NP{α β:Type}{F G:α->β->Prop}:∀ {l₁:List α} {l₂:List β},Paired F l₁ l₂->(∀a b,F a b->G a b)->Paired G l₁ l₂
 |_,_,.nil,_=>.nil
 |_,_,.cons r t,f=>.cons (f _ _ r) (Paired.NP t f)
theorem dc.stay(x:dc P w H h a o)(k:∀b u,(b=a\/H b=some (.own a))->h.get? b=some u->h'.get? b=some u)(ho:∀b,H b=some (.own a)->H' b=some (.own a))(ht:∀b xs,H b=some (.tup xs)->H' b=some (.tup xs))(hf:∀b o u,H b=some (.frz o u)->H' b=some (.frz o u)):dc P w H' h' a o:=by
 induction o with
 |lst xs=>obtain⟨z,its,n,r,e⟩:=x;exact⟨z,its,n,r,k _ _ (.inl rfl) e⟩
 |tup xs=>obtain⟨z,its,r,⟨ob,e,c⟩,ob',e',c'⟩:=x;exact⟨z,its,r,⟨ob,k _ _ (.inl rfl) e,c⟩,ob',k _ _ (.inl rfl) e',c'⟩
 |dK kvs=>obtain⟨z,y,vs,r,ob,es,ep,e,c⟩:=x;exact⟨z,y,vs,r,ob,es,ep,k _ _ (.inl rfl) e,c⟩
 |dT kvs=>
  obtain⟨z,y,xs,r,ob,es,ep,e,c⟩:=x;exact⟨z,y,xs,Paired.NP r fun p q z=>⟨z.1,ht _ _ z.2.1,z.2.2⟩,ob,es,ep,k _ _ (.inl rfl) e,c⟩
 |set S n=>obtain⟨ob,es,ep,t,e,c⟩:=x;exact⟨ob,es,ep,t,k _ _ (.inl rfl) e,c⟩
 |ins C dx fs=>
  obtain⟨d,z,ne,e,mA,⟨od,es,ep,e2,c⟩,r⟩:=x;exact⟨ho _ d,z,ne,k _ _ (.inl rfl) e,mA,⟨od,es,ep,k _ _ (.inr d) e2,c⟩,r⟩
 |own y=>obtain⟨ob,e⟩:=x;exact⟨ob,k _ _ (.inl rfl) e⟩
 |xd fs=>obtain⟨mA,⟨od,es,ep,e,c⟩,r⟩:=x;exact⟨mA,⟨od,es,ep,k _ _ (.inl rfl) e,c⟩,r⟩
 |rng lo hi=>obtain⟨t,u,v,e⟩:=x;exact⟨t,u,v,k _ _ (.inl rfl) e⟩
 |frz ob u ih=>obtain⟨e,q⟩:=x;exact⟨k _ _ (.inl rfl) e,ih q⟩
 |tbl ps=>obtain⟨qs,e,z⟩:=x;exact⟨qs,k a _ (.inl rfl) e,z.mono hf⟩
 |met f y=>
  have e:h.get? a=some (W.methodObj (.ref f) (.ref y)):=x;show h'.get? a=some (W.methodObj (.ref f) (.ref y));exact k a _ (.inl rfl) e
 |ext φ=>obtain⟨p,⟨o,e⟩,st⟩:=x;exact⟨st _ _ p fun o q=>k _ _ (.inl rfl) q,⟨o,k _ _ (.inl rfl) e⟩,st⟩
theorem HOk.lt(x:HOk P w H h)(e:H a=some o):a<h.objs.size:=(x a o e).lt
theorem HOk.fresh(x:HOk P w H h)(e:h.objs.size<=a):H a=none:=by
 cases q:H a with
 |none=>rfl
 |some u=>exact absurd (Nat.lt_of_lt_of_le (x.lt q) e) (Nat.lt_irrefl _)
theorem HOk.kept(x:HOk P w H h)(k:∀b u,h.get? b=some u->h'.get? b=some u):HOk P w H h':=fun a o e=>
 (x a o e).stay (fun b u _ q=>k b u q) (fun _ q=>q) (fun _ _ q=>q) fun _ _ _ q=>q
theorem HOk.laid(x:HOk P w H h)(k:∀b u,h.get? b=some u->h'.get? b=some u)(hp:h.objs.size<=a)(new:dc P w (upd H a o) h' a o):HOk P w (upd H a o) h':=fun b u e=>by
 have hn:=x.fresh hp;by_cases hb:b=a
 ·subst hb;rw[bY] at e;cases e;exact new
 ·rw[aD hb] at e
  exact(x b u e).stay (fun c v _ q=>k c v q) (fun c q=>by rw[aD (aW q hn)];exact q) (fun c xs q=>by rw[aD (aW q hn)];exact q) fun c o' u' q=>by rw[aD (aW q hn)];exact q
end
noncomputable def Rd(H:Hp)(a:Addr)(u:HO):Prop:=H a=some u\/∃o,H a=some (.frz o u)
theorem Rd.ok{P:Program}{w:World}{H:Hp}{h:Heap}{a:Addr}{u:HO}(r:Rd H a u)(x:HOk P w H h):dc P w H h a u:=by
 rcases r with r|⟨o,r⟩
 ·exact x a u r
 ·obtain⟨_,q⟩:=x a _ r
  exact q
noncomputable def Mut:Option HO->Prop
 |some (.lst _)=>True
 |some (.dK _)=>True
 |some (.dT _)=>True
 |some (.set _ _)=>True
 |some (.ins _ _ _)=>True
 |some (.ext _)=>True
 |_=>False
section
variable{P:Program}{w:World}{H:Hp}{h h':Heap}{x e:Addr}{o':HO}
theorem HOk.write(ok:HOk P w H h)(mu:Mut (H x))(he:e=x\/H e=some (.own x))(k:∀b u,b≠e->h.get? b=some u->h'.get? b=some u)(heo:∃u,h'.get? e=some u)(new:dc P w (upd H x o') h' x o'):HOk P w (upd H x o') h':=fun b u q=>by
 have nown:∀c y,H c=some (.own y)->c≠x:=fun c y r z=>by subst z;rw[r] at mu;exact mu
 have ntup:∀c xs,H c=some (.tup xs)->c≠x:=fun c xs r z=>by subst z;rw[r] at mu;exact mu
 by_cases hb:b=x
 ·subst hb;rw[bY] at q;cases q;exact new
 ·rw[aD hb] at q
  by_cases hbe:b=e
  ·have q':H b=some (.own x):=by
    rcases he with z|z
    ·exact absurd (hbe.trans z) hb
    ·rw[hbe];exact z
   rw[q] at q';cases q';obtain⟨v,hv⟩:=heo;exact⟨v,by rw[hbe];exact hv⟩
  ·refine(ok b u q).stay (fun c v hc r=>k c v ?_ r) (fun c r=>by rw[aD (nown c b r)];exact r) (fun c xs r=>by rw[aD (ntup c xs r)];exact r) fun c o' u' r=>by rw[aD (fun z=>by subst z;rw[r] at mu;exact mu)];exact r
   rcases hc with rfl|hc
   ·exact hbe
   ·rintro rfl
    rcases he with z|z
    ·exact nown c b hc z
    ·rw[hc] at z;cases z;exact hb rfl
end
structure Un(fs ex:List Addr)(H H':Hp)(h h':Heap):Prop where
 keep:∀b o,h.get? b=some o->H b=none->b ∉ fs->b ∉ ex->h'.get? b=some o
 slot:∀b o,h.get? b=some o->H b=none->b∈fs->b ∉ ex->∃sl,h'.get? b=some { o with slots:=sl }
 free:∀b o,h.get? b=some o->H b=none->b ∉ ex->H' b=none
 there:∀b o,h.get? b=some o->b ∉ ex->∃o',h'.get? b=some o'
 tups:∀b xs,H b=some (.tup xs)->H' b=some (.tup xs)
 frzs:∀b o u,H b=some (.frz o u)->H' b=some (.frz o u)
 tbls:∀b ps,H b=some (.tbl ps)->∃more,H' b=some (.tbl (ps++more))
section
variable{fs fs' ex ex':List Addr}{H H1 H2:Hp}{h h1 h2 h':Heap}{a x e:Addr}{o:HO}
theorem Un.any(u:Un fs ex H H1 h h1){b:Addr}{ob:Obj}(q:h.get? b=some ob)(n:H b=none)(hx:b ∉ ex):∃sl,h1.get? b=some { ob with slots:=sl }:=by
 by_cases hb:b∈fs
 ·exact u.slot b ob q n hb hx
 ·exact⟨ob.slots,u.keep b ob q n hb hx⟩
theorem Un.kept(k:∀b u,h.get? b=some u->h'.get? b=some u):Un fs ex H H h h':=
 ⟨fun b ob q _ _ _=>k b ob q,fun b ob q _ _ _=>⟨ob.slots,k b ob q⟩,fun _ _ _ n _=>n,fun b ob q _=>⟨ob,k b ob q⟩,fun _ _ q=>q,fun _ _ _ q=>q,fun _ ps q=>⟨#[],by rw[q];simp⟩⟩
theorem Un.refl:Un fs ex H H h h:=Un.kept fun _ _ q=>q
theorem Un.laid(k:∀b u,h.get? b=some u->h'.get? b=some u)(hp:h.objs.size<=a)(hn:H a=none):Un fs ex H (upd H a o) h h' where
 keep:=fun b u q _ _ _=>k b u q
 slot:=fun b u q _ _ _=>⟨u.slots,k b u q⟩
 free:=fun b u q n _=>by rw[aD (Nat.ne_of_lt (Nat.lt_of_lt_of_le (Heap.lt_size q) hp))];exact n
 there:=fun b u q _=>⟨u,k b u q⟩
 tups:=fun b xs q=>by rw[aD (aW q hn)];exact q
 frzs:=fun b u xs q=>by rw[aD (aW q hn)];exact q
 tbls:=fun b ps q=>⟨#[],by rw[aD (aW q hn),q];simp⟩
theorem Un.write(mu:Mut (H x))(he:e=x\/H e=some (.own x))(k:∀b u,b≠e->h.get? b=some u->h'.get? b=some u)(heo:∃u,h'.get? e=some u):Un fs ex H (upd H x o) h h':=by
 have hx:∀b,H b=none->b≠x:=fun b n z=>by subst z;rw[n] at mu;exact mu
 have hb:∀b,H b=none->b≠e:=fun b n z=>by
  subst z;rcases he with r|r
  ·exact hx b n r
  ·rw[n] at r;cases r
 have hm:∀b u,H b=some u->¬ Mut (some u)->b≠x:=fun b u q nm z=>by subst z;rw[q] at mu;exact nm mu
 refine⟨fun b u q n _ _=>k b u (hb b n) q,fun b u q n _ _=>⟨u.slots,k b u (hb b n) q⟩,fun b u q n _=>by rw[aD (hx b n)];exact n,fun b u q _=>?_,
  fun b xs q=>by rw[aD (hm b _ q fun z=>z)];exact q,fun b u xs q=>by rw[aD (hm b _ q fun z=>z)];exact q,fun b ps q=>⟨#[],by rw[aD (hm b _ q fun z=>z),q];simp⟩⟩
 by_cases hbe:b=e
 ·subst hbe;exact heo
 ·exact⟨u,k b u hbe q⟩
end
noncomputable def trk(h:Heap)(H:Hp):List Addr:=(List.range h.objs.size).filter fun a=>(H a).isSome
noncomputable def vO(h:Heap)(H:Hp):Heap:=W.hideAll h (trk h H)
theorem C1(h:Heap)(H:Hp):(vO h H).objs.size=h.objs.size:=W.hideAll_size _ _
theorem Gx{h:Heap}{H:Hp}{b:Addr}{o:Obj}(e:h.get? b=some o)(n:H b=none):(vO h H).get? b=some o:=
 W.hideAll_get _ e fun hm=>by
  have q:(H b).isSome=true:=(List.mem_filter.mp hm).2;rw[n] at q;simp at q
theorem G7{h:Heap}{H:Hp}{b:Addr}{o:Obj}(e:(vO h H).get? b=some o):h.get? b=some o/\H b=none:=by
 have e':h.get? b=some o:=W.of_hideAll (trk h H) e;refine⟨e',?_⟩
 cases q:H b with
 |none=>rfl
 |some x=>
  have hm:b∈trk h H:=List.mem_filter.mpr ⟨List.mem_range.mpr (Heap.lt_size e'),by simp[q]⟩
  have z:(vO h H).get? b=none:=W.hideAll_none (trk h H) hm;rw[z] at e;cases e
noncomputable def Hc(g h:Heap)(L:Addr):List (Addr×Obj):=(List.range h.objs.size).filterMap fun a=>if a=L\/(g.get? a).isSome=true then none else (h.get? a).map fun o=>(a,o)
noncomputable def bB(g h:Heap)(L d:Addr):List (Addr×Obj):=(Hc g h L).filter fun p=>decide (p.1≠d)
noncomputable def jm(K:W.Frag):List (Str×Addr×Addr):=match K.lookup mainGlobals with
 |some ⟨_,_,.dict es _,_⟩=>es.toList.filterMap fun e=>match e.key with
  |.str x _=>(W.tabIn K x).map fun q=>(x,q)
  |_=>none
 |_=>[]
noncomputable def DD(K:W.Frag)(H:Hp):Prop:=∀q∈jm K,∃ps,H q.2.2=some (.tbl ps)/\ps[0]?=some (.str (q.1 ++ ".<locals>." ++ "<lambda>") 0)
theorem DD.mono{K:W.Frag}{H H':Hp}(x:DD K H)(k:∀b ps,H b=some (.tbl ps)->∃more,H' b=some (.tbl (ps++more))):DD K H':=fun q hq=>by
 obtain⟨ps,e,z⟩:=x q hq;obtain⟨more,e'⟩:=k _ _ e;refine⟨_,e',?_⟩
 have hz:0<ps.size:=by
  rcases Nat.eq_zero_or_pos ps.size with h|h
  ·rw[Array.getElem?_eq_none (by omega)] at z;cases z
  ·exact h
 rw[Array.getElem?_append_left hz];exact z
structure Mod(K:W.Frag)(mg:Str->Option Value)(base:Heap):Prop where
 kin:K.In base
 glob:base.Ns mainGlobals mg
 blt:∃mb,base.Ns builtinsNs mb/\∀x:Str,x≠"__name__"->mb x=bootBuiltins x
 nolimit:base.NoLimit
 bm:∃bm ob,mg "__builtins__"=some (.ref bm)/\bm≠builtinsNs/\base.get? bm=some ob/\ob.cls=.type "module"/\ob.dict=some builtinsNs/\ob.data=.plain
structure Cx where
 prog:Program
 w:World
 K:W.Frag
 mg:Str->Option Value
 base:Heap
 A:Around
 N:List Str
 s₀:Shared
 H₀:Hp
 env:Env
 outer:List Env
 stack:List Env
 ex:List Addr
 fn:Str->Bool
 calm:Bool
 pn:List (Addr×Obj)
 xe:Value->Shared->Prop
noncomputable def frs(l:List Env):List Addr:=l.filterMap (·.frame)
noncomputable abbrev Cx.fs(X:Cx):List Addr:=frs X.outer
noncomputable def Vis(sc:Scope)(x:Str):Prop:=sc.names.lookup x=some .local\/sc.names.lookup x=some .cell\/sc.names.lookup x=some .free
noncomputable def Loc(sc:Scope)(x:Str):Prop:=sc.names.lookup x=some .local\/sc.names.lookup x=some .cell
noncomputable def M5(env:Env)(h:Heap)(m:Str->Option Value)(x:Str)(u:Value):Prop:=
 (env.kindOf x=some .local/\m x=some u)\/((env.kindOf x=some .cell\/env.kindOf x=some .free)/\∃c,env.cells.lookup x=some c/\h.IsCell c (some u))
structure Cx.Ok(X:Cx):Prop where
 mod:Mod X.K X.mg X.base
 kind:X.env.scope.kind=.function
 glob:X.env.globals=mainGlobals
 blt:X.env.builtins=builtinsNs
 above:X.s₀.heap.objs.size<=X.env.locals
 inj:∀x y c,X.env.cells.lookup x=some c->X.env.cells.lookup y=some c->x=y
 has:∀x,(X.env.kindOf x=some .cell\/X.env.kindOf x=some .free)->∃c,X.env.cells.lookup x=some c
 cab:∀x c,X.fn x=true->X.env.cells.lookup x=some c->X.s₀.heap.objs.size<=c
 hd:X.calm=true->X.A.handled=none
 frames:X.A.frames=some X.stack
 stk:X.stack=X.outer\/(X.stack=X.env::X.outer/\X.env.frame=some X.env.locals)
 exf:∀b∈X.ex,b≠X.env.locals/\∀x c,X.env.cells.lookup x=some c->c≠b
 bs:∀b o,X.base.get? b=some o->X.s₀.heap.get? b=some o/\X.H₀ b=none
 bsz:X.base.objs.size<=X.s₀.heap.objs.size
 noex:∀b o,X.base.get? b=some o->b ∉ X.ex
 exfs:∀b∈X.ex,b ∉ X.fs
 funs:X.s₀.heap.FunFrames X.base X.outer
 frf:∀b∈X.fs,X.H₀ b=none
 tt:DD X.K X.H₀
structure Inv(X:Cx)(pins:List (Addr×Obj))(σ:List (Option V))(H:Hp)(s:Shared):Prop where
 ok:X.Ok
 os:s.os=X.s₀.os
 bare:AllBare s.gens
 base:Un X.fs X.ex X.H₀ H X.s₀.heap s.heap
 loc:∃m,s.heap.Ns X.env.locals m/\∀(i:Nat)(x:Str)(v:V),X.N[i]?=some x->σ[i]?=some (some v)->Vis X.env.scope x->∃u,bp v u/\M5 X.env s.heap m x u
 cell:∀x c,X.env.cells.lookup x=some c->∃v,s.heap.IsCell c v
 free:H X.env.locals=none
 freeC:∀x c,X.env.cells.lookup x=some c->H c=none
 pin:∀p∈X.pn++pins,s.heap.get? p.1=some p.2/\H p.1=none/\p.1≠X.env.locals/\p.1 ∉ X.fs/\∀v,p.2.data≠.cell v
 hok:HOk X.prog X.w H s.heap
 len:σ.length=X.N.length
section
variable{X:Cx}{pins:List (Addr×Obj)}{σ:List (Option V)}{H H':Hp}{s:Shared}{h':Heap}
theorem Cx.Ok.nofr(ok:X.Ok){b:Addr}{o:Obj}(e:X.base.get? b=some o):b ∉ X.fs:=fun hb=>by
 have:=(ok.funs.mem hb).1;rw[e] at this;cases this
theorem Inv.bs(I:Inv X pins σ H s):∀b o,X.base.get? b=some o->s.heap.get? b=some o/\H b=none:=fun b o e=>
 ⟨I.base.keep b o (I.ok.bs b o e).1 (I.ok.bs b o e).2 (I.ok.nofr e) (I.ok.noex b o e),I.base.free b o (I.ok.bs b o e).1 (I.ok.bs b o e).2 (I.ok.noex b o e)⟩
theorem Inv.bk(I:Inv X pins σ H s):∀b o,X.base.get? b=some o->s.heap.get? b=some o:=fun b o e=>(I.bs b o e).1
theorem Inv.mod(I:Inv X pins σ H s):Mod X.K X.mg X.base:=I.ok.mod
theorem Inv.kIn(I:Inv X pins σ H s):X.K.In s.heap:=I.ok.mod.kin.keeps I.bk
theorem Inv.lt(I:Inv X pins σ H s):X.env.locals<s.heap.objs.size:=let ⟨_,hn,_⟩:=I.loc;hn.lt
theorem Inv.sz(I:Inv X pins σ H s):X.s₀.heap.objs.size<=s.heap.objs.size:=Nat.le_trans I.ok.above (Nat.le_of_lt I.lt)
theorem Inv.nofs(I:Inv X pins σ H s){a:Addr}(h:s.heap.objs.size<=a):a ∉ X.fs:=fun hb=>by
 obtain⟨_,o,ho,_⟩:=I.ok.funs.mem hb;exact absurd (Nat.lt_of_lt_of_le (Heap.lt_size ho) (Nat.le_trans I.sz h)) (Nat.lt_irrefl _)
theorem Inv.cne(I:Inv X pins σ H s):∀x c,X.env.cells.lookup x=some c->c≠X.env.locals:=fun x c e z=>by
 obtain⟨v,o,ho,hd⟩:=I.cell x c e;obtain⟨m,⟨o',es,ep,ho',hd',_⟩,_⟩:=I.loc;rw[z,ho'] at ho;cases ho;rw[hd'] at hd;cases hd
theorem Inv.funs(I:Inv X pins σ H s):s.heap.FunFrames X.base X.outer:=by
 have all:∀(l:List Env),(∀b∈frs l,b∈X.fs)->X.s₀.heap.FunFrames X.base l->s.heap.FunFrames X.base l:=by
  intro l
  induction l with
  |nil=>intro _ _;trivial
  |cons env r ih=>
   intro hs hl;obtain⟨hk,⟨L,o,hf,hn,ho,hd⟩,hr⟩:=hl;have hL:L∈X.fs:=hs L (by unfold frs;rw[List.filterMap_cons,hf];exact List.mem_cons_self)
   obtain⟨sl,e⟩:=I.base.slot L o ho (I.ok.frf L hL) hL fun z=>I.ok.exfs L z hL;exact⟨hk,⟨L,_,hf,hn,e,hd⟩,ih (fun b hb=>hs b (by unfold frs;rw[List.filterMap_cons,hf];exact List.mem_cons_of_mem _ hb)) hr⟩
 exact all X.outer (fun _ hb=>hb) I.ok.funs
theorem Inv.stack(I:Inv X pins σ H s):s.heap.FunFrames X.base X.stack:=by
 rcases I.ok.stk with e|⟨e,hf⟩
 ·rw[e];exact I.funs
 ·rw[e]
  obtain⟨m,hn,_⟩:=I.loc;refine .cons (by rw[I.ok.kind];decide) hf hn ?_ I.funs
  exact Heap.get?_none_of_le (Nat.le_trans I.ok.bsz I.ok.above)
theorem Inv.NB(I:Inv X pins σ H s):∀b∈frs X.stack,b∈X.env.locals::X.fs:=fun b hb=>by
 rcases I.ok.stk with e|⟨e,hf⟩
 ·rw[e] at hb;exact List.mem_cons_of_mem _ hb
 ·rw[e] at hb
  unfold frs at hb;rw[List.filterMap_cons,hf] at hb;exact hb
theorem Inv.NI(I:Inv X pins σ H s):∀b∈frs X.stack,H b=none:=fun b hb=>by
 rcases List.mem_cons.mp (I.NB b hb) with e|hb
 ·rw[e];exact I.free
 ·obtain⟨_,o,ho,_⟩:=I.ok.funs.mem hb
  exact I.base.free b o ho (I.ok.frf b hb) fun z=>I.ok.exfs b z hb
theorem Inv.step{g':Array GenState}{t':Nat}{d':Drawn}{ch:List Addr}(I:Inv X pins σ H s)(hch:∀b∈ch,(b∈X.ex\/X.s₀.heap.objs.size<=b)/\b≠X.env.locals/\(∀x c,X.env.cells.lookup x=some c->c≠b)/\∀p∈X.pn++pins,p.1≠b)(keep:∀b o,b≠X.env.locals->b ∉ X.fs->b ∉ ch->s.heap.get? b=some o->H b=none->h'.get? b=some o)(slot:∀b o,b≠X.env.locals->b∈X.fs->b ∉ ch->s.heap.get? b=some o->H b=none->∃sl,h'.get? b=some { o with slots:=sl })(free:∀b o,b ∉ ch->s.heap.get? b=some o->H b=none->H' b=none)(there:∀b o,b ∉ ch->s.heap.get? b=some o->∃o',h'.get? b=some o')(tups:∀b xs,H b=some (.tup xs)->H' b=some (.tup xs))(frzs:∀b o u,H b=some (.frz o u)->H' b=some (.frz o u))(tbls:∀b ps,H b=some (.tbl ps)->∃more,H' b=some (.tbl (ps++more)))(ns:∀m,s.heap.Ns X.env.locals m->h'.Ns X.env.locals m)(hok:HOk X.prog X.w H' h')(hg:AllBare g'):
  Inv X pins σ H' { s with heap:=h',gens:=g',drawn:=d',toks:=t' }:=by
 have neL:∀b o,X.s₀.heap.get? b=some o->b≠X.env.locals:=fun b o e=>Nat.ne_of_lt (Nat.lt_of_lt_of_le (Heap.lt_size e) I.ok.above)
 have neC:∀b o,X.s₀.heap.get? b=some o->b ∉ X.ex->b ∉ ch:=fun b o e hx hb=>by
  rcases(hch b hb).1 with z|z
  ·exact hx z
  ·exact absurd (Nat.lt_of_lt_of_le (Heap.lt_size e) z) (Nat.lt_irrefl _)
 have cellK:∀x c,X.env.cells.lookup x=some c->∀v,s.heap.IsCell c v->h'.IsCell c v:=fun x c e v ⟨o,ho,hd⟩=>by
  have nch:c ∉ ch:=fun z=>(hch c z).2.2.1 x c e rfl;by_cases hc:c∈X.fs
  ·obtain⟨sl,q⟩:=slot c o (I.cne x c e) hc nch ho (I.freeC x c e)
   exact⟨_,q,hd⟩
  ·exact⟨o,keep c o (I.cne x c e) hc nch ho (I.freeC x c e),hd⟩
 refine⟨I.ok,I.os,hg,⟨fun b o e n hb hx=>?_,fun b o e n hb hx=>?_,fun b o e n hx=>?_,fun b o e hx=>?_,fun b xs e=>tups b xs (I.base.tups b xs e),fun b o xs e=>frzs b o xs (I.base.frzs b o xs e),fun b ps e=>?_⟩,?_,fun x c e=>?_,?_,fun x c e=>?_,fun p hp=>?_,hok,I.len⟩
 ·exact keep b o (neL b o e) hb (neC b o e hx) (I.base.keep b o e n hb hx) (I.base.free b o e n hx)
 ·obtain⟨sl,e1⟩:=I.base.slot b o e n hb hx
  obtain⟨sl',e2⟩:=slot b _ (neL b o e) hb (neC b o e hx) e1 (I.base.free b o e n hx);exact⟨sl',e2⟩
 ·obtain⟨o',e1⟩:=I.base.there b o e hx
  exact free b o' (neC b o e hx) e1 (I.base.free b o e n hx)
 ·obtain⟨o',e1⟩:=I.base.there b o e hx
  exact there b o' (neC b o e hx) e1
 ·obtain⟨m1,e1⟩:=I.base.tbls b ps e
  obtain⟨m2,e2⟩:=tbls b _ e1;exact⟨m1++m2,by rw[e2,Array.append_assoc]⟩
 ·obtain⟨m,hn,hl⟩:=I.loc
  refine⟨m,ns m hn,fun i x v e1 e2 e3=>?_⟩;obtain⟨u,r,l⟩:=hl i x v e1 e2 e3;refine⟨u,r,?_⟩;rcases l with l|⟨k,c,e,z⟩
  ·exact .inl l
  ·exact .inr ⟨k,c,e,cellK x c e _ z⟩
 ·obtain⟨v,z⟩:=I.cell x c e
  exact⟨v,cellK x c e v z⟩
 ·obtain⟨m,⟨o,_,_,ho,_⟩,_⟩:=I.loc
  exact free _ o (fun z=>(hch _ z).2.1 rfl) ho I.free
 ·obtain⟨v,o,ho,hd⟩:=I.cell x c e
  exact free c o (fun z=>(hch c z).2.2.1 x c e rfl) ho (I.freeC x c e)
 ·obtain⟨e,n,ne,nf,d⟩:=I.pin p hp
  have nch:p.1 ∉ ch:=fun z=>(hch p.1 z).2.2.2 p hp rfl;exact⟨keep p.1 p.2 ne nf nch e n,free p.1 p.2 nch e n,ne,nf,d⟩
theorem Inv.un{t':Nat}(I:Inv X pins σ H s)(u:Un X.fs [] H H' s.heap h')(hok:HOk X.prog X.w H' h'):Inv X pins σ H' { s with heap:=h',toks:=t' }:=by
 obtain⟨m,⟨o,es,ep,ho,r⟩,_⟩:=id I.loc;obtain⟨sl,hL⟩:=u.any ho I.free (by simp)
 exact I.step (g':=s.gens) (d':=s.drawn) (ch:=[]) (fun _ z=>nomatch z) (fun b o _ hb _ e n=>u.keep b o e n hb (by simp)) (fun b o _ hb _ e n=>u.slot b o e n hb (by simp)) (fun b o _ e n=>u.free b o e n (by simp)) (fun b o _ e=>u.there b o e (by simp)) u.tups u.frzs u.tbls (fun m' hm=>by
  obtain⟨o',es',ep',ho',r'⟩:=hm;rw[ho] at ho';cases ho'
  exact⟨_,es',ep',hL,r'⟩) hok I.bare
theorem Inv.call{g':Array GenState}{t':Nat}{d':Drawn}{ch:List Addr}(I:Inv X pins σ H s)(u:Un (frs X.stack) ch H H' s.heap h')(hok:HOk X.prog X.w H' h')(hg:AllBare g')(hch:∀b∈ch,(b∈X.ex\/X.s₀.heap.objs.size<=b)/\b≠X.env.locals/\(∀x c,X.env.cells.lookup x=some c->c≠b)/\∀p∈X.pn++pins,p.1≠b):
  Inv X pins σ H' { s with heap:=h',gens:=g',drawn:=d',toks:=t' }:=by
 obtain⟨m,⟨o,es,ep,ho,r⟩,_⟩:=id I.loc;obtain⟨sl,hL⟩:=u.any ho I.free fun z=>(hch _ z).2.1 rfl
 exact I.step (ch:=ch) hch (fun b o hL hb hc e n=>u.keep b o e n (fun z=>(List.mem_cons.mp (I.NB b z)).elim hL hb) hc) (fun b o _ _ hc e n=>u.any e n hc) (fun b o hc e n=>u.free b o e n hc) (fun b o hc e=>u.there b o e hc) u.tups u.frzs u.tbls (fun m' hm=>by
  obtain⟨o',es',ep',ho',r'⟩:=hm;rw[ho] at ho';cases ho'
  exact⟨_,es',ep',hL,r'⟩) hok hg
theorem Inv.turned{t':Nat}{it:Addr}(I:Inv X pins σ H s)(k:∀b o,b≠it->s.heap.get? b=some o->h'.get? b=some o)(hn:H it=none)(hL:it≠X.env.locals)(h1:it∈X.ex\/X.s₀.heap.objs.size<=it)(h2:∀x c,X.env.cells.lookup x=some c->c≠it)(h3:∀p∈X.pn++pins,p.1≠it):Inv X pins σ H { s with heap:=h',toks:=t' }:=by
 have nit:∀b u,H b=some u->b≠it:=fun b u e z=>by rw[z,hn] at e;cases e
 refine I.step (g':=s.gens) (d':=s.drawn) (ch:=[it]) (fun b hb=>?_) (fun b o _ _ hc e _=>k b o (fun z=>hc (by simp[z])) e) (fun b o _ _ hc e _=>⟨o.slots,k b o (fun z=>hc (by simp[z])) e⟩) (fun _ _ _ _ n=>n)
  (fun b o hc e=>⟨o,k b o (fun z=>hc (by simp[z])) e⟩) (fun _ _ e=>e) (fun _ _ _ e=>e) (fun b ps e=>⟨#[],by rw[e];simp⟩) (fun m hm=>?_) (fun b u e=>?_) I.bare
 ·have e:b=it:=by simpa using hb
  subst e;exact⟨h1,hL,h2,h3⟩
 ·obtain⟨o,es,ep,ho,r⟩:=hm
  exact⟨o,es,ep,k _ o (Ne.symm hL) ho,r⟩
 ·refine(I.hok b u e).stay (fun c v hc q=>k c v ?_ q) (fun _ q=>q) (fun _ _ q=>q) fun _ _ _ q=>q
  rcases hc with z|z
  ·rw[z];exact nit b u e
  ·exact nit c _ z
theorem Inv.tok(I:Inv X pins σ H s)(t:Nat):Inv X pins σ H { s with toks:=t }:=I.un (h':=s.heap) (t':=t) Un.refl I.hok
theorem Inv.kept{t':Nat}(I:Inv X pins σ H s)(k:∀b u,s.heap.get? b=some u->h'.get? b=some u):Inv X pins σ H { s with heap:=h',toks:=t' }:=I.un (Un.kept k) (I.hok.kept k)
theorem Inv.laid{a:Addr}{o:HO}{t':Nat}(I:Inv X pins σ H s)(k:∀b u,s.heap.get? b=some u->h'.get? b=some u)(hp:s.heap.objs.size<=a)(new:dc X.prog X.w (upd H a o) h' a o):
  Inv X pins σ (upd H a o) { s with heap:=h',toks:=t' }:=I.un (Un.laid k hp (I.hok.fresh hp)) (I.hok.laid k hp new)
theorem Inv.write{x e:Addr}{o:HO}{t':Nat}(I:Inv X pins σ H s)(mu:Mut (H x))(he:e=x\/H e=some (.own x))(k:∀b u,b≠e->s.heap.get? b=some u->h'.get? b=some u)(heo:∃u,h'.get? e=some u)(new:dc X.prog X.w (upd H x o) h' x o):Inv X pins σ (upd H x o) { s with heap:=h',toks:=t' }:=I.un (Un.write mu he k heo) (I.hok.write mu he k heo new)
theorem Inv.NJ{pins':List (Addr×Obj)}(I:Inv X pins σ H s)(h:∀p∈pins',s.heap.get? p.1=some p.2/\H p.1=none/\p.1≠X.env.locals/\p.1 ∉ X.fs/\∀v,p.2.data≠.cell v):Inv X pins' σ H s:=
 ⟨I.ok,I.os,I.bare,I.base,I.loc,I.cell,I.free,I.freeC,fun p hp=>(List.mem_append.mp hp).elim (fun z=>I.pin p (List.mem_append_left _ z)) (h p),I.hok,I.len⟩
theorem yj{N:List Str}(hN:N.Nodup){i j:Nat}{x:Str}(a:N[i]?=some x)(b:N[j]?=some x):i=j:=by
 obtain⟨h1,e1⟩:=List.getElem?_eq_some_iff.mp a;obtain⟨h2,e2⟩:=List.getElem?_eq_some_iff.mp b;exact(List.getElem_inj hN).mp (e1.trans e2.symm)
theorem vf{M:Model}{A:Around}{E:Value->Shared->Prop}{i:Nat}{x:Str}{v:V}{u:Value}{Q:Unit->Shared->Prop}(I:Inv X pins σ H s)(hN:X.N.Nodup)(hi:X.N[i]?=some x)(hx:Loc X.env.scope x)(r:bp v u)(h:∀s',Inv X pins (σ.set i (some v)) H s'->(∃a,Heap.SameBut a s.heap s'.heap/\(a=X.env.locals\/X.env.cells.lookup x=some a))->Q () s')(hf:X.fn x=true\/X.env.scope.names.lookup x=some .local:=by first|exact .inl rfl|exact .inr rfl|assumption):wpAny M A (storeName X.env x u) Q E s:=by
 obtain⟨m,hn,hl⟩:=id I.loc;have hcls:(X.env.scope.kind == .class || (X.env.scope.kind == .module && X.env.locals != X.env.globals))=false:=by rw[I.ok.kind];rfl
 have hiσ:i<σ.length:=by rw[I.len];exact(List.getElem?_eq_some_iff.mp hi).1
 have cne:=I.cne
 have tracked:∀ {a:Addr} {h':Heap},(∃o,s.heap.get? a=some o/\H a=none)->Heap.SameBut a s.heap h'->HOk X.prog X.w H h':=fun {a h'} ha hs b ob e=>by
  obtain⟨_,_,hfree⟩:=ha;refine(I.hok b ob e).stay (fun c w' hc q=>(hs.2 c ?_).trans q) (fun _ q=>q) (fun _ _ q=>q) fun _ _ _ q=>q;rintro rfl;rcases hc with rfl|hc
  ·rw[hfree] at e;cases e
  ·rw[hfree] at hc;cases hc
 rcases hx with hk|hk
 ·refine wpAny_storeName_local hk hn (fun h' hn' hs=>?_) hcls
  obtain⟨oL,_,_,hoL,_⟩:=id hn;refine h _ ⟨I.ok,I.os,I.bare,⟨fun b o e n hb hx=>?_,fun b o e n hb hx=>?_,I.base.free,fun b o e hx=>?_,I.base.tups,I.base.frzs,I.base.tbls⟩,⟨_,hn',fun j y v' e1 e2 e3=>?_⟩,fun y c e=>?_,I.free,I.freeC,fun p hp=>?_,tracked ⟨oL,hoL,I.free⟩ hs,by simpa using I.len⟩ ⟨_,hs,.inl rfl⟩
  ·exact(hs.2 b (Nat.ne_of_lt (Nat.lt_of_lt_of_le (Heap.lt_size e) I.ok.above))).trans (I.base.keep b o e n hb hx)
  ·obtain⟨sl,e1⟩:=I.base.slot b o e n hb hx
   exact⟨sl,(hs.2 b (Nat.ne_of_lt (Nat.lt_of_lt_of_le (Heap.lt_size e) I.ok.above))).trans e1⟩
  ·obtain⟨o',e1⟩:=I.base.there b o e hx
   exact⟨o',(hs.2 b (Nat.ne_of_lt (Nat.lt_of_lt_of_le (Heap.lt_size e) I.ok.above))).trans e1⟩
  ·by_cases hj:j=i
   ·subst hj
    rw[hi] at e1;cases e1;rw[List.getElem?_set_self hiσ] at e2;cases e2;exact⟨u,r,.inl ⟨hk,by simp⟩⟩
   ·rw[List.getElem?_set_ne (Ne.symm hj)] at e2
    obtain⟨u',r',q⟩:=hl j y v' e1 e2 e3;refine⟨u',r',?_⟩;rcases q with⟨k,e⟩|⟨k,c,e,z⟩
    ·refine .inl ⟨k,?_⟩
     have:y≠x:=fun e=>hj (yj hN e1 (e ▸ hi));simp[this,e]
    ·exact .inr ⟨k,c,e,z.sameBut hs (cne y c e)⟩
  ·obtain⟨w',z⟩:=I.cell y c e
   exact⟨w',z.sameBut hs (cne y c e)⟩
  ·obtain⟨e,n,ne,nf,d⟩:=I.pin p hp
   exact⟨(hs.2 p.1 ne).trans e,n,ne,nf,d⟩
 ·have hfn:X.fn x=true:=by
   rcases hf with z|z
   ·exact z
   ·rw[z] at hk;cases hk
  obtain⟨c,hc⟩:=I.ok.has x (.inl hk);obtain⟨w',z⟩:=I.cell x c hc;refine wpAny_storeName_cell I.ok.kind hk hc z (fun h' hc' hs=>?_);obtain⟨oc,hoc,hocd⟩:=id z;refine h { s with heap:=h' } ⟨I.ok,I.os,I.bare,⟨fun b o e n hb hx=>?_,fun b o e n hb hx=>?_,I.base.free,fun b o e hx=>?_,I.base.tups,I.base.frzs,I.base.tbls⟩,⟨m,hn.sameBut hs (Ne.symm (cne x c hc)),fun j y v' e1 e2 e3=>?_⟩,fun y c' e=>?_,I.free,I.freeC,fun p hp=>?_,tracked ⟨oc,hoc,I.freeC x c hc⟩ hs,by simpa using I.len⟩ ⟨c,hs,.inr hc⟩
  ·exact(hs.2 b (Nat.ne_of_lt (Nat.lt_of_lt_of_le (Heap.lt_size e) (I.ok.cab x c hfn hc)))).trans (I.base.keep b o e n hb hx)
  ·obtain⟨sl,e1⟩:=I.base.slot b o e n hb hx
   exact⟨sl,(hs.2 b (Nat.ne_of_lt (Nat.lt_of_lt_of_le (Heap.lt_size e) (I.ok.cab x c hfn hc)))).trans e1⟩
  ·obtain⟨o',e1⟩:=I.base.there b o e hx
   exact⟨o',(hs.2 b (Nat.ne_of_lt (Nat.lt_of_lt_of_le (Heap.lt_size e) (I.ok.cab x c hfn hc)))).trans e1⟩
  ·by_cases hj:j=i
   ·subst hj
    rw[hi] at e1;cases e1;rw[List.getElem?_set_self hiσ] at e2;cases e2;exact⟨u,r,.inr ⟨.inl hk,c,hc,hc'⟩⟩
   ·rw[List.getElem?_set_ne (Ne.symm hj)] at e2
    obtain⟨u',r',q⟩:=hl j y v' e1 e2 e3;refine⟨u',r',?_⟩;rcases q with q|⟨k,c',e,z'⟩
    ·exact .inl q
    ·refine .inr ⟨k,c',e,z'.sameBut hs ?_⟩
     rintro rfl;exact hj (yj hN e1 (I.ok.inj _ _ _ e hc ▸ hi))
  ·by_cases hcc:c'=c
   ·subst hcc;exact⟨_,hc'⟩
   ·obtain⟨w2,z2⟩:=I.cell y c' e
    exact⟨w2,z2.sameBut hs hcc⟩
  ·obtain⟨e,n,ne,nf,d⟩:=I.pin p hp
   refine⟨(hs.2 p.1 ?_).trans e,n,ne,nf,d⟩;intro q;rw[q,hoc] at e;have q':oc=p.2:=Option.some.inj e;exact d w' (by rw[←q'];exact hocd)
theorem zp{M:Model}{A:Around}{E:Value->Shared->Prop}{i:Nat}{x:Str}{v:V}{u:Value}{Q:Unit->Shared->Prop}(I:Inv X pins σ H s)(hN:X.N.Nodup)(hi:X.N[i]?=some x)(hx:Loc X.env.scope x)(r:bp v u)(h:∀s',Inv X pins (σ.set i (some v)) H s'->Q () s')(hf:X.fn x=true\/X.env.scope.names.lookup x=some .local:=by first|exact .inl rfl|exact .inr rfl|assumption):wpAny M A (storeName X.env x u) Q E s:=
 vf I hN hi hx r (fun s' I' _=>h s' I') hf
theorem Inv.call'{s':Shared}{ch:List Addr}(I:Inv X pins σ H s)(ho:s'.os=s.os)(u:Un (frs X.stack) ch H H' s.heap s'.heap)(hok:HOk X.prog X.w H' s'.heap)(hg:AllBare s'.gens)(hch:∀b∈ch,(b∈X.ex\/X.s₀.heap.objs.size<=b)/\b≠X.env.locals/\(∀x c,X.env.cells.lookup x=some c->c≠b)/\∀p∈X.pn++pins,p.1≠b):Inv X pins σ H' s':=by
 obtain⟨h',g',d',t',o'⟩:=s';have e:o'=s.os:=ho;subst e;exact I.call (g':=g') (t':=t') (d':=d') u hok hg hch
end
noncomputable abbrev XK:=Value->Option Addr->Hp->Prop
noncomputable abbrev St:=List (Option V)
noncomputable abbrev VK:=V->Hp->Prop
noncomputable abbrev TE:=St->Hp->VK->Prop
noncomputable abbrev TT:=St->Hp->(Bool->Hp->Prop)->Prop
noncomputable abbrev TA:=St->Hp->(List V->Hp->Prop)->Prop
structure nu where
 nx:St->Hp->Prop
 rt:VK
 bk:St->Hp->Prop:=fun _ _=>False
 ct:St->Hp->Prop:=fun _ _=>False
noncomputable abbrev TS:=nu->St->Hp->Prop
noncomputable def EP(X:Cx)(pins:List (Addr×Obj))(σ:St)(Q:VK)(u:Value)(s':Shared):Prop:=∃v H',Inv X pins σ H' s'/\bp v u/\Q v H'
noncomputable def TP(X:Cx)(pins:List (Addr×Obj))(σ:St)(Q:Bool->Hp->Prop)(b:Bool)(s':Shared):Prop:=∃H',Inv X pins σ H' s'/\Q b H'
noncomputable def AP(X:Cx)(pins:List (Addr×Obj))(σ:St)(Q:List V->Hp->Prop)(us:List Value)(s':Shared):Prop:=∃vs H',Inv X pins σ H' s'/\aT vs us/\Q vs H'
noncomputable def SP(X:Cx)(pins:List (Addr×Obj))(D:nu)(f:Flow)(s':Shared):Prop:=
 match f with
 |.next=>∃σ' H',Inv X pins σ' H' s'/\D.nx σ' H'
 |.brk=>∃σ' H',Inv X pins σ' H' s'/\D.bk σ' H'
 |.cont=>∃σ' H',Inv X pins σ' H' s'/\D.ct σ' H'
 |.ret u=>∃v σ' H',Inv X pins σ' H' s'/\bp v u/\D.rt v H'
noncomputable def PEd(X:Cx)(e:Expr)(t:TE):Prop:=
 ∀(pins:List (Addr×Obj)) (s:Shared) (σ:St) (H:Hp) (Q:VK),Inv X pins σ H s->t σ H Q->wpAny (model X.prog X.w) X.A (eval e X.env) (EP X pins σ Q) X.xe s
structure PE(X:Cx)(e:Expr)(t:TE):Prop where
 run:PEd X e t
noncomputable instance {X:Cx} {e:Expr} {t:TE}:CoeFun (PE X e t) (fun _=>PEd X e t):=⟨PE.run⟩
noncomputable instance {X:Cx} {e:Expr} {t:TE}:Coe (PE X e t) (PEd X e t):=⟨PE.run⟩
noncomputable def PT(X:Cx)(e:Expr)(t:TT):Prop:=
 ∀(pins:List (Addr×Obj)) (s:Shared) (σ:St) (H:Hp) (Q:Bool->Hp->Prop),Inv X pins σ H s->t σ H Q->wpAny (model X.prog X.w) X.A (isTrue e X.env (eval e X.env)) (TP X pins σ Q) X.xe s
noncomputable def PW(X:Cx)(e:Expr)(t:TT):Prop:=
 ∀(whole:Sem Value) (pins:List (Addr×Obj)) (s:Shared) (σ:St) (H:Hp) (Q:Bool->Hp->Prop),Inv X pins σ H s->t σ H Q->wpAny (model X.prog X.w) X.A (isTrue e X.env whole) (TP X pins σ Q) X.xe s
theorem PW.pt{X:Cx}{e:Expr}{t:TT}(h:PW X e t):PT X e t:=h _
noncomputable def PAd(X:Cx)(es:List Expr)(t:TA):Prop:=
 ∀(pos:Pos) (pins:List (Addr×Obj)) (s:Shared) (σ:St) (H:Hp) (Q:List V->Hp->Prop),Inv X pins σ H s->t σ H Q->wpAny (model X.prog X.w) X.A (spliced (backTo pos (starEach es X.env))) (AP X pins σ Q) X.xe s
structure PA(X:Cx)(es:List Expr)(t:TA):Prop where
 run:PAd X es t
noncomputable instance {X:Cx} {es:List Expr} {t:TA}:CoeFun (PA X es t) (fun _=>PAd X es t):=⟨PA.run⟩
noncomputable instance {X:Cx} {es:List Expr} {t:TA}:Coe (PA X es t) (PAd X es t):=⟨PA.run⟩
noncomputable def PSd(X:Cx)(st:Stmt)(t:TS):Prop:=
 ∀(pins:List (Addr×Obj)) (s:Shared) (σ:St) (H:Hp) (D:nu),Inv X pins σ H s->t D σ H->wpAny (model X.prog X.w) X.A (exec st X.env) (SP X pins D) X.xe s
structure PS(X:Cx)(st:Stmt)(t:TS):Prop where
 run:PSd X st t
noncomputable instance {X:Cx} {st:Stmt} {t:TS}:CoeFun (PS X st t) (fun _=>PSd X st t):=⟨PS.run⟩
noncomputable instance {X:Cx} {st:Stmt} {t:TS}:Coe (PS X st t) (PSd X st t):=⟨PS.run⟩
noncomputable def JX(X:Cx)(st:List Stmt)(t:TS):Prop:=
 ∀(pins:List (Addr×Obj)) (s:Shared) (σ:St) (H:Hp) (D:nu),Inv X pins σ H s->t D σ H->wpAny (model X.prog X.w) X.A (execs st X.env) (SP X pins D) X.xe s
structure PSs(X:Cx)(st:List Stmt)(t:TS):Prop where
 run:JX X st t
noncomputable instance {X:Cx} {st:List Stmt} {t:TS}:CoeFun (PSs X st t) (fun _=>JX X st t):=⟨PSs.run⟩
noncomputable instance {X:Cx} {st:List Stmt} {t:TS}:Coe (PSs X st t) (JX X st t):=⟨PSs.run⟩
theorem thn{α:Type}{t:Sem α}{Q Q':α->Shared->Prop}{M:Model}{A:Around}{E:Value->Shared->Prop}{s:Shared}(h:wpAny M A t Q E s)(hQ:∀a s,Q a s->Q' a s):wpAny M A t Q' E s:=wpAny_mono h hQ fun _ _ x=>x
section
variable{X:Cx}
noncomputable def Hr(i:Nat):TE:=fun σ H Q=>∃v,σ[i]?=some (some v)/\Q v H
noncomputable def tC(v:V):TE:=fun _ H Q=>Q v H
theorem EW{i:Nat}{x:Str}{pos:Pos}(hN:X.N[i]?=some x)(hv:Vis X.env.scope x)(hd:(x == ("__debug__":Str))=false:=by decide)(hcd:(x == ("__classdict__":Str))=false:=by decide):PE X (.Name x pos) (Hr i):=.mk <| by
 intro pins s σ H Q I h;obtain⟨v,e,h⟩:=h;obtain⟨m,hn,hl⟩:=I.loc;obtain⟨u,r,l⟩:=hl i x v hN e hv;have fin:EP X pins σ Q u s:=⟨v,H,I,r,h⟩;rcases l with⟨hk,hm⟩|⟨hk,c,hc,hcell⟩
 ·exact wpAny_Name (wpAny_loadName_local I.ok.kind hk hn hm fin) hd
 ·rcases hk with hk|hk
  ·exact wpAny_Name (wpAny_loadName_cell I.ok.kind hk hc hcell fin) hd
  ·exact wpAny_Name (wpAny_loadName_free I.ok.kind hk hc hcell fin hcd) hd
theorem af{i j pos}:PE X (.Constant (.int i) j pos) (tC (.int i)):=.mk <| fun _ _ _ H _ I h=>wpAny_Constant_int ⟨.int i,H,I.tok _,⟨_,rfl⟩,h⟩
theorem fU{b j pos}:PE X (.Constant (.bool b) j pos) (tC (.bl b)):=.mk <| fun _ _ _ H _ I h=>Constant_bool ⟨.bl b,H,I,rfl,h⟩
theorem xl{j pos}:PE X (.Constant .none j pos) (tC .non):=.mk <| fun _ _ _ H _ I h=>Constant_none ⟨.non,H,I,rfl,h⟩
theorem aK{x j pos}:PE X (.Constant (.str x) j pos) (tC (.str x)):=.mk <| fun _ _ _ H _ I h=>Calls.Constant_str ⟨.str x,H,I.tok _,⟨_,rfl⟩,h⟩
noncomputable def Gl(X:Cx)(x:Str):Prop:=X.env.kindOf x=some .globalImplicit
theorem xn{E:Value->Shared->Prop}{pins:List (Addr×Obj)}{s:Shared}{σ:St}{H:Hp}{x:Str}{u:Value}{pos:Pos}{Q:Value->Shared->Prop}(I:Inv X pins σ H s)(hg:Gl X x)(hm:X.mg x=some u)(h:Q u s)(hd:(x == ("__debug__":Str))=false:=by decide):wpAny (model X.prog X.w) X.A (eval (.Name x pos) X.env) Q E s:=
 Calls.Name_function_global I.ok.kind hg (Calls.loadGlobal_global (by rw[I.ok.glob];exact I.mod.glob.keeps I.bk) hm h) hd
theorem n8{E:Value->Shared->Prop}{pins:List (Addr×Obj)}{s:Shared}{σ:St}{H:Hp}{x:Str}{u:Value}{pos:Pos}{Q:Value->Shared->Prop}(I:Inv X pins σ H s)(hg:Gl X x)(hm:X.mg x=none)(hv:bootBuiltins x=some u)(h:Q u s)(hn:x≠"__name__":=by decide)(hd:(x == ("__debug__":Str))=false:=by decide):wpAny (model X.prog X.w) X.A (eval (.Name x pos) X.env) Q E s:=by
 obtain⟨mb,h1,h2⟩:=I.mod.blt;exact Calls.Name_function_global I.ok.kind hg (Calls.loadGlobal_builtin (by rw[I.ok.glob];exact I.mod.glob.keeps I.bk) hm (by rw[I.ok.blt];exact h1.keeps I.bk) ((h2 x hn).trans hv) h) hd
theorem oy{x:Str}{v:V}{u:Value}{pos:Pos}(hg:Gl X x)(hm:X.mg x=some u)(r:bp v u)(hd:(x == ("__debug__":Str))=false:=by decide):PE X (.Name x pos) (tC v):=.mk <|
 fun _ _ _ H _ I h=>xn I hg hm ⟨v,H,I,r,h⟩ hd
variable{a b:Expr}{ta tb:TE}{pos:Pos}
variable{tA tB':TT}{bB:List Expr}
noncomputable def Ls(t u:TT):TT:=fun σ H Q=>t σ H fun c H1=>if c=true then u σ H1 Q else Q false H1
noncomputable def tOr(t u:TT):TT:=fun σ H Q=>t σ H fun c H1=>if c=true then Q true H1 else u σ H1 Q
noncomputable def Lr(t:TT):TT:=fun σ H Q=>t σ H fun c H1=>Q (!c) H1
theorem HR(ha:PT X a tA):PW X (.BoolOp .And [a] pos) tA:=by
 intro wh pins s σ H Q I h;refine isTrue_and (thn (ha pins s σ H Q I h) fun c s1 e=>?_)
 cases c with
 |true=>exact isTrue_and_nil e
 |false=>exact e
theorem n6(ha:PT X a tA):PW X (.BoolOp .Or [a] pos) tA:=by
 intro wh pins s σ H Q I h;refine isTrue_or (thn (ha pins s σ H Q I h) fun c s1 e=>?_)
 cases c with
 |false=>exact isTrue_or_nil e
 |true=>exact e
theorem J1(ha:PT X a tA)(hb:PW X (.BoolOp .And (b::bB) pos) tB'):PW X (.BoolOp .And (a::b::bB) pos) (Ls tA tB'):=by
 intro wh pins s σ H Q I h;refine isTrue_and (thn (ha pins s σ H _ I h) fun c s1 ⟨H1,I1,q1⟩=>?_)
 cases c with
 |true=>exact hb wh pins s1 σ H1 Q I1 q1
 |false=>exact⟨H1,I1,q1⟩
theorem qR(ha:PT X a tA)(hb:PW X (.BoolOp .Or (b::bB) pos) tB'):PW X (.BoolOp .Or (a::b::bB) pos) (tOr tA tB'):=by
 intro wh pins s σ H Q I h;refine isTrue_or (thn (ha pins s σ H _ I h) fun c s1 ⟨H1,I1,q1⟩=>?_)
 cases c with
 |true=>exact⟨H1,I1,q1⟩
 |false=>exact hb wh pins s1 σ H1 Q I1 q1
theorem jj(ha:PT X a tA):PT X (.UnaryOp .Not a pos) (Lr tA):=by
 intro pins s σ H Q I h;exact isTrue_not (ha pins s σ H (fun c H1=>Q (!c) H1) I h)
theorem zV{op}{t:TE}(h:PE X a t):PE X (.BoolOp op [a] pos) t:=.mk <| fun pins s σ H Q I hw=>BoolOp_one (h pins s σ H Q I hw)
noncomputable def tIf(t:TT)(ta tb:TE):TE:=fun σ H Q=>t σ H fun c H1=>if c=true then ta σ H1 Q else tb σ H1 Q
theorem iL{c:Expr}(hc:PT X c tA)(ha:PE X a ta)(hb:PE X b tb):PE X (.IfExp c a b pos) (tIf tA ta tb):=.mk <| by
 intro pins s σ H Q I h;refine wpAny_IfExp (thn (hc pins s σ H _ I h) fun d s1 ⟨H1,I1,q1⟩=>?_)
 cases d with
 |true=>exact ha pins s1 σ H1 Q I1 q1
 |false=>exact hb pins s1 σ H1 Q I1 q1
end
noncomputable def SqL(K:W.Frag)(H:Hp)(a:Addr)(xs:List V):Prop:=
 Rd H a (.lst xs) \/
  ∃(o:Obj)(its:Array Value)(n:Nat),K.lookup a=some o/\o.cls=.type "list"/\o.dict=none/\o.data=.seq its n/\its.size<=sizeLine/\aT xs its.toList
noncomputable def SqT(K:W.Frag)(H:Hp)(a:Addr)(xs:List V):Prop:=
 Rd H a (.tup xs) \/
  ∃(o:Obj)(its:Array Value)(n:Nat),K.lookup a=some o/\o.cls=.type "tuple"/\o.data=.seq its n/\its.size<=sizeLine/\aT xs its.toList
noncomputable def MY:Value->Option V
 |.none=>some .non
 |.bool b=>some (.bl b)
 |.int i _=>some (.int i)
 |.str x _=>some (.str x)
 |.bytes b _=>some (.byt b)
 |.float b _=>some (.flt b)
 |.ref a=>some (.ref a)
 |.type n=>some (.ty n)
 |_=>none
theorem bp.abs{x:V}{u:Value}(r:bp x u):MY u=some x:=by
 cases x with
 |non=>cases r;rfl
 |bl _=>cases r;rfl
 |int _=>obtain⟨t,rfl⟩:=r;rfl
 |str _=>obtain⟨t,rfl⟩:=r;rfl
 |byt _=>obtain⟨t,rfl⟩:=r;rfl
 |flt _=>obtain⟨t,rfl⟩:=r;rfl
 |ref _=>cases r;rfl
 |ty _=>cases r;rfl
theorem bp.inj{x y:V}{u:Value}(r:bp x u)(q:bp y u):x=y:=Option.some.inj (r.abs.symm.trans q.abs)
theorem aT.inj:∀ {xs ys:List V} {us:List Value},aT xs us->aT ys us->xs=ys
 |_,_,_,.nil,.nil=>rfl
 |_,_,_,.cons r t,.cons r' t'=>by rw[r.inj r',aT.inj t t']
section
variable{X:Cx}{pins:List (Addr×Obj)}{σ:St}{H:Hp}{s:Shared}{a:Addr}{xs ys:List V}
theorem SqL.of{K:W.Frag}(h:H a=some (.lst xs)):SqL K H a xs:=.inl (.inl h)
theorem SqT.of{K:W.Frag}(h:H a=some (.tup xs)):SqT K H a xs:=.inl (.inl h)
theorem Inv.list(I:Inv X pins σ H s)(h:SqL X.K H a xs):∃its:List Value,aT xs its/\PlainL s.heap a its.toArray/\xs.length<=sizeLine:=by
 rcases h with h|⟨o,its,n,hk,hc,hd,hs,hz,r⟩
 ·obtain⟨z,its,n,r,e⟩:=h.ok I.hok
  exact⟨its,r,⟨_,n,e,rfl,rfl,rfl⟩,z⟩
 ·refine⟨its.toList,r,⟨o,n,I.kIn a o hk,hc,hd,by simpa using hs⟩,?_⟩
  have e:=r.length;simp only[Array.length_toList] at e;omega
theorem Inv.tuple(I:Inv X pins σ H s)(h:SqT X.K H a xs):∃its:List Value,aT xs its/\IsTup s.heap a its.toArray/\xs.length<=sizeLine:=by
 rcases h with h|⟨o,its,n,hk,hc,hs,hz,r⟩
 ·obtain⟨z,its,r,p⟩:=h.ok I.hok
  exact⟨its,r,p.1,z⟩
 ·refine⟨its.toList,r,⟨o,I.kIn a o hk,hc,n,by simpa using hs⟩,?_⟩
  have e:=r.length;simp only[Array.length_toList] at e;omega
theorem Inv.NC(I:Inv X pins σ H s)(h:SqL X.K H a xs)(h':SqL X.K H a ys):xs=ys:=by
 obtain⟨its,r,⟨o,n,e,_,_,d⟩,_⟩:=I.list h;obtain⟨its',r',⟨o',n',e',_,_,d'⟩,_⟩:=I.list h';rw[e] at e';cases e';rw[d] at d';injection d' with d1 _;have:its=its':=by simpa using congrArg Array.toList d1
 subst this;exact r.inj r'
theorem Inv.NA(I:Inv X pins σ H s)(h:SqT X.K H a xs)(h':SqT X.K H a ys):xs=ys:=by
 obtain⟨its,r,⟨o,e,_,n,d⟩,_⟩:=I.tuple h;obtain⟨its',r',⟨o',e',_,n',d'⟩,_⟩:=I.tuple h';rw[e] at e';cases e';rw[d] at d';injection d' with d1 _;have:its=its':=by simpa using congrArg Array.toList d1
 subst this;exact r.inj r'
end
noncomputable abbrev Cx.wish(X:Cx)(E:Value->Shared->Prop):Cx:={ X with xe:=E }
noncomputable abbrev Cx.nox(X:Cx):Cx:=X.wish fun _ _=>False
theorem Cx.Ok.wish{X:Cx}(ok:X.Ok)(E:Value->Shared->Prop):(X.wish E).Ok:=
 ⟨ok.mod,ok.kind,ok.glob,ok.blt,ok.above,ok.inj,ok.has,ok.cab,ok.hd,ok.frames,ok.stk,ok.exf,ok.bs,ok.bsz,ok.noex,ok.exfs,ok.funs,ok.frf,ok.tt⟩
theorem Cx.Ok.unwish{X:Cx}{E:Value->Shared->Prop}(ok:(X.wish E).Ok):X.Ok:=
 ⟨ok.mod,ok.kind,ok.glob,ok.blt,ok.above,ok.inj,ok.has,ok.cab,ok.hd,ok.frames,ok.stk,ok.exf,ok.bs,ok.bsz,ok.noex,ok.exfs,ok.funs,ok.frf,ok.tt⟩
section
variable{X:Cx}{pins:List (Addr×Obj)}{σ:St}{H:Hp}{s:Shared}{E:Value->Shared->Prop}
theorem Inv.wish(I:Inv X pins σ H s)(E:Value->Shared->Prop):Inv (X.wish E) pins σ H s:=⟨I.ok.wish E,I.os,I.bare,I.base,I.loc,I.cell,I.free,I.freeC,I.pin,I.hok,I.len⟩
theorem Inv.unwish(I:Inv (X.wish E) pins σ H s):Inv X pins σ H s:=⟨I.ok.unwish,I.os,I.bare,I.base,I.loc,I.cell,I.free,I.freeC,I.pin,I.hok,I.len⟩
theorem SP.unwish{D:nu}{f:Flow}{s':Shared}(h:SP (X.wish E) pins D f s'):SP X pins D f s':=by
 cases f with
 |next=>obtain⟨σ',H',I,q⟩:=h;exact⟨σ',H',I.unwish,q⟩
 |brk=>obtain⟨σ',H',I,q⟩:=h;exact⟨σ',H',I.unwish,q⟩
 |cont=>obtain⟨σ',H',I,q⟩:=h;exact⟨σ',H',I.unwish,q⟩
 |ret u=>obtain⟨v,σ',H',I,r,q⟩:=h;exact⟨v,σ',H',I.unwish,r,q⟩
theorem PSs.nox{st:List Stmt}{t:TS}(h:PSs X.nox st t):PSs X st t:=.mk <| fun pins s σ H D I hw=>
 wpAny_mono (h pins s σ H D (I.wish _) hw) (fun _ _ q=>q.unwish) fun _ _ z=>False.elim z
end
section
variable{X:Cx}{st:Stmt}{bB:List Stmt}{t u:TS}{e:Expr}{te:TE}{pos:Pos}
noncomputable def Jw:TS:=fun D σ H=>D.nx σ H
noncomputable def Mg(t u:TS):TS:=fun D σ H=>t { D with nx:=u D } σ H
theorem bb:PSs X [] Jw:=.mk <| fun _ _ σ H _ I h=>wpAny_execs_nil ⟨σ,H,I,h⟩
theorem ah(h1:PS X st t)(h2:PSs X bB u):PSs X (st::bB) (Mg t u):=.mk <| by
 intro pins s σ H D I h;refine wpAny_execs_cons (thn (h1 pins s σ H { D with nx:=u D } I h) fun f s1 q=>?_)
 cases f with
 |next=>
  obtain⟨σ',H',I',q⟩:=q;exact h2 pins s1 σ' H' D I' q
 |ret v=>exact q
 |brk=>exact q
 |cont=>exact q
theorem am(h1:PS X st t):PSs X [st] t:=.mk <| by
 intro pins s σ H D I h;refine wpAny_execs_cons (thn (h1 pins s σ H D I h) fun f s1 q=>?_)
 cases f with
 |next=>exact wpAny_execs_nil q
 |ret v=>exact q
 |brk=>exact q
 |cont=>exact q
noncomputable def Iw:TS:=fun D σ H=>D.ct σ H
theorem xQ:PS X (.Continue pos) Iw:=.mk <| fun _ _ σ H _ I h=>wpAny_Continue ⟨σ,H,I,h⟩
theorem Inv.quiet{pins:List (Addr×Obj)}{σ:St}{H:Hp}{s:Shared}(I:Inv X pins σ H s):interactive X.env=false:=by simp[interactive,I.ok.kind]
noncomputable def Jk(te:TE):TS:=fun D σ H=>te σ H fun _ H1=>D.nx σ H1
theorem b0(he:PE X e te)(hs:swapsWith e none pos.line X.env=pure false:=by rfl):PS X (.Expr e pos) (Jk te):=.mk <| by
 intro pins s σ H D I h;exact wpAny_Expr_any (thn (he pins s σ H _ I h) fun v s1 ⟨x,H1,I1,r1,q1⟩=>⟨σ,H1,I1,q1⟩) I.quiet hs
noncomputable def LG(te:TE):TS:=fun D σ H=>te σ H D.rt
theorem aB(he:PE X e te):PS X (.Return (some e) pos) (LG te):=.mk <| by
 intro pins s σ H D I h;exact wpAny_Return_some (thn (he pins s σ H _ I h) fun v s1 ⟨x,H1,I1,r1,q1⟩=>⟨x,σ,H1,I1,r1,q1⟩)
noncomputable def Ly(c:TT)(t u:TS):TS:=fun D σ H=>c σ H fun b H1=>if b=true then t D σ H1 else u D σ H1
theorem bT{c:Expr}{a b:List Stmt}{tc:TT}(hc:PT X c tc)(ha:PSs X a t)(hb:PSs X b u):PS X (.If c a b pos) (Ly tc t u):=.mk <| by
 intro pins s σ H D I h;refine wpAny_If (thn (hc pins s σ H _ I h) fun d s1 ⟨H1,I1,q1⟩=>?_)
 cases d with
 |true=>exact ha pins s1 σ H1 D I1 q1
 |false=>exact hb pins s1 σ H1 D I1 q1
noncomputable def Ku:TS:=fun _ _ _=>False
theorem y4:PS X st Ku:=.mk <| fun _ _ _ _ _ _ h=>h.elim
end
noncomputable abbrev TG:=V->St->Hp->(St->Hp->Prop)->Prop
noncomputable abbrev TGs:=List V->St->Hp->(St->Hp->Prop)->Prop
noncomputable def PG(X:Cx)(target:Expr)(t:TG):Prop:=
 ∀(pins:List (Addr×Obj)) (s:Shared) (σ:St) (H:Hp) (v:V) (u:Value) (Q:St->Hp->Prop),Inv X pins σ H s->bp v u->t v σ H Q ->
  wpAny (model X.prog X.w) X.A (assign target X.env u) (fun _ s'=>∃σ' H',Inv X pins σ' H' s'/\Q σ' H') X.xe s
noncomputable def PGs(X:Cx)(ts:List Expr)(t:TGs):Prop:=
 ∀(pins:List (Addr×Obj)) (s:Shared) (σ:St) (H:Hp) (vs:List V) (us:List Value) (Q:St->Hp->Prop),Inv X pins σ H s->aT vs us->t vs σ H Q ->
  wpAny (model X.prog X.w) X.A (assignInOrder ((assignEach ts X.env).map (·.2)) us) (fun _ s'=>∃σ' H',Inv X pins σ' H' s'/\Q σ' H') X.xe s
noncomputable abbrev J6:=V->V->V->Hp->(Hp->Prop)->Prop
noncomputable def MH(X:Cx)(t:J6):Prop:=
 ∀(pins:List (Addr×Obj)) (s:Shared) (σ:St) (H:Hp) (o i v:V) (ov iv u:Value) (Q:Hp->Prop),Inv X pins σ H s->bp o ov->bp i iv->bp v u->t o i v H Q ->
  wpAny (model X.prog X.w) X.A (setItem ov iv u) (fun _ s'=>∃H',Inv X pins σ H' s'/\Q H') X.xe s
section
variable{X:Cx}{pos:Pos}
noncomputable def BP(i:Nat):TG:=fun v σ H Q=>Q (σ.set i (some v)) H
theorem au{i:Nat}{x:Str}(hN:X.N.Nodup)(hi:X.N[i]?=some x)(hx:Loc X.env.scope x)(hf:X.fn x=true\/X.env.scope.names.lookup x=some .local:=by first|exact .inl rfl|exact .inr rfl|assumption):PG X (.Name x pos) (BP i):=by
 intro pins s σ H v u Q I r h;exact wpAny_assign_Name (zp I hN hi hx r (fun s' I'=>⟨_,H,I',h⟩) hf)
noncomputable def Ma:TGs:=fun vs σ H Q=>vs=[]/\Q σ H
noncomputable def IJ(t:TG)(u:TGs):TGs:=fun vs σ H Q=>∃v r,vs=v::r/\t v σ H fun σ' H'=>u r σ' H' Q
theorem cH:PGs X [] Ma:=by
 intro pins s σ H vs us Q I r h;obtain⟨e,h⟩:=h;subst e;cases r;exact assignInOrder_nil ⟨σ,H,I,h⟩
theorem aF{e:Expr}{es:List Expr}{t:TG}{u:TGs}(h1:PG X e t)(h2:PGs X es u)(hs:(assignEach (e::es) X.env).map (·.2)=assign e X.env::(assignEach es X.env).map (·.2):=by rfl):PGs X (e::es) (IJ t u):=by
 intro pins s σ H vs us Q I r h;obtain⟨v,vr,e1,h⟩:=h;subst e1
 cases r with
 |cons r rr=>
  rw[hs];refine assignInOrder_cons (thn (h1 pins s σ H _ _ _ I r h) fun _ s1 ⟨σ1,H1,I1,q1⟩=>?_);exact h2 pins s1 σ1 H1 _ _ Q I1 rr q1
noncomputable def Le(K:W.Frag)(n:Nat)(t:TGs):TG:=fun v σ H Q=>∃a xs,v=.ref a/\SqT K H a xs/\xs.length=n/\t xs σ H Q
theorem Kg{es:List Expr}{k:Nat}{t:TGs}{n:Nat}(hc:X.calm=true)(h:PGs X es t)(hn:(assignEach es X.env).length=n:=by rfl)(hst:(assignEach es X.env).findIdx? (·.1)=none:=by rfl):PG X (.Tuple es k pos) (Le X.K n t):=by
 intro pins s σ H v u Q I r hw;obtain⟨a,xs,e1,hq,hl,hw⟩:=hw;subst e1;cases r;obtain⟨its,rv,ht,hz⟩:=I.tuple hq;refine assign_Tuple_tuple (I.ok.hd hc) ht (by simp[hn,←hl,rv.length]) hst fun h' hx=>?_
 have I1:Inv X pins σ H { s with heap:=h' }:=I.kept (t':=s.toks) fun b o e=>hx b o (Nat.ne_of_lt (Heap.lt_size e)) e;exact h pins _ σ H xs _ Q I1 (by simpa using rv) hw
noncomputable def Mm(to ti:TE)(t:J6):TG:=fun v σ H Q=>to σ H fun o H1=>ti σ H1 fun i H2=>t o i v H2 fun H3=>Q σ H3
theorem JS{o i:Expr}{to ti:TE}{t:J6}(ho:PE X o to)(hi:PE X i ti)(hs:MH X t)
  (ha:∀v,assign (.Subscript o i pos) X.env v=(do
   let ov ← holding [v] (eval o X.env)
   let iv ← holding [v,ov] (eval i X.env)
   standAt pos
   holding [v,ov,iv] (setItem ov iv v)
   release [v,ov,iv] []):=by intro _;rfl):PG X (.Subscript o i pos) (Mm to ti t):=by
 intro pins s σ H v u Q I r h;rw[ha];refine wpAny_bind (wpAny_holding (thn (ho pins s σ H _ I h) fun ov s1 ⟨x,H1,I1,r1,q1⟩=>?_));refine wpAny_bind (wpAny_holding (thn (hi pins s1 σ H1 _ I1 q1) fun iv s2 ⟨y,H2,I2,r2,q2⟩=>?_));refine wpAny_bind (wpAny_standAt (wpAny_bind (wpAny_holding (thn (hs pins s2 σ H2 x y v ov iv u _ I2 r1 r2 r q2) fun _ s3 ⟨H3,I3,q3⟩=>?_))));exact wpAny_release ⟨σ,H3,I3,q3⟩
noncomputable def Ip(te:TE)(g:TG):TS:=fun D σ H=>te σ H fun x H1=>g x σ H1 D.nx
theorem iO{tg e:Expr}{te:TE}{g:TG}(he:PE X e te)(hg:PG X tg g)(hs:swapsWithSole [tg] e pos.line X.env=pure false:=by rfl)(hw:swappedStores [tg] e X.env=pure none:=by rfl)(h1:(assignEach [tg] X.env).map (·.2)=[assign tg X.env]:=by rfl):PS X (.Assign [tg] e pos) (Ip te g):=.mk <| by
 intro pins s σ H D I h;refine wpAny_Assign_stores (thn (he pins s σ H _ I h) fun v s1 ⟨x,H1,I1,r1,q1⟩=>?_) hs hw;rw[h1];exact thn (hg pins s1 σ H1 x v _ I1 r1 q1) fun _ s2 q=>q
theorem aJ{i:Nat}{x:Str}{e:Expr}{te:TE}{pos':Pos}(hN:X.N.Nodup)(hi:X.N[i]?=some x)(hx:Loc X.env.scope x)(he:PE X e te)(hs:swapsWith e (some (.Name x pos')) pos.line X.env=pure false:=by rfl)(hf:X.fn x=true\/X.env.scope.names.lookup x=some .local:=by first|exact .inl rfl|exact .inr rfl|assumption):
  PS X (.Assign [.Name x pos'] e pos) (Ip te (BP i)):=.mk <| by
 intro pins s σ H D I h;refine wpAny_Assign_Name (thn (he pins s σ H _ I h) fun v s1 ⟨y,H1,I1,r1,q1⟩=>?_) hs;exact zp I1 hN hi hx r1 (fun s2 I2=>⟨_,H1,I2,q1⟩) hf
end
section
variable{X:Cx}{pos:Pos}
noncomputable def F3(c:TT)(tb:TS):TS:=fun D σ H=>∃W:Nat->St->Hp->Prop,(∃m,W m σ H)/\∀m σ H,W m σ H ->
 c σ H fun b H1=>if b=true then ∃N:St->Hp->Prop,(∀σ' H',N σ' H'->∃m',m'<m/\W m' σ' H')/\tb { D with nx:=N,ct:=N,bk:=D.nx } σ H1 else D.nx σ H1
theorem lF{c:Expr}{body:List Stmt}{tc:TT}{tb:TS}(hp:PassesOwn (model X.prog X.w) X.A X.env X.xe)(hc:PT X c tc)(hb:PSs X body tb):PS X (.While c body [] pos) (F3 tc tb):=.mk <| by
 intro pins s σ H D I h;obtain⟨W,⟨m0,w0⟩,turn⟩:=h;refine wpAny_While (codeAny_whileLoop (fun n s'=>∃σ' H',Inv X pins σ' H' s'/\W n σ' H') ?_ m0 ⟨σ,H,I,w0⟩);rintro n s1 ⟨σ1,H1,I1,w1⟩;refine wpAny_passesOwn hp (thn (hc pins s1 σ1 H1 _ I1 (turn n σ1 H1 w1)) fun b s2 ⟨H2,I2,q2⟩=>?_)
 cases b with
 |true=>
  obtain⟨N,hN,q2⟩:=q2;rw[if_pos rfl];refine wpAny_passesOwn hp (thn (hb pins s2 σ1 H2 _ I2 q2) fun f s3 q3=>?_)
  cases f with
  |next=>
   obtain⟨σ3,H3,I3,n3⟩:=q3;obtain⟨m',hm,w3⟩:=hN σ3 H3 n3;exact⟨m',hm,σ3,H3,I3,w3⟩
  |cont=>
   obtain⟨σ3,H3,I3,n3⟩:=q3;obtain⟨m',hm,w3⟩:=hN σ3 H3 n3;exact⟨m',hm,σ3,H3,I3,w3⟩
  |brk=>exact q3
  |ret v=>exact q3
 |false=>
  rw[if_neg Bool.false_ne_true];exact wpAny_execs_nil ⟨σ1,H2,I2,q2⟩
end
structure It where
 go:Nat->Hp->Prop
 yld:Nat->Hp->V->Hp->Prop
 stop:Nat->Hp->Prop
noncomputable def ni(X:Cx)(pins:List (Addr×Obj))(H:Hp)(b:Addr):Prop:=
 H b=none/\b≠X.env.locals/\b ∉ X.fs/\(b∈X.ex\/X.s₀.heap.objs.size<=b)/\(∀x c,X.env.cells.lookup x=some c->c≠b)/\∀p∈X.pn++pins,p.1≠b
theorem Inv.NG{X:Cx}{pins:List (Addr×Obj)}{σ:St}{H H':Hp}{s:Shared}{b:Addr}(I:Inv X pins σ H s)(hb:s.heap.objs.size<=b)(hn:H' b=none):ni X pins H' b:=by
 refine⟨hn,Nat.ne_of_gt (Nat.lt_of_lt_of_le I.lt hb),I.nofs hb,.inr (Nat.le_trans I.sz hb),fun x c e z=>?_,fun p hp z=>?_⟩
 ·obtain⟨v,q⟩:=I.cell x c e
  exact absurd (Nat.lt_of_lt_of_le q.lt (by rw[z];exact hb)) (Nat.lt_irrefl _)
 ·exact absurd (Nat.lt_of_lt_of_le (Heap.lt_size (I.pin p hp).1) (by rw[z];exact hb)) (Nat.lt_irrefl _)
structure yB(P:Program)(w:World)(K:W.Frag)(tg:Expr)(J:It)(fp:List Addr)(it:Addr)(tn:Nat->Heap->Prop):Prop where
 mem:it∈fp
 obj:∀i h,tn i h->∀b∈fp,∃o,h.get? b=some o/\∀v,o.data≠.cell v
 keep:∀i h h',tn i h->(∀b∈fp,∀o,h.get? b=some o->h'.get? b=some o)->tn i h'
 item:∀(X:Cx),X.prog=P->X.w=w->X.K=K->X.calm=true->∀(i:Nat) (pins:List (Addr×Obj)) (s:Shared) (σ:St) (H:Hp) (E:Value->Shared->Prop),Inv X pins σ H s->(∀b∈fp,ni X pins H b)->tn i s.heap->J.go i H ->
  wpAny (model P w) X.A (pyNext (.ref it)) (fun r s1=>∃u,r=some u /\
   wpAny (model P w) X.A (letOwnedTupleGo tg (.ref it) u) (fun _ s2=>∃x H',Inv X pins σ H' s2/\bp x u/\J.yld i H x H'/\tn (i+1) s2.heap/\∀b∈fp,H' b=none) E s1) E s
 done:∀(X:Cx),X.prog=P->X.w=w->X.K=K->X.calm=true->∀(i:Nat) (pins:List (Addr×Obj)) (s:Shared) (σ:St) (H:Hp) (E:Value->Shared->Prop),Inv X pins σ H s->(∀b∈fp,ni X pins H b)->tn i s.heap->J.stop i H ->
  wpAny (model P w) X.A (pyNext (.ref it)) (fun r s1=>r=none/\Inv X pins σ H s1) E s
 self:∀(A:Around)(i:Nat)(s:Shared)(Q:Value->Shared->Prop)(E:Value->Shared->Prop),tn i s.heap->Q (.ref it) s->wpAny (model P w) A (pyIter (.ref it)) Q E s
noncomputable abbrev TI:=St->Hp->(It->Hp->Prop)->Prop
noncomputable def PIE(X:Cx)(pins:List (Addr×Obj))(σ:St)(tg:Expr)(R:It->Hp->Prop)(itv:Value)(s2:Shared):Prop:=
 ∃(it:Addr)(fp:List Addr)(tn:Nat->Heap->Prop)(J:It)(H':Hp),itv=.ref it/\Inv X pins σ H' s2/\yB X.prog X.w X.K tg J fp it tn/\tn 0 s2.heap/\(∀b∈fp,ni X pins H' b)/\R J H'
noncomputable def PI(X:Cx)(tg iter:Expr)(wi:TI):Prop:=
 ∀(pins:List (Addr×Obj)) (s:Shared) (σ:St) (H:Hp) (R:It->Hp->Prop),Inv X pins σ H s->wi σ H R ->
  wpAny (model X.prog X.w) X.A (eval iter X.env) (fun v s1=>wpAny (model X.prog X.w) X.A (pyIter v) (PIE X pins σ tg R) X.xe s1) X.xe s
theorem EX{M:Model}{A:Around}{E:Value->Shared->Prop}{s:Shared}{tg:Expr}{it:Addr}{u:Value}{o:Obj}{n:String}{vs:Array Value}{Q:Unit->Shared->Prop}(ho:s.heap.get? it=some o)(hc:o.cls=.type n)(hd:o.data=.fields vs)(hn:["enumerate","zip","dict_itemiterator","dict_reverseitemiterator","odict_iterator","itertools.zip_longest","itertools.pairwise"].contains n=false)(hQ:Q () s):wpAny M A (letOwnedTupleGo tg (.ref it) u) Q E s:=by
  unfold letOwnedTupleGo
  cases tg<;>first
    |exact wpAny_pure hQ
    | (cases u<;>first
        |exact wpAny_pure hQ
        | (refine wpAny_bind (wpAny_load ho ?_)
           rw[hc,hd];show wpAny M A (if (["enumerate","zip","dict_itemiterator","dict_reverseitemiterator","odict_iterator","itertools.zip_longest","itertools.pairwise"].contains n && vs[0]? == some (rawInt _))=true then _ else _) Q E s
           rw[if_neg (by intro h;rw[hn,Bool.false_and] at h;cases h)]
           exact wpAny_pure hQ))
noncomputable def Itl(K:W.Frag)(a:Addr):It:=
 ⟨fun i H=>∃xs x,SqL K H a xs/\xs[i]?=some x,fun i H x H'=>H'=H/\∀xs,SqL K H a xs->xs[i]?=some x,fun i H=>∃xs,SqL K H a xs/\xs.length<=i⟩
noncomputable def Itt(K:W.Frag)(a:Addr):It:=
 ⟨fun i H=>∃xs x,SqT K H a xs/\xs[i]?=some x,fun i H x H'=>H'=H/\∀xs,SqT K H a xs->xs[i]?=some x,fun i H=>∃xs,SqT K H a xs/\xs.length<=i⟩
noncomputable def Itr(lo:Int)(n:Nat):It:=⟨fun i _=>i<n,fun i H x H'=>H'=H/\x=.int (lo+i),fun i _=>n<=i⟩
theorem CS{P:Program}{w:World}{K:W.Frag}{tg:Expr}(a it:Addr):yB P w K tg (Itl K a) [it] it (fun i h=>h.IsListIter it a i) where
 mem:=by simp
 obj:=fun i h st b hb=>by
  have e:b=it:=by simpa using hb
  subst e;obtain⟨o,e,c,d⟩:=st;exact⟨o,e,fun v z=>by rw[d] at z;cases z⟩
 keep:=fun i h h' st k=>st.at fun o e=>k it (by simp) o e
 item:=by
  intro X hP hw hK hc i pins s σ H E I hf st hg;subst hP hw hK;obtain⟨xs,x,hq,hx⟩:=hg;obtain⟨its,rv,p,hz⟩:=I.list hq;obtain⟨u,hu,ru⟩:=rv.get hx;obtain⟨f0,f1,f2,f3,f4,f5⟩:=hf it (by simp)
  refine wpAny_pyNext_list_item st p.isList (x:=u) (by simpa using hu) fun h' st' sb=>?_
  have I1:Inv X pins σ H { s with heap:=h' }:=I.turned (t':=s.toks) (fun b o hb e=>(sb.2 b hb).trans e) f0 f1 f3 f4 f5;obtain⟨o,e,c,d⟩:=id st';exact⟨u,rfl,EX (s:={ s with heap:=h' }) e c d (by decide) ⟨x,H,I1,ru,⟨rfl,fun ys hy=>by rw[I.NC hy hq];exact hx⟩,st',fun b hb=>(hf b hb).1⟩⟩
 done:=by
  intro X hP hw hK hc i pins s σ H E I hf st hg;subst hP hw hK;obtain⟨xs,hq,hx⟩:=hg;obtain⟨its,rv,p,hz⟩:=I.list hq;obtain⟨f0,f1,f2,f3,f4,f5⟩:=hf it (by simp)
  have hl:=rv.length;exact wpAny_pyNext_list_end (I.ok.hd hc) st p.isList (by simp;omega) fun h' eb=>⟨rfl,I.turned (t':=s.toks) (fun b o hb e=>eb b o hb e) f0 f1 f3 f4 f5⟩
 self:=fun _ _ _ _ _ st h=>wpAny_pyIter_listiter st h
theorem AM{P:Program}{w:World}{K:W.Frag}{tg:Expr}(a it:Addr):yB P w K tg (Itt K a) [it] it (fun i h=>h.IsTupleIter it a i) where
 mem:=by simp
 obj:=fun i h st b hb=>by
  have e:b=it:=by simpa using hb
  subst e;obtain⟨o,e,c,d⟩:=st;exact⟨o,e,fun v z=>by rw[d] at z;cases z⟩
 keep:=fun i h h' st k=>st.at fun o e=>k it (by simp) o e
 item:=by
  intro X hP hw hK hc i pins s σ H E I hf st hg;subst hP hw hK;obtain⟨xs,x,hq,hx⟩:=hg;obtain⟨its,rv,p,hz⟩:=I.tuple hq;obtain⟨u,hu,ru⟩:=rv.get hx;obtain⟨f0,f1,f2,f3,f4,f5⟩:=hf it (by simp)
  refine wpAny_pyNext_tuple_item st (show s.heap.IsTuple a its.toArray from p) (x:=u) (by simpa using hu) fun h' st' sb=>?_
  have I1:Inv X pins σ H { s with heap:=h' }:=I.turned (t':=s.toks) (fun b o hb e=>(sb.2 b hb).trans e) f0 f1 f3 f4 f5;obtain⟨o,e,c,d⟩:=id st';exact⟨u,rfl,EX (s:={ s with heap:=h' }) e c d (by decide) ⟨x,H,I1,ru,⟨rfl,fun ys hy=>by rw[I.NA hy hq];exact hx⟩,st',fun b hb=>(hf b hb).1⟩⟩
 done:=by
  intro X hP hw hK hc i pins s σ H E I hf st hg;subst hP hw hK;obtain⟨xs,hq,hx⟩:=hg;obtain⟨its,rv,p,hz⟩:=I.tuple hq;obtain⟨f0,f1,f2,f3,f4,f5⟩:=hf it (by simp)
  have hl:=rv.length;exact wpAny_pyNext_tuple_end (I.ok.hd hc) st (show s.heap.IsTuple a its.toArray from p) (by simp;omega) fun h' eb=>⟨rfl,I.turned (t':=s.toks) (fun b o hb e=>eb b o hb e) f0 f1 f3 f4 f5⟩
 self:=fun _ _ _ _ _ st h=>wpAny_pyIter_tupleiter st h
theorem zq{P:Program}{w:World}{K:PySem.W.Frag}{tg:Expr}(it:Addr)(lo:Int)(n:Nat):yB P w K tg (Itr lo n) [it] it (fun i h=>IsRangeIter h it (lo+(i:Nat)*1) ((n:Int)-(i:Nat)) 1) where
 mem:=by simp
 obj:=fun i h st b hb=>by
  have e:b=it:=by simpa using hb
  subst e
  exact⟨_,st,fun v z=>by
   have z':Data.fields _=Data.cell v:=z
   cases z'⟩
 keep:=fun i h h' st k=>k it (by simp) _ st
 item:=by
  intro X hP hw hK hc i pins s σ H E I hf st hg;subst hP hw hK;obtain⟨f0,f1,f2,f3,f4,f5⟩:=hf it (by simp)
  have W:=Walks.range (prog:=X.prog) (w:=X.w) (I.ok.hd hc) it lo 1 n;refine W.item i s _ _ hg st fun v h' tk hv st' kk=>?_;obtain⟨t,rfl⟩:=hv;have I1:Inv X pins σ H { s with heap:=h',toks:=tk }:=I.turned (fun b o hb e=>kk b o (by simpa using hb) e) f0 f1 f3 f4 f5
  refine⟨_,rfl,EX (s:={ s with heap:=h',toks:=tk }) (n:="range_iterator") st' rfl rfl (by decide) ⟨.int (lo+i),H,I1,⟨t,?_⟩,⟨rfl,rfl⟩,st',fun b hb=>(hf b hb).1⟩⟩
  rw[Int.mul_one]
 done:=by
  intro X hP hw hK hc i pins s σ H E I hf st hg;subst hP hw hK;obtain⟨f0,f1,f2,f3,f4,f5⟩:=hf it (by simp)
  exact wpAny_pyNext_range_end (I.ok.hd hc) st (by have:n<=i:=hg;omega) fun h' eb=>⟨rfl,I.turned (t':=s.toks) (fun b o hb e=>eb b o hb e) f0 f1 f3 f4 f5⟩
 self:=fun _ _ _ _ _ st h=>wpAny_pyIter_rangeiter st h
section
variable{X:Cx}{tg:Expr}
theorem Gq{pins:List (Addr×Obj)}{σ:St}{H:Hp}{s:Shared}{R:It->Hp->Prop}{E:Value->Shared->Prop}{lo hi:Int}{t u v:Tok}{tk:Nat}(I:Inv X pins σ H s)(h1:-(2^62)<=lo)(h2:lo<2^62)(h3:-(2^62)<=hi)(h4:hi<2^62)(q:R (Itr lo (hi-lo).toNat) H):wpAny (model X.prog X.w) X.A (pyIter (.ref s.heap.objs.size)) (PIE X pins σ tg R) E { s with heap:=s.heap.push { cls:=.type "range",data:=.fields #[.int lo t,.int hi u,.int 1 v] },toks:=tk }:=by
 refine wpAny_pyIter_range (IsRange.new ..) (small_one h1 h2 h3 h4) ?_;have I1:Inv X pins σ H { s with heap:=s.heap.push { cls:=.type "range",data:=.fields #[.int lo t,.int hi u,.int 1 v] },toks:=tk }:=I.kept fun b o e=>Heap.get?_push_of_some _ e
 refine⟨(s.heap.push { cls:=.type "range",data:=.fields #[.int lo t,.int hi u,.int 1 v] }).objs.size,[(s.heap.push { cls:=.type "range",data:=.fields #[.int lo t,.int hi u,.int 1 v] }).objs.size],_,_,H,rfl,
  I1.kept (t':=tk) fun b o e=>Heap.get?_push_of_some _ e,zq _ lo (hi-lo).toNat,?_,fun b hb=>?_,q⟩
 ·have e1:lo+((0:Nat):Int)*1=lo:=by simp
  have e2:(((hi-lo).toNat:Nat):Int)-((0:Nat):Int)=Builtin.Range.rangeSize lo hi 1:=by rw[rangeSize_one];split<;>omega
  show IsRangeIter _ _ (lo+((0:Nat):Int)*1) ((((hi-lo).toNat:Nat):Int)-((0:Nat):Int)) 1;rw[e1,e2];exact Heap.get?_push_size _ rfl
 ·have e:b=(s.heap.push { cls:=.type "range",data:=.fields #[.int lo t,.int hi u,.int 1 v] }).objs.size:=by simpa using hb
  subst e;exact I1.NG (Nat.le_refl _) (I1.hok.fresh (Nat.le_refl _))
noncomputable def JD(ta:TA):TI:=fun σ H R=>ta σ H fun vs H1=>∃j:Int,vs=[.int j]/\-(2^62)<=j/\j<2^62/\R (Itr 0 j.toNat) H1
theorem kn{a:Expr}{ta:TA}{p pos:Pos}(hg:Gl X "range")(hm:X.mg "range"=none)(ha:PA X [a] ta)(hs:starEach [a] X.env=[(false,eval a X.env)]:=by rfl):PI X tg (.Call (.Name "range" p) [a] [] pos) (JD ta):=by
 intro pins s σ H R I h;refine Call_ (n8 I hg hm boot_range (PyProof.Rows.callWith_type1 (thn (ha pos pins s σ H _ I h) fun us s1 ⟨vs,H1,I1,r1,q1⟩=>?_) hs rfl));obtain⟨j,e,q1,q2,q⟩:=q1;subst e
 cases r1 with
 |cons r rr=>
  cases rr;obtain⟨t,rfl⟩:=r;exact call_range_1 (Gq I1 (by omega) (by omega) q1 q2 (by simpa using q))
noncomputable def KU(wi:TI)(g:TG)(tb:TS):TS:=fun D σ H=>wi σ H fun J H1=>∃W:Nat->Nat->St->Hp->Prop,(∃m,W 0 m σ H1)/\∀i m σ H,W i m σ H ->
 (J.stop i H/\D.nx σ H)\/(J.go i H/\∃N:St->Hp->Prop,(∀σ' H',N σ' H'->∃m',m'<m/\W (i+1) m' σ' H')/\∀x H',J.yld i H x H'->g x σ H' fun σ2 H2=>tb { D with nx:=N,ct:=N,bk:=D.nx } σ2 H2)
noncomputable def tj(fp:List Addr)(h:Heap):List (Addr×Obj):=fp.filterMap fun b=>(h.get? b).map fun o=>(b,o)
theorem kL{fp:List Addr}{h:Heap}{b:Addr}{o:Obj}(hb:b∈fp)(e:h.get? b=some o):(b,o)∈tj fp h:=List.mem_filterMap.mpr ⟨b,hb,by rw[e];rfl⟩
theorem Dy{fp:List Addr}{h:Heap}{p:Addr×Obj}(hp:p∈tj fp h):p.1∈fp/\h.get? p.1=some p.2:=by
 obtain⟨b,hb,e⟩:=List.mem_filterMap.mp hp
 cases q:h.get? b with
 |none=>rw[q] at e;cases e
 |some o=>
  rw[q] at e;have e':(b,o)=p:=Option.some.inj e;subst e';exact⟨hb,q⟩
theorem Inv.pinned{pins:List (Addr×Obj)}{σ:St}{H:Hp}{s:Shared}{fp:List Addr}(I:Inv X pins σ H s)(hf:∀b∈fp,ni X pins H b)(ho:∀b∈fp,∃o,s.heap.get? b=some o/\∀v,o.data≠.cell v):Inv X (pins++tj fp s.heap) σ H s:=
 I.NJ fun p hp=>(List.mem_append.mp hp).elim (fun z=>I.pin p (List.mem_append_right _ z)) fun z=>by
  obtain⟨hb,e⟩:=Dy z;obtain⟨f0,f1,f2,_⟩:=hf p.1 hb;obtain⟨o,e',d⟩:=ho p.1 hb;rw[e] at e';cases e';exact⟨e,f0,f1,f2,d⟩
theorem Inv.unpinned{pins pl:List (Addr×Obj)}{σ:St}{H:Hp}{s:Shared}(I:Inv X (pins++pl) σ H s):Inv X pins σ H s:=I.NJ fun p hp=>I.pin p (List.mem_append_right _ (List.mem_append_left _ hp))
theorem g6{iter:Expr}{body:List Stmt}{wi:TI}{g:TG}{tb:TS}{pos:Pos}(hp:PassesOwn (model X.prog X.w) X.A X.env X.xe)(hc:X.calm=true)(hi:PI X tg iter wi)(hg:PG X tg g)(hb:PSs X body tb)(hs:∀x,foldedSetIterable iter X.env x=pure x:=by intro _;rfl):PS X (.For tg iter body [] pos) (KU wi g tb):=.mk <| by
 intro pins s σ H D I h;refine wpAny_For (thn (hi pins s σ H _ I h) fun v s1 h1=>thn h1 fun itv s2 h2=>?_) hs;obtain⟨it,fp,tn,J,H2,e,I2,T,st2,f2,W,⟨m0,w0⟩,turn⟩:=h2;subst e;have stat:∀ {H':Hp},(∀b∈fp,H' b=none)->∀b∈fp,ni X pins H' b:=fun hn b hb=>⟨hn b hb,(f2 b hb).2⟩;refine codeAny_forLoop_any (fun n s'=>∃i σ' H',Inv X pins σ' H' s'/\tn i s'.heap/\(∀b∈fp,H' b=none)/\W i n σ' H') ?_ m0 ⟨0,σ,H2,I2,st2,fun b hb=>(f2 b hb).1,w0⟩
 rintro n s3 ⟨i,σ3,H3,I3,st3,fr3,w3⟩;rcases turn i n σ3 H3 w3 with⟨stop,qn⟩|⟨go,N,hN,step⟩
 ·refine wpAny_passesOwn hp (thn (T.done X rfl rfl rfl hc i pins s3 σ3 H3 X.xe I3 (stat fr3) st3 stop) fun r s4 ⟨hr,I4⟩=>?_)
  subst hr;exact wpAny_execs_nil ⟨σ3,H3,I4,qn⟩
 ·refine wpAny_passesOwn hp (thn (T.item X rfl rfl rfl hc i pins s3 σ3 H3 X.xe I3 (stat fr3) st3 go) fun r s4 ⟨u,hr,h4⟩=>?_)
  subst hr;refine wpAny_passesOwn hp (thn h4 fun _ s5 ⟨x,H5,I5,r5,y5,st5,fr5⟩=>?_);have I5':=I5.pinned (stat fr5) (T.obj _ _ st5);refine wpAny_passesOwn hp (thn (hg _ s5 σ3 H5 x u _ I5' r5 (step x H5 y5)) fun _ s6 ⟨σ6,H6,I6,q6⟩=>?_);refine wpAny_passesOwn hp (thn (hb _ s6 σ6 H6 _ I6 q6) fun f s7 q7=>?_)
  have again:∀ {σ7:St} {H7:Hp},Inv X (pins++tj fp s5.heap) σ7 H7 s7->N σ7 H7->∃m,m<n/\∃i σ' H',Inv X pins σ' H' s7/\tn i s7.heap/\(∀b∈fp,H' b=none)/\W i m σ' H':=fun {σ7 H7} I7 n7=>by
   obtain⟨m',hm,w7⟩:=hN σ7 H7 n7;refine⟨m',hm,i+1,σ7,H7,I7.unpinned,T.keep _ _ _ st5 fun b hb o e=>(I7.pin (b,o) (List.mem_append_right _ (List.mem_append_right _ (kL hb e)))).1,fun b hb=>?_,w7⟩;obtain⟨o,e,d⟩:=T.obj _ _ st5 b hb;exact(I7.pin (b,o) (List.mem_append_right _ (List.mem_append_right _ (kL hb e)))).2.1
  cases f with
  |next=>obtain⟨σ7,H7,I7,n7⟩:=q7;exact again I7 n7
  |cont=>obtain⟨σ7,H7,I7,n7⟩:=q7;exact again I7 n7
  |brk=>obtain⟨σ7,H7,I7,q7⟩:=q7;exact⟨σ7,H7,I7.unpinned,q7⟩
  |ret v=>obtain⟨x7,σ7,H7,I7,r7,q7⟩:=q7;exact⟨x7,σ7,H7,I7.unpinned,r7,q7⟩
end
noncomputable abbrev R2:=V->V->Hp->VK->Prop
noncomputable def OpR(X:Cx)(f:Value->Value->Sem Value)(r:R2):Prop:=
 ∀(pins:List (Addr×Obj)) (s:Shared) (σ:St) (H:Hp) (x y:V) (v u:Value) (Q:VK),Inv X pins σ H s->bp x v->bp y u->r x y H Q ->
  wpAny (model X.prog X.w) X.A (f v u) (EP X pins σ Q) X.xe s
noncomputable def UnR(X:Cx)(f:Value->Sem Value)(r:V->Hp->VK->Prop):Prop:=
 ∀(pins:List (Addr×Obj)) (s:Shared) (σ:St) (H:Hp) (x:V) (v:Value) (Q:VK),Inv X pins σ H s->bp x v->r x H Q ->
  wpAny (model X.prog X.w) X.A (f v) (EP X pins σ Q) X.xe s
noncomputable def g9(X:Cx)(f:Value)(r:List V->Hp->VK->Prop):Prop:=
 ∀(pins:List (Addr×Obj)) (s:Shared) (σ:St) (H:Hp) (xs:List V) (us:List Value) (Q:VK),Inv X pins σ H s->aT xs us->r xs H Q ->
  wpAny (model X.prog X.w) X.A (call f us) (EP X pins σ Q) X.xe s
noncomputable def Nc(X:Cx)(r:V->Hp->(Bool->Hp->Prop)->Prop):Prop:=
 ∀(pins:List (Addr×Obj)) (s:Shared) (σ:St) (H:Hp) (x:V) (v:Value) (Q:Bool->Hp->Prop),Inv X pins σ H s->bp x v->r x H Q ->
  wpAny (model X.prog X.w) X.A (truthy v) (TP X pins σ Q) X.xe s
noncomputable def tOp(r:R2)(ta tb:TE):TE:=fun σ H Q=>ta σ H fun x H1=>tb σ H1 fun y H2=>r x y H2 Q
noncomputable def tUn(r:V->Hp->VK->Prop)(ta:TE):TE:=fun σ H Q=>ta σ H fun x H1=>r x H1 Q
noncomputable def rI(C:Int->Int->Prop)(g:Int->Int->V):R2:=fun x y H Q=>∃i j,x=.int i/\y=.int j/\C i j/\Q (g i j) H
noncomputable def rI0(g:Int->Int->V):R2:=fun x y H Q=>∃i j,x=.int i/\y=.int j/\Q (g i j) H
noncomputable def rU(g:Int->V):V->Hp->VK->Prop:=fun x H Q=>∃i,x=.int i/\Q (g i) H
section
variable{X:Cx}{a b c:Expr}{ta tb tc:TE}{pos:Pos}
theorem Ke(ha:PE X a ta)(hb:PE X b tb){pins:List (Addr×Obj)}{s:Shared}{σ:St}{H:Hp}{R:V->V->Hp->Prop}(I:Inv X pins σ H s)(h:ta σ H fun x H1=>tb σ H1 fun y H2=>R x y H2){Q:Value->Shared->Prop}{f:Value->Value->Sem Value}(hf:∀v u s2 x y H2,Inv X pins σ H2 s2->bp x v->bp y u->R x y H2->wpAny (model X.prog X.w) X.A (f v u) Q X.xe s2):
  wpAny (model X.prog X.w) X.A (eval a X.env) (fun v s₁=>wpAny (model X.prog X.w) X.A (eval b X.env) (fun u s₂=>wpAny (model X.prog X.w) X.A (f v u) Q X.xe s₂) X.xe s₁) X.xe s:=by
 refine thn (ha pins s σ H _ I h) fun v s1 ⟨x,H1,I1,r1,q1⟩=>?_;refine thn (hb pins s1 σ H1 _ I1 q1) fun u s2 ⟨y,H2,I2,r2,q2⟩=>?_;exact hf v u s2 x y H2 I2 r1 r2 q2
theorem be{op:Operator}{r:R2}(ho:OpR X (binaryOp op) r)(ha:PE X a ta)(hb:PE X b tb):PE X (.BinOp a op b pos) (tOp r ta tb):=.mk <| by
 intro pins s σ H Q I h;exact wpAny_BinOp (Ke ha hb I h fun v u s2 x y H2 I2 rx ry q=>ho pins s2 σ H2 x y v u Q I2 rx ry q)
theorem uY{op:UnaryOp}{r:V->Hp->VK->Prop}(ho:UnR X (unaryOp op) r)(ha:PE X a ta):PE X (.UnaryOp op a pos) (tUn r ta):=.mk <| by
 intro pins s σ H Q I h;exact UnaryOp_ (thn (ha pins s σ H _ I h) fun v s1 ⟨x,H1,I1,r1,q1⟩=>ho pins s1 σ H1 x v Q I1 r1 q1)
theorem opI{f:Value->Value->Sem Value}{C:Int->Int->Prop}{g:Int->Int->Int}(rule:∀(i j:Int)(t u:Tok)(s:Shared)(Q:Value->Shared->Prop)(E:Value->Shared->Prop),C i j->Q (.int (g i j) s.toks) { s with toks:=s.toks+1 }->wpAny (model X.prog X.w) X.A (f (.int i t) (.int j u)) Q E s):
  OpR X f (rI C fun i j=>.int (g i j)):=by
 intro pins s σ H x y v u Q I rx ry h;obtain⟨i,j,rfl,rfl,hc,q⟩:=h;obtain⟨t,rfl⟩:=rx;obtain⟨t',rfl⟩:=ry;exact rule i j t t' s _ _ hc ⟨.int (g i j),H,I.tok _,⟨_,rfl⟩,q⟩
theorem Hj{f:Value->Value->Sem Value}{g:Int->Int->Int}(rule:∀(i j:Int)(t u:Tok)(s:Shared)(Q:Value->Shared->Prop)(E:Value->Shared->Prop),Q (.int (g i j) s.toks) { s with toks:=s.toks+1 }->wpAny (model X.prog X.w) X.A (f (.int i t) (.int j u)) Q E s):
  OpR X f (rI0 fun i j=>.int (g i j)):=by
 intro pins s σ H x y v u Q I rx ry h;obtain⟨i,j,rfl,rfl,q⟩:=h;obtain⟨t,rfl⟩:=rx;obtain⟨t',rfl⟩:=ry;exact rule i j t t' s _ _ ⟨.int (g i j),H,I.tok _,⟨_,rfl⟩,q⟩
theorem JR{f:Value->Value->Sem Value}{g:Int->Int->Bool}(rule:∀(i j:Int)(t u:Tok)(s:Shared)(Q:Value->Shared->Prop)(E:Value->Shared->Prop),Q (.bool (g i j)) s->wpAny (model X.prog X.w) X.A (f (.int i t) (.int j u)) Q E s):
  OpR X f (rI0 fun i j=>.bl (g i j)):=by
 intro pins s σ H x y v u Q I rx ry h;obtain⟨i,j,rfl,rfl,q⟩:=h;obtain⟨t,rfl⟩:=rx;obtain⟨t',rfl⟩:=ry;exact rule i j t t' s _ _ ⟨.bl (g i j),H,I,rfl,q⟩
noncomputable def MV(i j:Int):Prop:=0<j/\j<1073741824
noncomputable def Mp(i j:Int):Prop:=0<=j/\j<=1000000/\i.natAbs<2^64
noncomputable def wB(i j:Int):Prop:=(-(2^64)<i/\i<2^64)\/(-(2^64)<j/\j<2^64)
theorem wB.ok{i j:Int}(h:wB i j):IntMulOk i j:=by
 rcases h with⟨h1,h2⟩|⟨h1,h2⟩
 ·exact .of_left (intBits_le_64 h1 h2)
 ·exact .of_right (intBits_le_64 h1 h2)
theorem AR(k:Nat):(0:Int)<=2^k:=by
 rw[two_pow_cast];exact Int.natCast_nonneg _
theorem d8:OpR X (binaryOp .Add) (rI0 fun i j=>.int (i+j)):=Hj fun _ _ _ _ _ _ _ q=>add_int q
theorem kU:OpR X (binaryOp .Sub) (rI0 fun i j=>.int (i-j)):=Hj fun _ _ _ _ _ _ _ q=>sub_int q
theorem wb:OpR X (binaryOp .Mult) (rI wB fun i j=>.int (i*j)):=opI fun _ _ _ _ _ _ _ hc q=>mul_int q hc.ok
theorem rG:OpR X (binaryOp .FloorDiv) (rI MV fun i j=>.int (i / j)):=opI fun i j _ _ _ _ _ hc q=>by
 have h1:(0:Int)<j:=hc.1;have h2:j<1073741824:=hc.2;exact floordiv_int (by omega) (by rw[Int.fdiv_eq_ediv_of_nonneg i (by omega)];exact q) (.inl (PyProof.noPylong_small (by omega)))
theorem lL:OpR X (binaryOp .Mod) (rI (fun _ j=>0<j) fun i j=>.int (i%j)):=opI fun i j _ _ _ _ _ hc q=>by
 have h1:(0:Int)<j:=hc;exact mod_int' (by omega) (by rw[Int.fmod_eq_emod_of_nonneg i (by omega)];exact q)
theorem Li:OpR X (binaryOp .Pow) (rI Mp fun i j=>.int (i^j.toNat)):=opI fun _ _ _ _ _ _ _ hc q=>pow_int_small hc.1 hc.2.1 hc.2.2 q
theorem Ff:OpR X (binaryOp .LShift) (rI Mp fun i j=>.int (i*2^j.toNat)):=opI fun _ _ _ _ _ _ _ hc q=>lshift_int_small hc.1 hc.2.1 hc.2.2 q
theorem Kv:OpR X (binaryOp .RShift) (rI (fun _ j=>0<=j) fun i j=>.int (i / 2^j.toNat)):=opI fun i j _ _ _ _ _ hc q=>
 rshift_int hc (by rw[Int.fdiv_eq_ediv_of_nonneg i (AR _)];exact q)
theorem Ef:OpR X (binaryOp .BitAnd) (rI0 fun i j=>.int (Builtin.bitAnd i j)):=Hj fun _ _ _ _ _ _ _ q=>and_int q
theorem LO:OpR X (binaryOp .BitOr) (rI0 fun i j=>.int (Builtin.bitOr i j)):=Hj fun _ _ _ _ _ _ _ q=>or_int q
theorem unI{f:Value->Sem Value}{g:Int->Int}(rule:∀(i:Int)(t:Tok)(s:Shared)(Q:Value->Shared->Prop)(E:Value->Shared->Prop),Q (.int (g i) s.toks) { s with toks:=s.toks+1 }->wpAny (model X.prog X.w) X.A (f (.int i t)) Q E s):
  UnR X f (rU fun i=>.int (g i)):=by
 intro pins s σ H x v Q I rx h;obtain⟨i,rfl,q⟩:=h;obtain⟨t,rfl⟩:=rx;exact rule i t s _ _ ⟨.int (g i),H,I.tok _,⟨_,rfl⟩,q⟩
theorem p7:UnR X (unaryOp .USub) (rU fun i=>.int (-i)):=unI fun _ _ _ _ _ q=>neg_int q
end
section
variable{X:Cx}{a b c:Expr}{ta tb tc:TE}{pos:Pos}
theorem AX{pins:List (Addr×Obj)}{σ:St}{H:Hp}{s:Shared}{Q:VK}{k k':Bool}(I:Inv X pins σ H s)(q:Q (.bl k) H)(e:k=k'):EP X pins σ Q (.bool k') s:=by
 subst e;exact⟨.bl k,H,I,rfl,q⟩
theorem LZ:OpR X (compareOp .Lt) (rI0 fun i j=>.bl (decide (i<j))):=JR fun _ _ _ _ _ _ _ q=>lt_int q
theorem zf:OpR X (compareOp .Gt) (rI0 fun i j=>.bl (decide (j<i))):=JR fun _ _ _ _ _ _ _ q=>gt_int q
theorem Mj:OpR X (compareOp .GtE) (rI0 fun i j=>.bl (decide (j<=i))):=JR fun _ _ _ _ _ _ _ q=>ge_int q
theorem E3:OpR X (compareOp .Is) (fun x y H Q=>y=.non/\Q (.bl (decide (x=.non))) H):=by
 intro pins s σ H x y v u Q I rx ry h;obtain⟨rfl,q⟩:=h;cases ry;refine is_none_gen (AX I q ?_)
 cases x<;>first
  |(cases rx;rfl)
  |(obtain⟨t,rfl⟩:=rx;rfl)
theorem aL(b:Expr){op:CmpOp}(h:op≠.In:=by decide)(h2:op≠.NotIn:=by decide):behindInMarks op b=false:=by
 have e1:(op == CmpOp.In)=false:=by cases op<;>first|rfl|exact absurd rfl h
 have e2:(op == CmpOp.NotIn)=false:=by cases op<;>first|rfl|exact absurd rfl h2
 cases b<;>simp[behindInMarks,e1,e2]
theorem cV{op:CmpOp}{r:R2}(ho:OpR X (compareOp op) r)(ha:PE X a ta)(hb:PE X b tb)(hm:behindInMarks op b=false):PE X (.Compare a [op] [b] pos) (tOp r ta tb):=.mk <| by
 intro pins s σ H Q I h;exact wpAny_Compare1 (Ke ha hb I h fun v u s2 x y H2 I2 rx ry q=>ho pins s2 σ H2 x y v u Q I2 rx ry q) hm
noncomputable def II(t:TE):TT:=fun σ H Q=>t σ H fun x H'=>∃k,x=.bl k/\Q k H'
theorem aH{op:CmpOp}{r:R2}(ho:OpR X (compareOp op) r)(ha:PE X a ta)(hb:PE X b tb)(hm:behindInMarks op b=false):PT X (.Compare a [op] [b] pos) (II (tOp r ta tb)):=by
 intro pins s σ H Q I h
 refine wpAny_isTrue_Compare1 (thn (ha pins s σ H _ I h) fun v s1 ⟨x,H1,I1,r1,q1⟩=>thn (hb pins s1 σ H1 _ I1 q1) fun u s2 ⟨y,H2,I2,r2,q2⟩=>
  thn (ho pins s2 σ H2 x y v u _ I2 r1 r2 q2) fun c s3 ⟨z,H3,I3,r3,k,e,q3⟩=>?_) hm
 subst e;cases r3;exact wpAny_truthy_bool ⟨H3,I3,q3⟩
noncomputable def yo(K:W.Frag)(x:V)(H:Hp)(k:Bool):Prop:=
 match x with
 |.non=>k=false
 |.bl b=>k=b
 |.int i=>k=(i != 0)
 |.str y=>y.length<=sizeLine/\k=((y.length:Int) != 0)
 |.byt y=>y.size<=sizeLine/\k=((y.size:Int) != 0)
 |.ref p=>(∃xs,SqL K H p xs/\k=!xs.isEmpty)\/(∃xs,SqT K H p xs/\k=!xs.isEmpty)\/∃kvs,H p=some (.dK kvs)/\k=!kvs.isEmpty
 |_=>False
theorem zA{κ:Type}{kvs:List (κ×V)}{vs:List (κ×Value)}(r:KV kvs vs):(!vs.isEmpty)=!kvs.isEmpty:=by
 cases r<;>rfl
theorem sC{xs:List V}{its:List Value}(r:aT xs its):(!its.toArray.isEmpty)=!xs.isEmpty:=by
 cases r<;>simp
theorem qB:(sizeLine:Nat)<2^63:=by rw[sizeLine_eq];decide
theorem A1:Nc X (fun x H Q=>∃k,yo X.K x H k/\Q k H):=by
 intro pins s σ H x v Q I rx h;obtain⟨k,e,q⟩:=h;have hl:=qB;have hs:sizeLine=16777216:=sizeLine_eq
 cases x with
 |non=>
  cases rx;have e':k=false:=e;subst e';exact truthy_none ⟨H,I,q⟩
 |bl b=>
  cases rx;have e':k=b:=e;subst e';exact wpAny_truthy_bool ⟨H,I,q⟩
 |int i=>
  obtain⟨t,rfl⟩:=rx;have e':k=(i != 0):=e;subst e';exact PySem.P.truthy_int ⟨H,I,q⟩
 |str y=>
  obtain⟨t,rfl⟩:=rx;obtain⟨hy,e'⟩:y.length<=sizeLine/\k=((y.length:Int) != 0):=e;subst e';exact PySem.P.truthy_str (by omega) ⟨H,I.tok _,q⟩
 |byt y=>
  obtain⟨t,rfl⟩:=rx;obtain⟨hy,e'⟩:y.size<=sizeLine/\k=((y.size:Int) != 0):=e;subst e';exact W.truthy_bytes (by omega) ⟨H,I.tok _,q⟩
 |ref p=>
  cases rx;have e':(∃xs,SqL X.K H p xs/\k=!xs.isEmpty)\/(∃xs,SqT X.K H p xs/\k=!xs.isEmpty)\/∃kvs,H p=some (.dK kvs)/\k=!kvs.isEmpty:=e;rcases e' with⟨xs,hx,e'⟩|⟨xs,hx,e'⟩|⟨kvs,hx,e'⟩
  ·subst e'
   obtain⟨its,r,pl,hz⟩:=I.list hx;have hlen:=r.length;exact wpAny_truthy_list pl.isList (by simp only[List.size_toArray];omega) ⟨H,I.tok _,by rw[sC r];exact q⟩
  ·subst e'
   obtain⟨its,r,pl,hz⟩:=I.tuple hx;have hlen:=r.length;exact truthy_tuple pl (by simp only[List.size_toArray];omega) ⟨H,I.tok _,by rw[sC r];exact q⟩
  ·subst e'
   obtain⟨hz,hS,vs,r,m⟩:kvs.length<=sizeLine/\(p == sysModules)=false/\∃vs,KV kvs vs/\s.heap.DictOf (bx X.prog X.w) p vs:=I.hok p _ hx;have hlen:kvs.length=vs.length:=Paired.length r;exact wpAny_truthy_dict hS m (by omega) ⟨H,I.tok _,by rw[zA r];exact q⟩
 |_=>exact(show False from e).elim
theorem GF(ha:PE X a ta)(he:∀whole,isTrue a X.env whole=(do let v ← whole;standAt a.pos;holding [v] (truthy v))):
  PT X a (fun σ H Q=>ta σ H fun x H'=>∃k,yo X.K x H' k/\Q k H'):=by
 intro pins s σ H Q I h;exact isTrue_plain (thn (ha pins s σ H _ I h) fun v s1 ⟨x,H1,I1,r1,q1⟩=>A1 pins s1 σ H1 x v Q I1 r1 q1) (he _)
theorem nL{x:V}{us:List Value}(r:aT [x] us):∃u,us=[u]/\bp x u:=by
 cases r with
 |cons r1 r2=>cases r2;exact⟨_,rfl,r1⟩
theorem IG{x y:V}{us:List Value}(r:aT [x,y] us):∃u w',us=[u,w']/\bp x u/\bp y w':=by
 cases r with
 |cons r1 r2=>
  cases r2 with
  |cons r3 r4=>cases r4;exact⟨_,_,rfl,r1,r3⟩
theorem tu:g9 X (.builtin "abs") (fun xs H Q=>∃i,xs=[.int i]/\Q (.int (if i<0 then -i else i)) H):=by
 intro pins s σ H xs us Q I r h;obtain⟨i,rfl,q⟩:=h;obtain⟨u,rfl,t,rfl⟩:=nL r;exact call_abs_int fun u tk=>⟨.int (if i<0 then -i else i),H,I.tok _,⟨_,rfl⟩,q⟩
theorem qc(hc:X.calm=true):g9 X (.builtin "max") (fun xs H Q=>∃i j,xs=[.int i,.int j]/\Q (.int (if j>i then j else i)) H):=by
 intro pins s σ H xs us Q I r h;obtain⟨i,j,rfl,q⟩:=h;obtain⟨u,w',rfl,⟨t,rfl⟩,⟨t',rfl⟩⟩:=IG r;refine max_two_ints (I.ok.hd hc) fun h' tk k=>⟨_,H,I.kept k,?_,q⟩;by_cases hj:j>i
 ·rw[if_pos hj,if_pos hj];exact⟨_,rfl⟩
 ·rw[if_neg hj,if_neg hj];exact⟨_,rfl⟩
theorem p8(hc:X.calm=true):g9 X (.builtin "min") (fun xs H Q=>∃i j,xs=[.int i,.int j]/\Q (.int (if j<i then j else i)) H):=by
 intro pins s σ H xs us Q I r h;obtain⟨i,j,rfl,q⟩:=h;obtain⟨u,w',rfl,⟨t,rfl⟩,⟨t',rfl⟩⟩:=IG r;refine min_two_ints (I.ok.hd hc) fun h' tk k=>⟨_,H,I.kept k,?_,q⟩;by_cases hj:j<i
 ·rw[if_pos hj,if_pos hj];exact⟨_,rfl⟩
 ·rw[if_neg hj,if_neg hj];exact⟨_,rfl⟩
theorem qu:g9 X (.type "int") (fun xs H Q=>(∃i,xs=[.int i]/\Q (.int i) H)\/∃k,xs=[.bl k]/\Q (.int (if k then 1 else 0)) H):=by
 intro pins s σ H xs us Q I r h;rcases h with⟨i,rfl,q⟩|⟨k,rfl,q⟩
 ·obtain⟨u,rfl,t,rfl⟩:=nL r
  exact call_int_int ⟨.int i,H,I,⟨_,rfl⟩,q⟩
 ·obtain⟨u,rfl,r1⟩:=nL r
  cases r1;exact call_int_bool ⟨.int (if k then 1 else 0),H,I.tok _,⟨_,rfl⟩,q⟩
noncomputable def Lg(K:W.Frag)(x:V)(H:Hp)(n:Nat):Prop:=
 match x with
 |.str y=>y.length<=sizeLine/\n=y.length
 |.byt y=>y.size<=sizeLine/\n=y.size
 |.ref p=>(∃xs,SqL K H p xs/\n=xs.length)\/∃xs,SqT K H p xs/\n=xs.length
 |_=>False
theorem E7:g9 X (.builtin "len") (fun xs H Q=>∃x n,xs=[x]/\Lg X.K x H n/\Q (.int n) H):=by
 intro pins s σ H xs us Q I r h;obtain⟨x,n,rfl,e,q⟩:=h;obtain⟨u,rfl,rx⟩:=nL r;have hl:=qB;have hs:sizeLine=16777216:=sizeLine_eq
 cases x with
 |str y=>
  obtain⟨t,rfl⟩:=rx;obtain⟨hy,e'⟩:y.length<=sizeLine/\n=y.length:=e;subst e';exact len_str (by omega) ⟨.int _,H,I.tok _,⟨_,rfl⟩,q⟩
 |byt y=>
  obtain⟨t,rfl⟩:=rx;obtain⟨hy,e'⟩:y.size<=sizeLine/\n=y.size:=e;subst e';exact W.len_bytes (by omega) ⟨.int _,H,I.tok _,⟨_,rfl⟩,q⟩
 |ref p=>
  cases rx;have e':(∃xs,SqL X.K H p xs/\n=xs.length)\/∃xs,SqT X.K H p xs/\n=xs.length:=e;rcases e' with⟨xs,hx,e'⟩|⟨xs,hx,e'⟩
  ·subst e'
   obtain⟨its,r',pl,hz⟩:=I.list hx;have hlen:=r'.length;exact Calls.call_len_list pl.isList (by simp only[List.size_toArray];omega) ⟨.int xs.length,H,I.tok _,⟨_,by simp only[List.size_toArray];rw[hlen]⟩,q⟩
  ·subst e'
   obtain⟨its,r',pl,hz⟩:=I.tuple hx;have hlen:=r'.length;exact len_tuple pl (by simp only[List.size_toArray];omega) ⟨.int xs.length,H,I.tok _,⟨_,by simp only[List.size_toArray];rw[hlen]⟩,q⟩
 |_=>exact(show False from e).elim
end
structure Np(h:Heap)(x dx C:Addr)(mA:Str->Option Value):Prop where
 obj:h.get? x=some (W.instObj C dx)
 ns:h.Ns1 dx mA
 ne:dx≠x
theorem uw.some_of{v:V}{o:Option Value}(r:uw (some v) o):∃u,o=some u/\bp v u:=by
 cases o with
 |none=>exact(show False from r).elim
 |some u=>exact⟨u,rfl,r⟩
structure Cls(K:W.Frag)(C:Addr):Prop where
 pg:W.plainGet K C Str.empty=true
 hd:W.hasDictIn K C=true
 po:W.plainOver K C=true
 sa:W.findIn K (.ref C) "__setattr__"=some (some (.builtin "object.__setattr__"))
structure Con(K:W.Frag)(C:Addr)(f:Str)(v:V)(u:Value):Prop where
 at_:W.findIn K (.ref C) f=some (some u)
 rel:bp v u
 get:W.specialIn K u "__get__"=some none
 cp:W.copiedNames.contains f=false
structure Nn(K:W.Frag)(C:Addr)(m:Str)(f:Addr):Prop where
 at_:W.findIn K (.ref C) m=some (some (.ref f))
 fn:W.isFn K (.ref f)=true
 kp:W.keepIn K (.ref f)=true
section
variable{X:Cx}{pins:List (Addr×Obj)}{σ:St}{H:Hp}{s:Shared}{A:Around}{E:Value->Shared->Prop}{Q:Value->Shared->Prop}{c:Value}{b:Bool}
inductive sr (K:PySem.W.Frag) (H:Hp):V->Value->Prop where
 |non:sr K H .non (.type "NoneType")
 |bl (x:Bool):sr K H (.bl x) (.type "bool")
 |int (i:Int):sr K H (.int i) (.type "int")
 |str (x:Str):sr K H (.str x) (.type "str")
 |flt (x:UInt64):sr K H (.flt x) (.type "float")
 |lst {a:Addr} {xs:List V} (e:H a=some (.lst xs)):sr K H (.ref a) (.type "list")
 |frz {a:Addr} {o:Obj} {xs:List V} (e:H a=some (.frz o (.lst xs))):sr K H (.ref a) (.type "list")
 |tup {a:Addr} {xs:List V} (e:H a=some (.tup xs)):sr K H (.ref a) (.type "tuple")
 |dK {a:Addr} {kvs:List (Key×V)} (e:H a=some (.dK kvs)):sr K H (.ref a) (.type "dict")
 |dT {a:Addr} {kvs:List (List Key×V)} (e:H a=some (.dT kvs)):sr K H (.ref a) (.type "dict")
 |ins {a C dx:Addr} {fs:List (Str×V)} (e:H a=some (.ins C dx fs)) (cl:Cls K C) (ha:PySem.W.findIn K (.ref C) "__class__"=some (some (.builtin "object.__class__")))
   (hn:PySem.W.specialIn K (.builtin "object.__class__") "__get__"=some (some (.builtin "getset_descriptor.__get__"))) (htk:PySem.W.takesIn K (.builtin "object.__class__")=some true)
   (hm:PySem.W.mroIn K C (.type "object")=some true):sr K H (.ref a) (.ref C)
end
structure ft(k:Nat)(A:Around):Prop where
 hd:A.handled=none
 dp:A.depth+3*k+5<recursionLimit
 un:A.units+16*k+200<cLine
 gd:A.guards=some []
theorem ft.mono{j k:Nat}{A:Around}(r:ft k A)(h:j<=k):ft j A:=⟨r.hd,by have:=r.dp;omega,by have:=r.un;omega,r.gd⟩
theorem ft.deeper{k:Nat}{A:Around}(r:ft (k+1) A)(env:Env):ft k (A.deeper env):=
 ⟨r.hd,by have:=r.dp;show A.depth+1+3*k+5<_;omega,by have:=r.un;show A.units+3+16*k+200<_;omega,r.gd⟩
theorem ft.depth{k:Nat}{A:Around}(r:ft k A):A.depth<recursionLimit:=by have:=r.dp;omega
theorem ft.units{k:Nat}{A:Around}(r:ft k A):A.units+64<cLine:=by have:=r.un;omega
noncomputable def Im:TA:=fun _ H Q=>Q [] H
noncomputable def kl(ta:TE)(tr:TA):TA:=fun σ H Q=>ta σ H fun x H1=>tr σ H1 fun xs H2=>Q (x::xs) H2
section
variable{X:Cx}{e:Expr}{es:List Expr}{te:TE}{t:TA}{pos:Pos}
theorem ae:PA X [] Im:=.mk <| fun _ _ _ _ H Q I h=>Calls.spliced_nil ⟨[],H,I,.nil,h⟩
theorem aa(ha:PE X e te)(hr:PA X es t)(hs:starEach (e::es) X.env=(false,eval e X.env)::starEach es X.env:=by rfl):PA X (e::es) (kl te t):=.mk <| by
 intro pos pins s σ H Q I h;rw[hs];show wpAny _ _ (spliced ((false,eval e X.env)::backTo pos (starEach es X.env))) _ _ s;refine Calls.spliced_cons (thn (ha pins s σ H _ I h) fun u s1 ⟨x,H1,I1,r1,q1⟩=>?_);exact thn (hr pos pins s1 σ H1 _ I1 q1) fun us s2 ⟨xs,H2,I2,r2,q2⟩=>⟨x::xs,H2,I2,.cons r1 r2,q2⟩
noncomputable def MQ(t:TA):TE:=fun σ H Q=>t σ H fun xs H1=>xs.length<=sizeLine/\∀p,H1 p=none->Q (.ref p) (upd H1 p (.tup xs))
noncomputable def Kt(t:TA):TE:=fun σ H Q=>t σ H fun xs H1=>xs.length<=sizeLine/\∀p,H1 p=none->Q (.ref p) (upd H1 p (.lst xs))
theorem aQ{x1}(h:PA X es t):PE X (.Tuple es x1 pos) (MQ t):=.mk <| by
 intro pins s σ H Q I hq;refine wpAny_Tuple_spliced (thn (h pos pins s σ H _ I hq) fun us s1 ⟨xs,H1,I1,r,z,q⟩=>⟨by rw[←r.length];exact z,?_⟩)
 have hf:H1 s1.heap.objs.size=none:=I1.hok.fresh (Nat.le_refl _);refine⟨.ref s1.heap.objs.size,upd H1 s1.heap.objs.size (.tup xs),I1.laid (t':=s1.toks) (fun b u e=>Heap.get?_push_of_some _ e) (Nat.le_refl _) ?_,rfl,q _ hf⟩;exact⟨z,us,r,⟨_,Heap.get?_push_size _ rfl,rfl,_,rfl⟩,_,Heap.get?_push_size _ rfl,rfl⟩
theorem cW(h:PA X es t):PE X (.List es pos) (Kt t):=.mk <| by
 intro pins s σ H Q I hq;refine wpAny_List_spliced (thn (h pos pins s σ H _ I hq) fun us s1 ⟨xs,H1,I1,r,z,q⟩=>⟨by rw[←r.length];exact z,?_⟩)
 have hf:H1 s1.heap.objs.size=none:=I1.hok.fresh (Nat.le_refl _);refine⟨.ref s1.heap.objs.size,upd H1 s1.heap.objs.size (.lst xs),I1.laid (t':=s1.toks) (fun b u e=>Heap.get?_push_of_some _ e) (Nat.le_refl _) ?_,rfl,q _ hf⟩;exact⟨z,us,0,r,Heap.get?_push_size _ rfl⟩
end
noncomputable abbrev Sp:=List V->Hp->VK->XK->Prop
noncomputable abbrev CXT:=List Env->Hp->Shared->XK->Value->Shared->Prop
structure AJ(P:Program)(w:World)(K:W.Frag)(mg:Str->Option Value)(base:Heap)(A:Around)(outer:List Env)(s:Shared)(H:Hp):Prop where
 frames:A.frames=some outer
 mod:Mod K mg base
 bs:∀b o,base.get? b=some o->s.heap.get? b=some o/\H b=none
 bsz:base.objs.size<=s.heap.objs.size
 funs:s.heap.FunFrames base outer
 frf:∀b∈frs outer,H b=none
 tt:DD K H
 hok:HOk P w H s.heap
 bare:AllBare s.gens
noncomputable def CE(outer:List Env)(P:Program)(w:World)(H:Hp)(s:Shared)(Q:VK)(u:Value)(s':Shared):Prop:=
 ∃v H',s'.os=s.os/\AllBare s'.gens/\Un (frs outer) [] H H' s.heap s'.heap/\HOk P w H' s'.heap/\bp v u/\Q v H'
noncomputable def CR(CX:CXT)(outer:List Env)(P:Program)(w:World)(H:Hp)(s:Shared)(Q:VK)(E:XK)(r:Result)(s':Shared):Prop:=
 match r with
 |.ok (.ret u)=>CE outer P w H s Q u s'
 |.ok _=>False
 |.error e=>CX outer H s E e s'
structure aA(P:Program)(w:World)(K:W.Frag)(mg:Str->Option Value)(base:Heap)(CX:CXT)(k:Nat)(f:Addr)(fd:FuncData)(ps:List Str)(sp:Sp):Prop where
 len:∀vs H Q E,sp vs H Q E->vs.length=ps.length
 run:∀(A:Around)(outer:List Env)(s:Shared)(H:Hp)(args:Args)(us:List Value)(vs:List V)(Q:VK)(E:XK),ft k A->AJ P w K mg base A outer s H->BindsTo s fd args (ps.zip us)->aT vs us->sp vs H Q E ->
  codeAny (model P w) A (.call (.ref f) args) (CR CX outer P w H s Q E) s
section
variable{X:Cx}{pins:List (Addr×Obj)}{σ:St}{H:Hp}{s s':Shared}
theorem Inv.env0(I:Inv X pins σ H s):AJ X.prog X.w X.K X.mg X.base X.A X.stack s H:=
 ⟨I.ok.frames,I.ok.mod,I.bs,Nat.le_trans I.ok.bsz I.sz,I.stack,I.NI,I.ok.tt.mono I.base.tbls,I.hok,I.bare⟩
theorem Inv.after{Q:VK}{u:Value}(I:Inv X pins σ H s)(h:CE X.stack X.prog X.w H s Q u s'):EP X pins σ Q u s':=by
 obtain⟨v,H',os,bare,un,hok,r,q⟩:=h;obtain⟨hh,g,d,t,os'⟩:=s';obtain rfl:os'=s.os:=os;exact⟨v,H',I.call (h':=hh) (g':=g) (d':=d) (t':=t) (ch:=[]) un hok bare (fun b z=>absurd z (by simp)),r,q⟩
end
noncomputable def IE(sp:Sp)(dvs:List V)(E:XK)(t:TA):TE:=fun σ H Q=>t σ H fun vs H1=>sp (vs++dvs) H1 Q E
noncomputable def aS(K:W.Frag)(fd:FuncData)(ps:List Str)(ds:List Value):Prop:=
 ∀(s:Shared)(us:List Value),K.In s.heap->(us++ds).length=ps.length->BindsTo s fd ⟨us,[]⟩ (ps.zip (us++ds))
theorem aS.all{K:W.Frag}{fd:FuncData}{ps:List Str}(h:∀us:List Value,us.length=ps.length->bindArgs fd ⟨us,[]⟩=pure (ps.zip us)):aS K fd ps []:=fun s us _ hl=>by
 rw[List.append_nil] at hl ⊢;exact .of_eq (h us hl)
noncomputable def zx(CX:CXT)(X:Cx)(E:XK):Prop:=∀(pins:List (Addr×Obj)) (σ:St) (H:Hp) (s:Shared) (e:Value) (s':Shared),Inv X pins σ H s->CX X.stack H s E e s'->X.xe e s'
section
variable{X:Cx}{CX:CXT}{k:Nat}{f C:Addr}{fd:FuncData}{ps:List Str}{sp:Sp}{dvs:List V}{ds:List Value}{E:XK}{x m:Str}{p pos apos:Pos}{e o:Expr}{es:List Expr}{ta:TE}{t:TA}
theorem KH{pins:List (Addr×Obj)}{σ:St}{H:Hp}{s:Shared}{Q:VK}{us:List Value}{vs:List V}(F:aA X.prog X.w X.K X.mg X.base CX k f fd ps sp)(hr:ft k X.A)(hb:aS X.K fd ps ds)(hd:aT dvs ds)(hx:zx CX X E)(I:Inv X pins σ H s)(r:aT vs us)(h:sp (vs++dvs) H Q E):wpAny (model X.prog X.w) X.A (call (.ref f) us) (EP X pins σ Q) X.xe s:=by
 have r2:aT (vs++dvs) (us++ds):=r.append hd;have hl:(us++ds).length=ps.length:=by rw[←r2.length];exact F.len _ _ _ _ h
 refine wpAny_call (codeAny_mono (F.run X.A X.stack s H ⟨us,[]⟩ (us++ds) (vs++dvs) Q E hr I.env0 (hb s us I.kIn hl) r2 h) fun r s' hq=>?_)
 cases r with
 |error e=>exact hx pins σ H s e s' I hq
 |ok fl=>
  cases fl with
  |ret u=>exact I.after hq
  |next=>exact False.elim hq
  |brk=>exact False.elim hq
  |cont=>exact False.elim hq
theorem aj(F:aA X.prog X.w X.K X.mg X.base CX k f fd ps sp)(hr:ft k X.A)(hg:Gl X x)(hm:X.mg x=some (.ref f))(hk:W.keepIn X.K (.ref f)=true)(hb:aS X.K fd ps ds)(hd:aT dvs ds)(hx:zx CX X E)(ha:PA X (e::es) t)(hdb:(x == ("__debug__":Str))=false:=by decide)(he:starEach (e::es) X.env=(false,eval e X.env)::starEach es X.env:=by rfl)(hpl:(backTo pos (starEach es X.env)).any (·.1)=false:=by rfl):
  PE X (.Call (.Name x p) (e::es) [] pos) (IE sp dvs E t):=.mk <| by
 intro pins s σ H Q I h;refine wpAny_Call_Name_kw (xn I hg hm ?_ hdb);refine W.callWith_K (h₀:=X.base) I.ok.mod.kin hk (thn (ha pos pins s σ H _ I h) fun us s1 ⟨vs,H1,I1,r,q⟩=>⟨I1.kIn,?_⟩) he hpl;exact KH F hr hb hd hx I1 r q
structure Mk(K:W.Frag)(C f:Addr):Prop where
 makes:W.makesIn K C=true
 init:W.findIn K (.ref C) "__init__"=some (some (.ref f))
 fn:W.isFn K (.ref f)=true
 kp:W.keepIn K (.ref C)=true
end
section
variable{X:Cx}{CX:CXT}{k:Nat}{f C:Addr}{fd:FuncData}{ps ks:List Str}{sp:Sp}{E:XK}{x m:Str}{p pos apos kpos:Pos}{e o:Expr}{es:List Expr}{kws:List Keyword}{te ta:TE}{t tk:TA}{nm:Option Str}
structure M9(K:W.Frag)(fd:FuncData)(ps ks:List Str)(g:List Value->List Value->List Value)(gV:List V->List V->List V):Prop where
 to:∀(s:Shared)(us ws:List Value),K.In s.heap->(g us ws).length=ps.length->BindsTo s fd ⟨us,ks.zip ws⟩ (ps.zip (g us ws))
 rel:∀ {vs:List V} {us:List Value} {zs:List V} {ws:List Value},aT vs us->aT zs ws->aT (gV vs zs) (g us ws)
variable{g:List Value->List Value->List Value}{gV:List V->List V->List V}
end
structure az(N P:List Str)(sc:Scope):Prop where
 kind:sc.kind=.function
 co:sc.isCoroutine=false
 gen:sc.isGenerator=false
 nd:N.Nodup
 pre:N.take P.length=P
 par:∀x∈P,sc.names.lookup x=some .local\/sc.names.lookup x=some .cell
 nofree:∀y∈sc.names,y.2≠.free
theorem uL{kindOf:Str->Option NameKind}{x:Str}:∀ {binds:List (Str×Value)} {m:Str->Option Value},(∀v,(x,v) ∉ binds)->bindL kindOf binds m x=m x
 | [],_,_=>rfl
 |(n,v)::r,m,h=>by
  unfold bindL;rw[uL fun w hw=>h w (List.mem_cons_of_mem _ hw)];split
  ·have:x≠n:=by rintro rfl;exact h v List.mem_cons_self
   simp[this]
  ·rfl
theorem u4{kindOf:Str->Option NameKind}{x:Str}:∀ {binds:List (Str×Value)} {m:Str->Option Value},(∀v,(x,v) ∉ binds)->bindC kindOf binds m x=m x
 | [],_,_=>rfl
 |(n,v)::r,m,h=>by
  unfold bindC;rw[u4 fun w hw=>h w (List.mem_cons_of_mem _ hw)];split
  ·rfl
  ·have:x≠n:=by rintro rfl;exact h v List.mem_cons_self
   simp[this]
theorem uS{kindOf:Str->Option NameKind}{x:Str}{v:Value}:∀ {P:List Str} {vs:List Value} {i:Nat} {m:Str->Option Value},P.Nodup->P[i]?=some x->vs[i]?=some v->kindOf x=some .local ->
  bindL kindOf (P.zip vs) m x=some v
 | [],_,_,_,_,h,_,_=>by simp at h
 |_::_,[],_,_,_,_,h,_=>by simp at h
 |p::P,w::vs,0,m,nd,h1,h2,hk=>by
  simp at h1 h2;subst h1;subst h2;show bindL kindOf ((p,w)::P.zip vs) m p=_;unfold bindL;rw[uL fun v hv=>(List.nodup_cons.mp nd).1 (List.of_mem_zip hv).1,if_pos hk];simp
 |p::P,w::vs,i+1,m,nd,h1,h2,hk=>by
  show bindL kindOf ((p,w)::P.zip vs) m x=_;unfold bindL;exact uS (i:=i) (List.nodup_cons.mp nd).2 (by simpa using h1) (by simpa using h2) hk
theorem uT{kindOf:Str->Option NameKind}{x:Str}{v:Value}:∀ {P:List Str} {vs:List Value} {i:Nat} {m:Str->Option Value},P.Nodup->P[i]?=some x->vs[i]?=some v->kindOf x≠some .local ->
  bindC kindOf (P.zip vs) m x=some v
 | [],_,_,_,_,h,_,_=>by simp at h
 |_::_,[],_,_,_,_,h,_=>by simp at h
 |p::P,w::vs,0,m,nd,h1,h2,hk=>by
  simp at h1 h2;subst h1;subst h2;show bindC kindOf ((p,w)::P.zip vs) m p=_;unfold bindC;rw[u4 fun v hv=>(List.nodup_cons.mp nd).1 (List.of_mem_zip hv).1,if_neg hk];simp
 |p::P,w::vs,i+1,m,nd,h1,h2,hk=>by
  show bindC kindOf ((p,w)::P.zip vs) m x=_;unfold bindC;exact uT (i:=i) (List.nodup_cons.mp nd).2 (by simpa using h1) (by simpa using h2) hk
noncomputable def start(N:List Str)(vs:List V):St:=vs.map some++List.replicate (N.length-vs.length) none
noncomputable def uk(CX:CXT)(P:Program)(w:World)(K:W.Frag)(mg:Str->Option Value)(base:Heap)(N:List Str)(qual:Str)(scope:Scope)(f:Addr)(cd:Value)(A:Around)(outer:List Env)(s:Shared)(H:Hp)(E:XK):Cx where
 prog:=P
 w:=w
 K:=K
 mg:=mg
 base:=base
 A:=A.deeper (envOfC qual scope s.heap.objs.size f cd)
 N:=N
 s₀:=s
 H₀:=H
 env:=envOfC qual scope s.heap.objs.size f cd
 outer:=outer
 stack:=envOfC qual scope s.heap.objs.size f cd::outer
 ex:=[]
 calm:=true
 fn:=fun _=>true
 pn:=[]
 xe:=fun e s'=>wpAny (model P w) (A.deeper (envOfC qual scope s.heap.objs.size f cd)) (leaving (envOfC qual scope s.heap.objs.size f cd) e) (fun _ s''=>CX outer H s E e s'') (fun e' s''=>CX outer H s E e' s'') s'
theorem yW{sc:Scope}{n:Nat}{x:Str}(h:sc.names.lookup x=some .cell):∃c,(cellsFrom n sc.names []).lookup x=some c:=by
 have q:=W.cellsFrom_some sc.names n [] (.inl h);exact Option.isSome_iff_exists.mp q
theorem C7{CX:CXT}{P:Program}{w:World}{K:W.Frag}{mg:Str->Option Value}{base:Heap}{N ps:List Str}{qual:Str}{scope:Scope}{f:Addr}{cd:Value}{A:Around}{outer:List Env}{s s1:Shared}{H:Hp}{E:XK}{us:List Value}{vs:List V}(S:az N ps scope)(hd:A.handled=none)(e0:AJ P w K mg base A outer s H)(hl:vs.length=ps.length)(r:aT vs us)(x:InCallC s s.heap.objs.size (bindL (envOfC qual scope s.heap.objs.size f cd).kindOf (ps.zip us) fun _=>none) (cellsFrom (s.heap.objs.size+1) scope.names []) (bindC (envOfC qual scope s.heap.objs.size f cd).kindOf (ps.zip us) fun _=>none) s1):
  Inv (uk CX P w K mg base N qual scope f cd A outer s H E) [] (start N vs) H s1:=by
 have hpl:ps.length<=N.length:=by have:=congrArg List.length S.pre;rw[List.length_take] at this;omega
 obtain⟨h1,tk,rfl,hk⟩:=x.done;have noA:∀b:Addr,b ∉ (uk CX P w K mg base N qual scope f cd A outer s H E).ex:=fun b z=>absurd (show b∈([]:List Addr) from z) (by simp)
 refine⟨⟨e0.mod,S.kind,rfl,rfl,Nat.le_refl _,fun y z c h1 h2=>?_,fun y hy=>?_,fun y c _ h=>?_,fun _=>hd,Around.frames_deeper e0.frames,.inr ⟨rfl,rfl⟩,fun b z=>absurd z (noA b),e0.bs,e0.bsz,fun b _ _=>noA b,fun b z=>absurd z (noA b),e0.funs,e0.frf,e0.tt⟩,
  rfl,e0.bare,Un.kept hk,⟨_,x.toInCall.ns,fun i y v h1 h2 h3=>?_⟩,fun y c h=>⟨_,x.cell y c h⟩,e0.hok.fresh (Nat.le_refl _),fun y c h=>?_,fun p hp=>absurd (show p∈([]:List (Addr×Obj)) from hp) (by simp),e0.hok.kept hk,?_⟩
 ·exact name_of_addr x.apart (PySem.mem_of_lookup h1) (PySem.mem_of_lookup h2)
 ·have hy:scope.names.lookup y=some .cell\/scope.names.lookup y=some .free:=hy
  rcases hy with hy|hy
  ·exact yW hy
  ·exact absurd rfl (S.nofree _ (PySem.mem_of_lookup hy))
 ·exact Nat.le_of_lt (x.above y c (PySem.mem_of_lookup h))
 ·have hi:i<vs.length:=by
   unfold start at h2;by_cases hi:i<vs.length
   ·exact hi
   ·rw[List.getElem?_append_right (by simpa using hi)] at h2
    rw[List.getElem?_replicate] at h2;split at h2<;>cases h2
  have ha:vs[i]?=some v:=by
   unfold start at h2;rw[List.getElem?_append_left (by simpa using hi),List.getElem?_map] at h2
   cases e:vs[i]? with
   |none=>rw[e] at h2;cases h2
   |some a=>rw[e] at h2;cases h2;rfl
  obtain⟨u,hu,rv⟩:=r.get ha
  have hp:ps[i]?=some y:=by
   rw[←S.pre,List.getElem?_take_of_lt (by omega)];exact h1
  have ndP:ps.Nodup:=by rw[←S.pre];exact S.nd.sublist (List.take_sublist _ _)
  refine⟨u,rv,?_⟩;rcases S.par y (List.mem_of_getElem? hp) with k|k
  ·exact .inl ⟨k,uS ndP hp hu k⟩
  ·obtain⟨c,e⟩:=yW (n:=s.heap.objs.size+1) k
   refine .inr ⟨.inl k,c,e,?_⟩;have q:=x.cell y c e;rw[uT ndP hp hu (by show scope.names.lookup y≠_;rw[k];decide)] at q
   exact q
 ·exact e0.hok.fresh (Nat.le_of_lt (x.above y c (PySem.mem_of_lookup h)))
 ·unfold start
  show _=N.length;rw[List.length_append,List.length_map,List.length_replicate];omega
theorem IN{CX:CXT}{P:Program}{w:World}{K:W.Frag}{mg:Str->Option Value}{base:Heap}{k:Nat}{f:Addr}{name qual:Str}{params:Arguments}{body:List Stmt}{scope:Scope}{dV kV doc pm cdv ct oc:Value}{an od:Option Addr}{osl:Array (Option Value)}{N ps:List Str}{sp:Sp}(lk:K.lookup f=some ⟨oc,od,.func (W.fnOf name qual params body scope dV kV doc pm an cdv ct),osl⟩)(hcd:W.codeIn K cdv qual=true)(S:az N ps scope)(len:∀vs H Q E,sp vs H Q E->vs.length=ps.length)
  (hbody:∀(A:Around)(outer:List Env)(s:Shared)(H:Hp)(vs:List V)(Q:VK)(E:XK),ft k (A.deeper (envOfC qual scope s.heap.objs.size f cdv))->sp vs H Q E ->
   ∃t,PSs (uk CX P w K mg base N qual scope f cdv A outer s H E) body t/\t { nx:=fun _ H'=>Q .non H',rt:=Q } (start N vs) H) :
  aA P w K mg base CX (k+1) f (W.fnOf name qual params body scope dV kV doc pm an cdv ct) ps sp:=by
 refine⟨len,fun A outer s H args us vs Q E hr e0 hb r hsp=>?_⟩;have hl:=len _ _ _ _ hsp;have KX:K.In s.heap:=e0.mod.kin.keeps fun b o e=>(e0.bs b o e).1;have lim:s.heap.NoLimit:=e0.mod.nolimit.keeps fun b o e=>(e0.bs b o e).1
 have hkind:∀y∈ps.zip us,scope.names.lookup y.1=some .local\/(scope.names.lookup y.1=some .cell/\((cellsFrom (s.heap.objs.size+1) scope.names []).lookup y.1).isSome=true):=fun⟨n,v⟩ hy=>by
  rcases S.par n (List.of_mem_zip hy).1 with q|q
  ·exact .inl q
  ·exact .inr ⟨q,W.cellsFrom_some _ _ _ (.inl q)⟩
 refine codeAny_call_function hr.depth (KX _ _ lk) rfl S.co S.gen rfl (W.codeRec_of KX hcd) (hb _ _ _ _ ?_);refine wpAny_newFunctionEnv_cells S.kind hkind fun env he s1 x=>?_;subst he;refine⟨lim.keeps x.toInCall.keep,codeAny_func ?_⟩;obtain⟨t,ht,hq⟩:=hbody A outer s H vs Q E (hr.deeper _) hsp;have I:Inv (uk CX P w K mg base N qual scope f cdv A outer s H E) [] (start N vs) H s1:=C7 S hr.hd e0 hl r x
 refine wpAny_mono (ht [] s1 (start N vs) H _ I hq) (fun fl s' hs=>?_) fun e s' hs=>hs
 have fin:∀ {σ':St} {H':Hp} {v:V} {u:Value},Inv (uk CX P w K mg base N qual scope f cdv A outer s H E) [] σ' H' s'->bp v u->Q v H'->CE outer P w H s Q u s':=
  fun {σ' H' v u} J rv q=>⟨v,H',J.os,J.bare,J.base,J.hok,rv,q⟩
 cases fl with
 |ret u=>
  obtain⟨v,σ',H',J,rv,q⟩:=hs;exact fin J rv q
 |next=>
  obtain⟨σ',H',J,q⟩:=hs;exact fin (v:=V.non) (u:=Value.none) J rfl q
 |brk=>
  obtain⟨_,_,_,q⟩:=hs;exact False.elim q
 |cont=>
  obtain⟨_,_,_,q⟩:=hs;exact False.elim q
section
variable{X:Cx}{x:Str}{p pos:Pos}{e:Expr}{es:List Expr}{t:TA}{id T:String}{r:List V->Hp->VK->Prop}
noncomputable def tCB(r:List V->Hp->VK->Prop)(t:TA):TE:=fun σ H Q=>t σ H fun vs H1=>r vs H1 Q
theorem bD(hc:g9 X (.builtin id) r)(hg:Gl X x)(hm:X.mg x=none)(hv:bootBuiltins x=some (.builtin id))(ha:PA X (e::es) t)(hn:x≠"__name__":=by decide)(hdb:(x == ("__debug__":Str))=false:=by decide)(he:starEach (e::es) X.env=(false,eval e X.env)::starEach es X.env:=by rfl)(hpl:(backTo pos (starEach es X.env)).any (·.1)=false:=by rfl):PE X (.Call (.Name x p) (e::es) [] pos) (tCB r t):=.mk <| by
 intro pins s σ H Q I h;refine wpAny_Call_Name_kw (n8 I hg hm hv ?_ hn hdb);exact PyProof.Rows.callWith_builtin1 (thn (ha pos pins s σ H _ I h) fun us s1 ⟨vs,H1,I1,r1,q1⟩=>hc pins s1 σ H1 vs us Q I1 r1 q1) he hpl
theorem bn(hc:g9 X (.type T) r)(hg:Gl X x)(hm:X.mg x=none)(hv:bootBuiltins x=some (.type T))(ha:PA X (e::es) t)(hn:x≠"__name__":=by decide)(hdb:(x == ("__debug__":Str))=false:=by decide)(he:starEach (e::es) X.env=(false,eval e X.env)::starEach es X.env:=by rfl)(hpl:(backTo pos (starEach es X.env)).any (·.1)=false:=by rfl):PE X (.Call (.Name x p) (e::es) [] pos) (tCB r t):=.mk <| by
 intro pins s σ H Q I h;refine wpAny_Call_Name_kw (n8 I hg hm hv ?_ hn hdb);exact PyProof.Rows.callWith_type1 (thn (ha pos pins s σ H _ I h) fun us s1 ⟨vs,H1,I1,r1,q1⟩=>hc pins s1 σ H1 vs us Q I1 r1 q1) he hpl
end
end L2
namespace HT
open PySem PyProof.Rows
section
open PySem.SeqAt
open PySem.AutoSeq1 (wpAny_loadPart')
open PySem.MeetsSeq PySem.MeetsSeq2 PySem.MeetsSeq3
end
section
variable{prog:Program}{w:World}{A:Around}{E:Value->Shared->Prop}{s:Shared}
theorem cat_tup{t b:Addr}{vs ws:List Value}{Q:Value->Shared->Prop}(ht:IsTup s.heap t vs.toArray)(hb:IsTup s.heap b ws.toArray)(hv:vs≠[])(h1:ws=[]->Q (.ref t) s)(h2:ws≠[]->Q (.ref s.heap.objs.size) { s with heap:=s.heap.push { cls:=.type "tuple",data:=.seq (vs++ws).toArray } })(hsz:vs.length+ws.length<=sizeLine):wpAny (model prog w) A (binaryOp .Add (.ref t) (.ref b)) Q E s:=by
 obtain⟨⟨cls,dd,data,sl⟩,ho,hc,n,hd⟩:=id ht;obtain⟨⟨cls2,dd2,data2,sl2⟩,ho2,hc2,n2,hd2⟩:=id hb;simp only at hc hd hc2 hd2;subst hc hd hc2 hd2;have e:vs.toArray++ws.toArray=(vs++ws).toArray:=by simp
 by_cases hw:ws=[]
 ·exact concat_meets ⟨_,ho,rfl⟩ ⟨_,ho2,rfl⟩ noFill_tuple_add seq_tuple_add PySem.F.slot_tuple_add PySem.F.entry_tuple_add (PySem.F.args_tuple_add_2 _ _)
   (tuple_addW1 t b vs.toArray ws.toArray n n2 dd dd2 sl sl2 (by simpa using hv) (by simp[hw])) ⟨ho,ho2,h1 hw⟩
 ·refine concat_meets ⟨_,ho,rfl⟩ ⟨_,ho2,rfl⟩ noFill_tuple_add seq_tuple_add PySem.F.slot_tuple_add PySem.F.entry_tuple_add (PySem.F.args_tuple_add_2 _ _)
   (tuple_addW2 t b vs.toArray ws.toArray n n2 dd dd2 sl sl2 (by simpa using hv) (by simpa using hw) (by rw[List.size_toArray,List.size_toArray];exact hsz)) ⟨ho,ho2,?_⟩
  rw[e];exact h2 hw
noncomputable def sIx(n d:Nat):Option Int->Nat
 |none=>d
 |some v=>if v<0 then (v+(n:Int)).toNat else min v.toNat n
theorem KF(n d:Nat)(hd:d<=n)(o:Option Int):sIx n d o<=n:=by
 cases o with
 |none=>exact hd
 |some v=>
  show (if v<0 then (v+(n:Int)).toNat else min v.toNat n)<=n
  by_cases hv:v<0
  ·rw[if_pos hv];omega
  ·rw[if_neg hv];exact Nat.min_le_right _ _
theorem Bv(v:Int)(n d:Nat):(if v<0 then max (v+(n:Int)) 0 else min v (n:Int))=((sIx n d (some v):Nat):Int):=by
 show (if v<0 then max (v+(n:Int)) 0 else min v (n:Int))=(((if v<0 then (v+(n:Int)).toNat else min v.toNat n):Nat):Int)
 by_cases hv:v<0
 ·simp only[if_pos hv];omega
 ·simp only[if_neg hv];omega
theorem Ak(lo hi:Option Int)(n:Nat):Builtin.Slice.sliceAdjust lo hi 1 (n:Int)=(((sIx n 0 lo:Nat):Int),((sIx n n hi:Nat):Int)):=by
 have h1:¬ ((1:Int)<0):=by omega
 unfold Builtin.Slice.sliceAdjust;simp only[h1,if_false];refine Prod.ext ?_ ?_
 ·cases lo with
  |none=>rfl
  |some v=>exact Bv v n 0
 ·cases hi with
  |none=>rfl
  |some v=>exact Bv v n n
theorem zP(i j:Nat):Builtin.Slice.slicePlaces (i:Int) (j:Int) 1=j-i:=by
 unfold Builtin.Slice.slicePlaces;have h1:(1:Int)>0:=by omega
 simp only[h1,if_true,Int.ediv_one];split<;>omega
theorem sN{v:Value}{o:Option Int}{Q:Option Int->Shared->Prop}(p:IsPart v o)(h:Q o s):wpAny (model prog w) A (Builtin.Slice.slicePartIndex v) Q E s:=by
 cases p with
 |none=>exact slicePart_none h
 |int i t=>exact slicePart_int h
theorem sliceApplied_gen{sl:Addr}{vl vu:Value}{lo hi:Option Int}{n:Nat}{Q:Int×Int×Nat->Shared->Prop}(hs:s.heap.IsSliceOf sl vl vu .none)(pl:IsPart vl lo)(pu:IsPart vu hi)(h:Q (((sIx n 0 lo:Nat):Int),1,sIx n n hi-sIx n 0 lo) s):wpAny (model prog w) A (Builtin.Slice.sliceApplied (.ref sl) (pure (n:Int))) Q E s:=by
 obtain⟨os,hos,hcs,hds⟩:=id hs;unfold Builtin.Slice.sliceApplied Builtin.Slice.sliceFields;refine wpAny_bind (wpAny_bind (wpAny_field hos hds (x:=vl) rfl (wpAny_bind (wpAny_field hos hds (x:=vu) rfl (wpAny_bind (wpAny_field hos hds (x:=.none) rfl (wpAny_pure ?_)))))));refine wpAny_bind (slicePart_none ?_);show wpAny _ _ (if ((1:Int) == 0)=true then _ else _) _ _ s
 rw[if_neg (by decide)]
 refine wpAny_bind (sN pl (wpAny_bind (sN pu (wpAny_bind (wpAny_pure ?_)))));show wpAny _ _ (match Builtin.Slice.sliceAdjust lo hi 1 (n:Int) with|(lo,hi)=>pure (lo,(1:Int),Builtin.Slice.slicePlaces lo hi 1)) _ _ s
 rw[Ak lo hi n];show wpAny _ _ (pure (((sIx n 0 lo:Nat):Int),(1:Int),Builtin.Slice.slicePlaces ((sIx n 0 lo:Nat):Int) ((sIx n n hi:Nat):Int) 1)) _ _ s;rw[zP];exact wpAny_pure h
theorem GA(xs:Array Value)(i k:Nat):((List.range k).filterMap fun(m:Nat)=>xs[((i:Int)+(m:Int)*1).toNat]?).toArray=((xs.toList.drop i).take k).toArray:=by
 have e:(fun(m:Nat)=>xs[((i:Int)+(m:Int)*1).toNat]?)=fun m=>xs[i+m]?:=by
  funext m
  have:((i:Int)+(m:Int)*1).toNat=i+m:=by omega
  rw[this]
 rw[e];have:=pick_run xs i k;rw[List.filterMap_map] at this;have e2:((fun x=>xs[x]?) ∘ fun x=>i+x)=fun m=>xs[i+m]?:=rfl;rw[e2] at this;rw[this]
theorem getItem_tuple_cut{t sl:Addr}{items:Array Value}{vl vu:Value}{lo hi:Option Int}{Q:Value->Shared->Prop}(ht:IsTup s.heap t items)(hs:s.heap.IsSliceOf sl vl vu .none)(pl:IsPart vl lo)(pu:IsPart vu hi)(hw:¬ (sIx items.size 0 lo=0/\sIx items.size items.size hi=items.size))(h:Q (.ref s.heap.objs.size) { s with heap:=s.heap.push { cls:=.type "tuple",data:=.seq ((items.toList.drop (sIx items.size 0 lo)).take (sIx items.size items.size hi-sIx items.size 0 lo)).toArray } })(hsz:items.size<=sizeLine):wpAny (model prog w) A (getItem (.ref t) (.ref sl)) Q E s:=by
 have htake:sizeOk (.seq ((items.toList.drop (sIx items.size 0 lo)).take (sIx items.size items.size hi-sIx items.size 0 lo)).toArray):=by
  show ((items.toList.drop (sIx items.size 0 lo)).take (sIx items.size items.size hi-sIx items.size 0 lo)).toArray.size<=sizeLine;rw[List.size_toArray,List.length_take,List.length_drop,Array.length_toList];omega
 have hj:sIx items.size items.size hi<=items.size:=KF _ _ (Nat.le_refl _) hi;obtain⟨os,hos,hcs,hds⟩:=id hs;have hTs:s.TypeIs (.ref sl) "slice":=⟨os,hos,hcs⟩;unfold getItem
 try with_reducible refine wpAny_holding ?_
 first|refine wpAny_bind (wpAny_pure ?_)|skip
 refine wpAny_bind (wpAny_sequenceKey ht.typeIs (by decide) ?_)
 refine wpAny_bind (wpAny_callSpecial?_slot (name:=Str.ofString "__getitem__") ht.typeIs PyProof.Rows.slot_tuple_getitem
  (wpAny_call_entry PyProof.Rows.slot_tuple_getitem ht.typeIs entry_tuple_getitem ?_ (args_tuple_getitem _ _)))
 show wpAny _ _ (Builtin.Tuple.tupleItemsOf (.ref t) >>= _) _ _ s;refine wpAny_bind (tupleItemsOf_ ht ?_);refine wpAny_bind (wpAny_typeOf hTs ?_);rw[if_pos (by decide)]
 refine wpAny_bind (sliceApplied_gen hs pl pu ?_)
 have hno:¬ ((((sIx items.size 0 lo:Nat):Int) == 0 && (1:Int) == 1 && (sIx items.size items.size hi-sIx items.size 0 lo) == items.size)=true):=by
  intro q;rw[Bool.and_eq_true,Bool.and_eq_true] at q;have q1:((sIx items.size 0 lo:Nat):Int)=0:=eq_of_beq q.1.1;have q2:sIx items.size items.size hi-sIx items.size 0 lo=items.size:=eq_of_beq q.2;exact hw ⟨by omega,by omega⟩
 show wpAny _ _ (if (((sIx items.size 0 lo:Nat):Int) == 0 && (1:Int) == 1 && (sIx items.size items.size hi-sIx items.size 0 lo) == items.size)=true then _ else _) _ _ s
 rw[if_neg hno,GA]
 first
  |exact wpAny_bind (m:=Builtin.Tuple.tupleExact _) (wpAny_newObj_type (wpAny_pure ⟨_,rfl,wpAny_pure h⟩) htake)
  |exact wpAny_bind (m:=Builtin.Tuple.tupleExact _) (wpAny_newObj_type (wpAny_bind (wpAny_pure (wpAny_pure ⟨_,rfl,wpAny_pure h⟩))) htake)
  |exact wpAny_bind (wpAny_bind (m:=Builtin.Tuple.tupleExact _) (wpAny_newObj_type (wpAny_pure (wpAny_pure ⟨_,rfl,wpAny_pure h⟩)) htake))
  |exact wpAny_bind (wpAny_bind (m:=Builtin.Tuple.tupleExact _) (wpAny_newObj_type (wpAny_pure ⟨_,rfl,wpAny_pure h⟩) htake))
end
end HT
namespace L2
open PySem PySem.Spec PyProof.Rows
noncomputable abbrev TO:=St->Hp->(Option Int->Hp->Prop)->Prop
noncomputable def PO(X:Cx)(e:Option Expr)(t:TO):Prop:=
 ∀(pins:List (Addr×Obj)) (s:Shared) (σ:St) (H:Hp) (Q:Option Int->Hp->Prop),Inv X pins σ H s->t σ H Q ->
  wpAny (model X.prog X.w) X.A (evalPart e X.env) (fun u s'=>∃o H',Inv X pins σ H' s'/\IsPart u o/\Q o H') X.xe s
noncomputable def BX:TO:=fun _ H Q=>Q none H
noncomputable def Jh(t:TE):TO:=fun σ H Q=>t σ H fun x H1=>∃i,x=.int i/\Q (some i) H1
section
variable{X:Cx}{e:Expr}{te:TE}{lo hi:Option Expr}{tl th:TO}{pos p2:Pos}
theorem Ie:PO X none BX:=by
 intro pins s σ H Q I h;rw[evalPart_none];exact wpAny_pure ⟨none,H,I,.none,h⟩
theorem HL(h:PE X e te):PO X (some e) (Jh te):=by
 intro pins s σ H Q I hw;rw[evalPart_some];refine thn (h pins s σ H _ I hw) fun u s1 ⟨x,H1,I1,r1,q1⟩=>?_;obtain⟨i,rfl,q⟩:=q1;obtain⟨t,rfl⟩:=r1;exact⟨some i,H1,I1,.int i t,q⟩
noncomputable def SlR(X:Cx)(r:V->Option Int->Option Int->Hp->VK->Prop):Prop:=
 ∀(pins:List (Addr×Obj)) (s:Shared) (σ:St) (H:Hp) (x:V) (v vl vu:Value) (lo hi:Option Int) (sl:Addr) (Q:VK),Inv X pins σ H s->bp x v->s.heap.IsSliceOf sl vl vu .none->IsPart vl lo->IsPart vu hi->r x lo hi H Q ->
  ∃T id,typeLookup (.type T) "__getitem__"=pure (some (.builtin id))/\s.TypeIs v T/\wpAny (model X.prog X.w) X.A (getItem v (.ref sl)) (EP X pins σ Q) X.xe s
noncomputable def tSl(r:V->Option Int->Option Int->Hp->VK->Prop)(te:TE)(tl th:TO):TE:=fun σ H Q=>te σ H fun x H1=>tl σ H1 fun l H2=>th σ H2 fun u H3=>r x l u H3 Q
theorem Et{r:V->Option Int->Option Int->Hp->VK->Prop}(hr:SlR X r)(he:PE X e te)(hl:PO X lo tl)(hu:PO X hi th):PE X (.Subscript e (.Slice lo hi none p2) pos) (tSl r te tl th):=.mk <| by
 intro pins s σ H Q I h;refine Subscript_ (thn (he pins s σ H _ I h) fun v s1 ⟨x,H1,I1,r1,q1⟩=>?_);refine wpAny_Slice (thn (hl pins s1 σ H1 _ I1 q1) fun vl s2 ⟨l,H2,I2,pl,q2⟩=>thn (hu pins s2 σ H2 _ I2 q2) fun vu s3 ⟨u,H3,I3,pu,q3⟩=>?_);rw[evalPart_none];refine wpAny_pure ?_;have I4:Inv X pins σ H3 { s3 with heap:=s3.heap.push { cls:=.type "slice",data:=.fields #[vl,vu,.none] } }:=I3.kept (t':=s3.toks) fun b ob q=>Heap.get?_push_of_some _ q
 obtain⟨T,id,hT,ht,hg⟩:=hr pins { s3 with heap:=s3.heap.push { cls:=.type "slice",data:=.fields #[vl,vu,.none] } } σ H3 x v vl vu l u s3.heap.objs.size Q I4 r1 (Heap.IsSliceOf.new ..) pl pu q3;show wpAny (model X.prog X.w) X.A (subscriptTail e (.Slice lo hi none p2) v (.ref s3.heap.objs.size)) (EP X pins σ Q) X.xe { s3 with heap:=s3.heap.push { cls:=.type "slice",data:=.fields #[vl,vu,.none] } };exact tail_any (ops:=[.ref s3.heap.objs.size,v]) ht hT hg (by with_unfolding_all rfl)
noncomputable def wJ(xs:List V)(lo hi:Option Int):List V:=(xs.drop (HT.sIx xs.length 0 lo)).take (HT.sIx xs.length xs.length hi-HT.sIx xs.length 0 lo)
theorem qS(xs:List V)(lo hi:Option Int):(wJ xs lo hi).length<=xs.length:=by
 unfold wJ;rw[List.length_take,List.length_drop];omega
noncomputable def Nh(K:W.Frag):V->Option Int->Option Int->Hp->VK->Prop:=fun x lo hi H Q=>∃a xs,x=.ref a/\SqT K H a xs /\
 ¬ (HT.sIx xs.length 0 lo=0/\HT.sIx xs.length xs.length hi=xs.length)/\∀p,H p=none->Q (.ref p) (upd H p (.tup (wJ xs lo hi)))
theorem J0:SlR X (Nh X.K):=by
 intro pins s σ H x v vl vu lo hi sl Q I rx hs pl pu h;obtain⟨a,xs,rfl,hx,hw,q⟩:=h;cases rx;obtain⟨its,r,ht,hz⟩:=I.tuple hx;have hlen:its.toArray.size=xs.length:=by rw[List.size_toArray];exact r.length.symm
 refine⟨"tuple",_,PyProof.Rows.slot_tuple_getitem.lookup,ht.typeIs,?_⟩;refine HT.getItem_tuple_cut ht hs pl pu (by rw[hlen];exact hw) ?_ (by rw[hlen];exact hz)
 rw[hlen];refine⟨.ref s.heap.objs.size,_,I.laid (t':=s.toks) (o:=.tup (wJ xs lo hi)) (fun b ob q=>Heap.get?_push_of_some _ q) (Nat.le_refl _) ?_,rfl,q _ (I.hok.fresh (Nat.le_refl _))⟩;exact⟨Nat.le_trans (qS xs lo hi) hz,_,(r.drop (HT.sIx xs.length 0 lo)).take (HT.sIx xs.length xs.length hi-HT.sIx xs.length 0 lo),wD.new _ _⟩
noncomputable def MB(K:W.Frag):R2:=fun x y H Q=>∃a b xs ys,x=.ref a/\y=.ref b/\SqT K H a xs/\SqT K H b ys/\xs≠[]/\xs.length+ys.length<=sizeLine /\
 (ys=[]->Q (.ref a) H)/\(ys≠[]->∀p,H p=none->Q (.ref p) (upd H p (.tup (xs++ys))))
theorem aT.ND{xs:List V}{us:List Value}(r:aT xs us):us=[]↔xs=[]:=by
 cases r with
 |nil=>simp
 |cons _ _=>simp
theorem HM:OpR X (binaryOp .Add) (MB X.K):=by
 intro pins s σ H x y v u Q I rx ry h;obtain⟨a,b,xs,ys,rfl,rfl,ha,hb,hx,hz,q1,q2⟩:=h;cases rx;cases ry;obtain⟨its,r1,p1,_⟩:=I.tuple ha;obtain⟨its2,r2,p2,_⟩:=I.tuple hb;refine HT.cat_tup p1 p2 (fun z=>hx (r1.ND.mp z)) (fun z=>⟨.ref a,H,I,rfl,q1 (r2.ND.mp z)⟩) (fun z=>?_) (by rw[←r1.length,←r2.length];exact hz)
 refine⟨.ref s.heap.objs.size,_,I.laid (t':=s.toks) (o:=.tup (xs++ys)) (fun b ob q=>Heap.get?_push_of_some _ q) (Nat.le_refl _) ?_,rfl,q2 (fun w=>z (r2.ND.mpr w)) _ (I.hok.fresh (Nat.le_refl _))⟩;exact⟨by rw[List.length_append];exact hz,_,r1.append r2,wD.new _ _⟩
end
noncomputable def ixN(n:Nat)(i:Int):Option Nat:=if 0<=i then (if i<n then some i.toNat else none) else if -(n:Int)<=i then some (i+n).toNat else none
noncomputable def atI{α:Type}(xs:List α)(i:Int):Option α:=(ixN xs.length i).bind fun j=>xs[j]?
theorem BN{n:Nat}{i:Int}{j:Nat}(h:ixN n i=some j):seqIndex? i n=some j/\j<n/\-(n:Int)<=i/\i<n:=by
 unfold ixN at h;by_cases h0:0<=i
 ·rw[if_pos h0] at h
  by_cases h1:i<n
  ·rw[if_pos h1] at h
   have e:i.toNat=j:=Option.some.inj h;exact⟨by rw[seqIndex_of h0 h1,e],by omega,by omega,h1⟩
  ·rw[if_neg h1] at h;cases h
 ·rw[if_neg h0] at h
  by_cases h1:-(n:Int)<=i
  ·rw[if_pos h1] at h
   have e:(i+n).toNat=j:=Option.some.inj h;exact⟨by rw[seqIndex_neg (by omega) h1,e],by omega,h1,by omega⟩
  ·rw[if_neg h1] at h;cases h
theorem wH{α:Type}{xs:List α}{i:Int}{v:α}(h:atI xs i=some v):∃j,seqIndex? i xs.length=some j/\xs[j]?=some v/\j<xs.length/\-(xs.length:Int)<=i/\i<xs.length:=by
 unfold atI at h
 cases e:ixN xs.length i with
 |none=>rw[e] at h;cases h
 |some j=>
  rw[e] at h;obtain⟨h1,h2,h3,h4⟩:=BN e;exact⟨j,h1,h,h2,h3,h4⟩
noncomputable def HH(b:Expr):Prop:=∀o i,subscripted b false o i=operate [o,i] (getItem o i)
noncomputable def IxR(X:Cx)(r:R2):Prop:=
 ∀(value slice:Expr) (pins:List (Addr×Obj)) (s:Shared) (σ:St) (H:Hp) (x y:V) (v u:Value) (Q:VK),Inv X pins σ H s->bp x v->bp y u->r x y H Q ->
  subscripted slice false v u=operate [v,u] (getItem v u)->wpAny (model X.prog X.w) X.A (subscriptTail value slice v u) (EP X pins σ Q) X.xe s
noncomputable def MtR(X:Cx)(id:String)(r:V->List V->Hp->VK->Prop):Prop:=
 ∀(pins:List (Addr×Obj)) (s:Shared) (σ:St) (H:Hp) (x:V) (xs:List V) (v:Value) (us:List Value) (Q:VK),Inv X pins σ H s->bp x v->aT xs us->r x xs H Q ->
  wpAny (model X.prog X.w) X.A (call (.builtin id) (v::us)) (EP X pins σ Q) X.xe s
section
variable{X:Cx}{a b:Expr}{ta tb:TE}{pos:Pos}
theorem IxR.or{r r':R2}(h:IxR X r)(h':IxR X r'):IxR X (fun x y H Q=>r x y H Q\/r' x y H Q):=by
 intro value slice pins s σ H x y v u Q I rx ry q hs;rcases q with q|q
 ·exact h value slice pins s σ H x y v u Q I rx ry q hs
 ·exact h' value slice pins s σ H x y v u Q I rx ry q hs
theorem ar{r:R2}(hr:IxR X r)(ha:PE X a ta)(hb:PE X b tb)(hs:HH b):PE X (.Subscript a b pos) (tOp r ta tb):=.mk <| by
 intro pins s σ H Q I h;exact Subscript_ (Ke ha hb I h fun v u s2 x y H2 I2 rx ry q=>hr a b pins s2 σ H2 x y v u Q I2 rx ry q (hs _ _))
noncomputable def J9(K:W.Frag):R2:=fun x y H Q=>∃p xs i v,x=.ref p/\y=.int i/\SqL K H p xs/\atI xs i=some v/\Q v H
noncomputable def KP(K:W.Frag):R2:=fun x y H Q=>∃p xs i v,x=.ref p/\y=.int i/\SqT K H p xs/\atI xs i=some v/\Q v H
noncomputable def MG:R2:=fun x y H Q=>∃z i c,x=.str z/\y=.int i/\z.length<=sizeLine/\atI z.cps.toList i=some c/\Q (.str ⟨#[c]⟩) H
theorem GY:IxR X (J9 X.K):=by
 intro value slice pins s σ H x y v u Q I rx ry h hs;obtain⟨p,xs,i,z,rfl,rfl,hq,he,q⟩:=h;cases rx;obtain⟨t,rfl⟩:=ry;obtain⟨its,r,pl,hz⟩:=I.list hq;obtain⟨j,h1,h2,h3,h4,h5⟩:=wH he;obtain⟨w,ew,rw'⟩:=r.get h2;have hl:=r.length;have hn:=qB;have fin:EP X pins σ Q w s:=⟨z,H,I,rw',q⟩;by_cases h0:0<=i
 ·have hj:i.toNat=j:=by
   rw[seqIndex_of h0 h5] at h1;exact Option.some.inj h1
  exact item_listR pl.isList h0 (by omega) (by rw[hj];simpa using ew) fin hs
 ·have hj:(i+(its.toArray.size:Int)).toNat=j:=by
   rw[seqIndex_neg (by omega) h4] at h1
   rw[List.size_toArray,←hl]
   exact Option.some.inj h1
  exact subscriptTail_builtinR (x:=w) pl.isList.typeIs slot_list_getitem.lookup
   (wpAny_getItem_list_neg (Q:=fun r s'=>r=w/\EP X pins σ Q r s') pl.isList (by omega) (by rw[List.size_toArray]<;>omega) (by omega) (by rw[hj];simpa using ew) ⟨rfl,fin⟩) hs
theorem KC:IxR X (KP X.K):=by
 intro value slice pins s σ H x y v u Q I rx ry h hs;obtain⟨p,xs,i,z,rfl,rfl,hq,he,q⟩:=h;cases rx;obtain⟨t,rfl⟩:=ry;obtain⟨its,r,pl,hz⟩:=I.tuple hq;obtain⟨j,h1,h2,h3,h4,h5⟩:=wH he;obtain⟨w,ew,rw'⟩:=r.get h2;have hl:=r.length;have hn:=qB;have fin:EP X pins σ Q w s:=⟨z,H,I,rw',q⟩
 exact subscriptTail_builtinR (x:=w) pl.typeIs slot_tuple_getitem.lookup
  (getItem_tuple (j:=j) (Q:=fun r s'=>r=w/\EP X pins σ Q r s') pl (by omega) (by omega) (by rw[List.size_toArray,←hl];exact h1) (by simpa using ew) ⟨rfl,fin⟩) hs
theorem KL:IxR X MG:=by
 intro value slice pins s σ H x y v u Q I rx ry h hs;obtain⟨z,i,c,rfl,rfl,hz,he,q⟩:=h;obtain⟨t,rfl⟩:=rx;obtain⟨t',rfl⟩:=ry;obtain⟨j,h1,h2,h3,h4,h5⟩:=wH he;have hl:z.cps.toList.length=z.length:=by simp[Str.length]
 rw[hl] at h1 h4 h5;have hn:=qB
 exact tail_any (typeIs_str s z t) slot_str_getitem.lookup (getItem_str (c:=c) (by
  have e1:decide (i < -(2^63:Int))=false:=decide_eq_false (by omega)
  have e2:decide (i ≥ 2^63)=false:=decide_eq_false (by omega)
  rw[e1,e2,Bool.or_false]) (by rw[h1];simpa using h2) ⟨.str ⟨#[c]⟩,H,I.tok _,⟨_,rfl⟩,q⟩) hs
noncomputable def rIx(K:W.Frag):R2:=fun x y H Q=>J9 K x y H Q\/KP K x y H Q\/MG x y H Q
theorem JF:IxR X (rIx X.K):=GY.or (KC.or KL)
theorem Ah(its:List Value)(n j:Nat)(u:Value):Obj.mapSeq (·.setIfInBounds j u) { cls:=.type "list",data:=.seq its.toArray n }={ cls:=.type "list",data:=.seq (its.set j u).toArray n }:=by
 simp[Obj.mapSeq]
theorem Inv.lst{pins:List (Addr×Obj)}{σ:St}{H:Hp}{s:Shared}{p:Addr}{xs:List V}(I:Inv X pins σ H s)(h:H p=some (.lst xs)):
  ∃(its:List Value)(n:Nat),aT xs its/\s.heap.get? p=some { cls:=.type "list",data:=.seq its.toArray n }/\xs.length<=sizeLine:=by
 obtain⟨z,its,n,r,e⟩:=I.hok p _ h;exact⟨its,n,r,e,z⟩
theorem Inv.NQ{pins:List (Addr×Obj)}{σ:St}{H:Hp}{s:Shared}{p:Addr}{xs ys:List V}{its its':List Value}{n n':Nat}{f:Obj->Obj}(I:Inv X pins σ H s)(h:H p=some (.lst xs))(ho:s.heap.get? p=some { cls:=.type "list",data:=.seq its.toArray n })(hf:f { cls:=.type "list",data:=.seq its.toArray n }={ cls:=.type "list",data:=.seq its'.toArray n' })(r:aT ys its')(hz:ys.length<=sizeLine)(t:Nat):
  Inv X pins σ (upd H p (.lst ys)) { s with heap:=s.heap.update p f,toks:=t }:=by
 have e:(s.heap.update p f).get? p=some { cls:=.type "list",data:=.seq its'.toArray n' }:=by
  rw[Heap.get?_update_self f ho (by rw[hf]<;>rfl),hf]
 refine I.write (x:=p) (e:=p) (by rw[h];trivial) (.inl rfl) (fun b u hb q=>(Heap.get?_update_other _ _ (Ne.symm hb)).trans q) ⟨_,e⟩ ?_
 exact⟨hz,its',n',r,e⟩
noncomputable def IY:V->V->V->Hp->(Hp->Prop)->Prop:=fun o i v H Q=>∃p xs k j,o=.ref p/\i=.int k/\H p=some (.lst xs)/\ixN xs.length k=some j/\Q (upd H p (.lst (xs.set j v)))
theorem EN:MH X IY:=by
 intro pins s σ H o i v ov iv u Q I ro ri rv h;obtain⟨p,xs,k,j,rfl,rfl,hp,hj,q⟩:=h;cases ro;obtain⟨t,rfl⟩:=ri;obtain⟨its,n,r,ho,hz⟩:=I.lst hp;obtain⟨h1,h2,h3,h4⟩:=BN hj;have hl:=r.length;have hn:=qB
 have I':Inv X pins σ (upd H p (.lst (xs.set j v))) { s with heap:=s.heap.update p (Obj.mapSeq (·.setIfInBounds j u)) }:=
  I.NQ hp ho (Ah its n j u) (r.set rv j) (by rw[List.length_set];exact hz) s.toks
 by_cases h0:0<=k
 ·have hk:k.toNat=j:=by
   rw[seqIndex_of h0 h4] at h1;exact Option.some.inj h1
  exact W.ki_setAt ho h0 (by omega) (by rw[List.size_toArray,←hl];exact h4) (by rw[hk];exact⟨_,I',q⟩)
 ·have hk:(k+(its.toArray.size:Int)).toNat=j:=by
   rw[seqIndex_neg (by omega) h3] at h1
   rw[List.size_toArray,←hl]
   exact Option.some.inj h1
  exact W.ki_setBack ho (by omega) (by rw[List.size_toArray,←hl];exact h3) (by omega) (by rw[hk];exact⟨_,I',q⟩)
theorem wQ(lo hi:Option Int)(n:Nat):(sliceBounds lo hi none n).1=((HT.sIx n 0 lo:Nat):Int)/\(sliceBounds lo hi none n).2.1=((HT.sIx n n hi:Nat):Int)/\(sliceBounds lo hi none n).2.2=1:=by
 refine⟨?_,?_,rfl⟩
 ·cases lo with
  |none=>simp[sliceBounds,HT.sIx]
  |some i=>
   simp only[sliceBounds,HT.sIx,Option.getD_none,show (1:Int)>0 by decide,if_true]
   by_cases h:i<0
   ·simp only[h,if_true]<;>omega
   ·simp only[h,if_false]<;>omega
 ·cases hi with
  |none=>simp[sliceBounds,HT.sIx]
  |some i=>
   simp only[sliceBounds,HT.sIx,Option.getD_none,show (1:Int)>0 by decide,if_true]
   by_cases h:i<0
   ·simp only[h,if_true]<;>omega
   ·simp only[h,if_false]<;>omega
theorem uF(its:List Value)(lo hi:Option Int):slicePick its.toArray lo hi none=((its.drop (HT.sIx its.length 0 lo)).take (HT.sIx its.length its.length hi-HT.sIx its.length 0 lo)).toArray:=by
 obtain⟨h1,h2,h3⟩:=wQ lo hi its.toArray.size;unfold slicePick;rw[h1,h2,h3];simp only[sliceRange_one,pick_run,List.size_toArray]<;>rfl
noncomputable def L3(K:W.Frag):V->Option Int->Option Int->Hp->VK->Prop:=fun x lo hi H Q=>∃a xs,x=.ref a/\SqL K H a xs/\∀p,H p=none->Q (.ref p) (upd H p (.lst (wJ xs lo hi)))
theorem Hs:SlR X (L3 X.K):=by
 intro pins s σ H x v vl vu lo hi sl Q I rx hs pl pu h;obtain⟨a,xs,rfl,hx,q⟩:=h;cases rx;obtain⟨its,r,ht,hz⟩:=I.list hx;have hlen:=r.length;refine⟨"list",_,slot_list_getitem.lookup,ht.isList.typeIs,?_⟩;refine wpAny_getItem_list_slice ht.isList hs pl pu .none (by simp) ?_ (by rw[List.size_toArray]<;>omega)
 rw[uF,←hlen]
 refine⟨.ref s.heap.objs.size,_,I.laid (t':=s.toks) (o:=.lst (wJ xs lo hi)) (fun b ob q=>Heap.get?_push_of_some _ q) (Nat.le_refl _) ?_,rfl,q _ (I.hok.fresh (Nat.le_refl _))⟩;exact⟨Nat.le_trans (qS xs lo hi) hz,_,0,(r.drop (HT.sIx xs.length 0 lo)).take (HT.sIx xs.length xs.length hi-HT.sIx xs.length 0 lo),Heap.get?_push_size _ rfl⟩
theorem wz:g9 X (.type "list") (fun xs H Q=>∃p ys,xs=[.ref p]/\(SqL X.K H p ys\/SqT X.K H p ys)/\∀l,H l=none->Q (.ref l) (upd H l (.lst ys))):=by
 intro pins s σ H xs us Q I r h;obtain⟨p,ys,rfl,hq,q⟩:=h;obtain⟨u,rfl,rx⟩:=nL r;cases rx
 have fin:∀(its:List Value),aT ys its->ys.length<=sizeLine->∀(h':Heap)(c':Nat),(∀b o',s.heap.get? b=some o'->h'.get? b=some o') ->
   h'.get? s.heap.objs.size=some { cls:=.type "list",dict:=none,data:=.seq its.toArray c',slots:=#[] }->EP X pins σ Q (.ref s.heap.objs.size) { s with heap:=h' }:=fun its r' hz h' c' kp e=>
  ⟨.ref s.heap.objs.size,_,I.laid (t':=s.toks) kp (Nat.le_refl _) (show dc X.prog X.w _ h' _ (.lst ys) from ⟨hz,its,c',r',e⟩),rfl,q _ (I.hok.fresh (Nat.le_refl _))⟩
 rcases hq with hq|hq
 ·obtain⟨its,r',pl,hz⟩:=I.list hq
  have hlen:=r'.length;obtain⟨o,ho,hc,n,hd⟩:=pl.isList;exact call_list_seq p (.inl rfl) ho hc hd (fun h' c' kp e=>fin its r' hz h' c' kp e) (by simp only[List.size_toArray]<;>omega)
 ·obtain⟨its,r',pl,hz⟩:=I.tuple hq
  have hlen:=r'.length;obtain⟨o,ho,hc,n,hd⟩:=pl;exact call_list_seq p (.inr rfl) ho hc hd (fun h' c' kp e=>fin its r' hz h' c' kp e) (by simp only[List.size_toArray]<;>omega)
theorem uC:g9 X (.type "tuple") (fun xs H Q=>∃p ys,xs=[.ref p]/\((SqL X.K H p ys/\∀l,H l=none->Q (.ref l) (upd H l (.tup ys)))\/(SqT X.K H p ys/\Q (.ref p) H))):=by
 intro pins s σ H xs us Q I r h;obtain⟨p,ys,rfl,h⟩:=h;obtain⟨u,rfl,rx⟩:=nL r;cases rx;rcases h with⟨hq,q⟩|⟨hq,q⟩
 ·obtain⟨its,r',pl,hz⟩:=I.list hq
  have hlen:=r'.length;refine call_tuple_list pl.isList (fun h' kp=>?_) (by simp only[List.size_toArray]<;>omega)
  have I1:Inv X pins σ H { s with heap:=h' }:=I.kept (t':=s.toks) kp
  have I2:Inv X pins σ (upd H h'.objs.size (.tup ys)) { s with heap:=h'.push { cls:=.type "tuple",data:=.seq its.toArray } }:=
   I1.laid (t':=s.toks) (fun b o e=>Heap.get?_push_of_some _ e) (Nat.le_refl _) (show dc X.prog X.w _ _ _ (.tup ys) from ⟨hz,its,r',wD.new _ _⟩)
  exact⟨.ref h'.objs.size,_,I2,rfl,q _ (I1.hok.fresh (Nat.le_refl _))⟩
 ·obtain⟨its,r',pl,hz⟩:=I.tuple hq
  exact call_tuple_same pl ⟨.ref p,H,I,rfl,q⟩
noncomputable def tyV(K:W.Frag)(T:String)(x:V)(H:Hp):Prop:=match x with
 |.str _=>T="str"
 |.int _=>T="int"
 |.ref p=>(T="list"/\∃xs,SqL K H p xs)\/(T="tuple"/\∃o,K.lookup p=some o/\o.cls=.type "tuple"/\o.dict=none) \/
   (T="dict"/\((∃kvs,H p=some (.dK kvs))\/∃kvs,H p=some (.dT kvs)))\/(T="set"/\∃S n,H p=some (.set S n))
 |_=>False
theorem Fv{pins:List (Addr×Obj)}{σ:St}{H:Hp}{s:Shared}{T:String}{x:V}{v:Value}(I:Inv X pins σ H s)(r:bp x v)(ty:tyV X.K T x H):
  s.TypeIs v T/\∀a,v=.ref a->∃ob,s.heap.get? a=some ob/\ob.dict=none:=by
 cases x with
 |str z=>
  obtain⟨t,rfl⟩:=r;cases (show T="str" from ty)
  exact⟨typeIs_str s z t,fun _ e=>nomatch e⟩
 |int i=>
  obtain⟨t,rfl⟩:=r;cases (show T="int" from ty)
  exact⟨typeIs_int s i t,fun _ e=>nomatch e⟩
 |ref p=>
  cases r;rcases ty with⟨rfl,xs,hq⟩|⟨rfl,o,hk,hc,hd⟩|⟨rfl,hk⟩|⟨rfl,S,n,hk⟩
  ·obtain⟨its,_,pl,_⟩:=I.list hq
   refine⟨pl.isList.typeIs,fun a e=>?_⟩;cases e;obtain⟨o,n,e,c,hd,_⟩:=pl;exact⟨o,e,hd⟩
  ·refine⟨⟨o,I.kIn p o hk,hc⟩,fun a e=>?_⟩
   cases e;exact⟨o,I.kIn _ o hk,hd⟩
  ·have z:∃o,s.heap.get? p=some o/\o.ExactDict:=by
    rcases hk with⟨kvs,hk⟩|⟨kvs,hk⟩
    ·obtain⟨_,_,_,_,o,_,_,e,ex,_⟩:=I.hok p _ hk
     exact⟨o,e,ex⟩
    ·obtain⟨_,_,_,_,o,_,_,e,ex,_⟩:=I.hok p _ hk
     exact⟨o,e,ex⟩
   obtain⟨o,e,ex⟩:=z;refine⟨⟨o,e,ex.1⟩,fun a e2=>?_⟩;cases e2;exact⟨o,e,ex.2.1⟩
  ·obtain⟨o,_,_,_,e,ex,_⟩:=I.hok p _ hk
   refine⟨⟨o,e,ex.1⟩,fun a e2=>?_⟩;cases e2;exact⟨o,e,ex.2.1⟩
 |_=>exact False.elim ty
noncomputable def Lo(K:W.Frag)(T:String)(r:V->List V->Hp->VK->Prop)(to:TE):TE:=fun σ H Q=>to σ H fun x H1=>tyV K T x H1/\r x [] H1 Q
noncomputable def tBM(K:W.Frag)(T:String)(r:V->List V->Hp->VK->Prop)(to:TE)(t:TA):TE:=fun σ H Q=>to σ H fun x H1=>tyV K T x H1/\t σ H1 fun xs H2=>r x xs H2 Q
variable{o e:Expr}{es:List Expr}{to:TE}{t:TA}{name:Str}{apos cpos:Pos}{T id:String}{r:V->List V->Hp->VK->Prop}
theorem jL(pa:PlainAttrs T)(slot:Slot T name id)(hty:typeOf (.builtin id)=pure (.type "method_descriptor"))(hm:MtR X id r)(ho:PE X o to)(hbase:attributeBase o name X.env (eval o X.env)=eval o X.env:=by rfl)(hline:(apos.endLine == cpos.line)=true:=by rfl):PE X (.Call (.Attribute o name apos) [] [] cpos) (Lo X.K T r to):=.mk <| by
 intro pins s σ H Q I h;refine wpAny_Call_method0_late hbase hline (thn (ho pins s σ H _ I h) fun v s1 ⟨x,H1,I1,r1,ty,q1⟩=>?_);obtain⟨h1,h2⟩:=Fv I1 r1 ty;exact⟨T,id,pa,slot,hty,h1,h2,Calls.callWith_builtin rfl (PySem.evalArgs_none (hm pins s1 σ H1 x [] v [] Q I1 r1 .nil q1))⟩
theorem ff(pa:PlainAttrs T)(slot:Slot T name id)(hty:typeOf (.builtin id)=pure (.type "method_descriptor"))(hm:MtR X id r)(ho:PE X o to)(ha:PA X (e::es) t)(hbase:attributeBase o name X.env (eval o X.env)=eval o X.env:=by rfl)
  (hfew:((backTo cpos (starEach (e::es) X.env)).all (fun x=>!x.1) && (backToKw cpos (keywordEach [] X.env)).all (fun x=>x.1.isSome)
   && decide ((e::es).length+([]:List Keyword).length+(if ([]:List Keyword).isEmpty then 0 else 1)<30))=true:=by rfl)
  (hline:(apos.endLine == cpos.line)=true:=by rfl) (hs:starEach (e::es) X.env=(false,eval e X.env)::starEach es X.env:=by rfl) (hplain:(backTo cpos (starEach es X.env)).any (·.1)=false:=by rfl) :
  PE X (.Call (.Attribute o name apos) (e::es) [] cpos) (tBM X.K T r to t):=.mk <| by
 intro pins s σ H Q I h;refine wpAny_Call_method_late hbase hfew hline rfl (thn (ho pins s σ H _ I h) fun v s1 ⟨x,H1,I1,r1,ty,q1⟩=>?_);obtain⟨h1,h2⟩:=Fv I1 r1 ty;refine⟨T,id,pa,slot,hty,h1,h2,?_⟩;have hA:=ha cpos pins s1 σ H1 _ I1 q1;rw[hs] at hA ⊢;refine Calls.callWith_builtin (by show (false || (backTo cpos (starEach es X.env)).any (·.1))=false;rw[hplain]<;>rfl) (Calls.evalArgs_plain ?_)
 exact thn hA fun us s2 ⟨vs,H2,I2,r2,q2⟩=>hm pins s2 σ H2 x vs v us Q I2 r1 r2 q2
end
noncomputable def MtM(X:Cx)(id:String)(r:V->List V->Hp->VK->Prop):Prop:=
 ∀(pins:List (Addr×Obj)) (s:Shared) (σ:St) (H:Hp) (x:V) (xs:List V) (v:Value) (us:List Value) (Q:VK),Inv X pins σ H s->bp x v->aT xs us->r x xs H Q ->
  wpAny (model X.prog X.w) X.A (call (.builtin id) (v::us)) (EP X pins σ Q) X.xe s
theorem aT.one:∀ {x:V} {us:List Value},aT [x] us->∃u,us=[u]/\bp x u
 |_,_,.cons r .nil=>⟨_,rfl,r⟩
theorem aT.two:∀ {x y:V} {us:List Value},aT [x,y] us->∃u v,us=[u,v]/\bp x u/\bp y v
 |_,_,_,.cons r (.cons q .nil)=>⟨_,_,rfl,r,q⟩
theorem aT.zero:∀ {us:List Value},aT [] us->us=[]
 |_,.nil=>rfl
theorem aT.dropLast{xs:List V}{us:List Value}(h:aT xs us):aT xs.dropLast us.dropLast:=by
 induction h with
 |nil=>exact .nil
 |cons r t ih=>
  cases t with
  |nil=>exact .nil
  |cons q t'=>exact .cons r ih
theorem aT.reverse{xs:List V}{us:List Value}(h:aT xs us):aT xs.reverse us.reverse:=by
 induction h with
 |nil=>exact .nil
 |cons r t ih=>rw[List.reverse_cons,List.reverse_cons];exact aT.append ih (.cons r .nil)
theorem aT.rep{xs:List V}{us:List Value}(h:aT xs us):∀k:Nat,aT (List.replicate k xs).flatten (List.replicate k us).flatten
 |0=>.nil
 |k+1=>by
  rw[List.replicate_succ,List.replicate_succ,List.flatten_cons,List.flatten_cons];exact aT.append h (aT.rep h k)
theorem zZ{α:Type}(l:List α):l.eraseIdx (l.length-1)=l.dropLast:=by
 induction l with
 |nil=>rfl
 |cons a r ih=>
  cases r with
  |nil=>rfl
  |cons b r=>
   have e:(a::b::r).length-1=((b::r).length-1)+1:=by
    have h1:(a::b::r).length=r.length+2:=rfl;have h2:(b::r).length=r.length+1:=rfl;omega
   rw[e,List.eraseIdx_cons_succ,ih]
   all_goals rfl
theorem vE(its:List Value):∀(k:Nat)(acc:List Value),
  List.foldl (fun x1 x2=>x1++x2) acc.toArray (List.replicate k its.toArray)=(acc++(List.replicate k its).flatten).toArray
 |0,acc=>by simp
 |k+1,acc=>by
  have e:acc.toArray++its.toArray=(acc++its).toArray:=by simp
  have e2:(acc++its)++(List.replicate k its).flatten=acc++(List.replicate (k+1) its).flatten:=by
   rw[List.replicate_succ,List.flatten_cons,List.append_assoc]
  rw[←e2,←vE its k (acc++its),←e,List.replicate_succ,List.foldl_cons]
section
variable{X:Cx}{pins:List (Addr×Obj)}{σ:St}{H:Hp}{s:Shared}{l b:Addr}{xs ys zs:List V}
theorem Inv.lset{its its':List Value}{n:Nat}{f:Array Value->Array Value}{t':Nat}(I:Inv X pins σ H s)(hH:H l=some (.lst xs))(e:s.heap.get? l=some { cls:=.type "list",data:=.seq its.toArray n })(hf:f its.toArray=its'.toArray)(hv:aT ys its')(hz:ys.length<=sizeLine):
  Inv X pins σ (upd H l (.lst ys)) { s with heap:=s.heap.update l (Obj.mapSeq f),toks:=t' }:=by
 have q:=PySem.IsL.update e f;rw[hf] at q;refine I.write (x:=l) (e:=l) (by rw[hH];exact trivial) (.inl rfl) (fun b' u hb hu=>(Heap.get?_update_other s.heap (Obj.mapSeq f) (Ne.symm hb)).trans hu) ⟨_,q⟩ ?_
 exact⟨hz,its',_,hv,q⟩
theorem Inv.lnew{its:List Value}{t':Nat}(I:Inv X pins σ H s)(hv:aT ys its)(hz:ys.length<=sizeLine):
  Inv X pins σ (upd H s.heap.objs.size (.lst ys)) { s with heap:=s.heap.push { cls:=.type "list",data:=.seq its.toArray },toks:=t' }:=
 I.laid (fun _ _ q=>Heap.get?_push_of_some _ q) (Nat.le_refl _) ⟨hz,its,0,hv,Heap.get?_push_size _ rfl⟩
theorem Inv.fresh(I:Inv X pins σ H s):H s.heap.objs.size=none:=I.hok.fresh (Nat.le_refl _)
theorem Inv.NK(I:Inv X pins σ H s)(hH:H l=some (.lst xs)):xs.length<=sizeLine/\∃(its:List Value)(n:Nat),aT xs its/\xs.length=its.length/\s.heap.get? l=some { cls:=.type "list",data:=.seq its.toArray n }:=by
 obtain⟨z,its,n,r,e⟩:=I.hok l _ hH;exact⟨z,its,n,r,r.length,e⟩
theorem Go{n:Nat}(h:n<=sizeLine):Builtin.List.listTooLong n=false:=by
 unfold Builtin.List.listTooLong;exact decide_eq_false (by omega)
end
section
variable{X:Cx}
noncomputable def BG:V->List V->Hp->VK->Prop:=fun x vs H Q=>∃l xs y,x=.ref l/\vs=[y]/\H l=some (.lst xs)/\xs.length<sizeLine/\Q .non (upd H l (.lst (xs++[y])))
theorem bf:MtM X "list.append" BG:=by
 intro pins s σ H x vs v us Q I rx rv h;obtain⟨l,xs,y,rfl,rfl,hH,hz,q⟩:=h;cases rx;obtain⟨u,rfl,ru⟩:=rv.one;obtain⟨z,its,n,r,hl,e⟩:=I.NK hH;refine call_meets F.slot_list_append ⟨_,e,rfl⟩ F.entry_list_append (F.args_list_append_2 _ _) (PySem.list_append l its.toArray n u (by rw[List.size_toArray];omega)) ⟨e,?_⟩
 refine⟨.non,_,I.lset (its':=its++[u]) hH e (by simp) (r.append (.cons ru .nil)) ?_,rfl,q⟩
 rw[List.length_append,List.length_singleton];omega
noncomputable def Lx:V->List V->Hp->VK->Prop:=fun x vs H Q=>∃l xs y,x=.ref l/\vs=[]/\H l=some (.lst xs)/\xs[xs.length-1]?=some y/\Q y (upd H l (.lst xs.dropLast))
theorem jI:MtM X "list.pop" Lx:=by
 intro pins s σ H x vs v us Q I rx rv h;obtain⟨l,xs,y,rfl,rfl,hH,hy,q⟩:=h;cases rx;have hus:=rv.zero;subst hus;obtain⟨z,its,n,r,hl,e⟩:=I.NK hH;obtain⟨u,hu,ru⟩:=r.get hy
 have hy':its.toArray[its.toArray.size-1]?=some u:=by
  show its.toArray[its.length-1]?=some u;rw[←Array.getElem?_toList,←hl]
  exact hu
 refine call_meets F.slot_list_pop ⟨_,e,rfl⟩ F.entry_list_pop (F.args_list_pop_1 _) (MeetsSeq.list_pop_last l its.toArray n u hy' (by rw[List.size_toArray];omega)) ⟨e,?_⟩
 refine⟨y,_,I.lset (its':=its.dropLast) hH e ?_ r.dropLast ?_,ru,q⟩
 ·show its.toArray.eraseIdxIfInBounds (its.toArray.size-1)=its.dropLast.toArray
  rw[List.size_toArray,List.eraseIdxIfInBounds_toArray,zZ]
 ·rw[List.length_dropLast]
  omega
noncomputable def Hy:R2:=fun x y H Q=>∃l b xs zs,x=.ref l/\y=.ref b/\H l=some (.lst xs)/\H b=some (.lst zs)/\xs.length+zs.length<=sizeLine/\∀p,H p=none->Q (.ref p) (upd H p (.lst (xs++zs)))
theorem d7:OpR X (binaryOp .Add) Hy:=by
 intro pins s σ H x y v u Q I rx ry h;obtain⟨l,b,xs,zs,rfl,rfl,hH,hB,hz,q⟩:=h;cases rx;cases ry;obtain⟨z,its,n,r,hl,e⟩:=I.NK hH;obtain⟨z2,its2,n2,r2,hl2,e2⟩:=I.NK hB;refine PySem.P.add_list e e2 ?_ (by rw[List.size_toArray,List.size_toArray];omega)
 have ea:its.toArray++its2.toArray=(its++its2).toArray:=by simp
 rw[ea];exact⟨.ref _,_,I.lnew (t':=s.toks) (r.append r2) (by rw[List.length_append];omega),rfl,q _ I.fresh⟩
noncomputable def G4:R2:=fun x y H Q=>∃l k xs,x=.ref l/\y=.int k/\H l=some (.lst xs)/\-(2^63)<=k/\k<2^63/\xs.length*k.toNat<=sizeLine /\
 ∀p,H p=none->Q (.ref p) (upd H p (.lst (List.replicate k.toNat xs).flatten))
theorem HK{α:Type}(xs:List α)(k:Nat):(List.replicate k xs).flatten.length=k*xs.length:=by
 induction k with
 |zero=>simp
 |succ k ih=>rw[List.replicate_succ,List.flatten_cons,List.length_append,ih,Nat.succ_mul,Nat.add_comm]
theorem xA:OpR X (binaryOp .Mult) G4:=by
 intro pins s σ H x y v u Q I rx ry h;obtain⟨l,k,xs,rfl,rfl,hH,h1,h2,hz,q⟩:=h;cases rx;obtain⟨t,rfl⟩:=ry;obtain⟨z,its,n,r,hl,e⟩:=I.NK hH;have hlen:its.toArray.size*k.toNat<=sizeLine:=by rw[List.size_toArray,←hl];exact hz
 have hcap:¬ its.toArray.size*k.toNat>(2^63-1) / 8:=by
  have:(sizeLine:Nat)<=(2^63-1) / 8:=by decide
  omega
 have hfit:¬ (!Builtin.List.listFitsIndex k)=true:=by
  rw[fitsIndex_both h1 h2];exact Bool.false_ne_true
 have hlong:¬ Builtin.List.listTooLong (its.toArray.size*k.toNat)=true:=by
  rw[Go hlen];exact Bool.false_ne_true
 have hnew:List.foldl (fun x1 x2=>x1++x2) #[] (List.replicate (if its.toArray.isEmpty=true then 0 else k.toNat) its.toArray)=(List.replicate k.toNat its).flatten.toArray:=by
  have f0:∀m:Nat,List.foldl (fun x1 x2=>x1++x2) #[] (List.replicate m its.toArray)=(List.replicate m its).flatten.toArray:=fun m=>by
   have:=vE its m [];rw[List.nil_append] at this;exact this
  rw[f0]
  cases its with
  |nil=>simp
  |cons a r'=>rw[if_neg (by simp)]
 refine wpAny_binaryOp_repeat_ref (T:="list") (U:="int") (by decide) ⟨_,e,rfl⟩ (fun s'=>typeIs_int s' k t) noFill_list_mul F.fills_int_mul F.slot_int_rmul repeat_list F.slot_int_index.lookup
  (call_meets F.slot_int_rmul (typeIs_int s k t) F.entry_int_rmul (F.args_int_rmul_2 _ _) (int___rmul___int_list k t l its.toArray n)
   ⟨e,rfl,⟨_,e,rfl⟩,call_meets F.slot_list_mul ⟨_,e,rfl⟩ F.entry_list_mul (F.args_list_mul_2 _ _) (AutoListH.list___mul___list_int_3 l its.toArray n k t hfit hcap hlong) ⟨e,?_⟩⟩)
 rw[hnew];exact⟨.ref _,_,I.lnew (t':=s.toks) (r.rep k.toNat) (by rw[HK,Nat.mul_comm];exact hz),rfl,q _ I.fresh⟩
end
section
variable{prog:Program}{w:World}{A:Around}{E:Value->Shared->Prop}{s:Shared}
set_option maxRecDepth 100000 in
end
section
variable{κ:Type}[DecidableEq κ]
noncomputable def rD(kvs:List (κ×V))(k:κ):Option V:=(kvs.find? fun kv=>decide (kv.1=k)).map (·.2)
noncomputable def kt(kvs:List (κ×V))(k:κ)(v:V):List (κ×V):=
 if (kvs.any fun kv=>decide (kv.1=k))=true then kvs.map (fun kv=>if kv.1=k then (kv.1,v) else kv) else kvs++[(k,v)]
theorem pD{p:κ×V}{r:List (κ×V)}{k:κ}(e:p.1=k):rD (p::r) k=some p.2:=by simp[rD,List.find?_cons,e]
theorem pe{p:κ×V}{r:List (κ×V)}{k:κ}(e:¬ p.1=k):rD (p::r) k=rD r k:=by simp[rD,List.find?_cons,e]
theorem zm(k:κ):∀kvs:List (κ×V),(kvs.any fun kv=>decide (kv.1=k))=(rD kvs k).isSome
 | []=>rfl
 |p::r=>by
  rw[List.any_cons];by_cases e:p.1=k
  ·simp only[pD e,decide_eq_true e,Bool.true_or,Option.isSome_some]
  ·rw[pe e,decide_eq_false e,Bool.false_or];exact zm k r
theorem lS(kvs:List (κ×V))(k:κ)(v:V):(kt kvs k v).length<=kvs.length+1:=by
 unfold kt;split
 ·rw[List.length_map];omega
 ·rw[List.length_append,List.length_cons,List.length_nil];omega
theorem uw.NL{o:Option V}{u:Option Value}(r:uw o u):o.isSome=u.isSome:=by
 cases o with
 |none=>cases u with
  |none=>rfl
  |some _=>exact(show False from r).elim
 |some _=>cases u with
  |none=>exact(show False from r).elim
  |some _=>rfl
theorem KV.val{kvs:List (κ×V)}{vs:List (κ×Value)}(r:KV kvs vs)(k:κ):uw (rD kvs k) (valueAt vs k):=by
 unfold KV at r
 induction r with
 |nil=>exact True.intro
 | @cons p q ps qs h t ih=>
  obtain⟨h1,h2⟩:=h;by_cases e:p.1=k
  ·have e':q.1=k:=h1.symm.trans e
   have b:valueAt (q::qs) k=some q.2:=by simp[valueAt,List.find?_cons,e']
   rw[pD e,b];exact h2
  ·have e':¬ q.1=k:=fun z=>e (h1.trans z)
   have b:valueAt (q::qs) k=valueAt qs k:=by simp[valueAt,List.find?_cons,e']
   rw[pe e,b];exact ih
theorem KV.any{kvs:List (κ×V)}{vs:List (κ×Value)}(r:KV kvs vs)(k:κ):(kvs.any fun kv=>decide (kv.1=k))=vs.any fun kv=>decide (kv.1=k):=by
 unfold KV at r
 induction r with
 |nil=>rfl
 |cons h t ih=>rw[List.any_cons,List.any_cons,ih,h.1]
theorem KV.repl{kvs:List (κ×V)}{vs:List (κ×Value)}(r:KV kvs vs)(k:κ){y:V}{u:Value}(ry:bp y u):
  KV (kvs.map fun kv=>if kv.1=k then (kv.1,y) else kv) (vs.map fun kv=>if kv.1=k then (kv.1,u) else kv):=by
 unfold KV at r ⊢
 induction r with
 |nil=>exact .nil
 | @cons p q ps qs h t ih=>
  rw[List.map_cons,List.map_cons];refine .cons ?_ ih;obtain⟨h1,h2⟩:=h;by_cases e:p.1=k
  ·rw[if_pos e,if_pos (h1.symm.trans e)];exact⟨h1,ry⟩
  ·rw[if_neg e,if_neg (fun z=>e (h1.trans z))];exact⟨h1,h2⟩
theorem KV.put{kvs:List (κ×V)}{vs:List (κ×Value)}(r:KV kvs vs)(k:κ){y:V}{u:Value}(ry:bp y u):KV (kt kvs k y) (stored vs k u):=by
 unfold kt stored;rw[r.any k];by_cases e:(vs.any fun kv=>decide (kv.1=k))=true
 ·rw[if_pos e,if_pos e];exact r.repl k ry
 ·rw[if_neg e,if_neg e];exact Paired.snoc r ⟨rfl,ry⟩
theorem KV.length{kvs:List (κ×V)}{vs:List (κ×Value)}(r:KV kvs vs):kvs.length=vs.length:=Paired.length r
end
theorem Br{P:Program}{w:World}{k:Key}{u:Value}(r:bp (kV k) u):(bx P w).is k u=true:=by
 cases k with
 |inl i=>obtain⟨t,e⟩:=(show ∃t,u=Value.int i t from r);subst e;exact xX P w i t
 |inr x=>obtain⟨t,e⟩:=(show ∃t,u=Value.str x t from r);subst e;exact lR P w x t
theorem uJ{P:Program}{w:World}:∀ {ks:List Key} {us:List Value},aT (ks.map kV) us->ItemsAre (bx P w) ks us
 | [],_,r=>by rw[List.map_nil] at r;cases r;exact .nil
 |k::ks,_,r=>by
  rw[List.map_cons] at r
  cases r with
  |cons h t=>exact .cons (Br h) (uJ t)
noncomputable abbrev KT(H:Hp):List (List Key×V)->List (List Key×Addr×Value)->Prop:=Paired fun p q=>p.1=q.1/\H q.2.1=some (.tup (p.1.map kV))/\bp p.2 q.2.2
theorem KT.val{H:Hp}{kvs:List (List Key×V)}{xs:List (List Key×Addr×Value)}(r:KT H kvs xs)(k:List Key):uw (rD kvs k) ((atKey xs k).map (·.2)):=by
 induction r with
 |nil=>exact True.intro
 | @cons p q ps qs h t ih=>
  obtain⟨h1,_,h2⟩:=h;by_cases e:p.1=k
  ·have e':q.1=k:=h1.symm.trans e
   have b:atKey (q::qs) k=some q.2:=by simp[atKey,List.find?_cons,e']
   rw[pD e,b];exact h2
  ·have e':¬ q.1=k:=fun z=>e (h1.trans z)
   have b:atKey (q::qs) k=atKey qs k:=by simp[atKey,List.find?_cons,e']
   rw[pe e,b];exact ih
theorem KT.repl{H:Hp}{kvs:List (List Key×V)}{xs:List (List Key×Addr×Value)}(r:KT H kvs xs)(k:List Key){y:V}{u:Value}(ry:bp y u):
  KT H (kvs.map fun kv=>if kv.1=k then (kv.1,y) else kv) (xs.map (putAt k u)):=by
 induction r with
 |nil=>exact .nil
 | @cons p q ps qs h t ih=>
  rw[List.map_cons,List.map_cons];refine .cons ?_ ih;obtain⟨h1,h2,h3⟩:=h;unfold putAt;by_cases e:p.1=k
  ·rw[if_pos e,if_pos (h1.symm.trans e)];exact⟨h1,h2,ry⟩
  ·rw[if_neg e,if_neg (fun z=>e (h1.trans z))];exact⟨h1,h2,h3⟩
theorem KT.put{H:Hp}{kvs:List (List Key×V)}{xs:List (List Key×Addr×Value)}(r:KT H kvs xs)(k:List Key){b:Addr}{y:V}{u:Value}(hb:H b=some (.tup (k.map kV)))(ry:bp y u):
  KT H (kt kvs k y) (storedH xs k b u):=by
 have e:(kvs.any fun kv=>decide (kv.1=k))=(atKey xs k).isSome:=by
  rw[zm,(r.val k).NL,Option.isSome_map]
 unfold kt storedH;rw[e];by_cases q:(atKey xs k).isSome=true
 ·rw[if_pos q,if_pos q];exact r.repl k ry
 ·rw[if_neg q,if_neg q];exact Paired.snoc r ⟨rfl,hb,ry⟩
theorem KT.keeps{H H':Hp}{kvs:List (List Key×V)}{xs:List (List Key×Addr×Value)}(r:KT H kvs xs)(ht:∀b ys,H b=some (.tup ys)->H' b=some (.tup ys)):KT H' kvs xs:=
 Paired.NP r fun _ _ z=>⟨z.1,ht _ _ z.2.1,z.2.2⟩
section
variable{P:Program}{w:World}{H:Hp}{h:Heap}{a:Addr}
theorem IO{u:HO}(ok:HOk P w H h)(e:Rd H a u):dc P w H h a u:=e.ok ok
theorem D7{kvs:List (Key×V)}(ok:HOk P w H h)(e:Rd H a (.dK kvs)):kvs.length<=sizeLine/\(a == sysModules)=false/\∃vs,KV kvs vs/\h.DictOf (bx P w) a vs:=
 show dc P w H h a (.dK kvs) from IO ok e
theorem Jy{kvs:List (Key×V)}(ok:HOk P w H h)(e:H a=some (.dK kvs)):kvs.length<=sizeLine/\(a == sysModules)=false/\∃vs,KV kvs vs/\h.DictOf (bx P w) a vs:=D7 ok (.inl e)
theorem Aw{ks:List Key}(ok:HOk P w H h)(e:H a=some (.tup (ks.map kV))):(tupleKind (bx P w)).is h ks a:=by
 obtain⟨_,its,r,⟨o,h1,h2,n,h3⟩,_⟩:=(show dc P w H h a (.tup (ks.map kV)) from ok a _ e)
 exact⟨o,its.toArray,n,h1,h2,h3,by simpa using uJ r⟩
theorem EY{kvs:List (List Key×V)}(ok:HOk P w H h)(e:Rd H a (.dT kvs)):kvs.length<=sizeLine/\(a == sysModules)=false /\
  ∃xs,KT H kvs xs/\h.DictOfH (tupleKind (bx P w)) a xs:=by
 obtain⟨z,y,xs,r,o,es,ep,h1,h2,h3,h4,h5⟩:=(show dc P w H h a (.dT kvs) from IO ok e)
 refine⟨z,y,xs,r,o,es,ep,h1,h2,h3,h4,fun x hx=>?_,h5⟩
 have all:∀ {l:List (List Key×V)} {m:List (List Key×Addr×Value)},KT H l m->∀x∈m,(tupleKind (bx P w)).is h x.1 x.2.1:=by
  intro l m q
  induction q with
  |nil=>intro x hx;exact nomatch hx
  | @cons p q ps qs hq t ih=>
   intro x hx;rcases List.mem_cons.mp hx with e|hx
   ·subst e
    exact Aw ok (by rw[←hq.1];exact hq.2.1)
   ·exact ih x hx
 exact all r x hx
theorem LC{kvs:List (List Key×V)}(ok:HOk P w H h)(e:H a=some (.dT kvs)):kvs.length<=sizeLine/\(a == sysModules)=false /\
  ∃xs,KT H kvs xs/\h.DictOfH (tupleKind (bx P w)) a xs:=EY ok (.inl e)
end
noncomputable def Dj(H:Hp)(a:Addr)(y:V)(r:Option V):Prop:=
 (∃kvs k,Rd H a (.dK kvs)/\y=kV k/\r=rD kvs k)\/∃kvs k b,Rd H a (.dT kvs)/\y=.ref b/\H b=some (.tup (k.map kV))/\r=rD kvs k
noncomputable def Gn(H:Hp)(a:Addr)(y v:V)(H':Hp):Prop:=
 (∃kvs k,H a=some (.dK kvs)/\y=kV k/\kvs.length<sizeLine/\H'=upd H a (.dK (kt kvs k v))) \/
 ∃kvs k b,H a=some (.dT kvs)/\y=.ref b/\H b=some (.tup (k.map kV))/\kvs.length<sizeLine/\H'=upd H a (.dT (kt kvs k v))
theorem Dj.k{H:Hp}{a:Addr}{kvs:List (Key×V)}{k:Key}(e:H a=some (.dK kvs)):Dj H a (kV k) (rD kvs k):=.inl ⟨kvs,k,.inl e,rfl,rfl⟩
theorem Gn.k{H:Hp}{a:Addr}{kvs:List (Key×V)}{k:Key}{v:V}(e:H a=some (.dK kvs))(hl:kvs.length<sizeLine):Gn H a (kV k) v (upd H a (.dK (kt kvs k v))):=.inl ⟨kvs,k,e,rfl,hl,rfl⟩
section
variable{X:Cx}{pins:List (Addr×Obj)}{σ:St}{H:Hp}{s:Shared}{a:Addr}{y v:V}{u r:Value}{o:Option V}{A:Around}{E:Value->Shared->Prop}
theorem Inv.big(I:Inv X pins σ H s):sysModules<s.heap.objs.size:=by
 have h:mainGlobals<s.heap.objs.size:=(I.mod.glob.keeps I.bk).lt;exact Nat.lt_trans (by decide) h
theorem Df{Q:Value->Shared->Prop}(hu:A.units+1<cLine)(I:Inv X pins σ H s)(g:Dj H a y (some v))(ry:bp y u)(h:∀w' s',Inv X pins σ H s'->bp v w'->Q w' s'):
  wpAny (model X.prog X.w) A (getItem (.ref a) u) Q E s:=by
 rcases g with⟨kvs,k,e,ey,l⟩|⟨kvs,k,b,e,ey,eb,l⟩
 ·subst ey
  obtain⟨z,hd,vs,rel,dd⟩:=D7 I.hok e;obtain⟨w',hw,rw'⟩:=uw.some_of (v:=v) (o:=valueAt vs k) (by rw[l];exact rel.val k)
  exact wpAny_getItem_of (Br ry) dd.mapOf hw (h w' _ (I.tok _) rw')
 ·subst ey
  cases (show u=Value.ref b from ry)
  obtain⟨z,hd,xs,rel,dd⟩:=EY I.hok e;obtain⟨w',hw,rw'⟩:=uw.some_of (v:=v) (o:=(atKey xs k).map (·.2)) (by rw[l];exact rel.val k)
  obtain⟨p,hp,hp2⟩:=Option.map_eq_some_iff.mp hw;refine wpAny_getItem_heap (tupleKind_room_in1 hu) (Aw I.hok eb) dd hp ?_;rw[hp2];exact h w' _ (I.tok _) rw'
theorem wR{h':Heap}{t':Nat}{ob:HO}(I:Inv X pins σ H s)(mu:Mut (H a))(hs:Heap.SameBut a s.heap h')(he:∃q,h'.get? a=some q)(new:dc X.prog X.w (upd H a ob) h' a ob):
  Inv X pins σ (upd H a ob) { s with heap:=h',toks:=t' }:=
 I.write (x:=a) (e:=a) mu (.inl rfl) (fun b q hb z=>(hs.2 b hb).trans z) he new
theorem D0{P:Program}{w:World}{H':Hp}{h':Heap}{kvs:List (Key×V)}{vs:List (Key×Value)}(z:kvs.length<=sizeLine)(hd:(a == sysModules)=false)(rel:KV kvs vs)(dd:h'.DictOf (bx P w) a vs):
  dc P w H' h' a (.dK kvs):=⟨z,hd,vs,rel,dd⟩
theorem Ds{H':Hp}{Q:Unit->Shared->Prop}(hu:A.units+1<cLine)(I:Inv X pins σ H s)(g:Gn H a y v H')(ry:bp y u)(rv:bp v r)(h:∀s',Inv X pins σ H' s'->Q () s'):
  wpAny (model X.prog X.w) A (setItem (.ref a) u r) Q E s:=by
 rcases g with⟨kvs,k,e,ey,l,eH⟩|⟨kvs,k,b,e,ey,eb,l,eH⟩
 ·subst ey eH
  obtain⟨z,hd,vs,rel,dd⟩:=Jy I.hok e;have hz:vs.length<=sizeLine:=by rw[←rel.length];exact z
  have hl:(kt kvs k v).length<=sizeLine:=by have:=lS kvs k v;omega
  refine wpAny_setItem_pairs (hsz:=hz) (Br ry) dd fun h' dd' hs=>h _ ?_;have he:∃q,h'.get? a=some q:=let ⟨q,_,_,hq,_⟩:=dd';⟨q,hq⟩
  exact wR I (by rw[e];exact True.intro) hs he (D0 hl hd (rel.put k rv) dd')
 ·subst ey eH
  cases (show u=Value.ref b from ry)
  obtain⟨z,hd,xs,rel,dd⟩:=LC I.hok e;have hz:xs.length<=sizeLine:=by rw[←Paired.length rel];exact z
  have hl:(kt kvs k v).length<=sizeLine:=by have:=lS kvs k v;omega
  refine wpAny_setItem_heap (hsz:=hz) (tupleKind_room_in1 hu) (Aw I.hok eb) dd fun h' dd' hs=>h _ ?_;obtain⟨q,es,ep,hq,h2,h3,h4,_,h5⟩:=dd';refine wR I (by rw[e];exact True.intro) hs ⟨q,hq⟩ ⟨hl,hd,_,(rel.put k eb rv).keeps fun c ys ec=>?_,q,es,ep,hq,h2,h3,h4,h5⟩
  rw[aD (LS ec e (fun z=>nomatch z))]
  exact ec
end
noncomputable def KZ(i:Expr):Prop:=∀ov iv,subscripted i false ov iv=operate [ov,iv] (getItem ov iv)
theorem CM{prog:Program}{w:World}{A:Around}{E:Value->Shared->Prop}{s:Shared}{env:Env}{value slice:Expr}{pos:Pos}{T id:String}{Q:Value->Shared->Prop}(hl:typeLookup (.type T) "__getitem__"=pure (some (.builtin id)))(hs:KZ slice)(h:wpAny (model prog w) A (eval value env) (fun o s₁=>wpAny (model prog w) A (eval slice env) (fun i s₂=>s₂.TypeIs o T/\wpAny (model prog w) A (getItem o i) Q E s₂) E s₁) E s):
  wpAny (model prog w) A (eval (.Subscript value slice pos) env) Q E s:=by
 refine Subscript_ (wpAny_mono h (fun o s₁ h₁=>wpAny_mono h₁ (fun i s₂ h₂=>?_) fun _ _ x=>x) fun _ _ x=>x);obtain⟨hT,h₂⟩:=h₂;unfold subscriptTail;refine wpAny_bind ?_;rw[getitemInPython_of_ne hT.not_modules];refine wpAny_bind (wpAny_specialOf hT hl ?_)
 have fin:wpAny (model prog w) A (subscripted slice false o i) (fun r s₃=>wpAny (model prog w) A (letTemporaryGo value o r >>= fun _=>pure r) Q E s₃) E s₂:=by
  rw[hs o i];exact wpAny_operating (wpAny_mono h₂ (fun r s₃ h₃=>wpAny_bind (wpAny_letTemporaryGo (wpAny_pure h₃))) fun _ _ x=>x)
 first
  |exact wpAny_pure (wpAny_bind fin)
  |exact wpAny_bind (wpAny_pure (wpAny_bind fin))
  |exact wpAny_bind fin
theorem xK{X:Cx}{pins:List (Addr×Obj)}{σ:St}{H:Hp}{s:Shared}{a:Addr}{y:V}{o:Option V}(I:Inv X pins σ H s)(g:Dj H a y o):s.TypeIs (.ref a) "dict":=by
 rcases g with⟨kvs,k,e,_,_⟩|⟨kvs,k,b,e,_,_,_⟩
 ·obtain⟨_,_,vs,_,dd⟩:=D7 I.hok e
  exact dd.typeIs
 ·obtain⟨_,_,xs,_,dd⟩:=EY I.hok e
  exact dd.typeIs
noncomputable def Iz(td ty:TE):TE:=fun σ H Q=>td σ H fun x H1=>ty σ H1 fun y H2=>∃a v,x=.ref a/\Dj H2 a y (some v)/\Q v H2
noncomputable def JE(td ty tv:TE):TS:=fun D σ H=>tv σ H fun v H1=>td σ H1 fun x H2=>ty σ H2 fun y H3=>∃a H4,x=.ref a/\Gn H3 a y v H4/\D.nx σ H4
section
variable{X:Cx}{o i e value:Expr}{pos pos' tpos:Pos}{td ty tv:TE}
theorem jy(hu:X.A.units+1<cLine)(ho:PE X o td)(hi:PE X i ty)(hs:KZ i):PE X (.Subscript o i pos) (Iz td ty):=.mk <| by
 intro pins s σ H Q I h;refine CM PySem.F.slot_dict_getitem.lookup hs (thn (ho pins s σ H _ I h) fun u s1 ⟨x,H1,I1,rx,q1⟩=>thn (hi pins s1 σ H1 _ I1 q1) fun iv s2 ⟨y,H2,I2,ry,a,v,ex,g,q2⟩=>?_);subst ex;obtain rfl:u=Value.ref a:=rx;exact⟨xK I2 g,Df hu I2 g ry fun w' s3 I3 rw'=>⟨v,H2,I3,rw',q2⟩⟩
theorem xy(hu:X.A.units+1<cLine)(ho:PE X o td)(hi:PE X i ty)(hv:PE X value tv)(hs:swapsWith value (some (.Subscript o i pos')) pos.line X.env=pure false):
  PS X (.Assign [.Subscript o i pos'] value pos) (JE td ty tv):=.mk <| by
 intro pins s σ H D I h;refine wpAny_Assign_Subscript (thn (hv pins s σ H _ I h) fun r s1 ⟨v,H1,I1,rv,q1⟩=>thn (ho pins s1 σ H1 _ I1 q1) fun u s2 ⟨x,H2,I2,rx,q2⟩=>thn (hi pins s2 σ H2 _ I2 q2) fun iv s3 ⟨y,H3,I3,ry,a,H4,ex,g,q3⟩=>?_) hs;subst ex;obtain rfl:u=Value.ref a:=rx;exact Ds hu I3 g ry rv fun s4 I4=>⟨σ,H4,I4,q3⟩
end
theorem Fc{P:Program}{w:World}{H:Hp}(h:Heap)(hb:sysModules<h.objs.size):dc P w H (h.push { cls:=.type "dict",data:=.dict #[] }) h.objs.size (.dK []):=
 ⟨Nat.zero_le _,beq_eq_false_iff_ne.mpr (Ne.symm (Nat.ne_of_lt hb)),[],.nil,Heap.DictOf.new h⟩
noncomputable def wV:List (TE×TE)->St->Hp->(List (V×V)->Hp->Prop)->Prop
 | [],_,H,Q=>Q [] H
 |(tk,tv)::r,σ,H,Q=>tk σ H fun x H1=>tv σ H1 fun y H2=>wV r σ H2 fun ps H3=>Q ((x,y)::ps) H3
noncomputable abbrev VV:List (V×V)->List (Value×Value)->Prop:=Paired fun p q=>bp p.1 q.1/\bp p.2 q.2
noncomputable def PPs(X:Cx)(pos:Pos)(keys:List (Option Expr))(values:List Expr)(trs:List (TE×TE)):Prop:=
 ∀(pins:List (Addr×Obj)) (s:Shared) (σ:St) (H:Hp) (Q:List (V×V)->Hp->Prop),Inv X pins σ H s->wV trs σ H Q ->
  wpAny (model X.prog X.w) X.A (evalPairs (pairTrees keys values X.env pos)) (fun vs s'=>∃ps H',Inv X pins σ H' s'/\VV ps vs/\Q ps H') X.xe s
theorem HC{X:Cx}{pos:Pos}:PPs X pos [] [] []:=fun pins s σ H Q I h=>pairTrees_nil_walk ⟨[],H,I,.nil,h⟩
theorem sf{X:Cx}{pos:Pos}{k v:Expr}{ks:List (Option Expr)}{vs:List Expr}{tk tv:TE}{trs:List (TE×TE)}(hk:PE X k tk)(hv:PE X v tv)(hr:PPs X pos ks vs trs):
  PPs X pos (some k::ks) (v::vs) ((tk,tv)::trs):=fun pins s σ H Q I h=>
 pairTrees_cons_walk (thn (hk pins s σ H _ I h) fun u s1 ⟨x,H1,I1,rx,q1⟩=>thn (hv pins s1 σ H1 _ I1 q1) fun w2 s2 ⟨y,H2,I2,ry,q2⟩=>
  thn (hr pins s2 σ H2 _ I2 q2) fun ws s3 ⟨ps,H3,I3,rel,q3⟩=>⟨(x,y)::ps,H3,I3,.cons ⟨rx,ry⟩ rel,q3⟩)
noncomputable def mq(kvs more:List (Key×V)):List (Key×V):=more.foldl (fun acc kv=>kt acc kv.1 kv.2) kvs
theorem KV.merge:∀ {more:List (Key×V)} {rs:List (Key×Value)} {kvs:List (Key×V)} {vs:List (Key×Value)},KV more rs->KV kvs vs->KV (mq kvs more) (merged vs rs):=by
 intro more rs kvs vs r;unfold KV at r
 induction r generalizing kvs vs with
 |nil=>intro q;exact q
 | @cons p q ps qs h t ih=>
  intro r0
  have e:KV (kt kvs p.1 p.2) (stored vs q.1 q.2):=by
   have:=r0.put p.1 h.2;rw[←h.1];exact this
  exact ih e
theorem nE:∀(more kvs:List (Key×V)),(mq kvs more).length<=kvs.length+more.length
 | [],kvs=>by show kvs.length<=kvs.length+0;omega
 |p::r,kvs=>by
  have h1:=nE r (kt kvs p.1 p.2);have h2:=lS kvs p.1 p.2;show (mq (kt kvs p.1 p.2) r).length<=_;rw[List.length_cons];omega
theorem sR{P:Program}{w:World}:∀ {kvs:List (Key×V)} {ws:List (Value×Value)},VV (kvs.map fun kv=>(kV kv.1,kv.2)) ws->∃rs,Carries (bx P w) ws rs/\KV kvs rs
 | [],_,r=>by rw[List.map_nil] at r;cases r;exact⟨[],True.intro,.nil⟩
 |p::kvs,_,r=>by
  rw[List.map_cons] at r
  cases r with
  | @cons a b as bs h t=>
   obtain⟨rs,c,q⟩:=sR (P:=P) (w:=w) t;obtain⟨b1,b2⟩:=b;exact⟨(p.1,b2)::rs,⟨Br h.1,rfl,c⟩,.cons ⟨rfl,h.2⟩ q⟩
noncomputable def Je(trs:List (TE×TE)):TE:=fun σ H Q=>∀p,H p=none->wV trs σ (upd H p (.dK [])) fun ps H2=>H2 p=some (.dK [])/\∃kvs:List (Key×V),ps=kvs.map (fun kv=>(kV kv.1,kv.2))/\kvs.length<=15/\Q (.ref p) (upd H2 p (.dK (mq [] kvs)))
theorem Hn{X:Cx}{pos:Pos}{keys:List (Option Expr)}{values:List Expr}{trs:List (TE×TE)}(h:PPs X pos keys values trs)(hall:keys.all (·.isSome)=true)(hl:keys.length=values.length)(h0:keys≠[])(h15:keys.length<=15):PE X (.Dict keys values pos) (Je trs):=.mk <| by
 intro pins s σ H Q I q;have hn:=I.hok.fresh (Nat.le_refl s.heap.objs.size);have I1:=I.laid (a:=s.heap.objs.size) (o:=.dK []) (h':=s.heap.push { cls:=.type "dict",data:=.dict #[] }) (t':=s.toks) (fun _ _ q=>Heap.get?_push_of_some _ q) (Nat.le_refl _) (Fc s.heap I.big);refine wpAny_Dict_walk (knd:=bx X.prog X.w) hall hl h0 h15 (thn (h pins _ σ _ _ I1 (q _ hn)) fun ws s2 ⟨ps,H2,I2,rel,e,kvs,ep,lk,q2⟩=>?_)
 subst ep;obtain⟨rs,c,rk⟩:=sR (P:=X.prog) (w:=X.w) rel;obtain⟨z,hd,vs0,r0,dd⟩:=Jy I2.hok e;cases r0;refine⟨rs,c,dd,fun h' dd' hs=>⟨.ref s.heap.objs.size,_,?_,rfl,q2⟩⟩
 have hz:(mq [] kvs).length<=sizeLine:=by
  have h1:=nE kvs [];rw[List.length_nil] at h1;rw[sizeLine_eq];omega
 have he:∃q,h'.get? s.heap.objs.size=some q:=let ⟨q,_,_,hq,_⟩:=dd';⟨q,hq⟩
 exact wR I2 (by rw[e];exact True.intro) hs he (D0 hz hd (rk.merge .nil) dd')
structure M1(X:Cx)(o:Expr)(m:Str)(apos:Pos)(e:Expr)(cpos:Pos):Prop where
 base:attributeBase o m X.env (eval o X.env)=eval o X.env
 few:((backTo cpos (starEach [e] X.env)).all (fun x=>!x.1) && (backToKw cpos (keywordEach [] X.env)).all (fun x=>x.1.isSome)
  && decide (([e]:List Expr).length+([]:List Keyword).length+(if ([]:List Keyword).isEmpty then 0 else 1)<30))=true
 line:(apos.endLine == cpos.line)=true
 trees:backTo cpos (starEach [e] X.env)=[(false,eval e X.env)]
structure M2(X:Cx)(o:Expr)(m:Str)(apos:Pos)(e f:Expr)(cpos:Pos):Prop where
 base:attributeBase o m X.env (eval o X.env)=eval o X.env
 few:((backTo cpos (starEach [e,f] X.env)).all (fun x=>!x.1) && (backToKw cpos (keywordEach [] X.env)).all (fun x=>x.1.isSome)
  && decide (([e,f]:List Expr).length+([]:List Keyword).length+(if ([]:List Keyword).isEmpty then 0 else 1)<30))=true
 line:(apos.endLine == cpos.line)=true
 trees:backTo cpos (starEach [e,f] X.env)=[(false,eval e X.env),(false,eval f X.env)]
end L2
namespace Att
open PySem PySem.W PySem.Calls PyProof.Rows
theorem rd{P:Params}{h:Heap}:∀(ns:List Int)(vs:List Value),WellAll P h vs (ns.map WData.int)->IntsAre vs ns:=by
 intro ns
 induction ns with
 |nil=>
  intro vs w;rw[List.map_nil] at w;cases w;exact .nil
 |cons n ns ih=>
  intro vs w;rw[List.map_cons] at w
  cases w with
  |cons a b=>
   cases a;exact .cons _ _ (ih _ b)
theorem Da{l:OpenLaw}{n:Nat}(hn:l.most=some n){P:Params}{h:Heap}{args:List WData}{vals:List Value}(hpre:l.row.toRowW.claim.pre args=true)(hwl:WellAll P h vals args):
  ∃a vs ns,vals=[Value.ref a]/\args=[WData.list (ns.map WData.int)]/\h.get? a=some { cls:=.type "list",data:=.seq vs.toArray }/\IntsAre vs ns/\ns.length<=n:=by
 have hsh:WShape.hasAll [] args [.list .int]=true:=(pre_splitW hpre).1;have hc:l.pre.holds [] { args:=args }=true:=(pre_splitW hpre).2;obtain⟨d,r,rfl,h1,h2⟩:=hasAllW_cons hsh;obtain rfl:=hasAllW_nil h2;obtain⟨xs,rfl,h3⟩:=hasW_list h1;obtain⟨ns,rfl⟩:=items_int h3
 have hlen:ns.length<=n:=by
  unfold OpenLaw.pre at hc
  have h4:(WTm.not (.lt (.lit (.int (n:Int))) (.len (.arg 0)))).holds [] { args:=[.list (ns.map .int)] }=true:=by
   have h4:=(holds_andW hc).1;rw[hn] at h4;exact h4
  have h5:=condW_of h4 (w_not (w_lt w_lit (w_len_list (w_arg rfl))));rw[List.length_map] at h5;refine Nat.le_of_not_lt fun q=>?_;have q':(n:Int)<((ns.length:Nat):Int):=by omega
  first
   |(rw[decide_eq_true q'] at h5;exact absurd h5 (by decide))
   |(simp at h5;omega)
 cases hwl with
 |cons w1 w2=>
  cases w2
  cases w1 with
  |list ho hall=>exact⟨_,_,ns,rfl,rfl,ho,rd ns _ hall,hlen⟩
theorem C6(l:OpenLaw)(args:List WData):l.row.toRowW.claim.post args (.bool true) args=true:=
 postW_of (r:=l.row.toRowW) (X:=(true == true))
  (show WShape.has [] (.bool true) .bool=true by first|rfl|decide|simp[WShape.has,WShape.arms,WShape.armsAll])
  (show (WTm.eq .res (.lit (.bool true))).value [] { args:=args,res:=some (.bool true),after:=args }=some (.bool (true == true)) from w_eq_bool (w_res rfl) w_lit) rfl
theorem xG{l:OpenLaw}{n:Nat}{q:Program}{loose:List Str}{XP:(Str->Option Value)->Heap->Prop}{YP:World->Heap->Prop}{d:DefRec}(hn:l.most=some n)(hdf:d.params.defaults=[])
  (call:∀(w:World)(s₀ s₁:Shared)(mg mb:Str->Option Value)(fa:Addr)(o:Obj)(pm cd doc:Value)(a:Addr)(vs:List Value)(ns:List Int),
   Ground q loose [] XP w s₀ mg mb s₁.heap->YP w s₁.heap ->
   s₁.heap.get? fa=some o->o.data=.func (docDef d.name d.params d.body d.scope pm cd doc)->s₁.heap.CodeRec cd d.name->mg d.name=some (.ref fa) ->
   s₁.heap.get? a=some { cls:=.type "list",data:=.seq vs.toArray }->IntsAre vs ns->ns.length<=n->s₁.gens=#[] ->
   codeAny (model l.prog w) callerA (.call (.ref fa) ⟨[.ref a],[]⟩) (fun r s'=>r=.ok (.ret (.bool true))/\OldK s₁.heap s'.heap/\s'.os=s₁.os/\AllBare s'.gens) s₁) :
  WalkO q loose XP YP l.row.toRowW d [] (fun f vs=>PySem.call f vs):=by
 intro w s₀ s₁ mg mb G Y fa o pm cd doc dV kV ho hd hcd hD hmg hg args vals as hpre hlay hrd hwl hlo;obtain rfl:dV=.none:=Dflts.none hD hdf;obtain rfl:kV=.none:=Dflts.noKw hD;obtain⟨a,vs,ns,rfl,rfl,hobj,hints,hlen⟩:=Da hn hpre hwl;refine enter_call (codeAny_mono (call w s₀ s₁ mg mb fa o pm cd doc a vs ns G Y ho (fd_plain hd) hcd hmg hobj hints hlen hg) fun r s' hq=>?_);obtain⟨rfl,h2,h3,h4⟩:=hq
 exact⟨.inl ⟨.bool true,.bool true,[],rfl,fun _=>rfl,.bool true,C6 l _,fun _=>⟨List.Pairwise.nil,fun _ hm=>(nomatch hm)⟩⟩,h2,h3,h4⟩
end Att
namespace L2
open PySem PySem.Spec PyProof.Rows
theorem vN:∀ {vs:List Value} {ns:List Int},IntsAre vs ns->aT (ns.map V.int) vs
 |_,_,.nil=>.nil
 |_,_,.cons n t h=>.cons ⟨t,rfl⟩ (vN h)
noncomputable def LR(_:Hp):Prop:=True
noncomputable abbrev KOf{K:W.Frag}{h:Heap}(_:K.In h):W.Frag:=K
noncomputable def defArgs(s:Stmt):Arguments:=match s with
 |.FunctionDef _ a _ _ _ _ _ _ _ _=>a
 |_=>{ posonlyargs:=[],args:=[],vararg:=none,kwonlyargs:=[],kw_defaults:=[],kwarg:=none,defaults:=[] }
noncomputable def defBody(s:Stmt):List Stmt:=match s with
 |.FunctionDef _ _ b _ _ _ _ _ _ _=>b
 |_=>[]
noncomputable def defScope(s:Stmt):Scope:=match s with
 |.FunctionDef _ _ _ _ _ _ sc _ _ _=>sc
 |_=>{ kind:=.function,names:=[],isGenerator:=false,isCoroutine:=false }
noncomputable abbrev CX0:CXT:=fun _ _ _ _ _ _=>False
noncomputable abbrev E0:XK:=fun _ _ _=>False
theorem ax{X:Cx}:zx CX0 X E0:=fun _ _ _ _ _ _ _ h=>h.elim
structure Fun(K:W.Frag)(x qual:Str)(st:Stmt)(f:Addr)(fd:FuncData):Prop where
 ex:∃(oc:Value)(od:Option Addr)(kV doc pm:Value)(an:Option Addr)(cdv ct:Value) (osl:Array (Option Value)),
  fd=W.fnOf x qual (defArgs st) (defBody st) (defScope st) .none kV doc pm an cdv ct/\K.lookup f=some ⟨oc,od,.func fd,osl⟩/\W.codeIn K cdv qual=true
 kp:W.keepIn K (.ref f)=true
section
variable{P:Program}{w:World}{K:W.Frag}{mg:Str->Option Value}{base:Heap}
theorem Fun.ok{x qual:Str}{st:Stmt}{f:Addr}{fd:FuncData}{N ps:List Str}{k:Nat}{sp:Sp}(F:Fun K x qual st f fd)(S:az N ps (defScope st))(len:∀vs H Q E,sp vs H Q E->vs.length=ps.length)
  (hbody:∀(cdv:Value)(A:Around)(outer:List Env)(s:Shared)(H:Hp)(vs:List V)(Q:VK)(E:XK),ft k (A.deeper (envOfC qual (defScope st) s.heap.objs.size f cdv))->sp vs H Q E ->
   ∃t,PSs (uk CX0 P w K mg base N qual (defScope st) f cdv A outer s H E).nox (defBody st) t/\t { nx:=fun _ H'=>Q .non H',rt:=Q } (start N vs) H):aA P w K mg base CX0 (k+1) f fd ps sp:=by
 obtain⟨oc,od,kV,doc,pm,an,cdv,ct,osl,rfl,lk,hcd⟩:=F.ex;refine IN lk hcd S len fun A outer s H vs Q E hr hsp=>?_;obtain⟨t,h,q⟩:=hbody cdv A outer s H vs Q E hr hsp;exact⟨t,h.nox,q⟩
theorem Fun.binds{x qual:Str}{st:Stmt}{f:Addr}{fd:FuncData}{ps:List Str}(F:Fun K x qual st f fd)(h:∀(kV doc pm:Value)(an:Option Addr)(cdv ct:Value)(us:List Value),us.length=ps.length->bindArgs (W.fnOf x qual (defArgs st) (defBody st) (defScope st) .none kV doc pm an cdv ct) ⟨us,[]⟩=pure (ps.zip us)):aS K fd ps []:=by
 obtain⟨oc,od,kV,doc,pm,an,cdv,ct,osl,rfl,lk,hcd⟩:=F.ex;exact .all (h kV doc pm an cdv ct)
theorem jK{x qual:Str}{st:Stmt}{f:Addr}{oc:Value}{od an:Option Addr}{osl:Array (Option Value)}{kV doc pm cdv ct:Value}(l:K.lookup f=some ⟨oc,od,.func (W.fnOf x qual (defArgs st) (defBody st) (defScope st) .none kV doc pm an cdv ct),osl⟩)(c:W.codeIn K cdv qual=true)(k:W.keepIn K (.ref f)=true):Fun K x qual st f (W.fnOf x qual (defArgs st) (defBody st) (defScope st) .none kV doc pm an cdv ct):=⟨⟨oc,od,kV,doc,pm,an,cdv,ct,osl,rfl,l,c⟩,k⟩
end
theorem l5{A:Around}{k:Nat}(hr:ft k A):A.units+1<cLine:=Nat.lt_of_le_of_lt (Nat.add_le_add_left (by decide:1<=64) _) hr.units
theorem bu{n:Nat}(h:n<=1000):n<sizeLine:=Nat.lt_of_le_of_lt h (by decide)
section
variable{X:Cx}
theorem pv(i:Nat){x:Str}{pos:Pos}(hN:X.N[i]?=some x:=by rfl)(hv:Vis X.env.scope x:=by first|exact Or.inl rfl|exact Or.inr (Or.inl rfl)|exact Or.inr (Or.inr rfl))(hd:(x == ("__debug__":Str))=false:=by decide)(hcd:(x == ("__classdict__":Str))=false:=by decide):PE X (.Name x pos) (Hr i):=EW hN hv hd hcd
end
theorem ME{A B:Prop}(h:B):if false=true then A else B:=by
 rw[if_neg Bool.false_ne_true];exact h
theorem Mq{A B:Prop}(h:A):if true=true then A else B:=by
 rw[if_pos rfl];exact h
theorem ur{c A B:Prop}[Decidable c](h1:c->A)(h2:¬ c->B):if c then A else B:=by
 by_cases h:c
 ·rw[if_pos h]
  exact h1 h
 ·rw[if_neg h]
  exact h2 h
noncomputable def db(H H':Hp):Prop:=∀b o,H b=some o->H' b=some o
theorem db.refl(H:Hp):db H H:=fun _ _ h=>h
theorem db.trans{H H1 H2:Hp}(a:db H H1)(b:db H1 H2):db H H2:=fun c o h=>b c o (a c o h)
end L2
set_option maxHeartbeats 1000000
namespace L2
open PySem PySem.Spec PyProof.Rows
section
variable{prog:Program}{w:World}{A:Around}{E:Value->Shared->Prop}{R:Result->Shared->Prop}{s:Shared}
noncomputable def ku(elt:Expr)(gens:List Comprehension)(scope:Scope)(pos:Pos)(d:Nat)(acc:Value)(env:Env):Sem Unit:=
 match gens[d+1]? with
 |some g'=>do
  let x ← eval g'.iter env
  standAt g'.iter.pos
  let x ← if g'.is_async != 0 then foldedIterable g'.iter x else foldedSetIterable g'.iter env x
  let _ ← runOwn (.compStart (.ListComp elt gens scope pos) (d+1) (← holding [x] (if g'.is_async != 0 then asyncIter x else pyIter x)) acc env) env
 |none=>do let _ ← call (.builtin "list.append") [acc,←eval elt env]
theorem xf{elt target iter:Expr}{gens:List Comprehension}{ifs:List Expr}{scope:Scope}{pos:Pos}{d:Nat}{it acc:Value}{env:Env}(I:Nat->Shared->Prop)(hg:gens[d]?=some ⟨target,iter,ifs,0⟩)(ha:∀g',gens[d+1]?=some g'->g'.is_async=0)
  (turn:∀n s,I n s->wpAny (model prog w) A (pyNext it) (fun r s₁=>match r with
   |none=>R (.ok .next) s₁
   | some v=>wpAny (model prog w) A (letOwnedTupleGo target it v) (fun _ s₁'=>wpAny (model prog w) A (assign target env v) (fun _ s₂ =>
     wpAny (model prog w) A (forIn ifs true fun c r=>if r=true then do let ok ← isTrue c env (eval c env);pure (ForInStep.yield ok) else pure (ForInStep.yield r)) (fun ok s₃=>
      if ok=true then wpAny (model prog w) A (ku elt gens scope pos d acc env) (fun _ s₅=>∃m,m<n/\I m s₅) (fun _ _=>False) s₃
      else ∃m,m<n/\I m s₃) (fun _ _=>False) s₂) (fun _ _=>False) s₁') (fun _ _=>False) s₁) (fun _ _=>False) s)
  (n:Nat) (h:I n s) :
  codeAny (model prog w) A (.compLoop (.ListComp elt gens scope pos) d it acc env) R s:=by
 refine codeAny_loop rfl I (fun n s hI=>?_) n h;show wpAny _ A ((compTurn (.ListComp elt gens scope pos) d it acc env).onRaise (fun x=>do noteFrame x env;theTreesLotGoes x)) _ _ s
 refine wpAny_noted ?_;unfold compTurn;simp only[hg];refine wpAny_bind (wpAny_standAt (wpAny_bind (wpAny_mono (turn n s hI) (fun r s₁ h₁=>?_) fun _ _ x=>x.elim)))
 cases r with
 |none=>exact wpAny_pure h₁
 |some v=>
  refine wpAny_bind (wpAny_mono h₁ (fun _ s₁' h₁'=>?_) fun _ _ x=>x.elim);refine wpAny_bind (wpAny_mono h₁' (fun _ s₂ h₂=>wpAny_bind (wpAny_mono h₂ (fun ok s₃ h₃=>?_) fun _ _ x=>x.elim)) fun _ _ x=>x.elim)
  cases ok with
  |false=>exact wpAny_pure ⟨rfl,h₃⟩
  |true=>
   have h₃':wpAny (model prog w) A (ku elt gens scope pos d acc env) (fun _ s₅=>∃m,m<n/\I m s₅) (fun _ _=>False) s₃:=h₃;unfold ku at h₃';rw[if_pos rfl]
   cases hd:gens[d+1]? with
   |none=>
    rw[hd] at h₃';exact wpAny_bind (wpAny_mono h₃' (fun _ s₅ h₅=>wpAny_pure ⟨rfl,h₅⟩) fun _ _ x=>x.elim)
   |some g'=>
    rw[hd] at h₃';have h0:=ha g' hd;have e0:(g'.is_async != 0)=false:=by rw[h0];rfl
    dsimp only at h₃' ⊢;simp only[e0,Bool.false_eq_true,if_false] at h₃' ⊢;intro Γ p hΓ;have q:=h₃' Γ p hΓ;simp only[Sem.wp_bind'] at q ⊢;refine Sem.wp_mono _ Γ _ (fun x p₁ s₄ q₁=>?_) (fun _ _ _ z=>z.elim) _ _ q;refine Sem.wp_mono _ Γ _ (fun _ p₂ s₄ q₂=>?_) (fun _ _ _ z=>z.elim) _ _ q₁;refine Sem.wp_mono _ Γ _ (fun x p₂ s₄ q₂=>?_) (fun _ _ _ z=>z.elim) _ _ q₂;refine Sem.wp_mono _ Γ _ (fun x p₂ s₄ q₂=>?_) (fun _ _ _ z=>z.elim) _ _ q₂
    refine Sem.wp_mono _ Γ _ (fun x p₂ s₄ q₂=>?_) (fun _ _ _ z=>z.elim) _ _ q₂;exact⟨rfl,q₂⟩
end
section
variable{prog:Program}{w:World}{A:Around}{E:Value->Shared->Prop}{R:Result->Shared->Prop}{s:Shared}
theorem nD{elt target iter:Expr}{gens:List Comprehension}{ifs:List Expr}{scope:Scope}{pos:Pos}{d:Nat}{it acc:Value}{env:Env}(hg:gens[d]?=some ⟨target,iter,ifs,0⟩)(h0:codeAny (model prog w) A (.compLoop (.ListComp elt gens scope pos) d it acc env) R s)(h:wpAny (model prog w) A (pyIter it) (fun it' s'=>codeAny (model prog w) A (.compLoop (.ListComp elt gens scope pos) d it' acc env) R s') (fun _ _=>False) s):
  codeAny (model prog w) A (.compStart (.ListComp elt gens scope pos) d it acc env) R s:=by
 refine codeAny_of_tree ?_;show wpAny _ _ ((compStart (.ListComp elt gens scope pos) d it acc env).onRaise (fun x=>do noteFrame x env;standAt theWindowsPlace)) _ _ s
 refine wpAny_notedAt ?_;unfold compStart;have hcl:clausesOf (.ListComp elt gens scope pos)=gens:=rfl;simp only[hcl,hg,Option.elim];refine wpAny_ite ?_;rw[if_neg (by decide)]
 refine wpAny_bind (wpAny_askSetting (wpAny_ite ?_));split
 ·first
   |exact wpAny_bind (wpAny_pure (wpAny_pure (And.intro rfl h0)))
   |exact wpAny_pure (And.intro rfl h0)
 ·exact wpAny_bind (wpAny_rule (wpAny_bind (wpAny_standAt (wpAny_bind (wpAny_mono h (fun it' s' h'=>wpAny_pure (And.intro rfl h')) fun _ _ x=>x.elim)))))
end
noncomputable abbrev TL:=Addr->St->Hp->(St->Hp->Prop)->Prop
noncomputable def PL(X:Cx)(elt:Expr)(gens:List Comprehension)(scope:Scope)(pos:Pos)(d:Nat)(t:TL):Prop:=
 ∀(pins:List (Addr×Obj)) (s:Shared) (σ:St) (H:Hp) (acc:Addr) (K:St->Hp->Prop),Inv X pins σ H s->t acc σ H K ->
  wpAny (model X.prog X.w) X.A (ku elt gens scope pos d (.ref acc) X.env) (fun _ s'=>∃σ' H',Inv X pins σ' H' s'/\K σ' H') (fun _ _=>False) s
noncomputable def PTs(X:Cx)(ifs:List Expr)(t:TT):Prop:=
 ∀(pins:List (Addr×Obj)) (s:Shared) (σ:St) (H:Hp) (Q:Bool->Hp->Prop),Inv X pins σ H s->t σ H Q ->
  wpAny (model X.prog X.w) X.A (forIn ifs true fun c r=>if r=true then do let ok ← isTrue c X.env (eval c X.env);pure (ForInStep.yield ok) else pure (ForInStep.yield r)) (TP X pins σ Q) X.xe s
noncomputable def A7:TT:=fun _ H Q=>Q true H
noncomputable def Jc(te:TE):TL:=fun acc σ H K=>te σ H fun y H1=>∃xs,H1 acc=some (.lst xs)/\xs.length<sizeLine/\K σ (upd H1 acc (.lst (xs++[y])))
noncomputable def CI(J:It)(g:TG)(tc:TT)(l:TL):TL:=fun acc σ H K=>∃W:Nat->Nat->St->Hp->Prop,(∃m,W 0 m σ H)/\∀i m σ H,W i m σ H ->
 (J.stop i H/\K σ H)\/(J.go i H/\∀x H',J.yld i H x H'->g x σ H' fun σ2 H2=>tc σ2 H2 fun b H3=>
  if b=true then l acc σ2 H3 (fun σ3 H4=>∃m',m'<m/\W (i+1) m' σ3 H4) else ∃m',m'<m/\W (i+1) m' σ2 H3)
noncomputable def LV(wi:TI)(g:TG)(tc:TT)(l:TL):TL:=fun acc σ H K=>wi σ H fun J H1=>CI J g tc l acc σ H1 K
section
variable{X:Cx}{elt:Expr}{gens:List Comprehension}{scope:Scope}{pos:Pos}{d:Nat}{te:TE}{l:TL}{tg iter:Expr}{ifs:List Expr}{wi:TI}{g:TG}{tc:TT}
theorem dU:PTs X [] A7:=fun pins s σ H Q I h=>wpAny_tests_nil ⟨H,I,h⟩
theorem gH{c:Expr}(hc:PT X c tc):PTs X [c] tc:=fun pins s σ H Q I h=>wpAny_tests_one (hc pins s σ H Q I h)
theorem bM(hx:X.xe=fun _ _=>False)(hd:gens[d+1]?=none)(he:PE X elt te):PL X elt gens scope pos d (Jc te):=by
 intro pins s σ H acc K I h;unfold ku;rw[hd];have he':=he pins s σ H _ I h;rw[hx] at he';refine wpAny_bind (thn he' fun u s1 ⟨y,H1,I1,r1,xs,e1,z1,k1⟩=>?_);have ha:=bf pins s1 σ H1 (.ref acc) [y] (.ref acc) [u] (fun v H2=>v=.non/\H2=upd H1 acc (.lst (xs++[y]))) I1 rfl (.cons r1 .nil) ⟨acc,xs,y,rfl,rfl,e1,z1,rfl,rfl⟩;rw[hx] at ha;refine wpAny_bind (thn ha fun v s2 ⟨v',H2,I2,r2,e2,e3⟩=>wpAny_pure ⟨σ,H2,I2,by rw[e3];exact k1⟩)
theorem vi(hx:X.xe=fun _ _=>False)(hc:X.calm=true)(hd:gens[d]?=some ⟨tg,iter,ifs,0⟩)(ha:∀g',gens[d+1]?=some g'->g'.is_async=0)(hg:PG X tg g)(ht:PTs X ifs tc)(hl:PL X elt gens scope pos d l){pins:List (Addr×Obj)}{s:Shared}{σ:St}{H:Hp}{acc it:Addr}{fp:List Addr}{tn:Nat->Heap->Prop}{J:It}{K:St->Hp->Prop}{R:Result->Shared->Prop}(I:Inv X pins σ H s)(T:yB X.prog X.w X.K tg J fp it tn)(st:tn 0 s.heap)(f2:∀b∈fp,ni X pins H b)(h:CI J g tc l acc σ H K)(hR:∀σ' H' s',Inv X pins σ' H' s'->K σ' H'->R (.ok .next) s'):
  codeAny (model X.prog X.w) X.A (.compLoop (.ListComp elt gens scope pos) d (.ref it) (.ref acc) X.env) R s:=by
 obtain⟨W,⟨m0,w0⟩,turn⟩:=h;have stat:∀ {H':Hp},(∀b∈fp,H' b=none)->∀b∈fp,ni X pins H' b:=fun hn b hb=>⟨hn b hb,(f2 b hb).2⟩;refine xf (fun n s'=>∃i σ' H',Inv X pins σ' H' s'/\tn i s'.heap/\(∀b∈fp,H' b=none)/\W i n σ' H') hd ha ?_ m0 ⟨0,σ,H,I,st,fun b hb=>(f2 b hb).1,w0⟩;rintro n s3 ⟨i,σ3,H3,I3,st3,fr3,w3⟩;rcases turn i n σ3 H3 w3 with⟨stop,qn⟩|⟨go,step⟩
 ·refine thn (T.done X rfl rfl rfl hc i pins s3 σ3 H3 _ I3 (stat fr3) st3 stop) fun r s4 ⟨hr,I4⟩=>?_
  subst hr;exact hR σ3 H3 s4 I4 qn
 ·refine thn (T.item X rfl rfl rfl hc i pins s3 σ3 H3 _ I3 (stat fr3) st3 go) fun r s4 ⟨u,hr,h4⟩=>?_
  subst hr;refine thn h4 fun _ s5 ⟨x,H5,I5,r5,y5,st5,fr5⟩=>?_;have I5':=I5.pinned (stat fr5) (T.obj _ _ st5)
  have again:∀ {σ7:St} {H7:Hp} {s7:Shared} {m':Nat},Inv X (pins++tj fp s5.heap) σ7 H7 s7->m'<n->W (i+1) m' σ7 H7->∃m,m<n/\∃i σ' H',Inv X pins σ' H' s7/\tn i s7.heap/\(∀b∈fp,H' b=none)/\W i m σ' H':=fun {σ7 H7 s7 m'} I7 hm w7=>by
   refine⟨m',hm,i+1,σ7,H7,I7.unpinned,T.keep _ _ _ st5 fun b hb o e=>(I7.pin (b,o) (List.mem_append_right _ (List.mem_append_right _ (kL hb e)))).1,fun b hb=>?_,w7⟩;obtain⟨o,e,d⟩:=T.obj _ _ st5 b hb;exact(I7.pin (b,o) (List.mem_append_right _ (List.mem_append_right _ (kL hb e)))).2.1
  have hg':=hg _ s5 σ3 H5 x u _ I5' r5 (step x H5 y5);rw[hx] at hg';refine thn hg' fun _ s6 ⟨σ6,H6,I6,q6⟩=>?_;have ht':=ht _ s6 σ6 H6 _ I6 q6;rw[hx] at ht';refine thn ht' fun ok s7 ⟨H7,I7,q7⟩=>?_
  cases ok with
  |false=>
   rw[if_neg Bool.false_ne_true] at q7 ⊢;obtain⟨m',hm,w7⟩:=q7;exact again I7 hm w7
  |true=>
   rw[if_pos rfl] at q7 ⊢;refine thn (hl _ s7 σ6 H7 acc _ I7 q7) fun _ s8 ⟨σ8,H8,I8,m',hm,w8⟩=>?_;exact again I8 hm w8
theorem EG(hx:X.xe=fun _ _=>False)(hc:X.calm=true)(hd:gens[d+1]?=some ⟨tg,iter,ifs,0⟩)(ha:∀g',gens[d+2]?=some g'->g'.is_async=0)(hi:PI X tg iter wi)(hg:PG X tg g)(ht:PTs X ifs tc)(hl:PL X elt gens scope pos (d+1) l)(hs:∀x,foldedSetIterable iter X.env x=pure x:=by intro _;rfl):PL X elt gens scope pos d (LV wi g tc l):=by
 intro pins s σ H acc K I h;unfold ku;rw[hd];dsimp only;have e0:((0:Int) != 0)=false:=by decide
 simp only[show (((⟨tg,iter,ifs,0⟩:Comprehension).is_async != 0)=false) from rfl,Bool.false_eq_true,if_false]
 have hi':=hi pins s σ H _ I h;rw[hx] at hi';refine wpAny_bind (thn hi' fun v s1 h1=>wpAny_bind (wpAny_standAt (wpAny_bind (wpAny_of_eq (hs v) ?_))));refine wpAny_bind (wpAny_holding (thn h1 fun itv s2 h2=>?_));obtain⟨it,fp,tn,J,H2,e,I2,T,st2,f2,q⟩:=h2;subst e
 have loop:codeAny (model X.prog X.w) X.A (.compLoop (.ListComp elt gens scope pos) (d+1) (.ref it) (.ref acc) X.env) (fun r s'=>match r with|.ok f=>wpAny (model X.prog X.w) X.A (pure ():Sem Unit) (fun _ s'=>∃σ' H',Inv X pins σ' H' s'/\K σ' H') (fun _ _=>False) s'|.error e=>cameBackBy (model X.prog X.w) X.A X.env (fun _ _=>False) e s') s2:=
  vi hx hc hd ha hg ht hl I2 T st2 f2 q fun σ' H' s' I' k'=>wpAny_pure ⟨σ',H',I',k'⟩
 exact wpAny_bind (wpAny_runOwn (nD hd loop (T.self X.A 0 s2 _ _ st2 loop)))
end
noncomputable def lq(env:Env):List (Str×NameKind)->List (Str×Addr)->List (Str×Addr)
 | [],acc=>acc
 |(n,k)::r,acc=>if k == .free then lq env r ((n,(env.cells.lookup n).getD 0)::acc) else lq env r acc
theorem zI{scope:Scope}{env:Env}(h:∀y∈scope.names,y.2=.free->∃c,env.cells.lookup y.1=some c):closureFor scope env=pure (lq env scope.names []):=by
 have gen:∀(names:List (Str×NameKind)) (acc:List (Str×Addr)),(∀y∈names,y.2=.free->∃c,env.cells.lookup y.1=some c) ->
   (forIn names acc fun(x:Str×NameKind) (r:List (Str×Addr))=>(if (x.2 == NameKind.free)=true then do let a ← cellOf env x.1;pure (ForInStep.yield ((x.1,a)::r)) else pure (ForInStep.yield r):Sem _))=pure (lq env names acc):=by
  intro names
  induction names with
  |nil=>intro acc _;rfl
  |cons y r ih=>
   intro acc hy;obtain⟨n,k⟩:=y;rw[List.forIn_cons];unfold lq
   cases hk:k == NameKind.free with
   |true=>
    obtain⟨c,hc⟩:=hy (n,k) (List.mem_cons_self ..) (by simpa using hk)
    simp only[hk,if_true,cellOf,hc,Option.getD_some];exact ih _ fun y hy'=>hy y (List.mem_cons_of_mem _ hy')
   |false=>
    simp only[hk,Bool.false_eq_true,if_false];exact ih _ fun y hy'=>hy y (List.mem_cons_of_mem _ hy')
 have:=gen scope.names [] h;unfold closureFor;show ((forIn scope.names ([]:List (Str×Addr)) fun(x:Str×NameKind) (r:List (Str×Addr))=>(if (x.2 == NameKind.free)=true then do let a ← cellOf env x.1;pure (ForInStep.yield ((x.1,a)::r)) else pure (ForInStep.yield r):Sem _)) >>= fun z=>pure z)=_
 rw[this];rfl
theorem ki{env:Env}:∀ {names:List (Str×NameKind)} {acc:List (Str×Addr)} {n:Str} {c:Addr},(n,c)∈lq env names acc->(n,c)∈acc\/((n,NameKind.free)∈names/\c=(env.cells.lookup n).getD 0)
 | [],_,_,_,h=>.inl h
 |(m,k)::r,acc,n,c,h=>by
  unfold lq at h;split at h
  ·rename_i hk
   rcases ki h with h|⟨h1,h2⟩
   ·rcases List.mem_cons.mp h with e|e
    ·cases e
     have:k=.free:=by simpa using hk
     subst this;exact .inr ⟨List.mem_cons_self ..,rfl⟩
    ·exact .inl e
   ·exact .inr ⟨List.mem_cons_of_mem _ h1,h2⟩
  ·rcases ki h with h|⟨h1,h2⟩
   ·exact .inl h
   ·exact .inr ⟨List.mem_cons_of_mem _ h1,h2⟩
theorem oY{env:Env}:∀ {names:List (Str×NameKind)} {acc:List (Str×Addr)} {n:Str},((n,NameKind.free)∈names\/∃c,(n,c)∈acc)->∃c,(n,c)∈lq env names acc
 | [],_,_,h=>by
  rcases h with h|h
  ·cases h
  ·exact h
 |(m,k)::r,acc,n,h=>by
  unfold lq;split
  ·rename_i hk
   apply oY;rcases h with h|⟨c,h⟩
   ·rcases List.mem_cons.mp h with e|e
    ·cases e;exact .inr ⟨_,List.mem_cons_self ..⟩
    ·exact .inl e
   ·exact .inr ⟨c,List.mem_cons_of_mem _ h⟩
  ·rename_i hk
   apply oY;rcases h with h|h
   ·rcases List.mem_cons.mp h with e|e
    ·cases e;simp at hk
    ·exact .inl e
   ·exact .inr h
theorem jN:∀ {names:List (Str×NameKind)} {h:Heap} {acc:List (Str×Addr)} {n:Str} {c:Addr},(n,c)∈cellsFrom h.objs.size names acc ->
  (n,c)∈acc\/((n,NameKind.cell)∈names/\h.objs.size<=c/\(pushCells h names).IsCell c none)
 | [],_,_,_,_,m=>.inl m
 |(x,k)::r,h,acc,n,c,m=>by
  unfold cellsFrom at m;unfold pushCells;split at m
  ·rename_i hk
   rw[if_pos hk];have sz:(h.push { cls:=.type "cell",data:=.cell none }).objs.size=h.objs.size+1:=Heap.size_push ..;rw[←sz] at m
   rcases jN m with m|⟨m1,m2,m3⟩
   ·rcases List.mem_cons.mp m with e|e
    ·cases e
     have:k=.cell:=by simpa using hk
     subst this;exact .inr ⟨List.mem_cons_self ..,Nat.le_refl _,⟨_,pushCells_keeps _ _ _ _ (Heap.get?_push_size _ rfl),rfl⟩⟩
    ·exact .inl e
   ·exact .inr ⟨List.mem_cons_of_mem _ m1,by omega,m3⟩
  ·rename_i hk
   rw[if_neg hk];rcases jN m with m|⟨m1,m2,m3⟩
   ·exact .inl m
   ·exact .inr ⟨List.mem_cons_of_mem _ m1,m2,m3⟩
theorem eQ:∀ {names:List (Str×NameKind)} {k:Nat} {acc:List (Str×Addr)} {n:Str},((n,NameKind.cell)∈names\/∃c,(n,c)∈acc)->∃c,(n,c)∈cellsFrom k names acc
 | [],_,_,_,h=>by
  rcases h with h|h
  ·cases h
  ·exact h
 |(m,k)::r,j,acc,n,h=>by
  unfold cellsFrom;split
  ·rename_i hk
   apply eQ;rcases h with h|⟨c,h⟩
   ·rcases List.mem_cons.mp h with e|e
    ·cases e;exact .inr ⟨_,List.mem_cons_self ..⟩
    ·exact .inl e
   ·exact .inr ⟨c,List.mem_cons_of_mem _ h⟩
  ·rename_i hk
   apply eQ;rcases h with h|h
   ·rcases List.mem_cons.mp h with e|e
    ·cases e;simp at hk
    ·exact .inl e
   ·exact .inr h
theorem jO:∀ {names:List (Str×NameKind)} {k:Nat} {acc:List (Str×Addr)},(∀n c,(n,c)∈acc->c<k)->(∀n m c,(n,c)∈acc->(m,c)∈acc->n=m) ->
  ∀n m c,(n,c)∈cellsFrom k names acc->(m,c)∈cellsFrom k names acc->n=m
 | [],_,_,_,h2,n,m,c,a,b=>h2 n m c a b
 |(x,kd)::r,k,acc,h1,h2,n,m,c,a,b=>by
  unfold cellsFrom at a b;split at a
  ·rename_i hk
   rw[if_pos hk] at b;refine jO (k:=k+1) ?_ ?_ n m c a b
   ·intro n c h
    rcases List.mem_cons.mp h with e|e
    ·cases e;exact Nat.lt_succ_self _
    ·exact Nat.lt_succ_of_lt (h1 n c e)
   ·intro n m c h h'
    rcases List.mem_cons.mp h with e|e<;>rcases List.mem_cons.mp h' with e'|e'
    ·cases e;cases e';rfl
    ·cases e;exact absurd (h1 _ _ e') (Nat.lt_irrefl _)
    ·cases e';exact absurd (h1 _ _ e) (Nat.lt_irrefl _)
    ·exact h2 n m c e e'
  ·rename_i hk
   rw[if_neg hk] at b;exact jO h1 h2 n m c a b
theorem eY{α:Type}:∀ {l:List (Str×α)} {n:Str},(∃c,(n,c)∈l)->∃c,l.lookup n=some c
 | [],_,⟨_,h⟩=>by cases h
 |(k,v)::r,n,⟨c,h⟩=>by
  rw[List.lookup_cons]
  cases hb:n == k with
  |true=>exact⟨v,rfl⟩
  |false=>
   rcases List.mem_cons.mp h with e|e
   ·cases e;simp at hb
   ·exact eY ⟨c,e⟩
noncomputable def cX(scope osc:Scope)(N:List Str)(src:List (Option Nat))(ON:List Str):Bool:=
 (scope.kind == .function) && (osc.kind == .function) && decide (src.length=N.length) &&
 (scope.names.all fun y=>(scope.names.lookup y.1 == some y.2) && (if y.2 == .free then osc.names.lookup y.1 == some .cell else true)) &&
 ((N.zip src).all fun p=>match p.2 with|none=>true|some j=>(ON[j]? == some p.1) && (scope.names.lookup p.1 == some .free))
noncomputable def y8(src:List (Option Nat))(σ:St):St:=src.map fun o=>match o with|none=>none|some j=>(σ[j]?).join
noncomputable def Cx.blk(X:Cx)(scope:Scope)(N:List Str)(cs:List (Str×Addr))(C:Addr)(s:Shared)(H:Hp)(ex:List Addr)(pn:List (Addr×Obj)):Cx:=
 { X with N:=N,s₀:=s,H₀:=H,env:=compEnvC scope cs C X.env,outer:=X.stack,stack:=X.stack,ex:=ex,fn:=fun x=>decide (scope.names.lookup x=some .cell),pn:=pn,xe:=fun _ _=>False }
section
variable{X:Cx}{pins:List (Addr×Obj)}{σ:St}{H:Hp}{s:Shared}{scope:Scope}{N:List Str}{src:List (Option Nat)}
theorem vq{osc:Scope}{ON:List Str}(h:cX scope osc N src ON=true):scope.kind=.function/\osc.kind=.function/\src.length=N.length /\
  (∀y∈scope.names,scope.names.lookup y.1=some y.2)/\(∀y∈scope.names,y.2=.free->osc.names.lookup y.1=some .cell) /\
  (∀(i:Nat)(x:Str)(j:Nat),N[i]?=some x->src[i]?=some (some j)->ON[j]?=some x/\scope.names.lookup x=some .free):=by
 unfold cX at h;simp only[Bool.and_eq_true,decide_eq_true_eq,beq_iff_eq,List.all_eq_true] at h;obtain⟨⟨⟨⟨h1,h2⟩,h3⟩,h4⟩,h5⟩:=h;refine⟨h1,h2,h3,fun y hy=>(h4 y hy).1,fun y hy e=>?_,fun i x j e1 e2=>?_⟩
 ·have:=(h4 y hy).2
  rw[e] at this;simpa using this
 ·have hm:(x,some j)∈N.zip src:=by
   apply List.mem_of_getElem? (i:=i);rw[List.getElem?_zip_eq_some];exact⟨e1,e2⟩
  have:=h5 _ hm;simpa using this
theorem mt{env:Env}(hk:env.scope.kind=.function):∀ {names:List (Str×NameKind)} {x:Str} {k:NameKind},names.lookup x=some k->(k=.free->env.kindOf x=some .cell) ->
  (names.map fun(n,k)=>if (k == NameKind.free && env.scope.kind == .function && env.kindOf n == some .cell) then (n,NameKind.cell) else (n,k)).lookup x=some (if k=.free then .cell else k)
 | [],_,_,h,_=>by simp at h
 |(n,k')::r,x,k,h,hf=>by
  have ih:=@mt env hk r x k;show List.lookup x ((if (k' == NameKind.free && env.scope.kind == .function && env.kindOf n == some .cell)=true then (n,NameKind.cell) else (n,k'))::_)=_
  cases hx:x == n with
  |true=>
   simp only[List.lookup_cons,hx] at h;have e:x=n:=by simpa using hx
   subst e;cases h;by_cases hfr:k'=.free
   ·have:=hf hfr
    subst hfr;rw[if_pos (by rw[this,hk];rfl)]
    simp[List.lookup_cons]
   ·have hfr':(k' == NameKind.free)=false:=by simpa using hfr
    rw[if_neg (by rw[hfr'];simp),if_neg hfr]
    simp[List.lookup_cons]
  |false=>
   simp only[List.lookup_cons,hx] at h;by_cases hc:(k' == NameKind.free && env.scope.kind == .function && env.kindOf n == some .cell)=true
   ·rw[if_pos hc];simp only[List.lookup_cons,hx];exact ih h hf
   ·rw[if_neg hc];simp only[List.lookup_cons,hx];exact ih h hf
theorem xP{env:Env}{names:List (Str×NameKind)}{x:Str}(h:(names.map fun(n,k)=>if (k == NameKind.free && env.scope.kind == .function && env.kindOf n == some .cell) then (n,NameKind.cell) else (n,k)).lookup x=some .cell):
  (x,NameKind.cell)∈names\/(x,NameKind.free)∈names:=by
 have hm:=mem_of_lookup h;obtain⟨⟨n,k⟩,hy,e⟩:=List.mem_map.mp hm;dsimp only at e;split at e
 ·rename_i hc
  cases e;simp only[Bool.and_eq_true,beq_iff_eq] at hc;rw[hc.1.1] at hy;exact .inr hy
 ·cases e;exact .inl hy
theorem w6{env:Env}{names:List (Str×NameKind)}{x:Str}(hk:env.scope.kind=.function)(hfr:∀y∈names,y.2=.free->env.kindOf y.1=some .cell)(h:(names.map fun(n,k)=>if (k == NameKind.free && env.scope.kind == .function && env.kindOf n == some .cell) then (n,NameKind.cell) else (n,k)).lookup x=some .free):False:=by
 have hm:=mem_of_lookup h;obtain⟨⟨n,k⟩,hy,e⟩:=List.mem_map.mp hm;dsimp only at e;split at e
 ·cases e
 ·rename_i hc
  cases e;have:=hfr _ hy rfl;exact hc (by rw[this,hk];rfl)
theorem Do{fp:List Addr}(I:Inv X pins σ H s)(hb:cX scope X.env.scope N src X.N=true)(f2:∀b∈fp,ni X pins H b)(fo:∀b∈fp,∃o,s.heap.get? b=some o){t:Nat}:
  Inv (X.blk scope N (cellsFrom (s.heap.objs.size+1) scope.names (lq X.env scope.names [])) s.heap.objs.size s H fp (X.pn++pins)) [] (y8 src σ) H { s with heap:=pushCells (s.heap.push { cls:=.type "dict",data:=.dict #[] }) scope.names,toks:=t }:=by
 obtain⟨hk,hok,hlen,hnd,hfr,hsrc⟩:=vq hb;have keep:∀b o,s.heap.get? b=some o->(pushCells (s.heap.push { cls:=.type "dict",data:=.dict #[] }) scope.names).get? b=some o:=fun b o e=>pushCells_keeps _ _ b o (Heap.get?_push_of_some _ e);have hfr':∀y∈scope.names,y.2=.free->X.env.kindOf y.1=some .cell:=hfr;have sz:(s.heap.push { cls:=.type "dict",data:=.dict #[] }).objs.size=s.heap.objs.size+1:=Heap.size_push ..
 have cell:∀n c,(n,c)∈cellsFrom (s.heap.objs.size+1) scope.names (lq X.env scope.names []) ->
   (X.env.cells.lookup n=some c/\(n,NameKind.free)∈scope.names)\/((n,NameKind.cell)∈scope.names/\s.heap.objs.size<c/\(pushCells (s.heap.push { cls:=.type "dict",data:=.dict #[] }) scope.names).IsCell c none):=by
  intro n c h;rw[←sz] at h
  rcases jN h with h|⟨h1,h2,h3⟩
  ·rcases ki h with h|⟨h1,h2⟩
   ·cases h
   ·obtain⟨c',hc'⟩:=I.ok.has n (.inl (hfr' _ h1 rfl))
    rw[hc'] at h2;exact .inl ⟨by rw[hc',h2];rfl,h1⟩
  ·exact .inr ⟨h1,by rw[sz] at h2;exact h2,h3⟩
 have oldc:∀n c,X.env.cells.lookup n=some c->c<s.heap.objs.size:=fun n c e=>by
  obtain⟨v,o,ho,_⟩:=I.cell n c e;exact Heap.lt_size ho
 have hH:H s.heap.objs.size=none:=I.hok.fresh (Nat.le_refl _)
 have ok:(X.blk scope N (cellsFrom (s.heap.objs.size+1) scope.names (lq X.env scope.names [])) s.heap.objs.size s H fp (X.pn++pins)).Ok:={
  mod:=I.ok.mod
  kind:=hk
  glob:=I.ok.glob
  blt:=I.ok.blt
  above:=Nat.le_refl _
  inj:=fun x y c a b=>by
   refine jO (k:=s.heap.objs.size+1) (acc:=lq X.env scope.names []) ?_ ?_ x y c (mem_of_lookup a) (mem_of_lookup b)
   ·intro n c h
    rcases ki h with h|⟨h1,h2⟩
    ·cases h
    ·obtain⟨c',hc'⟩:=I.ok.has n (.inl (hfr' _ h1 rfl))
     rw[hc'] at h2;rw[h2];exact Nat.lt_succ_of_lt (oldc n c' hc')
   ·intro n m c h h'
    rcases ki h with h|⟨h1,h2⟩
    ·cases h
    ·rcases ki h' with h'|⟨h1',h2'⟩
     ·cases h'
     ·obtain⟨c1,hc1⟩:=I.ok.has n (.inl (hfr' _ h1 rfl))
      obtain⟨c2,hc2⟩:=I.ok.has m (.inl (hfr' _ h1' rfl));rw[hc1] at h2;rw[hc2] at h2';have e1:c=c1:=h2;have e2:c=c2:=h2';exact I.ok.inj n m c (by rw[e1];exact hc1) (by rw[e2];exact hc2)
  has:=fun x h=>by
   have hm:(x,NameKind.cell)∈scope.names\/(x,NameKind.free)∈scope.names:=by
    rcases h with h|h
    ·exact xP (env:=X.env) h
    ·exact(w6 (env:=X.env) hok hfr' h).elim
   have:∃c,(x,c)∈cellsFrom (s.heap.objs.size+1) scope.names (lq X.env scope.names []):=by
    rcases hm with hm|hm
    ·exact eQ (.inl hm)
    ·exact eQ (.inr (oY (.inl hm)))
   exact eY this
  cab:=fun x c hf e=>by
   have hf':scope.names.lookup x=some .cell:=of_decide_eq_true hf;rcases cell x c (mem_of_lookup e) with⟨_,h⟩|⟨_,h,_⟩
   ·have:=hnd _ h
    rw[hf'] at this;cases this
   ·exact Nat.le_of_lt h
  hd:=I.ok.hd
  frames:=I.ok.frames
  stk:=.inl rfl
  exf:=fun b hb=>by
   obtain⟨o,ho⟩:=fo b hb;have hlt:=Heap.lt_size ho;refine⟨Nat.ne_of_lt hlt,fun x c e=>?_⟩;rcases cell x c (mem_of_lookup e) with⟨h,_⟩|⟨_,h,_⟩
   ·exact(f2 b hb).2.2.2.2.1 x c h
   ·exact Nat.ne_of_gt (Nat.lt_trans hlt h)
  bs:=I.bs
  bsz:=Nat.le_trans I.ok.bsz I.sz
  noex:=fun b o e hb=>by
   rcases(f2 b hb).2.2.2.1 with h|h
   ·exact I.ok.noex b o e h
   ·exact absurd (Nat.lt_of_lt_of_le (Heap.lt_size e) (Nat.le_trans I.ok.bsz h)) (Nat.lt_irrefl _)
  exfs:=fun b hb hm=>by
   rcases List.mem_cons.mp (I.NB b hm) with h|h
   ·exact(f2 b hb).2.1 h
   ·exact(f2 b hb).2.2.1 h
  funs:=I.stack
  frf:=I.NI
  tt:=I.ok.tt.mono I.base.tbls }
 refine⟨ok,rfl,I.bare,Un.kept keep,⟨fun _=>none,(Heap.Ns.new s.heap (.type "dict")).keeps (pushCells_keeps _ _),fun i x v e1 e2 e3=>?_⟩,fun x c e=>?_,hH,fun x c e=>?_,fun p hp=>?_,I.hok.kept keep,?_⟩
 ·-- a captured name
  have e2':(src.map fun o=>match o with|none=>none|some j=>(σ[j]?).join)[i]?=some (some v):=e2
  rw[List.getElem?_map] at e2'
  cases hs:src[i]? with
  |none=>rw[hs] at e2';cases e2'
  |some o=>
   rw[hs] at e2'
   cases o with
   |none=>cases e2'
   |some j=>
    have ej:(σ[j]?).join=some v:=by simpa using e2'
    have ej':σ[j]?=some (some v):=by
     cases hq:σ[j]? with
     |none=>rw[hq] at ej;cases ej
     |some z=>rw[hq] at ej;simpa using ej
    obtain⟨n1,n2⟩:=hsrc i x j e1 hs;have hfree:X.env.kindOf x=some .cell:=hfr' (x,.free) (mem_of_lookup n2) rfl;obtain⟨m,hn,hl⟩:=I.loc;obtain⟨u,r,l⟩:=hl j x v n1 ej' (.inr (.inl hfree));refine⟨u,r,.inr ⟨.inl ?_,?_⟩⟩
    ·have:=mt (env:=X.env) hok n2 (fun _=>hfree)
     exact this
    ·rcases l with⟨h,_⟩|⟨_,c,hc,hcell⟩
     ·rw[hfree] at h;cases h
     ·have:∃c',(x,c')∈cellsFrom (s.heap.objs.size+1) scope.names (lq X.env scope.names []):=eQ (.inr (oY (.inl (mem_of_lookup n2))))
      obtain⟨c',hc'⟩:=eY this;refine⟨c',hc',?_⟩;rcases cell x c' (mem_of_lookup hc') with⟨h,_⟩|⟨h,_,_⟩
      ·rw[hc] at h
       cases h;obtain⟨oc,ho,hd⟩:=hcell;exact⟨oc,keep _ _ ho,hd⟩
      ·have:=hnd _ h
       rw[n2] at this;cases this
 ·rcases cell x c (mem_of_lookup e) with⟨h,_⟩|⟨_,_,h⟩
  ·obtain⟨v,o,ho,hd⟩:=I.cell x c h
   exact⟨v,o,keep _ _ ho,hd⟩
  ·exact⟨_,h⟩
 ·rcases cell x c (mem_of_lookup e) with⟨h,_⟩|⟨_,h,_⟩
  ·exact I.freeC x c h
  ·exact I.hok.fresh (Nat.le_of_lt h)
 ·rw[List.append_nil] at hp
  obtain⟨e,n,ne,nf,d⟩:=I.pin p hp;refine⟨keep _ _ e,n,Nat.ne_of_lt (Heap.lt_size e),fun hm=>?_,d⟩;rcases List.mem_cons.mp (I.NB _ hm) with h|h
  ·exact ne h
  ·exact nf h
 ·show (src.map _).length=N.length
  rw[List.length_map];exact hlen
theorem G0{fp:List Addr}{cs:List (Str×Addr)}{C:Addr}{σ':St}{H':Hp}{s':Shared}{pins':List (Addr×Obj)}(I:Inv X pins σ H s)(f2:∀b∈fp,ni X pins H b)(I':Inv (X.blk scope N cs C s H fp (X.pn++pins)) pins' σ' H' s'):Inv X pins σ H' s':=
 I.call' (ch:=fp) I'.os I'.base I'.hok I'.bare fun b hb=>⟨(f2 b hb).2.2.2.1,(f2 b hb).2.1,(f2 b hb).2.2.2.2.1,(f2 b hb).2.2.2.2.2⟩
theorem xH{C:Addr}{h':Heap}(I:Inv X pins σ H s)(hC:H C=none)(hL:C≠X.env.locals)(h1:X.s₀.heap.objs.size<=C)(h2:∀x c,X.env.cells.lookup x=some c->c≠C)(h3:∀p∈X.pn++pins,p.1≠C)(hs:Heap.SameBut C s.heap h'):Inv X pins σ H { s with heap:=h' }:=
 I.turned (t':=s.toks) (fun b o hb e=>(hs.2 b hb).trans e) hC hL (.inr h1) h2 h3
end
section
variable{M:Model}{A:Around}{E:Value->Shared->Prop}{s:Shared}
theorem xB{scope:Scope}{globals:Addr}{cl:List (Str×Addr)}{qual:Str}{env:Env}{Q:Env->Shared->Prop}(hQ:Q (newEnv scope s.heap.objs.size globals (cellsFrom (s.heap.objs.size+1) scope.names cl) qual none .none (some env) builtinsNs) { s with heap:=pushCells (s.heap.push { cls:=.type "dict",data:=.dict #[] }) scope.names }):
  wpAny M A (newFunctionEnv scope globals cl [] qual none .none (some env)) Q E s:=by
 simp only[newFunctionEnv,Option.isSome_some,if_true];refine wpAny_bind (wpAny_alloc ?_);refine wpAny_bind (wpAny_layCells _ (fun name kind cells=>by cases hkc:kind == NameKind.cell<;>simp[hkc]) _ _ _ _ ?_)
 rw[show ({ s with heap:=s.heap.push { cls:=.type "dict",data:=.dict #[] } }:Shared).heap.objs.size=s.heap.objs.size+1 from Heap.size_push ..]
 simp only[List.forIn_nil];exact wpAny_bind (wpAny_pure (wpAny_pure hQ))
end
section
variable{X:Cx}{elt tg iter:Expr}{ifs:List Expr}{bB:List Comprehension}{scope:Scope}{pos:Pos}{N:List Str}{src:List (Option Nat)}{wi:TI}{g:TG}{tc:TT}{l:TL}
noncomputable def x6(src:List (Option Nat))(wi:TI)(g:TG)(tc:TT)(l:TL):TE:=fun σ H Q=>wi σ H fun J H1=>∀acc,H1 acc=none->CI J g tc l acc (y8 src σ) (upd H1 acc (.lst [])) fun _ H'=>Q (.ref acc) H'
theorem xY{use:Option (Value->Sem Unit)}{pins:List (Addr×Obj)}{s:Shared}{σ:St}{H:Hp}{Q:Value->Shared->Prop}{Q':VK}(hc:X.calm=true)(hb:cX scope X.env.scope N src X.N=true)(ha:∀g',bB[0]?=some g'->g'.is_async=0)(hi:PI X tg iter wi)(hg:∀cs C s H ex pn,PG (X.blk scope N cs C s H ex pn) tg g)(ht:∀cs C s H ex pn,PTs (X.blk scope N cs C s H ex pn) ifs tc)(hl:∀cs C s H ex pn,PL (X.blk scope N cs C s H ex pn) elt (⟨tg,iter,ifs,0⟩::bB) scope pos 0 l)(hs:∀x,foldedSetIterable iter X.env x=pure x)(I:Inv X pins σ H s)(h:x6 src wi g tc l σ H Q')
  (hQ:∀(acc C:Addr)(H':Hp)(s':Shared)(m:Str->Option Value),Inv X pins σ H' s'->Q' (.ref acc) H'->s'.heap.Ns C m->H' C=none->C≠X.env.locals->X.s₀.heap.objs.size<=C->(∀x c,X.env.cells.lookup x=some c->c≠C)->(∀p∈X.pn++pins,p.1≠C) ->
   compPost (model X.prog X.w) X.A X.xe use Q (.ref acc) C (.ok .next) s') :
  wpAny (model X.prog X.w) X.A (comprehension (.ListComp elt (⟨tg,iter,ifs,0⟩::bB) scope pos) scope X.env (firstIterPos (⟨tg,iter,ifs,0⟩::bB) pos) (newList []) false (firstIter (⟨tg,iter,ifs,0⟩::bB) X.env) use) Q X.xe s:=by
 obtain⟨hk,hok,hlen,hnd,hfr,hsrc⟩:=vq hb;refine wpAny_comprehension_free (g:=⟨tg,iter,ifs,0⟩) (gs:=bB) rfl hs (zI fun y hy e=>I.ok.has y.1 (.inl (hfr y hy e))) hk (fun y hy e=>by have:=hnd y hy;rw[e] at this;exact this) ?_
 refine thn (hi pins s σ H _ I h) fun v s1 h1=>thn h1 fun itv s2 h2=>?_;obtain⟨it,fp,tn,J,H2,e,I2,T,st2,f2,q⟩:=h2;subst e;have hfresh:H2 s2.heap.objs.size=none:=I2.hok.fresh (Nat.le_refl _);refine wpAny_newObj_type (xB ?_);dsimp only;have old:∀b o,s2.heap.get? b=some o->(s2.heap.push { cls:=.type "list",dict:=none,data:=.seq ([]:List Value).toArray }).get? b=some o:=fun b o e=>Heap.get?_push_of_some _ e
 have I3:Inv X pins σ (upd H2 s2.heap.objs.size (.lst [])) { s2 with heap:=s2.heap.push { cls:=.type "list",dict:=none,data:=.seq ([]:List Value).toArray } }:=
  I2.lnew (its:=[]) (t':=s2.toks) .nil (by decide)
 have f3:∀b∈fp,ni X pins (upd H2 s2.heap.objs.size (.lst [])) b:=fun b hb=>by
  obtain⟨o,ho,_⟩:=T.obj _ _ st2 b hb;exact⟨by rw[aD (Nat.ne_of_lt (Heap.lt_size ho))];exact(f2 b hb).1,(f2 b hb).2⟩
 have fo3:∀b∈fp,∃o,({ s2 with heap:=s2.heap.push { cls:=.type "list",dict:=none,data:=.seq ([]:List Value).toArray } }:Shared).heap.get? b=some o:=fun b hb=>by
  obtain⟨o,ho,_⟩:=T.obj _ _ st2 b hb;exact⟨o,old b o ho⟩
 generalize hs3:({ s2 with heap:=s2.heap.push { cls:=.type "list",dict:=none,data:=.seq ([]:List Value).toArray } }:Shared)=s3 at I3 fo3 ⊢
 have st3:tn 0 s3.heap:=by
  rw[←hs3]
  exact T.keep _ _ _ st2 fun b _ o e=>old b o e
 have IB:=Do (t:=s3.toks) I3 hb f3 fo3;have stB:tn 0 (pushCells (s3.heap.push { cls:=.type "dict",data:=.dict #[] }) scope.names):=T.keep _ _ _ st3 fun b _ o e=>pushCells_keeps _ _ b o (Heap.get?_push_of_some _ e)
 have fB:∀b∈fp,ni (X.blk scope N (cellsFrom (s3.heap.objs.size+1) scope.names (lq X.env scope.names [])) s3.heap.objs.size s3 (upd H2 s2.heap.objs.size (.lst [])) fp (X.pn++pins)) [] (upd H2 s2.heap.objs.size (.lst [])) b:=fun b hb=>by
  obtain⟨n0,n1,n2,n3,n4,n5⟩:=f3 b hb;refine⟨n0,(IB.ok.exf b hb).1,IB.ok.exfs b hb,.inl hb,(IB.ok.exf b hb).2,fun p hp=>?_⟩;rw[List.append_nil] at hp;exact n5 p hp
 have loop:codeAny (model X.prog X.w) X.A (.compLoop (.ListComp elt (⟨tg,iter,ifs,0⟩::bB) scope pos) 0 (.ref it) (.ref s2.heap.objs.size) (compEnvC scope (cellsFrom (s3.heap.objs.size+1) scope.names (lq X.env scope.names [])) s3.heap.objs.size X.env))
   (compPost (model X.prog X.w) X.A X.xe use Q (.ref s2.heap.objs.size) s3.heap.objs.size) { s3 with heap:=pushCells (s3.heap.push { cls:=.type "dict",data:=.dict #[] }) scope.names }:=by
  refine vi (X:=X.blk scope N (cellsFrom (s3.heap.objs.size+1) scope.names (lq X.env scope.names [])) s3.heap.objs.size s3 (upd H2 s2.heap.objs.size (.lst [])) fp (X.pn++pins)) rfl hc rfl (by simpa using ha) (hg _ _ _ _ _ _) (ht _ _ _ _ _ _) (hl _ _ _ _ _ _) IB T stB fB (q _ hfresh) fun σ' H' s' I' k'=>?_
  obtain⟨m,hn,_⟩:=I'.loc;refine hQ _ _ H' s' m (G0 I3 f3 I') k' hn I'.free ?_ I3.sz ?_ ?_
  ·exact Nat.ne_of_gt I3.lt
  ·intro x c e
   obtain⟨v,o,ho,_⟩:=I3.cell x c e;exact Nat.ne_of_lt (Heap.lt_size ho)
  ·intro p hp
   exact Nat.ne_of_lt (Heap.lt_size (I3.pin p hp).1)
 subst hs3;exact nD (d:=0) rfl loop (T.self X.A 0 _ _ _ stB loop)
theorem ci(hc:X.calm=true)(hb:cX scope X.env.scope N src X.N=true)(ha:∀g',bB[0]?=some g'->g'.is_async=0)(hi:PI X tg iter wi)(hg:∀cs C s H ex pn,PG (X.blk scope N cs C s H ex pn) tg g)(ht:∀cs C s H ex pn,PTs (X.blk scope N cs C s H ex pn) ifs tc)(hl:∀cs C s H ex pn,PL (X.blk scope N cs C s H ex pn) elt (⟨tg,iter,ifs,0⟩::bB) scope pos 0 l)(hs:∀x,foldedSetIterable iter X.env x=pure x:=by intro _;rfl):PE X (.ListComp elt (⟨tg,iter,ifs,0⟩::bB) scope pos) (x6 src wi g tc l):=.mk <| by
 intro pins s σ H Q I h;rw[eval_ListComp];refine xY (use:=none) hc hb ha hi hg ht hl hs I h fun acc C H' s' m I' q' hn hC hL h1 h2 h3=>?_;exact⟨m,hn,fun h' hs'=>⟨.ref acc,H',xH I' hC hL h1 h2 h3 hs',rfl,q'⟩⟩
theorem wY{i:Nat}{x:Str}{pos' spos:Pos}(hN:X.N.Nodup)(hi0:X.N[i]?=some x)(hx:Loc X.env.scope x)(hc:X.calm=true)(hb:cX scope X.env.scope N src X.N=true)(ha:∀g',bB[0]?=some g'->g'.is_async=0)(hi:PI X tg iter wi)(hg:∀cs C s H ex pn,PG (X.blk scope N cs C s H ex pn) tg g)(ht:∀cs C s H ex pn,PTs (X.blk scope N cs C s H ex pn) ifs tc)(hl:∀cs C s H ex pn,PL (X.blk scope N cs C s H ex pn) elt (⟨tg,iter,ifs,0⟩::bB) scope pos 0 l)(hs:∀x,foldedSetIterable iter X.env x=pure x:=by intro _;rfl)(hsw:swapsWith (.ListComp elt (⟨tg,iter,ifs,0⟩::bB) scope pos) (some (.Name x pos')) spos.line X.env=pure true:=by rfl)(hf:X.fn x=true\/X.env.scope.names.lookup x=some .local:=by first|exact .inl rfl|exact .inr rfl|assumption):
  PS X (.Assign [.Name x pos'] (.ListComp elt (⟨tg,iter,ifs,0⟩::bB) scope pos) spos) (Ip (x6 src wi g tc l) (BP i)):=.mk <| by
 intro pins s σ H D I h;rw[exec_Assign_Name_used _ _ _ _ hsw];refine wpAny_bind (wpAny_standAt (wpAny_bind ?_));show wpAny _ X.A (do let _ ← comprehension (.ListComp elt (⟨tg,iter,ifs,0⟩::bB) scope pos) scope X.env (firstIterPos (⟨tg,iter,ifs,0⟩::bB) pos) (newList []) false (firstIter (⟨tg,iter,ifs,0⟩::bB) X.env) (some (assign (.Name x pos') X.env))) _ _ s
 refine wpAny_bind (wpAny_mono (xY (use:=some (assign (.Name x pos') X.env)) (Q:=fun _ s'=>SP X pins D .next s') hc hb ha hi hg ht hl hs I h fun acc C H' s' m I' q' hn hC hL h1 h2 h3=>?_) (fun _ s' hq=>wpAny_pure (wpAny_pure hq)) fun _ _ e=>e);show wpAny _ X.A (assign (.Name x pos') X.env (.ref acc)) _ _ _;refine wpAny_assign_Name (vf (v:=.ref acc) I' hN hi0 hx rfl (fun s'' I'' ⟨a,hsb,hwh⟩=>?_) hf)
 have hne:C≠a:=by
  rcases hwh with e|e
  ·rw[e];exact hL
  ·exact fun z=>h2 x a e z.symm
 exact⟨m,hn.sameBut hsb hne,fun h' hs'=>⟨σ.set i (some (.ref acc)),H',xH I'' hC hL h1 h2 h3 hs',q'⟩⟩
end
section
variable{X:Cx}
theorem BC:∀ {bs:List Bool} {its:List Value},aT (bs.map V.bl) its->its=bs.map Value.bool
 | [],_,.nil=>rfl
 |_::_,_,.cons r t=>by
  have e:_=Value.bool _:=r;rw[e,BC t];rfl
theorem Dx(bs:List Bool):(List.range bs.length).all (fun i=>bs.getD i false)=bs.all id:=by
 rw[Bool.eq_iff_iff];simp only[List.all_eq_true,List.mem_range,id];constructor
 ·intro h b hb
  obtain⟨i,hi,e⟩:=List.getElem_of_mem hb;have:=h i hi;rw[List.getD_eq_getElem?_getD,List.getElem?_eq_getElem hi] at this;rw[←e];exact this
 ·intro h i hi
  rw[List.getD_eq_getElem?_getD,List.getElem?_eq_getElem hi];exact h _ (List.getElem_mem hi)
theorem E4(hc:X.calm=true):g9 X (.builtin "all") (fun xs H Q=>∃(a:Addr)(bs:List Bool),xs=[.ref a]/\SqL X.K H a (bs.map V.bl)/\Q (.bl (bs.all id)) H):=by
 intro pins s σ H xs us Q I r h;obtain⟨a,bs,rfl,hq,q⟩:=h;obtain⟨u,rfl,rx⟩:=nL r;cases rx;obtain⟨its,rv,p,hz⟩:=I.list hq;have e:=BC rv;subst e
 have hlt:a<s.heap.objs.size:=by
  obtain⟨o,ho,_⟩:=p.isList;exact Heap.lt_size ho
 refine call_all_walk (wpAny_pyIter_list p.isList ?_);refine⟨s.heap.objs.size,_,_,_,_,_,fun i=>bs.getD i false,rfl,Walks.list (A:=X.A.in1) (I.ok.hd hc) _ a (Nat.ne_of_lt hlt) _,⟨⟨_,Heap.get?_push_size _ rfl,rfl,rfl⟩,p.isList.push _⟩,?_,fun h' tk hk=>?_⟩
 ·intro i v s' Q' E' hP hQ'
  have:(bs.map Value.bool)[i]?=some v:=by simpa using hP
  rw[List.getElem?_map] at this
  cases e:bs[i]? with
  |none=>rw[e] at this;cases this
  |some b=>
   rw[e] at this;cases this;refine wpAny_truthy_bool ?_;dsimp only at hQ';rw[List.getD_eq_getElem?_getD,e] at hQ';exact hQ'
 ·refine⟨.bl (bs.all id),H,I.kept (t':=tk) fun b o e=>hk b o (fun hm=>?_) (Heap.get?_push_of_some _ e),?_,q⟩
  ·have:b=s.heap.objs.size:=by simpa using hm
   exact absurd (this ▸ Heap.lt_size e) (Nat.lt_irrefl _)
  ·show _=Value.bool _
   rw[←Dx]
   simp
end
end L2
set_option autoImplicit false
namespace L2
open PySem PySem.Spec PyProof.Rows
inductive D where
 |non|bl (b:Bool)|int (i:Int)|str (x:Str)|tup (ds:List D)|lst (ds:List D)
 |dk (ks:List Int)|dt (ks:List (List Int))
noncomputable def dkO(ks:List Int):List (Key×V):=ks.map fun k=>(Sum.inl k,V.int 1)
noncomputable def dtO(ks:List (List Int)):List (List Key×V):=ks.map fun k=>(k.map Sum.inl,V.int 1)
theorem BV:∀ {a b:List Int},dkO a=dkO b->a=b
 | [],[],_=>rfl
 |x::a,y::b,h=>by
  simp only[dkO,List.map_cons,List.cons.injEq,Prod.mk.injEq,Sum.inl.injEq,and_true] at h;rw[h.1,BV h.2]
 | [],_::_,h=>by simp[dkO] at h
 |_::_,[],h=>by simp[dkO] at h
theorem CK:∀ {a b:List Int},(a.map Sum.inl:List Key)=b.map Sum.inl->a=b
 | [],[],_=>rfl
 |x::a,y::b,h=>by
  simp only[List.map_cons,List.cons.injEq,Sum.inl.injEq] at h;rw[h.1,CK h.2]
 | [],_::_,h=>by simp at h
 |_::_,[],h=>by simp at h
theorem A6:∀ {a b:List (List Int)},dtO a=dtO b->a=b
 | [],[],_=>rfl
 |x::a,y::b,h=>by
  simp only[dtO,List.map_cons,List.cons.injEq,Prod.mk.injEq,and_true] at h;rw[CK h.1,A6 h.2]
 | [],_::_,h=>by simp[dtO] at h
 |_::_,[],h=>by simp[dtO] at h
mutual
noncomputable def Dat(H:Hp):D->V->Prop
 |.non,v=>v=.non
 |.bl b,v=>v=.bl b
 |.int i,v=>v=.int i
 |.str x,v=>v=.str x
 |.tup ds,v=>∃a xs,v=.ref a/\H a=some (.tup xs)/\aM H ds xs
 |.lst ds,v=>∃a xs,v=.ref a/\H a=some (.lst xs)/\aM H ds xs
 |.dk ks,v=>∃a xs,v=.ref a/\H a=some (.dK (dkO xs))/\xs=ks
 |.dt ks,v=>∃a xs,v=.ref a/\H a=some (.dT (dtO xs))/\xs=ks
noncomputable def aM(H:Hp):List D->List V->Prop
 | [],xs=>xs=[]
 |d::ds,xs=>∃x r,xs=x::r/\Dat H d x/\aM H ds r
end
mutual
noncomputable def dep:D->Nat
 |.tup ds=>ib ds+1
 |.lst ds=>ib ds+1
 |.dk _=>1000000
 |.dt _=>1000000
 |_=>0
noncomputable def ib:List D->Nat
 | []=>0
 |d::ds=>max (dep d) (ib ds)
end
mutual
noncomputable def eqD:D->D->Bool
 |.non,.non=>true
 |.bl a,.bl b=>a == b
 |.bl a,.int b=>(if a then 1 else 0) == b
 |.int a,.bl b=>a == (if b then 1 else 0)
 |.int a,.int b=>a == b
 |.str a,.str b=>a == b
 |.tup a,.tup b=>gN a b
 |.lst a,.lst b=>gN a b
 |.dk a,.dk b=>a == b
 |.dt a,.dt b=>a == b
 |_,_=>false
noncomputable def gN:List D->List D->Bool
 | [],[]=>true
 |x::xs,y::ys=>eqD x y && gN xs ys
 |_,_=>false
end
theorem zh:∀ {ds:List D} {d:D},d∈ds->dep d<=ib ds
 |d::ds,e,h=>by
  unfold ib;rcases List.mem_cons.mp h with rfl|h
  ·exact Nat.le_max_left _ _
  ·exact Nat.le_trans (zh h) (Nat.le_max_right _ _)
theorem aM.length:∀ {H:Hp} {ds:List D} {xs:List V},aM H ds xs->xs.length=ds.length
 |H,[],xs,h=>by
  have e:xs=[]:=by simpa[aM] using h
  rw[e];rfl
 |H,d::ds,xs,h=>by
  obtain⟨x,r,rfl,_,t⟩:∃x r,xs=x::r/\Dat H d x/\aM H ds r:=by simpa only[aM] using h
  rw[List.length_cons,List.length_cons,aM.length t]
theorem aM.get:∀ {H:Hp} {ds:List D} {xs:List V} {i:Nat} {d:D},aM H ds xs->ds[i]?=some d->∃x,xs[i]?=some x/\Dat H d x
 |H,[],xs,i,d,h,e=>by simp at e
 |H,d'::ds,xs,i,d,h,e=>by
  obtain⟨x,r,rfl,hx,t⟩:∃x r,xs=x::r/\Dat H d' x/\aM H ds r:=by simpa only[aM] using h
  cases i with
  |zero=>simp at e;subst e;exact⟨x,rfl,hx⟩
  |succ i=>simpa using aM.get t (i:=i) (by simpa using e)
theorem aM.of_get:∀ {H:Hp} {ds:List D} {xs:List V},xs.length=ds.length->(∀(i:Nat)(d:D)(x:V),ds[i]?=some d->xs[i]?=some x->Dat H d x)->aM H ds xs
 |H,[],[],_,_=>by simp[aM]
 |H,d::ds,x::xs,hl,h=>by
  simp only[aM];exact⟨x,xs,rfl,h 0 d x rfl rfl,aM.of_get (by simpa using hl) fun i d x e1 e2=>h (i+1) d x (by simpa using e1) (by simpa using e2)⟩
 |H,[],_::_,hl,_=>by simp at hl
 |H,_::_,[],hl,_=>by simp at hl
theorem aM.append:∀ {H:Hp} {ds es:List D} {xs ys:List V},aM H ds xs->aM H es ys->aM H (ds++es) (xs++ys)
 |H,[],es,xs,ys,h,h'=>by
  have e:xs=[]:=by simpa[aM] using h
  rw[e];exact h'
 |H,d::ds,es,xs,ys,h,h'=>by
  obtain⟨x,r,rfl,hx,t⟩:∃x r,xs=x::r/\Dat H d x/\aM H ds r:=by simpa only[aM] using h
  show aM H (d::(ds++es)) (x::(r++ys));simp only[aM];exact⟨x,r++ys,rfl,hx,aM.append t h'⟩
theorem aM.one{H:Hp}{d:D}{x:V}(h:Dat H d x):aM H [d] [x]:=by
 simp only[aM];exact⟨x,[],rfl,h,rfl⟩
mutual
theorem Dat.same{H H':Hp}(e:db H H'):∀ {d:D} {v:V},Dat H d v->Dat H' d v
 |.non,v,h=>by simpa only[Dat] using h
 |.bl b,v,h=>by simpa only[Dat] using h
 |.int i,v,h=>by simpa only[Dat] using h
 |.str x,v,h=>by simpa only[Dat] using h
 |.tup ds,v,h=>by
  simp only[Dat] at h ⊢;obtain⟨a,xs,rfl,h1,h2⟩:=h;exact⟨a,xs,rfl,e a _ h1,aM.same e h2⟩
 |.lst ds,v,h=>by
  simp only[Dat] at h ⊢;obtain⟨a,xs,rfl,h1,h2⟩:=h;exact⟨a,xs,rfl,e a _ h1,aM.same e h2⟩
 |.dk ks,v,h=>by
  simp only[Dat] at h ⊢;obtain⟨a,xs,rfl,h1,h2⟩:=h;exact⟨a,xs,rfl,e a _ h1,h2⟩
 |.dt ks,v,h=>by
  simp only[Dat] at h ⊢;obtain⟨a,xs,rfl,h1,h2⟩:=h;exact⟨a,xs,rfl,e a _ h1,h2⟩
theorem aM.same{H H':Hp}(e:db H H'):∀ {ds:List D} {xs:List V},aM H ds xs->aM H' ds xs
 | [],xs,h=>by simpa only[aM] using h
 |d::ds,xs,h=>by
  simp only[aM] at h ⊢;obtain⟨x,r,rfl,h1,h2⟩:=h;exact⟨x,r,rfl,Dat.same e h1,aM.same e h2⟩
end
mutual
theorem Dat.inj{H:Hp}:∀ {d e:D} {v:V},Dat H d v->Dat H e v->d=e
 |.non,e,v,h,h'=>by
  simp only[Dat] at h;subst h;cases e<;>simp only[Dat] at h'<;>first|rfl|(obtain⟨_,_,h',_⟩:=h';cases h';done)|(cases h';done)
 |.bl b,e,v,h,h'=>by
  simp only[Dat] at h;subst h;cases e<;>simp only[Dat] at h'<;>first|(obtain⟨_,_,h',_⟩:=h';cases h';done)|(cases h';rfl)|(cases h';done)
 |.int i,e,v,h,h'=>by
  simp only[Dat] at h;subst h;cases e<;>simp only[Dat] at h'<;>first|(obtain⟨_,_,h',_⟩:=h';cases h';done)|(cases h';rfl)|(cases h';done)
 |.str x,e,v,h,h'=>by
  simp only[Dat] at h;subst h;cases e<;>simp only[Dat] at h'<;>first|(obtain⟨_,_,h',_⟩:=h';cases h';done)|(cases h';rfl)|(cases h';done)
 |.tup ds,e,v,h,h'=>by
  simp only[Dat] at h;obtain⟨a,xs,rfl,h1,h2⟩:=h
  cases e with
  |tup es=>
   simp only[Dat] at h';obtain⟨b,ys,e1,h3,h4⟩:=h';cases e1;rw[h1] at h3;cases h3;rw[aM.inj h2 h4]
  |lst es=>
   simp only[Dat] at h';obtain⟨b,ys,e1,h3,h4⟩:=h';cases e1;rw[h1] at h3;cases h3
  |dk es=>
   simp only[Dat] at h';obtain⟨b,ys,e1,h3,h4⟩:=h';cases e1;rw[h1] at h3;cases h3
  |dt es=>
   simp only[Dat] at h';obtain⟨b,ys,e1,h3,h4⟩:=h';cases e1;rw[h1] at h3;cases h3
  |_=>simp only[Dat] at h';cases h'
 |.lst ds,e,v,h,h'=>by
  simp only[Dat] at h;obtain⟨a,xs,rfl,h1,h2⟩:=h
  cases e with
  |lst es=>
   simp only[Dat] at h';obtain⟨b,ys,e1,h3,h4⟩:=h';cases e1;rw[h1] at h3;cases h3;rw[aM.inj h2 h4]
  |tup es=>
   simp only[Dat] at h';obtain⟨b,ys,e1,h3,h4⟩:=h';cases e1;rw[h1] at h3;cases h3
  |dk es=>
   simp only[Dat] at h';obtain⟨b,ys,e1,h3,h4⟩:=h';cases e1;rw[h1] at h3;cases h3
  |dt es=>
   simp only[Dat] at h';obtain⟨b,ys,e1,h3,h4⟩:=h';cases e1;rw[h1] at h3;cases h3
  |_=>simp only[Dat] at h';cases h'
 |.dk ds,e,v,h,h'=>by
  simp only[Dat] at h;obtain⟨a,xs,rfl,h1,rfl⟩:=h
  cases e with
  |tup es=>
   simp only[Dat] at h';obtain⟨b,ys,e1,h3,h4⟩:=h';cases e1;rw[h1] at h3;cases h3
  |lst es=>
   simp only[Dat] at h';obtain⟨b,ys,e1,h3,h4⟩:=h';cases e1;rw[h1] at h3;cases h3
  |dk es=>
   simp only[Dat] at h';obtain⟨b,ys,e1,h3,h4⟩:=h';cases e1;rw[h1] at h3;rw[←h4,BV (a:=xs) (b:=ys)]
   simpa using h3
  |dt es=>
   simp only[Dat] at h';obtain⟨b,ys,e1,h3,h4⟩:=h';cases e1;rw[h1] at h3;cases h3
  |_=>simp only[Dat] at h';cases h'
 |.dt ds,e,v,h,h'=>by
  simp only[Dat] at h;obtain⟨a,xs,rfl,h1,rfl⟩:=h
  cases e with
  |tup es=>
   simp only[Dat] at h';obtain⟨b,ys,e1,h3,h4⟩:=h';cases e1;rw[h1] at h3;cases h3
  |lst es=>
   simp only[Dat] at h';obtain⟨b,ys,e1,h3,h4⟩:=h';cases e1;rw[h1] at h3;cases h3
  |dk es=>
   simp only[Dat] at h';obtain⟨b,ys,e1,h3,h4⟩:=h';cases e1;rw[h1] at h3;cases h3
  |dt es=>
   simp only[Dat] at h';obtain⟨b,ys,e1,h3,h4⟩:=h';cases e1;rw[h1] at h3;rw[←h4,A6 (a:=xs) (b:=ys)]
   simpa using h3
  |_=>simp only[Dat] at h';cases h'
theorem aM.inj{H:Hp}:∀ {ds es:List D} {xs:List V},aM H ds xs->aM H es xs->ds=es
 | [],[],_,_,_=>rfl
 | [],e::es,xs,h,h'=>by
  simp only[aM] at h h';obtain⟨x,r,rfl,_⟩:=h';cases h
 |d::ds,[],xs,h,h'=>by
  simp only[aM] at h h';obtain⟨x,r,rfl,_⟩:=h;cases h'
 |d::ds,e::es,xs,h,h'=>by
  simp only[aM] at h h';obtain⟨x,r,rfl,h1,h2⟩:=h;obtain⟨x',r',e1,h3,h4⟩:=h';cases e1;rw[Dat.inj h1 h3,aM.inj h2 h4]
end
mutual
theorem fR:∀d:D,eqD d d=true
 |.non=>by simp[eqD]
 |.bl b=>by simp[eqD]
 |.int i=>by simp[eqD]
 |.str x=>by simp[eqD]
 |.tup ds=>by simp only[eqD];exact j3 ds
 |.lst ds=>by simp only[eqD];exact j3 ds
 |.dk ks=>by simp[eqD]
 |.dt ks=>by simp[eqD]
theorem j3:∀ds:List D,gN ds ds=true
 | []=>by simp[gN]
 |d::ds=>by simp only[gN,fR d,j3 ds,Bool.and_self]
end
theorem tO:∀ {ds es:List D},ds.length≠es.length->gN ds es=false
 | [],[],h=>absurd rfl h
 | [],_::_,_=>by simp[gN]
 |_::_,[],_=>by simp[gN]
 |d::ds,e::es,h=>by
  simp only[gN,tO (ds:=ds) (es:=es) (by simpa using h),Bool.and_false]
theorem nO:∀ {ds es:List D},ds.length=es.length->(List.range ds.length).all (fun j=>eqD (ds.getD j .non) (es.getD j .non))=gN ds es
 | [],[],_=>by simp[gN]
 | [],_::_,h=>by simp at h
 |_::_,[],h=>by simp at h
 |d::ds,e::es,h=>by
  have ih:=nO (ds:=ds) (es:=es) (by simpa using h)
  rw[List.length_cons,List.range_succ_eq_map,List.all_cons,List.all_map];simp only[gN,←ih]
  rfl
end L2
namespace L2
open PySem PySem.Spec PyProof.Rows AutoSeq1
noncomputable def xI(h:Heap)(l:Addr):Prop:=∃es ep,h.get? l=some { cls:=.type "dict",data:=.dict es ep }
theorem pC:isSubtype (.type "NoneType") (.type "dict")=pure false:=by rw[isSubtype_type];kernel_rfl
theorem qL:isSubtype (.type "bool") (.type "dict")=pure false:=by rw[isSubtype_type];kernel_rfl
theorem qZ:isSubtype (.type "int") (.type "dict")=pure false:=by rw[isSubtype_type];kernel_rfl
theorem qX:isSubtype (.type "str") (.type "dict")=pure false:=by rw[isSubtype_type];kernel_rfl
theorem qU:isSubtype (.type "tuple") (.type "dict")=pure false:=by rw[isSubtype_type];kernel_rfl
theorem qK:isSubtype (.type "list") (.type "dict")=pure false:=by rw[isSubtype_type];kernel_rfl
theorem yU:isSubtype (.type "dict") (.type "NoneType")=pure false:=by rw[isSubtype_type];kernel_rfl
theorem BF:isSubtype (.type "dict") (.type "bool")=pure false:=by rw[isSubtype_type];kernel_rfl
theorem mY:isSubtype (.type "dict") (.type "int")=pure false:=by rw[isSubtype_type];kernel_rfl
theorem rZ:isSubtype (.type "dict") (.type "str")=pure false:=by rw[isSubtype_type];kernel_rfl
theorem rY:isSubtype (.type "dict") (.type "tuple")=pure false:=by rw[isSubtype_type];kernel_rfl
theorem rM:isSubtype (.type "dict") (.type "list")=pure false:=by rw[isSubtype_type];kernel_rfl
section
variable(l b:Addr)(es:Array DictEntry)(ep:Nat)
noncomputable abbrev DO(es:Array DictEntry)(ep:Nat):Obj:={ cls:=.type "dict",data:=.dict es ep }
theorem JT:Meets (Builtin.«dict.__eq__» ⟨[.ref l,.none],[]⟩) (fun _ R s=>s.heap.get? l=some (DO es ep)/\R (.ok (.ret .notImplemented)) s):=
 .of_wp fun prog w A R s h=>by obtain⟨hp,g,d,tk,os⟩:=s;obtain⟨hl,h⟩:=h;have f1:=pC;wp_walk using wpAny_loadPart' hl,wpAny_load hl;exact⟨_,rfl,h⟩
theorem Kf:Meets (Builtin.«dict.__ne__» ⟨[.ref l,.none],[]⟩) (fun _ R s=>s.heap.get? l=some (DO es ep)/\R (.ok (.ret .notImplemented)) s):=
 .of_wp fun prog w A R s h=>by obtain⟨hp,g,d,tk,os⟩:=s;obtain⟨hl,h⟩:=h;have f1:=pC;wp_walk using wpAny_loadPart' hl,wpAny_load hl;exact⟨_,rfl,h⟩
theorem LJ(c:Bool):Meets (Builtin.«dict.__eq__» ⟨[.ref l,.bool c],[]⟩) (fun _ R s=>s.heap.get? l=some (DO es ep)/\R (.ok (.ret .notImplemented)) s):=
 .of_wp fun prog w A R s h=>by obtain⟨hp,g,d,tk,os⟩:=s;obtain⟨hl,h⟩:=h;have f1:=qL;wp_walk using wpAny_loadPart' hl,wpAny_load hl;exact⟨_,rfl,h⟩
theorem LF(c:Bool):Meets (Builtin.«dict.__ne__» ⟨[.ref l,.bool c],[]⟩) (fun _ R s=>s.heap.get? l=some (DO es ep)/\R (.ok (.ret .notImplemented)) s):=
 .of_wp fun prog w A R s h=>by obtain⟨hp,g,d,tk,os⟩:=s;obtain⟨hl,h⟩:=h;have f1:=qL;wp_walk using wpAny_loadPart' hl,wpAny_load hl;exact⟨_,rfl,h⟩
theorem L4(c:Int)(u:Tok):Meets (Builtin.«dict.__eq__» ⟨[.ref l,.int c u],[]⟩) (fun _ R s=>s.heap.get? l=some (DO es ep)/\R (.ok (.ret .notImplemented)) s):=
 .of_wp fun prog w A R s h=>by obtain⟨hp,g,d,tk,os⟩:=s;obtain⟨hl,h⟩:=h;have f1:=qZ;wp_walk using wpAny_loadPart' hl,wpAny_load hl;exact⟨_,rfl,h⟩
theorem MS(c:Int)(u:Tok):Meets (Builtin.«dict.__ne__» ⟨[.ref l,.int c u],[]⟩) (fun _ R s=>s.heap.get? l=some (DO es ep)/\R (.ok (.ret .notImplemented)) s):=
 .of_wp fun prog w A R s h=>by obtain⟨hp,g,d,tk,os⟩:=s;obtain⟨hl,h⟩:=h;have f1:=qZ;wp_walk using wpAny_loadPart' hl,wpAny_load hl;exact⟨_,rfl,h⟩
theorem LM(c:Str)(u:Tok):Meets (Builtin.«dict.__eq__» ⟨[.ref l,.str c u],[]⟩) (fun _ R s=>s.heap.get? l=some (DO es ep)/\R (.ok (.ret .notImplemented)) s):=
 .of_wp fun prog w A R s h=>by obtain⟨hp,g,d,tk,os⟩:=s;obtain⟨hl,h⟩:=h;have f1:=qX;wp_walk using wpAny_loadPart' hl,wpAny_load hl;exact⟨_,rfl,h⟩
theorem LH(c:Str)(u:Tok):Meets (Builtin.«dict.__ne__» ⟨[.ref l,.str c u],[]⟩) (fun _ R s=>s.heap.get? l=some (DO es ep)/\R (.ok (.ret .notImplemented)) s):=
 .of_wp fun prog w A R s h=>by obtain⟨hp,g,d,tk,os⟩:=s;obtain⟨hl,h⟩:=h;have f1:=qX;wp_walk using wpAny_loadPart' hl,wpAny_load hl;exact⟨_,rfl,h⟩
theorem L8(its:Array Value)(n:Nat)(dd:Option Addr)(sl:Array (Option Value)):Meets (Builtin.«dict.__eq__» ⟨[.ref l,.ref b],[]⟩) (fun _ R s=>s.heap.get? l=some (DO es ep)/\s.heap.get? b=some ⟨.type "tuple",dd,.seq its n,sl⟩/\R (.ok (.ret .notImplemented)) s):=
 .of_wp fun prog w A R s h=>by obtain⟨hp,g,d,tk,os⟩:=s;obtain⟨hl,hb,h⟩:=h;have f1:=qU;wp_walk using wpAny_loadPart' hl,wpAny_load hl,wpAny_loadPart' hb,wpAny_load hb;exact⟨_,rfl,h⟩
theorem L0(its:Array Value)(n:Nat)(dd:Option Addr)(sl:Array (Option Value)):Meets (Builtin.«dict.__ne__» ⟨[.ref l,.ref b],[]⟩) (fun _ R s=>s.heap.get? l=some (DO es ep)/\s.heap.get? b=some ⟨.type "tuple",dd,.seq its n,sl⟩/\R (.ok (.ret .notImplemented)) s):=
 .of_wp fun prog w A R s h=>by obtain⟨hp,g,d,tk,os⟩:=s;obtain⟨hl,hb,h⟩:=h;have f1:=qU;wp_walk using wpAny_loadPart' hl,wpAny_load hl,wpAny_loadPart' hb,wpAny_load hb;exact⟨_,rfl,h⟩
theorem LK(its:Array Value)(n:Nat)(dd:Option Addr)(sl:Array (Option Value)):Meets (Builtin.«dict.__eq__» ⟨[.ref l,.ref b],[]⟩) (fun _ R s=>s.heap.get? l=some (DO es ep)/\s.heap.get? b=some ⟨.type "list",dd,.seq its n,sl⟩/\R (.ok (.ret .notImplemented)) s):=
 .of_wp fun prog w A R s h=>by obtain⟨hp,g,d,tk,os⟩:=s;obtain⟨hl,hb,h⟩:=h;have f1:=qK;wp_walk using wpAny_loadPart' hl,wpAny_load hl,wpAny_loadPart' hb,wpAny_load hb;exact⟨_,rfl,h⟩
theorem LU(its:Array Value)(n:Nat)(dd:Option Addr)(sl:Array (Option Value)):Meets (Builtin.«dict.__ne__» ⟨[.ref l,.ref b],[]⟩) (fun _ R s=>s.heap.get? l=some (DO es ep)/\s.heap.get? b=some ⟨.type "list",dd,.seq its n,sl⟩/\R (.ok (.ret .notImplemented)) s):=
 .of_wp fun prog w A R s h=>by obtain⟨hp,g,d,tk,os⟩:=s;obtain⟨hl,hb,h⟩:=h;have f1:=qK;wp_walk using wpAny_loadPart' hl,wpAny_load hl,wpAny_loadPart' hb,wpAny_load hb;exact⟨_,rfl,h⟩
theorem Ln(c:Bool):Meets (Builtin.«int.__eq__» ⟨[.bool c,.ref l],[]⟩) (fun _ R s=>s.heap.get? l=some (DO es ep)/\R (.ok (.ret .notImplemented)) s):=
 .of_wp fun prog w A R s h=>by obtain⟨hp,g,d,tk,os⟩:=s;obtain⟨hl,h⟩:=h;have f1:=mY;wp_walk using wpAny_loadPart' hl,wpAny_load hl;exact⟨_,rfl,h⟩
theorem Lw(c:Bool):Meets (Builtin.«int.__ne__» ⟨[.bool c,.ref l],[]⟩) (fun _ R s=>s.heap.get? l=some (DO es ep)/\R (.ok (.ret .notImplemented)) s):=
 .of_wp fun prog w A R s h=>by obtain⟨hp,g,d,tk,os⟩:=s;obtain⟨hl,h⟩:=h;have f1:=mY;wp_walk using wpAny_loadPart' hl,wpAny_load hl;exact⟨_,rfl,h⟩
theorem MO(c:Int)(u:Tok):Meets (Builtin.«int.__eq__» ⟨[.int c u,.ref l],[]⟩) (fun _ R s=>s.heap.get? l=some (DO es ep)/\R (.ok (.ret .notImplemented)) s):=
 .of_wp fun prog w A R s h=>by obtain⟨hp,g,d,tk,os⟩:=s;obtain⟨hl,h⟩:=h;have f1:=mY;wp_walk using wpAny_loadPart' hl,wpAny_load hl;exact⟨_,rfl,h⟩
theorem MT(c:Int)(u:Tok):Meets (Builtin.«int.__ne__» ⟨[.int c u,.ref l],[]⟩) (fun _ R s=>s.heap.get? l=some (DO es ep)/\R (.ok (.ret .notImplemented)) s):=
 .of_wp fun prog w A R s h=>by obtain⟨hp,g,d,tk,os⟩:=s;obtain⟨hl,h⟩:=h;have f1:=mY;wp_walk using wpAny_loadPart' hl,wpAny_load hl;exact⟨_,rfl,h⟩
theorem Nb(c:Str)(u:Tok):Meets (Builtin.«str.__eq__» ⟨[.str c u,.ref l],[]⟩) (fun _ R s=>s.heap.get? l=some (DO es ep)/\R (.ok (.ret .notImplemented)) s):=
 .of_wp fun prog w A R s h=>by obtain⟨hp,g,d,tk,os⟩:=s;obtain⟨hl,h⟩:=h;have f1:=rZ;wp_walk using wpAny_loadPart' hl,wpAny_load hl;exact⟨_,rfl,h⟩
theorem MW(c:Str)(u:Tok):Meets (Builtin.«str.__ne__» ⟨[.str c u,.ref l],[]⟩) (fun _ R s=>s.heap.get? l=some (DO es ep)/\R (.ok (.ret .notImplemented)) s):=
 .of_wp fun prog w A R s h=>by obtain⟨hp,g,d,tk,os⟩:=s;obtain⟨hl,h⟩:=h;have f1:=rZ;wp_walk using wpAny_loadPart' hl,wpAny_load hl;exact⟨_,rfl,h⟩
theorem M8(its:Array Value)(n:Nat)(dd:Option Addr)(sl:Array (Option Value)):Meets (Builtin.«tuple.__eq__» ⟨[.ref b,.ref l],[]⟩) (fun _ R s=>s.heap.get? l=some (DO es ep)/\s.heap.get? b=some ⟨.type "tuple",dd,.seq its n,sl⟩/\R (.ok (.ret .notImplemented)) s):=
 .of_wp fun prog w A R s h=>by obtain⟨hp,g,d,tk,os⟩:=s;obtain⟨hl,hb,h⟩:=h;have f1:=rY;wp_walk using wpAny_loadPart' hl,wpAny_load hl,wpAny_loadPart' hb,wpAny_load hb;exact⟨_,rfl,h⟩
theorem M0(its:Array Value)(n:Nat)(dd:Option Addr)(sl:Array (Option Value)):Meets (Builtin.«tuple.__ne__» ⟨[.ref b,.ref l],[]⟩) (fun _ R s=>s.heap.get? l=some (DO es ep)/\s.heap.get? b=some ⟨.type "tuple",dd,.seq its n,sl⟩/\R (.ok (.ret .notImplemented)) s):=
 .of_wp fun prog w A R s h=>by obtain⟨hp,g,d,tk,os⟩:=s;obtain⟨hl,hb,h⟩:=h;have f1:=rY;wp_walk using wpAny_loadPart' hl,wpAny_load hl,wpAny_loadPart' hb,wpAny_load hb;exact⟨_,rfl,h⟩
theorem M4(its:Array Value)(n:Nat)(dd:Option Addr)(sl:Array (Option Value)):Meets (Builtin.«list.__eq__» ⟨[.ref b,.ref l],[]⟩) (fun _ R s=>s.heap.get? l=some (DO es ep)/\s.heap.get? b=some ⟨.type "list",dd,.seq its n,sl⟩/\R (.ok (.ret .notImplemented)) s):=
 .of_wp fun prog w A R s h=>by obtain⟨hp,g,d,tk,os⟩:=s;obtain⟨hl,hb,h⟩:=h;have f1:=rM;wp_walk using wpAny_loadPart' hl,wpAny_load hl,wpAny_loadPart' hb,wpAny_load hb;exact⟨_,rfl,h⟩
theorem M6(its:Array Value)(n:Nat)(dd:Option Addr)(sl:Array (Option Value)):Meets (Builtin.«list.__ne__» ⟨[.ref b,.ref l],[]⟩) (fun _ R s=>s.heap.get? l=some (DO es ep)/\s.heap.get? b=some ⟨.type "list",dd,.seq its n,sl⟩/\R (.ok (.ret .notImplemented)) s):=
 .of_wp fun prog w A R s h=>by obtain⟨hp,g,d,tk,os⟩:=s;obtain⟨hl,hb,h⟩:=h;have f1:=rM;wp_walk using wpAny_loadPart' hl,wpAny_load hl,wpAny_loadPart' hb,wpAny_load hb;exact⟨_,rfl,h⟩
end
noncomputable def Eq3(A:Around)(s:Shared)(v u:Value)(b:Bool):Prop:=SeqAt.RcAt A s v u b/\SeqAt.EqAt A s v u b/\SeqAt.RcNeAt A s v u (!b)
section
variable{A:Around}{s:Shared}{l:Addr}
theorem kz{v:Value}(hne:v≠.ref l)(h:SeqAt.RcAt A s v (.ref l) false):SeqAt.EqAt A s v (.ref l) false:=fun prog w E Q q=>by
 unfold eqBool;refine wpAny_holding ?_;refine wpAny_ite_split (fun hab=>absurd (eq_of_beq hab) hne) (fun _=>?_);cases v<;>exact wpAny_bind (h prog w E _ (wpAny_truthy_bool q))
theorem Fi(d:xI s.heap l)(hu:A.units<cLine):Eq3 A s .none (.ref l) false:=by
 obtain⟨es,ep,ho⟩:=d
 have a:SeqAt.RcAt A s .none (.ref l) false:=fun prog w E Q h=>SeqAt.rc_eq_decline_or (k:=false) rfl ⟨_,ho,rfl⟩ (by decide) yU F.slot_NoneType_eq F.slot_dict_eq_refl
  (fun _ hq=>call_gives F.slot_NoneType_eq rfl F.entry_NoneType_eq (F.args_NoneType_eq_2 _ _) (SeqAt.NoneType___eq___none_ref_0 l) hq)
  (fun _ hq=>call_meets F.slot_dict_eq_refl ⟨_,ho,rfl⟩ F.entry_dict_eq (F.args_dict_eq_2 _ _) (JT l es ep) ⟨ho,hq⟩)
  (fun _ hq=>wpAny_of_eq (rfl:isSame .none (.ref l)=pure false) hq) (.inr hu) h
 exact⟨a,kz nofun a,fun prog w E Q h=>SeqAt.rc_ne_decline_or (k:=false) rfl ⟨_,ho,rfl⟩ (by decide) yU F.slot_NoneType_ne F.slot_dict_ne_refl
  (fun _ hq=>call_gives F.slot_NoneType_ne rfl F.entry_NoneType_ne (F.args_NoneType_ne_2 _ _) (SeqAt.NoneType___ne___none_ref_0 l) hq)
  (fun _ hq=>call_meets F.slot_dict_ne_refl ⟨_,ho,rfl⟩ F.entry_dict_ne (F.args_dict_ne_2 _ _) (Kf l es ep) ⟨ho,hq⟩)
  (fun _ hq=>wpAny_of_eq (rfl:isSame .none (.ref l)=pure false) hq) (.inr hu) h⟩
theorem IV(c:Bool)(d:xI s.heap l)(hu:A.units<cLine):Eq3 A s (.bool c) (.ref l) false:=by
 obtain⟨es,ep,ho⟩:=d
 have a:SeqAt.RcAt A s (.bool c) (.ref l) false:=fun prog w E Q h=>SeqAt.rc_eq_decline_or (k:=false) rfl ⟨_,ho,rfl⟩ (by decide) BF F.slot_bool_eq F.slot_dict_eq_refl
  (fun _ hq=>call_meets F.slot_bool_eq rfl F.entry_int_eq (F.args_int_eq_2 _ _) (Ln l es ep c) ⟨ho,hq⟩)
  (fun _ hq=>call_meets F.slot_dict_eq_refl ⟨_,ho,rfl⟩ F.entry_dict_eq (F.args_dict_eq_2 _ _) (LJ l es ep c) ⟨ho,hq⟩)
  (fun _ hq=>wpAny_of_eq (rfl:isSame (.bool c) (.ref l)=pure false) hq) (.inr hu) h
 exact⟨a,kz nofun a,fun prog w E Q h=>SeqAt.rc_ne_decline_or (k:=false) rfl ⟨_,ho,rfl⟩ (by decide) BF F.slot_bool_ne F.slot_dict_ne_refl
  (fun _ hq=>call_meets F.slot_bool_ne rfl F.entry_int_ne (F.args_int_ne_2 _ _) (Lw l es ep c) ⟨ho,hq⟩)
  (fun _ hq=>call_meets F.slot_dict_ne_refl ⟨_,ho,rfl⟩ F.entry_dict_ne (F.args_dict_ne_2 _ _) (LF l es ep c) ⟨ho,hq⟩)
  (fun _ hq=>wpAny_of_eq (rfl:isSame (.bool c) (.ref l)=pure false) hq) (.inr hu) h⟩
theorem Jz(c:Int)(u:Tok)(d:xI s.heap l)(hu:A.units<cLine):Eq3 A s (.int c u) (.ref l) false:=by
 obtain⟨es,ep,ho⟩:=d
 have a:SeqAt.RcAt A s (.int c u) (.ref l) false:=fun prog w E Q h=>SeqAt.rc_eq_decline_or (k:=false) (typeIs_int s c u) ⟨_,ho,rfl⟩ (by decide) mY F.slot_int_eq F.slot_dict_eq_refl
  (fun _ hq=>call_meets F.slot_int_eq (typeIs_int s c u) F.entry_int_eq (F.args_int_eq_2 _ _) (MO l es ep c u) ⟨ho,hq⟩)
  (fun _ hq=>call_meets F.slot_dict_eq_refl ⟨_,ho,rfl⟩ F.entry_dict_eq (F.args_dict_eq_2 _ _) (L4 l es ep c u) ⟨ho,hq⟩)
  (fun _ hq=>wpAny_of_eq (rfl:isSame (.int c u) (.ref l)=pure false) hq) (.inr hu) h
 exact⟨a,kz nofun a,fun prog w E Q h=>SeqAt.rc_ne_decline_or (k:=false) (typeIs_int s c u) ⟨_,ho,rfl⟩ (by decide) mY F.slot_int_ne F.slot_dict_ne_refl
  (fun _ hq=>call_meets F.slot_int_ne (typeIs_int s c u) F.entry_int_ne (F.args_int_ne_2 _ _) (MT l es ep c u) ⟨ho,hq⟩)
  (fun _ hq=>call_meets F.slot_dict_ne_refl ⟨_,ho,rfl⟩ F.entry_dict_ne (F.args_dict_ne_2 _ _) (MS l es ep c u) ⟨ho,hq⟩)
  (fun _ hq=>wpAny_of_eq (rfl:isSame (.int c u) (.ref l)=pure false) hq) (.inr hu) h⟩
theorem IL(c:Str)(u:Tok)(d:xI s.heap l)(hu:A.units<cLine):Eq3 A s (.str c u) (.ref l) false:=by
 obtain⟨es,ep,ho⟩:=d
 have a:SeqAt.RcAt A s (.str c u) (.ref l) false:=fun prog w E Q h=>SeqAt.rc_eq_decline_or (k:=false) (typeIs_str s c u) ⟨_,ho,rfl⟩ (by decide) rZ F.slot_str_eq F.slot_dict_eq_refl
  (fun _ hq=>call_meets F.slot_str_eq (typeIs_str s c u) F.entry_str_eq (F.args_str_eq_2 _ _) (Nb l es ep c u) ⟨ho,hq⟩)
  (fun _ hq=>call_meets F.slot_dict_eq_refl ⟨_,ho,rfl⟩ F.entry_dict_eq (F.args_dict_eq_2 _ _) (LM l es ep c u) ⟨ho,hq⟩)
  (fun _ hq=>wpAny_of_eq (rfl:isSame (.str c u) (.ref l)=pure false) hq) (.inr hu) h
 exact⟨a,kz nofun a,fun prog w E Q h=>SeqAt.rc_ne_decline_or (k:=false) (typeIs_str s c u) ⟨_,ho,rfl⟩ (by decide) rZ F.slot_str_ne F.slot_dict_ne_refl
  (fun _ hq=>call_meets F.slot_str_ne (typeIs_str s c u) F.entry_str_ne (F.args_str_ne_2 _ _) (MW l es ep c u) ⟨ho,hq⟩)
  (fun _ hq=>call_meets F.slot_dict_ne_refl ⟨_,ho,rfl⟩ F.entry_dict_ne (F.args_dict_ne_2 _ _) (LH l es ep c u) ⟨ho,hq⟩)
  (fun _ hq=>wpAny_of_eq (rfl:isSame (.str c u) (.ref l)=pure false) hq) (.inr hu) h⟩
theorem rO{b:Addr}{ob ol:Obj}{Q:Bool->Shared->Prop}{M:Model}{E:Value->Shared->Prop}(h1:s.heap.get? b=some ob)(h2:s.heap.get? l=some ol)(hb:ob.cls≠ol.cls)(hl:ol.cls≠.type "tuple")(q:Q false s):wpAny M A (isSame (.ref b) (.ref l)) Q E s:=
 SeqAt.wpAny_isSame_ref_other' (fun e=>by subst e;rw[h1] at h2;cases h2;exact hb rfl) h1 h2 hl q
theorem Jr{b:Addr}{its:Array Value}(hb:s.heap.IsTuple b its)(d:xI s.heap l)(hu:A.units<cLine):Eq3 A s (.ref b) (.ref l) false:=by
 obtain⟨es,ep,ho⟩:=d;obtain⟨⟨cls,dd,data,sl⟩,hp,hc,n,hd⟩:=id hb;simp only at hc hd;subst hc hd;have ne:Value.ref b≠Value.ref l:=fun e=>by cases e;exact absurd (congrArg (fun o:Obj=>o.cls) (Option.some.inj (hp.symm.trans ho))) (by simp)
 have a:SeqAt.RcAt A s (.ref b) (.ref l) false:=fun prog w E Q h=>SeqAt.rc_eq_decline_or (k:=false) ⟨_,hp,rfl⟩ ⟨_,ho,rfl⟩ (by decide) rY F.slot_tuple_eq F.slot_dict_eq_refl
  (fun _ hq=>call_meets F.slot_tuple_eq ⟨_,hp,rfl⟩ F.entry_tuple_eq (F.args_tuple_eq_2 _ _) (M8 l b es ep _ _ _ _) ⟨ho,hp,hq⟩)
  (fun _ hq=>call_meets F.slot_dict_eq_refl ⟨_,ho,rfl⟩ F.entry_dict_eq (F.args_dict_eq_2 _ _) (L8 l b es ep _ _ _ _) ⟨ho,hp,hq⟩)
  (fun _ hq=>rO hp ho (by simp) (by simp) hq) (.inr hu) h
 exact⟨a,kz ne a,fun prog w E Q h=>SeqAt.rc_ne_decline_or (k:=false) ⟨_,hp,rfl⟩ ⟨_,ho,rfl⟩ (by decide) rY F.slot_tuple_ne F.slot_dict_ne_refl
  (fun _ hq=>call_meets F.slot_tuple_ne ⟨_,hp,rfl⟩ F.entry_tuple_ne (F.args_tuple_ne_2 _ _) (M0 l b es ep _ _ _ _) ⟨ho,hp,hq⟩)
  (fun _ hq=>call_meets F.slot_dict_ne_refl ⟨_,ho,rfl⟩ F.entry_dict_ne (F.args_dict_ne_2 _ _) (L0 l b es ep _ _ _ _) ⟨ho,hp,hq⟩)
  (fun _ hq=>rO hp ho (by simp) (by simp) hq) (.inr hu) h⟩
theorem I0{b:Addr}{its:Array Value}(hb:s.heap.IsList b its)(d:xI s.heap l)(hu:A.units<cLine):Eq3 A s (.ref b) (.ref l) false:=by
 obtain⟨es,ep,ho⟩:=d;obtain⟨⟨cls,dd,data,sl⟩,hp,hc,n,hd⟩:=id hb;simp only at hc hd;subst hc hd;have ne:Value.ref b≠Value.ref l:=fun e=>by cases e;exact absurd (congrArg (fun o:Obj=>o.cls) (Option.some.inj (hp.symm.trans ho))) (by simp)
 have a:SeqAt.RcAt A s (.ref b) (.ref l) false:=fun prog w E Q h=>SeqAt.rc_eq_decline_or (k:=false) ⟨_,hp,rfl⟩ ⟨_,ho,rfl⟩ (by decide) rM F.slot_list_eq F.slot_dict_eq_refl
  (fun _ hq=>call_meets F.slot_list_eq ⟨_,hp,rfl⟩ F.entry_list_eq (F.args_list_eq_2 _ _) (M4 l b es ep _ _ _ _) ⟨ho,hp,hq⟩)
  (fun _ hq=>call_meets F.slot_dict_eq_refl ⟨_,ho,rfl⟩ F.entry_dict_eq (F.args_dict_eq_2 _ _) (LK l b es ep _ _ _ _) ⟨ho,hp,hq⟩)
  (fun _ hq=>rO hp ho (by simp) (by simp) hq) (.inr hu) h
 exact⟨a,kz ne a,fun prog w E Q h=>SeqAt.rc_ne_decline_or (k:=false) ⟨_,hp,rfl⟩ ⟨_,ho,rfl⟩ (by decide) rM F.slot_list_ne F.slot_dict_ne_refl
  (fun _ hq=>call_meets F.slot_list_ne ⟨_,hp,rfl⟩ F.entry_list_ne (F.args_list_ne_2 _ _) (M6 l b es ep _ _ _ _) ⟨ho,hp,hq⟩)
  (fun _ hq=>call_meets F.slot_dict_ne_refl ⟨_,ho,rfl⟩ F.entry_dict_ne (F.args_dict_ne_2 _ _) (LU l b es ep _ _ _ _) ⟨ho,hp,hq⟩)
  (fun _ hq=>rO hp ho (by simp) (by simp) hq) (.inr hu) h⟩
end
end L2
namespace L2
open PySem PySem.Spec PyProof.Rows
section
variable{X:Cx}{pins:List (Addr×Obj)}{σ:St}{H:Hp}{s:Shared}
theorem B5:∀ {xs:List V} {us:List Value} {j:Nat} {x:V},aT xs us->xs[j]?=some x->∀(h:j<us.toArray.size),bp x us.toArray[j]:=fun {xs us j x} r e h=>by
 obtain⟨u,h1,h2⟩:=r.get e
 have:us[j]?=some us.toArray[j]:=by
  rw[List.getElem?_eq_getElem (by simpa using h)]
  simp
 rw[h1] at this;cases this;exact h2
theorem li(I:Inv X pins σ H s){a:Addr}{xs:List V}(h:H a=some (.tup xs)):∃its:List Value,aT xs its/\s.heap.IsTuple a its.toArray:=by
 obtain⟨its,r,p,_⟩:=I.tuple (SqT.of (K:=X.K) h);exact⟨its,r,p⟩
theorem n9(I:Inv X pins σ H s){a:Addr}{xs:List V}(h:H a=some (.lst xs)):∃its:List Value,aT xs its/\s.heap.IsList a its.toArray:=by
 obtain⟨its,r,p,_⟩:=I.list (SqL.of (K:=X.K) h);exact⟨its,r,p.isList⟩
theorem uW(I:Inv X pins σ H s){a:Addr}{kvs:List (Key×V)}(h:H a=some (.dK kvs)):xI s.heap a:=by
 obtain⟨_,_,vs,_,o,es,ep,e1,⟨c1,c2,c3⟩,e2,_⟩:=I.hok _ _ h;obtain⟨cls,dd,data,sl⟩:=o;simp only at c1 c2 c3 e2;subst c1 c2 c3 e2;exact⟨_,_,e1⟩
theorem va(I:Inv X pins σ H s){a:Addr}{kvs:List (List Key×V)}(h:H a=some (.dT kvs)):xI s.heap a:=by
 obtain⟨_,_,vs,_,o,es,ep,e1,⟨c1,c2,c3⟩,e2,_⟩:=I.hok _ _ h;obtain⟨cls,dd,data,sl⟩:=o;simp only at c1 c2 c3 e2;subst c1 c2 c3 e2;exact⟨_,_,e1⟩
theorem D2{ds es:List D}:((List.range (min ds.length es.length)).all (fun j=>eqD (ds.getD j .non) (es.getD j .non)) && ds.length == es.length)=gN ds es:=by
 by_cases h:ds.length=es.length
 ·rw[←nO h]
  have:min ds.length es.length=ds.length:=by omega
  rw[this];simp[h]
 ·rw[tO h]
  have:(ds.length == es.length)=false:=by simpa using h
  rw[this,Bool.and_false]
theorem xu(I:Inv X pins σ H s)(n:Nat):∀(d e:D)(x y:V)(v u:Value)(A:Around),dep d<=n->A.units+n<cLine->Dat H d x->Dat H e y->bp x v->bp y u ->
  SeqAt.RcAt A s v u (eqD d e)/\SeqAt.EqAt A s v u (eqD d e)/\SeqAt.RcNeAt A s v u (!eqD d e):=by
 induction n with
 |zero=>
  intro d e x y v u A hd hu hx hy rx ry;have hu':A.units<cLine:=by omega
  cases d with
  |tup ds=>simp only[dep] at hd;omega
  |lst ds=>simp only[dep] at hd;omega
  |dk ds=>simp only[dep] at hd;omega
  |dt ds=>simp only[dep] at hd;omega
  |non=>
   simp only[Dat] at hx;subst hx;cases rx
   cases e with
   |non=>simp only[Dat] at hy;subst hy;cases ry;exact⟨SeqAt.RcAt.none_none,SeqAt.EqAt.same _,SeqAt.RcNeAt.none_none⟩
   |bl b=>simp only[Dat] at hy;subst hy;cases ry;exact⟨SeqAt.RcAt.none_bool b,SeqAt.EqAt.none_bool b,SeqAt.RcNeAt.none_bool b⟩
   |int b=>simp only[Dat] at hy;subst hy;obtain⟨t,rfl⟩:=ry;exact⟨SeqAt.RcAt.none_int b t,SeqAt.EqAt.none_int b t,SeqAt.RcNeAt.none_int b t⟩
   |str b=>simp only[Dat] at hy;subst hy;obtain⟨t,rfl⟩:=ry;exact⟨SeqAt.RcAt.none_str b t,SeqAt.EqAt.none_str b t,SeqAt.RcNeAt.none_str b t⟩
   |tup es=>
    simp only[Dat] at hy;obtain⟨b,ys,rfl,hb,_⟩:=hy;cases ry;obtain⟨its,_,p⟩:=li I hb;exact⟨SeqAt.RcAt.none_tuple p hu',SeqAt.EqAt.none_tuple p hu',SeqAt.RcNeAt.none_tuple p hu'⟩
   |lst es=>
    simp only[Dat] at hy;obtain⟨b,ys,rfl,hb,_⟩:=hy;cases ry;obtain⟨its,_,p⟩:=n9 I hb;exact⟨SeqAt.RcAt.none_list p hu',SeqAt.EqAt.none_list p hu',SeqAt.RcNeAt.none_list p hu'⟩
   |dk es=>
    simp only[Dat] at hy;obtain⟨b,ys,rfl,hb,_⟩:=hy;cases ry;exact Fi (uW I hb) hu'
   |dt es=>
    simp only[Dat] at hy;obtain⟨b,ys,rfl,hb,_⟩:=hy;cases ry;exact Fi (va I hb) hu'
  |bl a=>
   simp only[Dat] at hx;subst hx;cases rx
   cases e with
   |non=>simp only[Dat] at hy;subst hy;cases ry;exact⟨SeqAt.RcAt.bool_none a,SeqAt.EqAt.bool_none a,SeqAt.RcNeAt.bool_none a⟩
   |bl b=>simp only[Dat] at hy;subst hy;cases ry;exact⟨SeqAt.RcAt.bool_bool a b,SeqAt.EqAt.bool_bool a b,SeqAt.RcNeAt.bool_bool a b⟩
   |int b=>simp only[Dat] at hy;subst hy;obtain⟨t,rfl⟩:=ry;exact⟨SeqAt.RcAt.bool_int a b t,SeqAt.EqAt.bool_int a b t,SeqAt.RcNeAt.bool_int a b t⟩
   |str b=>simp only[Dat] at hy;subst hy;obtain⟨t,rfl⟩:=ry;exact⟨SeqAt.RcAt.bool_str a b t,SeqAt.EqAt.bool_str a b t,SeqAt.RcNeAt.bool_str a b t⟩
   |tup es=>
    simp only[Dat] at hy;obtain⟨b,ys,rfl,hb,_⟩:=hy;cases ry;obtain⟨its,_,p⟩:=li I hb;exact⟨SeqAt.RcAt.bool_tuple a p hu',SeqAt.EqAt.bool_tuple a p hu',SeqAt.RcNeAt.bool_tuple a p hu'⟩
   |lst es=>
    simp only[Dat] at hy;obtain⟨b,ys,rfl,hb,_⟩:=hy;cases ry;obtain⟨its,_,p⟩:=n9 I hb;exact⟨SeqAt.RcAt.bool_list a p hu',SeqAt.EqAt.bool_list a p hu',SeqAt.RcNeAt.bool_list a p hu'⟩
   |dk es=>
    simp only[Dat] at hy;obtain⟨b,ys,rfl,hb,_⟩:=hy;cases ry;exact IV a (uW I hb) hu'
   |dt es=>
    simp only[Dat] at hy;obtain⟨b,ys,rfl,hb,_⟩:=hy;cases ry;exact IV a (va I hb) hu'
  |int a=>
   simp only[Dat] at hx;subst hx;obtain⟨t',rfl⟩:=rx
   cases e with
   |non=>simp only[Dat] at hy;subst hy;cases ry;exact⟨SeqAt.RcAt.int_none a t',SeqAt.EqAt.int_none a t',SeqAt.RcNeAt.int_none a t'⟩
   |bl b=>simp only[Dat] at hy;subst hy;cases ry;exact⟨SeqAt.RcAt.int_bool a t' b,SeqAt.EqAt.int_bool a t' b,SeqAt.RcNeAt.int_bool a t' b⟩
   |int b=>simp only[Dat] at hy;subst hy;obtain⟨t,rfl⟩:=ry;exact⟨SeqAt.RcAt.int_int a t' b t,SeqAt.EqAt.int_int a t' b t,SeqAt.RcNeAt.int_int a t' b t⟩
   |str b=>simp only[Dat] at hy;subst hy;obtain⟨t,rfl⟩:=ry;exact⟨SeqAt.RcAt.int_str a t' b t,SeqAt.EqAt.int_str a t' b t,SeqAt.RcNeAt.int_str a t' b t⟩
   |tup es=>
    simp only[Dat] at hy;obtain⟨b,ys,rfl,hb,_⟩:=hy;cases ry;obtain⟨its,_,p⟩:=li I hb;exact⟨SeqAt.RcAt.int_tuple a t' p hu',SeqAt.EqAt.int_tuple a t' p hu',SeqAt.RcNeAt.int_tuple a t' p hu'⟩
   |lst es=>
    simp only[Dat] at hy;obtain⟨b,ys,rfl,hb,_⟩:=hy;cases ry;obtain⟨its,_,p⟩:=n9 I hb;exact⟨SeqAt.RcAt.int_list a t' p hu',SeqAt.EqAt.int_list a t' p hu',SeqAt.RcNeAt.int_list a t' p hu'⟩
   |dk es=>
    simp only[Dat] at hy;obtain⟨b,ys,rfl,hb,_⟩:=hy;cases ry;exact Jz a t' (uW I hb) hu'
   |dt es=>
    simp only[Dat] at hy;obtain⟨b,ys,rfl,hb,_⟩:=hy;cases ry;exact Jz a t' (va I hb) hu'
  |str a=>
   simp only[Dat] at hx;subst hx;obtain⟨t',rfl⟩:=rx
   cases e with
   |non=>simp only[Dat] at hy;subst hy;cases ry;exact⟨SeqAt.RcAt.str_none a t',SeqAt.EqAt.str_none a t',SeqAt.RcNeAt.str_none a t'⟩
   |bl b=>simp only[Dat] at hy;subst hy;cases ry;exact⟨SeqAt.RcAt.str_bool a t' b,SeqAt.EqAt.str_bool a t' b,SeqAt.RcNeAt.str_bool a t' b⟩
   |int b=>simp only[Dat] at hy;subst hy;obtain⟨t,rfl⟩:=ry;exact⟨SeqAt.RcAt.str_int a t' b t,SeqAt.EqAt.str_int a t' b t,SeqAt.RcNeAt.str_int a t' b t⟩
   |str b=>simp only[Dat] at hy;subst hy;obtain⟨t,rfl⟩:=ry;exact⟨SeqAt.RcAt.str_str a t' b t,SeqAt.EqAt.str_str a t' b t,SeqAt.RcNeAt.str_str a t' b t⟩
   |tup es=>
    simp only[Dat] at hy;obtain⟨b,ys,rfl,hb,_⟩:=hy;cases ry;obtain⟨its,_,p⟩:=li I hb;exact⟨SeqAt.RcAt.str_tuple a t' p hu',SeqAt.EqAt.str_tuple a t' p hu',SeqAt.RcNeAt.str_tuple a t' p hu'⟩
   |lst es=>
    simp only[Dat] at hy;obtain⟨b,ys,rfl,hb,_⟩:=hy;cases ry;obtain⟨its,_,p⟩:=n9 I hb;exact⟨SeqAt.RcAt.str_list a t' p hu',SeqAt.EqAt.str_list a t' p hu',SeqAt.RcNeAt.str_list a t' p hu'⟩
   |dk es=>
    simp only[Dat] at hy;obtain⟨b,ys,rfl,hb,_⟩:=hy;cases ry;exact IL a t' (uW I hb) hu'
   |dt es=>
    simp only[Dat] at hy;obtain⟨b,ys,rfl,hb,_⟩:=hy;cases ry;exact IL a t' (va I hb) hu'
 |succ n ih=>
  intro d e x y v u A hd hu hx hy rx ry;have hu':A.units<cLine:=by omega
  by_cases h0:dep d<=n
  ·exact ih d e x y v u A h0 (by omega) hx hy rx ry
  have hin:A.in1.units+n<cLine:=by show A.units+1+n<cLine;omega
  have items:∀(ds es:List D)(xs ys:List V)(its its2:List Value),ib ds<=n->aM H ds xs->aM H es ys->aT xs its->aT ys its2 ->
    ∀j (h1:j<its.toArray.size) (h2:j<its2.toArray.size),SeqAt.EqAt A.in1 s its.toArray[j] its2.toArray[j] (eqD (ds.getD j .non) (es.getD j .non)):=by
   intro ds es xs ys its its2 hdp hxs hys r1 r2 j h1 h2;have l1:j<ds.length:=by rw[←hxs.length,r1.length];simpa using h1
   have l2:j<es.length:=by rw[←hys.length,r2.length];simpa using h2
   obtain⟨x',ex,hx'⟩:=hxs.get (List.getElem?_eq_getElem l1);obtain⟨y',ey,hy'⟩:=hys.get (List.getElem?_eq_getElem l2);have g1:ds.getD j .non=ds[j]:=by rw[List.getD_eq_getElem?_getD,List.getElem?_eq_getElem l1];rfl
   have g2:es.getD j .non=es[j]:=by rw[List.getD_eq_getElem?_getD,List.getElem?_eq_getElem l2];rfl
   rw[g1,g2];exact(ih ds[j] es[j] x' y' _ _ A.in1 (Nat.le_trans (zh (List.getElem_mem l1)) hdp) hin hx' hy' (B5 r1 ex h1) (B5 r2 ey h2)).2.1
  cases d with
  |non=>simp only[dep] at h0;omega
  |bl a=>simp only[dep] at h0;omega
  |int a=>simp only[dep] at h0;omega
  |str a=>simp only[dep] at h0;omega
  |dk ds=>simp only[dep] at hd;have:cLine=9900:=rfl;omega
  |dt ds=>simp only[dep] at hd;have:cLine=9900:=rfl;omega
  |tup ds=>
   simp only[dep] at hd;have hx0:=hx;simp only[Dat] at hx;obtain⟨a,xs,rfl,ha,hxs⟩:=hx;cases rx;obtain⟨its,r1,p⟩:=li I ha
   cases e with
   |non=>simp only[Dat] at hy;subst hy;cases ry;exact⟨SeqAt.RcAt.tuple_none p hu',SeqAt.EqAt.tuple_none p hu',SeqAt.RcNeAt.tuple_none p hu'⟩
   |bl b=>simp only[Dat] at hy;subst hy;cases ry;exact⟨SeqAt.RcAt.tuple_bool b p hu',SeqAt.EqAt.tuple_bool b p hu',SeqAt.RcNeAt.tuple_bool b p hu'⟩
   |int b=>simp only[Dat] at hy;subst hy;obtain⟨t,rfl⟩:=ry;exact⟨SeqAt.RcAt.tuple_int b t p hu',SeqAt.EqAt.tuple_int b t p hu',SeqAt.RcNeAt.tuple_int b t p hu'⟩
   |str b=>simp only[Dat] at hy;subst hy;obtain⟨t,rfl⟩:=ry;exact⟨SeqAt.RcAt.tuple_str b t p hu',SeqAt.EqAt.tuple_str b t p hu',SeqAt.RcNeAt.tuple_str b t p hu'⟩
   |lst es=>
    simp only[Dat] at hy;obtain⟨b,ys,rfl,hb,_⟩:=hy;cases ry;obtain⟨its2,_,p2⟩:=n9 I hb;exact⟨SeqAt.RcAt.tuple_list p p2 hu',SeqAt.EqAt.tuple_list p p2 hu',SeqAt.RcNeAt.tuple_list p p2 hu'⟩
   |dk es=>
    simp only[Dat] at hy;obtain⟨b,ys,rfl,hb,_⟩:=hy;cases ry;exact Jr p (uW I hb) hu'
   |dt es=>
    simp only[Dat] at hy;obtain⟨b,ys,rfl,hb,_⟩:=hy;cases ry;exact Jr p (va I hb) hu'
   |tup es=>
    have hy0:=hy;simp only[Dat] at hy;obtain⟨b,ys,rfl,hb,hys⟩:=hy;cases ry;obtain⟨its2,r2,p2⟩:=li I hb;have it:=items ds es xs ys its its2 (by omega) hxs hys r1 r2
    have z1:its.toArray.size=ds.length:=by rw[←hxs.length,r1.length];simp
    have z2:its2.toArray.size=es.length:=by rw[←hys.length,r2.length];simp
    have e0:=D2 (ds:=ds) (es:=es)
    have rc:SeqAt.RcAt A s (.ref a) (.ref b) (gN ds es):=by
     have:=SeqAt.RcAt.tuples p p2 hu' it;rw[z1,z2,e0] at this;exact this
    have rn:SeqAt.RcNeAt A s (.ref a) (.ref b) (!gN ds es):=by
     have:=SeqAt.RcNeAt.tuples p p2 hu' it;rw[z1,z2,e0] at this;exact this
    simp only[eqD];refine⟨rc,?_,rn⟩;by_cases hab:a=b
    ·subst hab
     have:D.tup ds=D.tup es:=hx0.inj hy0;cases this;rw[j3];exact SeqAt.EqAt.same _
    ·exact .of_refs hab rc
  |lst ds=>
   simp only[dep] at hd;have hx0:=hx;simp only[Dat] at hx;obtain⟨a,xs,rfl,ha,hxs⟩:=hx;cases rx;obtain⟨its,r1,p⟩:=n9 I ha
   cases e with
   |non=>simp only[Dat] at hy;subst hy;cases ry;exact⟨SeqAt.RcAt.list_none p hu',SeqAt.EqAt.list_none p hu',SeqAt.RcNeAt.list_none p hu'⟩
   |bl b=>simp only[Dat] at hy;subst hy;cases ry;exact⟨SeqAt.RcAt.list_bool b p hu',SeqAt.EqAt.list_bool b p hu',SeqAt.RcNeAt.list_bool b p hu'⟩
   |int b=>simp only[Dat] at hy;subst hy;obtain⟨t,rfl⟩:=ry;exact⟨SeqAt.RcAt.list_int b t p hu',SeqAt.EqAt.list_int b t p hu',SeqAt.RcNeAt.list_int b t p hu'⟩
   |str b=>simp only[Dat] at hy;subst hy;obtain⟨t,rfl⟩:=ry;exact⟨SeqAt.RcAt.list_str b t p hu',SeqAt.EqAt.list_str b t p hu',SeqAt.RcNeAt.list_str b t p hu'⟩
   |tup es=>
    simp only[Dat] at hy;obtain⟨b,ys,rfl,hb,_⟩:=hy;cases ry;obtain⟨its2,_,p2⟩:=li I hb;exact⟨SeqAt.RcAt.list_tuple p p2 hu',SeqAt.EqAt.list_tuple p p2 hu',SeqAt.RcNeAt.list_tuple p p2 hu'⟩
   |dk es=>
    simp only[Dat] at hy;obtain⟨b,ys,rfl,hb,_⟩:=hy;cases ry;exact I0 p (uW I hb) hu'
   |dt es=>
    simp only[Dat] at hy;obtain⟨b,ys,rfl,hb,_⟩:=hy;cases ry;exact I0 p (va I hb) hu'
   |lst es=>
    have hy0:=hy;simp only[Dat] at hy;obtain⟨b,ys,rfl,hb,hys⟩:=hy;cases ry;obtain⟨its2,r2,p2⟩:=n9 I hb;have it:=items ds es xs ys its its2 (by omega) hxs hys r1 r2
    have z1:its.toArray.size=ds.length:=by rw[←hxs.length,r1.length];simp
    have z2:its2.toArray.size=es.length:=by rw[←hys.length,r2.length];simp
    have C5:SeqAt.RcAt A s (.ref a) (.ref b) (gN ds es)/\SeqAt.RcNeAt A s (.ref a) (.ref b) (!gN ds es):=by
     by_cases hl:ds.length=es.length
     ·have r:=SeqAt.RcAt.lists p p2 (by rw[z1,z2];exact hl) hu' it
      have q:=SeqAt.RcNeAt.lists p p2 (by rw[z1,z2];exact hl) hu' it
      rw[z1,nO hl] at r q;exact⟨r,q⟩
     ·have hne:(its.toArray.size != its2.toArray.size)=true:=by rw[z1,z2];simpa using hl
      rw[tO hl];exact⟨SeqAt.RcAt.lists_lengths p p2 hne hu',SeqAt.RcNeAt.lists_lengths p p2 hne hu'⟩
    simp only[eqD];refine⟨C5.1,?_,C5.2⟩;by_cases hab:a=b
    ·subst hab
     have:D.lst ds=D.lst es:=hx0.inj hy0;cases this;rw[j3];exact SeqAt.EqAt.same _
    ·exact .of_refs hab C5.1
noncomputable def J8(neg:Bool):R2:=fun x y H Q=>∃d e,Dat H d x/\Dat H e y/\dep d<=100/\Q (.bl (if neg then !eqD d e else eqD d e)) H
theorem bh(hu:X.A.units+100<cLine):OpR X (compareOp .Eq) (J8 false):=by
 intro pins s σ H x y v u Q I rx ry h;obtain⟨d,e,hx,hy,hd,q⟩:=h;exact(xu I 100 d e x y v u X.A hd hu hx hy rx ry).1 X.prog X.w _ _ ⟨.bl _,H,I,rfl,q⟩
theorem i9(hu:X.A.units+100<cLine):OpR X (compareOp .NotEq) (J8 true):=by
 intro pins s σ H x y v u Q I rx ry h;obtain⟨d,e,hx,hy,hd,q⟩:=h;exact(xu I 100 d e x y v u X.A hd hu hx hy rx ry).2.2 X.prog X.w _ _ ⟨.bl _,H,I,rfl,q⟩
end
theorem tF{H:Hp}{p:Addr}{o:HO}(h:H p=none):db H (upd H p o):=fun b u e=>by
 rw[aD (aW e h)];exact e
theorem qk(H:Hp):∀ns:List Int,aM H (ns.map D.int) (ns.map V.int)
 | []=>by simp[aM]
 |n::r=>by
  simp only[List.map_cons,aM];exact⟨_,_,rfl,by simp[Dat],qk H r⟩
theorem Ei{x y:Int}(h:-(2^64)<x/\x<2^64):wB x y:=.inl h
theorem FA{x y:Int}(h:-(2^64)<y/\y<2^64):wB x y:=.inr h
section
variable{X:Cx}{tg a b l:Expr}{ta tb tl:TE}{pos:Pos}
theorem ai(K:W.Frag)(h:X.K=K):IxR X (rIx K):=h ▸ JF
theorem gc(K:W.Frag)(h:X.K=K):g9 X (.builtin "len") (fun xs H Q=>∃x n,xs=[x]/\Lg K x H n/\Q (.int n) H):=h ▸ E7
theorem vC(K:W.Frag)(h:X.K=K)(hc:X.calm=true):g9 X (.builtin "all") (fun xs H Q=>∃(a:Addr)(bs:List Bool),xs=[.ref a]/\SqL K H a (bs.map V.bl)/\Q (.bl (bs.all id)) H):=h ▸ E4 hc
theorem bO(K:W.Frag)(h:X.K=K)(ha:PE X a ta)(he:∀whole,isTrue a X.env whole=(do let v ← whole;standAt a.pos;holding [v] (truthy v))):
  PT X a (fun σ H Q=>ta σ H fun x H'=>∃k,yo K x H' k/\Q k H'):=h ▸ GF ha he
theorem nI(K:W.Frag)(h:X.K=K):g9 X (.type "list") (fun xs H Q=>∃p ys,xs=[.ref p]/\(SqL K H p ys\/SqT K H p ys)/\∀l,H l=none->Q (.ref l) (upd H l (.lst ys))):=h ▸ wz
theorem aY(K:W.Frag)(h:X.K=K):g9 X (.type "tuple") (fun xs H Q=>∃p ys,xs=[.ref p]/\((SqL K H p ys/\∀l,H l=none->Q (.ref l) (upd H l (.tup ys)))\/(SqT K H p ys/\Q (.ref p) H))):=h ▸ uC
end
noncomputable def Nf(J:It)(g:TG)(tb:TS)(D:nu)(σ:St)(H:Hp):Prop:=∃W:Nat->Nat->St->Hp->Prop,(∃m,W 0 m σ H)/\∀i m σ H,W i m σ H ->
 (J.stop i H/\D.nx σ H)\/(J.go i H/\∃N:St->Hp->Prop,(∀σ' H',N σ' H'->∃m',m'<m/\W (i+1) m' σ' H')/\∀x H',J.yld i H x H'->g x σ H' fun σ2 H2=>tb { D with nx:=N,ct:=N,bk:=D.nx } σ2 H2)
theorem H9(wi:TI)(g:TG)(tb:TS)(D:nu)(σ:St)(H:Hp):KU wi g tb D σ H=wi σ H fun J H1=>Nf J g tb D σ H1:=rfl
noncomputable def E8(H H':Hp):Prop:=∀b xs,H b=some (.tup xs)->H' b=some (.tup xs)
mutual
noncomputable def noL:D->Bool
 |.lst _=>false
 |.dk _=>false
 |.dt _=>false
 |.tup ds=>Nx ds
 |_=>true
noncomputable def Nx:List D->Bool
 | []=>true
 |d::ds=>noL d && Nx ds
end
mutual
theorem Dat.t{H H':Hp}(e:E8 H H'):∀ {d:D} {v:V},noL d=true->Dat H d v->Dat H' d v
 |.non,v,_,h=>by simpa only[Dat] using h
 |.bl b,v,_,h=>by simpa only[Dat] using h
 |.int i,v,_,h=>by simpa only[Dat] using h
 |.str x,v,_,h=>by simpa only[Dat] using h
 |.tup ds,v,n,h=>by
  simp only[Dat] at h ⊢;simp only[noL] at n;obtain⟨a,xs,rfl,h1,h2⟩:=h;exact⟨a,xs,rfl,e a _ h1,aM.t e n h2⟩
 |.lst ds,v,n,h=>by simp[noL] at n
 |.dk ds,v,n,h=>by simp[noL] at n
 |.dt ds,v,n,h=>by simp[noL] at n
theorem aM.t{H H':Hp}(e:E8 H H'):∀ {ds:List D} {xs:List V},Nx ds=true->aM H ds xs->aM H' ds xs
 | [],xs,_,h=>by simpa only[aM] using h
 |d::ds,xs,n,h=>by
  simp only[aM] at h ⊢;simp only[Nx,Bool.and_eq_true] at n;obtain⟨x,r,rfl,h1,h2⟩:=h;exact⟨x,r,rfl,Dat.t e n.1 h1,aM.t e n.2 h2⟩
end
theorem oo:∀ {ds:List D},(∀d∈ds,noL d=true)->Nx ds=true
 | [],_=>by simp[Nx]
 |d::ds,h=>by
  simp only[Nx,Bool.and_eq_true];exact⟨h d (List.mem_cons_self ..),oo fun e he=>h e (List.mem_cons_of_mem _ he)⟩
theorem Dw(ns:List Int):Nx (ns.map D.int)=true:=oo fun d hd=>by
 obtain⟨n,_,rfl⟩:=List.mem_map.mp hd;simp[noL]
end L2
namespace L2
end L2
namespace L2
open PySem
theorem ft.Nw{k:Nat}{A:Around}(r:ft k A):A.units+100<cLine:=by have:=r.un;omega
theorem wL:∀ {ds:List D} {n:Nat},(∀d∈ds,dep d<=n)->ib ds<=n
 | [],n,_=>by simp[ib]
 |d::ds,n,h=>by
  simp only[ib];exact Nat.max_le.mpr ⟨h d (List.mem_cons_self ..),wL fun e he=>h e (List.mem_cons_of_mem _ he)⟩
theorem m8(ns:List Int):ib (ns.map D.int)=0:=by
 have:ib (ns.map D.int)<=0:=wL fun d hd=>by
  obtain⟨n,_,rfl⟩:=List.mem_map.mp hd;simp[dep]
 omega
end L2
namespace L2
open PySem PySem.Spec PyProof.Rows
end L2
namespace L2
open PySem
theorem aM.take{H:Hp}:∀ {ds:List D} {xs:List V} (n:Nat),aM H ds xs->aM H (ds.take n) (xs.take n):=fun {ds xs} n h=>by
 refine aM.of_get (by rw[List.length_take,List.length_take,h.length]) fun i d x e1 e2=>?_
 rw[List.getElem?_take] at e1 e2;split at e1
 ·rename_i hi
  rw[if_pos hi] at e2;obtain⟨x',h1,h2⟩:=h.get e1;rw[e2] at h1;cases h1;exact h2
 ·cases e1
theorem aM.drop{H:Hp}:∀ {ds:List D} {xs:List V} (n:Nat),aM H ds xs->aM H (ds.drop n) (xs.drop n):=fun {ds xs} n h=>by
 refine aM.of_get (by rw[List.length_drop,List.length_drop,h.length]) fun i d x e1 e2=>?_
 rw[List.getElem?_drop] at e1 e2;obtain⟨x',h1,h2⟩:=h.get e1;rw[e2] at h1;cases h1;exact h2
end L2
namespace L2
open PySem PySem.Spec PyProof.Rows
section
variable{X:Cx}{e st:Expr}{te ts:TE}{pos p2:Pos}
noncomputable def JW(K:W.Frag)(te ts:TE):TE:=fun σ H Q=>te σ H fun x H1=>ts σ H1 fun k H2=>k=.int (-1)/\∃a xs,x=.ref a/\SqL K H2 a xs/\∀p,H2 p=none->Q (.ref p) (upd H2 p (.lst xs.reverse))
theorem zv(K:W.Frag)(hK:X.K=K)(he:PE X e te)(hs:PE X st ts):PE X (.Subscript e (.Slice none none (some st) p2) pos) (JW K te ts):=.mk <| by
 subst hK;intro pins s σ H Q I h;refine Subscript_ (thn (he pins s σ H _ I h) fun v s1 ⟨x,H1,I1,r1,q1⟩=>?_);refine wpAny_Slice ?_;rw[evalPart_none];refine wpAny_pure (wpAny_pure ?_);rw[evalPart_some];refine thn (hs pins s1 σ H1 _ I1 q1) fun u s2 ⟨k,H2,I2,r2,q2⟩=>?_;obtain⟨rfl,a,xs,rfl,hx,q⟩:=q2;obtain⟨t,rfl⟩:=r2;cases r1;have I4:Inv X pins σ H2 { s2 with heap:=s2.heap.push { cls:=.type "slice",data:=.fields #[.none,.none,.int (-1) t] } }:=I2.kept (t':=s2.toks) fun b ob q=>Heap.get?_push_of_some _ q
 obtain⟨its,r,ht,hz⟩:=I4.list hx;have hlen:=r.length;refine tail_any (ops:=[.ref a,.ref s2.heap.objs.size]) (ht.isList.typeIs) slot_list_getitem.lookup ?_ (by with_unfolding_all rfl)
 refine wpAny_getItem_list_slice ht.isList (Heap.IsSliceOf.new ..) .none .none (.int (-1) t) (by simp) ?_ (by rw[List.size_toArray]<;>omega)
 rw[W.krv_pick];refine⟨.ref _,_,I4.laid (t':=s2.toks) (o:=.lst xs.reverse) (fun b ob q=>Heap.get?_push_of_some _ q) (Nat.le_refl _) ?_,rfl,q _ (I4.hok.fresh (Nat.le_refl _))⟩;refine⟨by rw[List.length_reverse];exact hz,its.reverse,0,?_,Heap.get?_push_size _ rfl⟩
 exact r.reverse
end
noncomputable def LD(H:Hp)(l:Addr)(ds:List D):Prop:=Nx ds=true/\∃xs,H l=some (.lst xs)/\aM H ds xs
theorem yq{ds es:List D}:Nx (ds++es)=(Nx ds && Nx es):=by
 induction ds with
 |nil=>simp[Nx]
 |cons d ds ih=>simp[Nx,ih,Bool.and_assoc]
inductive Tr where
 |lf (x:List D)
 |nd (x:List D) (l r:Tr)
namespace Tr
noncomputable def d:Tr->D
 |.lf x=>.tup x
 |.nd x l r=>.tup (x++[l.d,r.d])
noncomputable def size:Tr->Nat
 |.lf _=>1
 |.nd _ l r=>l.size+r.size+1
noncomputable def lvs:Tr->Nat
 |.lf _=>1
 |.nd _ l r=>l.lvs+r.lvs
noncomputable def dp:Tr->Nat
 |.lf _=>0
 |.nd _ l r=>1+max l.dp r.dp
noncomputable def post:Tr->List Tr
 |.lf x=>[.lf x]
 |.nd x l r=>l.post++r.post++[.nd x l r]
noncomputable def pre:Tr->List Tr
 |.lf x=>[.lf x]
 |.nd x l r=>.nd x l r::(r.pre++l.pre)
noncomputable def ok(lw:Str):Tr->Prop
 |.lf x=>x[0]?=some (.str lw)/\Nx x=true
 |.nd x l r=>(∃w,x[0]?=some (.str w)/\w≠lw)/\Nx x=true/\l.ok lw/\r.ok lw
theorem xx:∀t:Tr,t.pre.reverse=t.post
 |.lf x=>rfl
 |.nd x l r=>by simp[pre,post,xx l,xx r]
theorem o8:∀t:Tr,t.post.length=t.size
 |.lf x=>rfl
 |.nd x l r=>by simp[post,size,o8 l,o8 r];omega
theorem yt:∀t:Tr,1<=t.size
 |.lf x=>Nat.le_refl _
 |.nd x l r=>by simp only[size];omega
theorem gO:∀t:Tr,t.size+1=2*t.lvs
 |.lf x=>rfl
 |.nd x l r=>by
  have:=gO l;have:=gO r;simp only[size,lvs];omega
theorem ok.noL{lw:Str}:∀ {t:Tr},t.ok lw->noL t.d=true
 |.lf x,h=>by simp only[d,L2.noL];exact h.2
 |.nd x l r,h=>by
  obtain⟨_,h1,h2,h3⟩:=h;simp only[d,L2.noL,yq,Bool.and_eq_true];exact⟨h1,by simp[Nx,ok.noL h2,ok.noL h3]⟩
theorem ok.post{lw:Str}:∀ {t:Tr},t.ok lw->∀u∈t.post,u.ok lw
 |.lf x,h,u,hu=>by simp only[Tr.post,List.mem_singleton] at hu;subst hu;exact h
 |.nd x l r,h,u,hu=>by
  simp only[Tr.post,List.mem_append,List.mem_singleton] at hu;rcases hu with(hu|hu)|hu
  ·exact ok.post h.2.2.1 u hu
  ·exact ok.post h.2.2.2 u hu
  ·subst hu;exact h
theorem ok.Nx{lw:Str}{ts:List Tr}(h:∀t∈ts,t.ok lw):Nx (ts.map d)=true:=oo fun e he=>by
 obtain⟨t,ht,rfl⟩:=List.mem_map.mp he;exact(h t ht).noL
noncomputable def chk(s:Tr):List Tr->List Tr->Prop
 | [],st=>st=[s]
 |.lf x::r,st=>chk s r (st++[.lf x])
 |.nd x a b::r,st=>∃st',st=st'++[a,b]/\chk s r (st'++[.nd x a b])
theorem tL(s:Tr):∀(t:Tr)(r st:List Tr),chk s r (st++[t])->chk s (t.post++r) st
 |.lf x,r,st,h=>h
 |.nd x a b,r,st,h=>by
  simp only[post,List.append_assoc];refine tL s a _ st (tL s b _ _ ?_);refine⟨st,by simp,h⟩
theorem HV(s:Tr):chk s s.post []:=by
 have:=tL s s [] [] rfl;simpa using this
end Tr
section
variable{X:Cx}
theorem KB:OpR X (compareOp .Is) (fun x y H Q=>∃c d,x=.bl c/\y=.bl d/\Q (.bl (c == d)) H):=by
 intro pins s σ H x y v u Q I rx ry h;obtain⟨c,d,rfl,rfl,q⟩:=h;cases rx;cases ry;exact is_bool (AX I q rfl)
theorem pr:OpR X (compareOp .IsNot) (fun x y H Q=>∃c d,x=.bl c/\y=.bl d/\Q (.bl (c != d)) H):=by
 intro pins s σ H x y v u Q I rx ry h;obtain⟨c,d,rfl,rfl,q⟩:=h;cases rx;cases ry;exact isnot_bool (AX I q rfl)
theorem nk{prog:Program}{w:World}{A:Around}{E:Value->Shared->Prop}{s:Shared}{t sl:Addr}{items:Array Value}{vl vu:Value}{lo hi:Option Int}{Q:Value->Shared->Prop}(ht:IsTup s.heap t items)(hs:s.heap.IsSliceOf sl vl vu .none)(pl:IsPart vl lo)(pu:IsPart vu hi)(hw:HT.sIx items.size 0 lo=0/\HT.sIx items.size items.size hi=items.size)(h:Q (.ref t) s):wpAny (model prog w) A (getItem (.ref t) (.ref sl)) Q E s:=by
 obtain⟨os,hos,hcs,hds⟩:=id hs;have hTs:s.TypeIs (.ref sl) "slice":=⟨os,hos,hcs⟩;unfold getItem
 try with_reducible refine wpAny_holding ?_
 first|refine wpAny_bind (wpAny_pure ?_)|skip
 refine wpAny_bind (wpAny_sequenceKey ht.typeIs (by decide) ?_)
 refine wpAny_bind (wpAny_callSpecial?_slot (name:=Str.ofString "__getitem__") ht.typeIs PyProof.Rows.slot_tuple_getitem
  (wpAny_call_entry PyProof.Rows.slot_tuple_getitem ht.typeIs PyProof.Rows.entry_tuple_getitem ?_ (PyProof.Rows.args_tuple_getitem _ _)))
 show wpAny _ _ (Builtin.Tuple.tupleItemsOf (.ref t) >>= _) _ _ s;refine wpAny_bind (tupleItemsOf_ ht ?_);refine wpAny_bind (wpAny_typeOf hTs ?_);rw[if_pos (by decide)]
 refine wpAny_bind (HT.sliceApplied_gen hs pl pu ?_)
 have hyes:(((HT.sIx items.size 0 lo:Nat):Int) == 0 && (1:Int) == 1 && (HT.sIx items.size items.size hi-HT.sIx items.size 0 lo) == items.size)=true:=by
  rw[hw.1,hw.2];simp
 show wpAny _ _ (if (((HT.sIx items.size 0 lo:Nat):Int) == 0 && (1:Int) == 1 && (HT.sIx items.size items.size hi-HT.sIx items.size 0 lo) == items.size)=true then _ else _) _ _ s
 rw[if_pos hyes];unfold Builtin.Tuple.tupleIsExact;refine wpAny_bind (wpAny_bind (wpAny_typeOf ht.typeIs (wpAny_pure ?_)));rw[if_pos (by decide)]
 exact wpAny_bind (wpAny_rule (wpAny_pure ⟨_,rfl,wpAny_pure h⟩))
noncomputable def Jo(K:W.Frag):V->Option Int->Option Int->Hp->VK->Prop:=fun x lo hi H Q=>∃a xs,x=.ref a/\SqT K H a xs /\
 if HT.sIx xs.length 0 lo=0/\HT.sIx xs.length xs.length hi=xs.length then Q (.ref a) H else ∀p,H p=none->Q (.ref p) (upd H p (.tup (wJ xs lo hi)))
theorem Ir:SlR X (Jo X.K):=by
 intro pins s σ H x v vl vu lo hi sl Q I rx hs pl pu h;obtain⟨a,xs,rfl,hx,h⟩:=h;by_cases hw:HT.sIx xs.length 0 lo=0/\HT.sIx xs.length xs.length hi=xs.length
 ·rw[if_pos hw] at h
  cases rx;obtain⟨its,r,ht,hz⟩:=I.tuple hx;have hlen:its.toArray.size=xs.length:=by rw[List.size_toArray];exact r.length.symm
  exact⟨"tuple",_,PyProof.Rows.slot_tuple_getitem.lookup,ht.typeIs,nk ht hs pl pu (by rw[hlen];exact hw) ⟨.ref a,H,I,rfl,h⟩⟩
 ·rw[if_neg hw] at h
  exact J0 pins s σ H (.ref a) v vl vu lo hi sl Q I rx hs pl pu ⟨a,xs,rfl,hx,hw,h⟩
end
noncomputable def wdD(w:List Int):D:=.tup (w.map D.int)
noncomputable def csD(pl:Nat)(ys ns:List (List Int)):D:=.tup [.int pl,.tup (ys.map wdD),.tup (ns.map wdD)]
theorem Kq(w:List Int):noL (wdD w)=true:=by simp only[wdD,noL];exact Dw w
theorem sT(ws:List (List Int)):Nx (ws.map wdD)=true:=oo fun d hd=>by
 obtain⟨w,_,rfl⟩:=List.mem_map.mp hd;exact Kq w
structure SN(n:Nat)(H:Hp)(S:Addr)(ad:Nat->Addr)(fs:Nat->List D):Prop where
 s:H S=some (.lst ((List.range n).map fun i=>.ref (ad i)))
 l:∀i,i<n->LD H (ad i) (fs i)
noncomputable def StE(w:World)(e:DictEntry)(p:Str×V):Prop:=e.hash=PyData.keyHash w.params p.1/\(∃t,e.key=.str p.1 t)/\bp p.2 e.val
noncomputable def StD(w:World)(K:W.Frag)(a:Addr)(kvs:List (Str×V)):Prop:=∃(o:Obj)(es:List DictEntry)(ep:Nat),K.lookup a=some o/\o.ExactDict/\o.data=.dict es.toArray ep/\Paired (StE w) es kvs
noncomputable def so(kvs:List (Str×V))(x:Str):Option V:=(kvs.find? fun p=>decide (p.1=x)).map (·.2)
theorem StE.find{P:Program}{w:World}:∀ {es:List DictEntry} {kvs:List (Str×V)} {x:Str} {v:V},Paired (StE w) es kvs->so kvs x=some v->∃u,findBy (bx P w).is es.toArray (Sum.inr x)=some u/\bp v u:=by
 intro es
 induction es with
 |nil=>intro kvs x v h hv;cases h;cases hv
 |cons e es ih=>
  intro kvs x v h hv
  cases h with
  | @cons _ p _ kvs r t=>
   obtain⟨h1,⟨tk,h2⟩,h3⟩:=r
   have hf:findBy (bx P w).is (e::es).toArray (Sum.inr x)=if mo (Sum.inr x) e.key=true then some e.val else findBy (bx P w).is es.toArray (Sum.inr x):=by
    unfold findBy;simp only[List.find?_toArray,List.find?_cons,Am];cases mo (Sum.inr x) e.key<;>simp
   by_cases hx:p.1=x
   ·have hk:mo (Sum.inr x) e.key=true:=by rw[h2,←hx];exact vG _ _
    rw[hf,if_pos hk];unfold so at hv;rw[List.find?_cons_of_pos (by simp[hx])] at hv
    cases hv;exact⟨_,rfl,h3⟩
   ·have hk:¬ mo (Sum.inr x) e.key=true:=by
     rw[h2];intro z;rcases cj z with⟨i,t',e1,e2⟩|⟨y,t',e1,e2⟩
     ·cases e2
     ·injection e2 with e2 _
      injection e1 with e1;exact hx (e2.trans e1.symm)
    rw[hf,if_neg hk];unfold so at hv;rw[List.find?_cons_of_neg (by simp[hx])] at hv
    exact ih t hv
theorem StE.keys{P:Program}{w:World}:∀ {es:List DictEntry} {kvs:List (Str×V)},Paired (StE w) es kvs->∀e∈es,∃k,(bx P w).is k e.key=true/\e.hash=(bx P w).hash k
 |_,_,.nil,e,h=>by cases h
 |_,_,.cons (a:=e0) (b:=p) r t,e,h=>by
  rcases List.mem_cons.mp h with rfl|h
  ·obtain⟨h1,⟨tk,h2⟩,_⟩:=r
   exact⟨Sum.inr p.1,by rw[h2];exact lR _ _ _ _,h1⟩
  ·exact StE.keys t e h
section
variable{X:Cx}{o i:Expr}{ty:TE}{pos:Pos}{a:Addr}{kvs:List (Str×V)}
noncomputable def JA(kvs:List (Str×V))(td ty:TE):TE:=fun σ H Q=>td σ H fun _ H0=>ty σ H0 fun y H1=>∃x v,y=.str x/\so kvs x=some v/\Q v H1
theorem wr(hd:StD X.w X.K a kvs)(ho:PE X o (tC (.ref a)))(hi:PE X i ty)(hs:KZ i):PE X (.Subscript o i pos) (JA kvs (tC (.ref a)) ty):=.mk <| by
 intro pins s σ H Q I h;obtain⟨ob,es,ep,hk,hx,hdat,hp⟩:=hd;refine CM PySem.F.slot_dict_getitem.lookup hs (thn (ho pins s σ H (fun x H1=>x=.ref a/\ty σ H1 fun y H1=>∃x v,y=.str x/\so kvs x=some v/\Q v H1) I ⟨rfl,h⟩) fun u s1 ⟨x,H1,I1,rx,ex,q1⟩=>thn (hi pins s1 σ H1 _ I1 q1) fun iv s2 ⟨y,H2,I2,ry,k,v,ey,hv,q2⟩=>?_);subst ex;subst ey;obtain rfl:u=Value.ref a:=rx;obtain⟨t,rfl⟩:=ry;obtain⟨u',hf,ru⟩:=StE.find (P:=X.prog) hp hv
 have hg:s2.heap.get? a=some ob:=I2.kIn a ob hk;have hm:s2.heap.MapOf (bx X.prog X.w) a (findBy (bx X.prog X.w).is es.toArray):=⟨ob,es.toArray,ep,hg,hx,hdat,fun e he=>StE.keys hp e (by simpa using he),fun _=>rfl⟩
 exact⟨⟨ob,hg,hx.1⟩,wpAny_getItem_of (knd:=bx X.prog X.w) (lR _ _ _ _) hm hf ⟨v,H2,I2.tok _,ru,q2⟩⟩
end
open Classical in
noncomputable def eqF(H:Hp)(dx:D)(u:Value):Bool:=if h:∃d,∃x,bp x u/\Dat H d x then eqD (Classical.choose h) dx else false
theorem A3{H:Hp}{dx d:D}{x:V}{u:Value}(r:bp x u)(h:Dat H d x):eqF H dx u=eqD d dx:=by
 have hex:∃d,∃x,bp x u/\Dat H d x:=⟨d,x,r,h⟩;unfold eqF;rw[dif_pos hex];obtain⟨x',r',h'⟩:=Classical.choose_spec hex;have:x'=x:=r'.inj r;subst this;rw[Dat.inj h' h]
theorem o6{H:Hp}{dx:D}:∀ {ds:List D} {xs:List V} {its:List Value},aM H ds xs->aT xs its->its.any (eqF H dx)=ds.any fun d=>eqD d dx
 | [],xs,its,h,r=>by
  simp only[aM] at h;subst h;cases r;rfl
 |d::ds,xs,its,h,r=>by
  simp only[aM] at h;obtain⟨x,xr,rfl,h1,h2⟩:=h
  cases r with
  |cons r1 r2=>rw[List.any_cons,List.any_cons,A3 r1 h1,o6 h2 r2]
theorem sX{H:Hp}:∀ {ds:List D} {xs:List V} {its:List Value},aM H ds xs->aT xs its->∀u∈its,∃d x,d∈ds/\bp x u/\Dat H d x
 | [],xs,its,h,r,u,hu=>by simp only[aM] at h;subst h;cases r;cases hu
 |d::ds,xs,its,h,r,u,hu=>by
  simp only[aM] at h;obtain⟨x,xr,rfl,h1,h2⟩:=h
  cases r with
  |cons r1 r2=>
   rcases List.mem_cons.mp hu with rfl|hu
   ·exact⟨d,x,List.mem_cons_self ..,r1,h1⟩
   ·obtain⟨d',x',m,q⟩:=sX h2 r2 u hu
    exact⟨d',x',List.mem_cons_of_mem _ m,q⟩
theorem wg:∀ {ds:List D} {d:D},d∈ds->dep d<=ib ds
 |e::ds,d,h=>by
  simp only[ib];rcases List.mem_cons.mp h with rfl|h
  ·omega
  ·have:=wg h;omega
noncomputable def inD(dx:D)(ds:List D):Bool:=ds.any fun d=>eqD d dx
noncomputable def K0(neg:Bool):R2:=fun x y H Q=>∃dx ds,Dat H dx x/\(Dat H (.lst ds) y\/Dat H (.tup ds) y)/\ib ds<=90/\Q (.bl (if neg then !inD dx ds else inD dx ds)) H
section
variable{X:Cx}
theorem qb(hu:X.A.units+100<cLine):OpR X (compareOp .In) (K0 false):=by
 intro pins s σ H x y v u Q I rx ry h;obtain⟨dx,ds,hx,hy,hdp,q⟩:=h
 have he:∀ {xs:List V} {its:List Value},aM H ds xs->aT xs its->∀w,w∈its.toArray->SeqAt.EqAt X.A.in1 s w v (eqF H dx w):=fun hd r w hw=>by
  obtain⟨d,z,hm,rz,hz⟩:=sX hd r w (by simpa using hw)
  rw[A3 rz hz];exact(xu I 90 d dx z x w v X.A.in1 (Nat.le_trans (wg hm) hdp) (by show X.A.units+1+90<cLine;omega) hz hx rz rx).2.1
 rcases hy with hy|hy
 ·simp only[Dat] at hy
  obtain⟨a,xs,rfl,ha,hd⟩:=hy;cases ry;obtain⟨its,r,pl,_⟩:=I.list (SqL.of ha);refine SeqAt.in_listAt (eqF H dx) pl.isList (he hd r) ⟨.bl _,H,I,rfl,?_⟩;rw[show its.toArray.any (eqF H dx)=its.any (eqF H dx) by simp,o6 hd r]
  exact q
 ·simp only[Dat] at hy
  obtain⟨a,xs,rfl,ha,hd⟩:=hy;cases ry;obtain⟨its,r,pl,_⟩:=I.tuple (SqT.of ha);refine SeqAt.in_tupleAt (eqF H dx) pl (he hd r) ⟨.bl _,H,I,rfl,?_⟩;rw[show its.toArray.any (eqF H dx)=its.any (eqF H dx) by simp,o6 hd r]
  exact q
theorem uU(hu:X.A.units+100<cLine):OpR X (compareOp .NotIn) (K0 true):=by
 intro pins s σ H x y v u Q I rx ry h;obtain⟨dx,ds,hx,hy,hdp,q⟩:=h
 have he:∀ {xs:List V} {its:List Value},aM H ds xs->aT xs its->∀w,w∈its.toArray->SeqAt.EqAt X.A.in1 s w v (eqF H dx w):=fun hd r w hw=>by
  obtain⟨d,z,hm,rz,hz⟩:=sX hd r w (by simpa using hw)
  rw[A3 rz hz];exact(xu I 90 d dx z x w v X.A.in1 (Nat.le_trans (wg hm) hdp) (by show X.A.units+1+90<cLine;omega) hz hx rz rx).2.1
 rcases hy with hy|hy
 ·simp only[Dat] at hy
  obtain⟨a,xs,rfl,ha,hd⟩:=hy;cases ry;obtain⟨its,r,pl,_⟩:=I.list (SqL.of ha);refine SeqAt.notIn_listAt (eqF H dx) pl.isList (he hd r) ⟨.bl _,H,I,rfl,?_⟩;rw[show its.toArray.any (eqF H dx)=its.any (eqF H dx) by simp,o6 hd r]
  exact q
 ·simp only[Dat] at hy
  obtain⟨a,xs,rfl,ha,hd⟩:=hy;cases ry;obtain⟨its,r,pl,_⟩:=I.tuple (SqT.of ha);refine SeqAt.notIn_tupleAt (eqF H dx) pl (he hd r) ⟨.bl _,H,I,rfl,?_⟩;rw[show its.toArray.any (eqF H dx)=its.any (eqF H dx) by simp,o6 hd r]
  exact q
end
end L2
namespace L2
open PySem PySem.Spec PyProof.Rows
section
variable{X:Cx}
theorem bG{es fs x1 pos te t}(ha:PE X (.Tuple fs x1 pos) te)(hr:PA X es t):PA X (.Tuple fs x1 pos::es) (kl te t):=aa ha hr (by rfl)
theorem D3{es fs pos te t}(ha:PE X (.List fs pos) te)(hr:PA X es t):PA X (.List fs pos::es) (kl te t):=aa ha hr (by rfl)
theorem aE{es c j pos te t}(ha:PE X (.Constant c j pos) te)(hr:PA X es t):PA X (.Constant c j pos::es) (kl te t):=aa ha hr (by rfl)
end
end L2
namespace L2
open PySem PySem.Spec PySem.Calls PyProof.Rows
noncomputable def Frz(H H':Hp):Prop:=∀b o u,H b=some (.frz o u)->H' b=some (.frz o u)
theorem Frz.refl(H:Hp):Frz H H:=fun _ _ _ h=>h
theorem Frz.trans{H H1 H2:Hp}(a:Frz H H1)(b:Frz H1 H2):Frz H H2:=fun c o u h=>b c o u (a c o u h)
theorem db.frz{H H':Hp}(h:db H H'):Frz H H':=fun b o u e=>h b _ e
noncomputable def tX(H:Hp)(f:Addr)(q:Str)(params:Arguments)(body:Expr)(scope:Scope)(clos:List (Str×Addr)):Prop:=
 ∃(pm:Value)(c:Addr)(ctv:Value)(oc:Obj)(vs:Array Value)(t:Tok)(u u':HO),H f=some (.frz (W.kla_obj "<lambda>" q params body scope clos pm c ctv) u)/\H c=some (.frz oc u')/\oc.data=.fields vs/\vs[1]?=some (.str q t)
theorem tX.frz{H H':Hp}{f:Addr}{q:Str}{params:Arguments}{body:Expr}{scope:Scope}{clos:List (Str×Addr)}(x:tX H f q params body scope clos)(k:Frz H H'):tX H' f q params body scope clos:=
 let ⟨pm,c,ctv,oc,vs,t,u,u',h1,h2,r⟩:=x;⟨pm,c,ctv,oc,vs,t,u,u',k _ _ _ h1,k _ _ _ h2,r⟩
noncomputable def qt(K:W.Frag)(c P:Addr):Bool:=match K.lookup c with
 | some o=>(o.cls == .type "code") && c != P && (match o.data with
  | .fields vs=>(vs[11]? == some (.ref P)) && (match vs.getD 18 .none,vs.getD 7 .none,vs.getD 9 .none,vs.getD 10 .none with
   |.str _ _,.int _ _,.bool _,.int _ _=>true
   |_,_,_,_=>false)
  |_=>false)
 |none=>false
theorem C4{K:W.Frag}{h:Heap}{c P:Addr}(X:K.In h)(e:qt K c P=true):W.CodeHd h c P:=by
 unfold qt at e
 cases q:K.lookup c with
 |none=>rw[q] at e;cases e
 |some o=>
  rw[q] at e;simp only[Bool.and_eq_true] at e;obtain⟨⟨e1,e2⟩,e3⟩:=e
  cases d:o.data with
  |fields vs=>
   rw[d] at e3;simp only[Bool.and_eq_true] at e3;obtain⟨e4,e5⟩:=e3;have e4':vs[11]?=some (.ref P):=eq_of_beq e4;split at e5
   ·rename_i f tf g tg b x tt h18 h7 h9 h10
    refine⟨o,vs,f,tf,g,tg,b,x,tt,X _ _ q,eq_of_beq e1,d,e4',?_,h18,h7,h9,h10,by simpa using e2⟩
    simp[Array.getD_eq_getD_getElem?,e4']
   ·cases e5
  |_=>rw[d] at e3;cases e3
theorem zE{pos:Pos}{a b:Int}{c cv:Value}(l:List Value)(h:TriplesOk l)(e:codeAmong pos (l++[rawInt a,rawInt b,c])=some cv):codeAmong pos l=some cv\/cv=c:=by
 fun_induction TriplesOk l with
 |case1=>
  simp only[List.nil_append,rawInt,codeAmong] at e;split at e
  ·exact .inr (Option.some.inj e).symm
  ·cases e
 |case2 a' t b' u x bB ih=>
  simp only[List.cons_append,codeAmong] at e ⊢;split at e
  ·rename_i hc
   rw[if_pos hc];exact .inl e
  ·rename_i hc
   rw[if_neg hc];exact ih h e
 |case3 l h1 h2=>exact h.elim
section
variable{P:Program}{w:World}{H H':Hp}{h h':Heap}{p:Addr}{ps:Array Value}
theorem Un.lam{fs:List Addr}(hok:HOk P w H h)(hP:H p=some (.tbl ps))(k:∀b o,b≠p->h.get? b=some o->h'.get? b=some o)(hp':∃o,h'.get? p=some o)(same:∀b,b<h.objs.size->H' b=H b):Un fs [] H H' h h':=by
 have ne:∀b,H b=none->b≠p:=fun b n z=>by rw[z,hP] at n;cases n
 refine⟨fun b o q n _ _=>k b o (ne b n) q,fun b o q n _ _=>⟨o.slots,k b o (ne b n) q⟩,fun b o q n _=>(same b (Heap.lt_size q)).trans n,fun b o q _=>?_,fun b xs q=>(same b (hok.lt q)).trans q,fun b o u q=>(same b (hok.lt q)).trans q,fun b xs q=>⟨#[],?_⟩⟩
 ·by_cases hb:b=p
  ·rw[hb];exact hp'
  ·exact⟨o,k b o hb q⟩
 ·rw[(same b (hok.lt q)).trans q];simp
theorem HOk.lam(hok:HOk P w H h)(hP:H p=some (.tbl ps))(k:∀b o,b≠p->h.get? b=some o->h'.get? b=some o)(same:∀b,b<h.objs.size->H' b=H b)(newP:dc P w H' h' p (.tbl ps))(new:∀b u,h.objs.size<=b->H' b=some u->dc P w H' h' b u):HOk P w H' h':=fun b u e=>by
 rcases Nat.lt_or_ge b h.objs.size with hb|hb
 ·rw[same b hb] at e
  by_cases hp:b=p
  ·subst hp
   rw[hP] at e;cases e;exact newP
  ·refine(hok b u e).stay (fun c v hc q=>k c v ?_ q) (fun c q=>(same c (hok.lt q)).trans q) (fun c xs q=>(same c (hok.lt q)).trans q) fun c o u q=>(same c (hok.lt q)).trans q
   rcases hc with rfl|hc
   ·exact hp
   ·rintro rfl
    rw[hP] at hc;cases hc
 ·exact new b u hb e
end
noncomputable def Hb(q:Str)(args:Arguments)(body:Expr)(scope:Scope)(clos:List (Str×Addr)):TE:=fun _ H Q=>∀f H',db H H'->H f=none->tX H' f q args body scope clos->Q (.ref f) H'
section
variable{X:Cx}{args:Arguments}{body:Expr}{scope:Scope}{pos:Pos}{x:Str}{c p:Addr}{clos:List (Str×Addr)}
theorem fx(hcode:X.env.code=.ref c)(hq:X.env.qual=x ++ ".<locals>.")(hm:(x,c,p)∈jm X.K)(hh:qt X.K c p=true)(hcl:closureFor scope X.env=pure clos)(hdef:defaultsOf args X.env=([],[]):=by rfl):
  PE X (.Lambda args body scope pos) (Hb (x ++ ".<locals>." ++ "<lambda>") args body scope clos):=.mk <| by
 intro pins s σ H Q I h;refine W.kla_eval hdef ?_;rw[hq];obtain⟨ps,eP,z0⟩:=(I.ok.tt.mono I.base.tbls) _ hm;obtain⟨qs,hP,tr,codes⟩:=I.hok _ _ eP;dsimp only at eP z0 hP;have C:W.CodeHd s.heap c p:=(C4 I.ok.mod.kin hh).keeps I.bk;have hg:s.heap.Ns mainGlobals X.mg:=I.ok.mod.glob.keeps I.bk;obtain⟨bm,ob,b1,b2,b3,b4,b5,b6⟩:=I.ok.mod.bm
 have hgP:mainGlobals≠p:=fun q=>by
  obtain⟨o,es,ep,e,hd,_⟩:=hg;rw[q,hP] at e;cases e;cases hd
 have hbP:bm≠p:=fun q=>by
  have e:=I.bk _ _ b3;rw[q,hP] at e;cases e;cases b4
 have hbG:bm≠mainGlobals:=fun q=>by
  obtain⟨o,es,ep,e,hd,_⟩:=I.ok.mod.glob;rw[q,e] at b3;cases b3;rw[hd] at b6;cases b6
 have hB:s.heap.BuiltinsAt X.mg p:=⟨bm,ob,b1,b2,hbG,hbP,I.bk _ _ b3,b4,b5,b6⟩;have hps:p<s.heap.objs.size:=Heap.lt_size hP
 cases e:codeAmong pos qs.toList with
 |none=>
  refine W.kla_makeFunction (mg:=X.mg) hcl I.ok.glob hg hcode C hP tr e hgP hB fun c' ctv h' tk hx hge hlt hrec htb=>?_;obtain⟨c₂,oc,vs,t,e2,hoc,hd,hv⟩:=hrec;cases e2;have hps':p<h'.objs.size:=Heap.lt_size htb
  let H':Hp:=upd (upd H c' (.frz oc (.own p))) h'.objs.size (.frz (W.kla_obj "<lambda>" (x ++ ".<locals>." ++ "<lambda>") args body scope clos ((X.mg "__name__").getD .none) c' ctv) (.own h'.objs.size))
  have ef:H' h'.objs.size=some (.frz (W.kla_obj "<lambda>" (x ++ ".<locals>." ++ "<lambda>") args body scope clos ((X.mg "__name__").getD .none) c' ctv) (.own h'.objs.size)):=bY;have ec:H' c'=some (.frz oc (.own p)):=(aD (Nat.ne_of_lt hlt)).trans bY
  have same:∀b,b<s.heap.objs.size->H' b=H b:=fun b hb=>by
   have h1:b≠h'.objs.size:=Nat.ne_of_lt (Nat.lt_trans (Nat.lt_of_lt_of_le hb hge) hlt);have h2:b≠c':=Nat.ne_of_lt (Nat.lt_of_lt_of_le hb hge);exact(aD h1).trans (aD h2)
  have k:∀b o,b≠p->s.heap.get? b=some o->(h'.push (W.kla_obj "<lambda>" (x ++ ".<locals>." ++ "<lambda>") args body scope clos ((X.mg "__name__").getD .none) c' ctv)).get? b=some o:=fun b o n q=>Heap.get?_push_of_some _ (hx b o n q);have htb':=Heap.get?_push_of_some (W.kla_obj "<lambda>" (x ++ ".<locals>." ++ "<lambda>") args body scope clos ((X.mg "__name__").getD .none) c' ctv) htb;refine⟨.ref h'.objs.size,H',I.un (Un.lam I.hok eP k ⟨_,htb'⟩ same) (I.hok.lam eP k same ⟨_,htb',?_,?_⟩ ?_),rfl,h _ _ (fun b o q=>(same b (I.hok.lt q)).trans q) (I.hok.fresh (Nat.le_trans hge (Nat.le_of_lt hlt))) ⟨_,c',ctv,oc,vs,t,_,_,ef,ec,hd,hv⟩⟩
  ·rw[Array.toList_append]
   exact TriplesOk_snoc _ _ _ _ tr
  ·intro pos' cv q
   rw[Array.toList_append] at q;rcases zE _ tr q with q|rfl
   ·obtain⟨c1,o1,v1,t1,q1,a1,a2,a3,a4,a5⟩:=codes pos' cv q
    exact⟨c1,o1,v1,t1,q1,a1,(same c1 (I.hok.lt a2)).trans a2,a3,a4,a5⟩
   ·exact⟨c',oc,vs,t,_,rfl,ec,hd,hv,z0⟩
  ·intro b u hb q
   by_cases hbf:b=h'.objs.size
   ·subst hbf
    rw[ef] at q;cases q;exact⟨Heap.get?_push_size _ rfl,_,Heap.get?_push_size _ rfl⟩
   ·have q':upd H c' (.frz oc (.own p)) b=some u:=(aD hbf).symm.trans q
    by_cases hbc:b=c'
    ·subst hbc
     rw[bY] at q';cases q';exact⟨Heap.get?_push_of_some _ hoc,_,Heap.get?_push_of_some _ hoc⟩
    ·rw[aD hbc,I.hok.fresh hb] at q';cases q'
 |some cv=>
  obtain⟨c',oc,vs,t,q,rfl,ec,hd,hv,hq0⟩:=codes pos cv e
  have hqq:q=x ++ ".<locals>." ++ "<lambda>":=by
   rw[hq0] at z0;injection z0 with z0;injection z0
  subst hqq;refine W.kla_makeFunctionHit (mg:=X.mg) hcl I.ok.glob hg hcode C hP tr e hB fun ctv h' tk hk hsz=>?_;have hne:∀b u,H b=some u->b≠h'.objs.size:=fun b u q z=>absurd (Nat.lt_of_lt_of_le (I.hok.lt q) hsz) (by rw[z];exact Nat.lt_irrefl _)
  refine⟨.ref h'.objs.size,upd H h'.objs.size (.frz (W.kla_obj "<lambda>" (x ++ ".<locals>." ++ "<lambda>") args body scope clos ((X.mg "__name__").getD .none) c' ctv) (.own h'.objs.size)),I.laid (fun b u q=>Heap.get?_push_of_some _ (hk b u q)) hsz ?_,rfl,h _ _ (fun b o q=>(aD (hne b o q)).trans q) (I.hok.fresh hsz) ⟨_,c',ctv,oc,vs,t,_,_,bY,(aD (hne _ _ ec)).trans ec,hd,hv⟩⟩;exact⟨Heap.get?_push_size _ rfl,_,Heap.get?_push_size _ rfl⟩
end
structure Clo(P:Program)(w:World)(K:W.Frag)(mg:Str->Option Value)(base:Heap)(H₀:Hp)(k:Nat)(f:Addr)(n:Nat)(sp:Sp):Prop where
 fn:(∃(oc:Value)(od:Option Addr)(fd:FuncData) (sl:Array (Option Value)) (u:HO),H₀ f=some (.frz ⟨oc,od,.func fd,sl⟩ u))\/∃(oc:Value)(od:Option Addr)(fd:FuncData) (sl:Array (Option Value)),K.lookup f=some ⟨oc,od,.func fd,sl⟩
 len:∀vs H Q E,sp vs H Q E->vs.length=n
 run:∀(A:Around)(outer:List Env)(s:Shared)(H:Hp)(us:List Value)(vs:List V)(Q:VK)(E:XK),ft k A->AJ P w K mg base A outer s H->Frz H₀ H->aT vs us->sp vs H Q E ->
  codeAny (model P w) A (.call (.ref f) ⟨us,[]⟩) (CR CX0 outer P w H s Q E) s
theorem Clo.mono{P:Program}{w:World}{K:W.Frag}{mg:Str->Option Value}{base:Heap}{H₀ H₁:Hp}{j k:Nat}{f:Addr}{n:Nat}{sp:Sp}(C:Clo P w K mg base H₀ j f n sp)(h:Frz H₀ H₁)(hk:j<=k):Clo P w K mg base H₁ k f n sp:=
 ⟨C.fn.imp (fun⟨oc,od,fd,sl,u,e⟩=>⟨oc,od,fd,sl,u,h _ _ _ e⟩) id,C.len,fun A outer s H us vs Q E hr he hf hv hs=>C.run A outer s H us vs Q E (hr.mono hk) he (h.trans hf) hv hs⟩
noncomputable def DZ(X:Cx)(k n i:Nat)(t:TA):TE:=fun σ H Q=>∃f sp,σ[i]?=some (some (.ref f))/\Clo X.prog X.w X.K X.mg X.base X.H₀ k f n sp/\t σ H fun vs H1=>sp vs H1 Q E0
section
variable{X:Cx}{k n i:Nat}{x:Str}{p pos:Pos}{e:Expr}{es:List Expr}{t:TA}
theorem xN(hr:ft k X.A)(hN:X.N[i]?=some x)(hv:Vis X.env.scope x)(ha:PA X (e::es) t)(hd:(x == ("__debug__":Str))=false:=by decide)(hcd:(x == ("__classdict__":Str))=false:=by decide)(he:starEach (e::es) X.env=(false,eval e X.env)::starEach es X.env:=by rfl)(hpl:(backTo pos (starEach es X.env)).any (·.1)=false:=by rfl):
  PE X (.Call (.Name x p) (e::es) [] pos) (DZ X k n i t):=.mk <| by
 intro pins s σ H Q I h;obtain⟨f,sp,ev,C,h⟩:=h
 have at':∀ {σ1:St} {H1:Hp} {s1:Shared},Inv X pins σ1 H1 s1->W.FnAt f s1.heap:=fun {σ1 H1 s1} J=>by
  rcases C.fn with⟨oc,od,fd,sl,u,q⟩|⟨oc,od,fd,sl,q⟩
  ·exact⟨oc,od,fd,sl,(J.hok _ _ (J.base.frzs _ _ _ q)).1⟩
  ·exact⟨oc,od,fd,sl,J.kIn _ _ q⟩
 refine wpAny_Call_Name_kw (thn (EW (X:=X) hN hv hd hcd pins s σ H (fun v H1=>v=.ref f/\H1=H) I ⟨_,ev,rfl,rfl⟩) fun u s1 ⟨v,H1,I1,r,e1,e2⟩=>?_);subst e1 e2;obtain rfl:u=Value.ref f:=r;refine W.callWith_F (at' I1) (thn (ha pos pins s1 σ H1 _ I1 h) fun us s2 ⟨vs,H2,I2,r2,q2⟩=>⟨at' I2,?_⟩) he hpl;refine wpAny_call (codeAny_mono (C.run X.A X.stack s2 H2 us vs Q E0 hr I2.env0 (fun b o u q=>I2.base.frzs b o u q) r2 q2) fun r s' hq=>?_)
 cases r with
 |error e=>exact False.elim hq
 |ok fl=>
  cases fl with
  |ret u=>exact I2.after hq
  |next=>exact False.elim hq
  |brk=>exact False.elim hq
  |cont=>exact False.elim hq
end
theorem Mod.mono{K:W.Frag}{mg:Str->Option Value}{b b':Heap}(m:Mod K mg b)(k:∀a o,b.get? a=some o->b'.get? a=some o):Mod K mg b':=
 ⟨m.kin.keeps k,m.glob.keeps k,let ⟨mb,h1,h2⟩:=m.blt;⟨mb,h1.keeps k,h2⟩,m.nolimit.keeps k,let ⟨bm,ob,h1,h2,h3,r⟩:=m.bm;⟨bm,ob,h1,h2,k _ _ h3,r⟩⟩
noncomputable def Ep(X:Cx)(σ:St)(b:Heap):Prop:=∀(i:Nat)(x:Str)(v:V),X.N[i]?=some x->σ[i]?=some (some v)->X.env.scope.names.lookup x=some .cell->X.fn x=true->∃c u,X.env.cells.lookup x=some c/\b.IsCell c (some u)/\bp v u
theorem qP{h b b':Heap}:∀ {l:List Env},h.FunFrames b l->(∀a∈frs l,b'.get? a=none)->h.FunFrames b' l
 | [],_,_=>trivial
 |env::r,x,k=>by
  obtain⟨hk,⟨L,o,hf,hn,ho,hd⟩,hr⟩:=x;have hL:L∈frs (env::r):=by unfold frs;rw[List.filterMap_cons,hf];exact List.mem_cons_self
  refine⟨hk,⟨L,o,hf,k L hL,ho,hd⟩,qP hr fun a ha=>k a ?_⟩;unfold frs at ha ⊢;rw[List.filterMap_cons,hf];exact List.mem_cons_of_mem _ ha
theorem Inv.grow{X:Cx}{pins:List (Addr×Obj)}{σ:St}{H:Hp}{s:Shared}(I:Inv X pins σ H s):
  ∃b',(∀a o,X.base.get? a=some o->b'.get? a=some o)/\AJ X.prog X.w X.K X.mg b' X.A X.stack s H/\Ep X σ b':=by
 have keep:∀a o,s.heap.get? a=some o->H a=none->a ∉ frs X.stack->(W.hideAll s.heap (trk s.heap H++frs X.stack)).get? a=some o:=fun a o e n hf=>W.hideAll_get _ e fun hm=>by
  rcases List.mem_append.mp hm with z|z
  ·have q:(H a).isSome=true:=(List.mem_filter.mp z).2
   rw[n] at q;simp at q
  ·exact hf z
 have sub:∀a o,X.base.get? a=some o->(W.hideAll s.heap (trk s.heap H++frs X.stack)).get? a=some o:=fun a o e=>keep a o (I.bs a o e).1 (I.bs a o e).2 fun hm=>by
  have:=(I.stack.mem hm).1;rw[e] at this;cases this
 have e0:=I.env0;refine⟨W.hideAll s.heap (trk s.heap H++frs X.stack),sub,⟨e0.frames,e0.mod.mono sub,fun a o e=>⟨W.of_hideAll _ e,?_⟩,Nat.le_of_eq (W.hideAll_size _ _),qP e0.funs fun a ha=>W.hideAll_none _ (List.mem_append_right _ ha),e0.frf,e0.tt,e0.hok,e0.bare⟩,?_⟩
 ·cases q:H a with
  |none=>rfl
  |some u=>
   have hm:a∈trk s.heap H:=List.mem_filter.mpr ⟨List.mem_range.mpr (I.hok.lt q),by simp[q]⟩
   rw[W.hideAll_none _ (List.mem_append_left _ hm)] at e;cases e
 ·intro i x v h1 h2 h3 h4
  obtain⟨m,hn,hl⟩:=I.loc;obtain⟨u,r,l⟩:=hl i x v h1 h2 (.inr (.inl h3));rcases l with⟨k,_⟩|⟨_,c,hc,o,ho,hd⟩
  ·have k':X.env.scope.names.lookup x=some .local:=k
   rw[h3] at k';cases k'
  ·refine⟨c,u,hc,⟨o,keep c o ho (I.freeC x c hc) fun hm=>?_,hd⟩,r⟩
   rcases List.mem_cons.mp (I.NB c hm) with z|z
   ·exact I.cne x c hc z
   ·obtain⟨_,o',ho',_⟩:=I.ok.funs.mem z
    exact absurd (Nat.lt_of_lt_of_le (Heap.lt_size ho') (I.ok.cab x c h4 hc)) (Nat.lt_irrefl _)
noncomputable def zO(X:Cx)(spf:Heap->Sp)(t:TA):TE:=fun σ H Q=>t σ H fun vs H1=>∀b',(∀a o,X.base.get? a=some o->b'.get? a=some o)->Ep X σ b'->spf b' vs H1 Q E0
section
variable{X:Cx}{k:Nat}{f:Addr}{fd:FuncData}{ps:List Str}{x:Str}{p pos:Pos}{e:Expr}{es:List Expr}{t:TA}{spf:Heap->Sp}
theorem gR(F:∀b',aA X.prog X.w X.K X.mg b' CX0 k f fd ps (spf b'))(hr:ft k X.A)(hg:Gl X x)(hm:X.mg x=some (.ref f))(hk:W.keepIn X.K (.ref f)=true)(hb:aS X.K fd ps [])(ha:PA X (e::es) t)(hdb:(x == ("__debug__":Str))=false:=by decide)(he:starEach (e::es) X.env=(false,eval e X.env)::starEach es X.env:=by rfl)(hpl:(backTo pos (starEach es X.env)).any (·.1)=false:=by rfl):
  PE X (.Call (.Name x p) (e::es) [] pos) (zO X spf t):=.mk <| by
 intro pins s σ H Q I h;refine wpAny_Call_Name_kw (xn I hg hm ?_ hdb);refine W.callWith_K (h₀:=X.base) I.ok.mod.kin hk (thn (ha pos pins s σ H _ I h) fun us s1 ⟨vs,H1,I1,r,q⟩=>⟨I1.kIn,?_⟩) he hpl;obtain⟨b',sub,e0,cb⟩:=I1.grow;have q:=q b' sub cb;have hl:(us++[]).length=ps.length:=by rw[List.append_nil,←r.length];exact(F b').len _ _ _ _ q
 have hbb:=hb s1 us I1.kIn hl;rw[List.append_nil] at hbb;refine wpAny_call (codeAny_mono ((F b').run X.A X.stack s1 H1 ⟨us,[]⟩ us vs Q E0 hr e0 hbb r q) fun r s' hq=>?_)
 cases r with
 |error e=>exact False.elim hq
 |ok fl=>
  cases fl with
  |ret u=>exact I1.after hq
  |next=>exact False.elim hq
  |brk=>exact False.elim hq
  |cont=>exact False.elim hq
end
noncomputable def BY(P:Program)(w:World)(K:W.Frag)(mg:Str->Option Value)(base:Heap)(N:List Str)(qual:Str)(scope:Scope)(f:Addr)(cd:Value)(cl:List (Str×Addr))(A:Around)(outer:List Env)(s:Shared)(H:Hp):Cx where
 prog:=P
 w:=w
 K:=K
 mg:=mg
 base:=base
 A:=A.deeper (W.envX qual scope s.heap.objs.size f cd cl)
 N:=N
 s₀:=s
 H₀:=H
 env:=W.envX qual scope s.heap.objs.size f cd cl
 outer:=outer
 stack:=W.envX qual scope s.heap.objs.size f cd cl::outer
 ex:=[]
 calm:=true
 fn:=fun _=>false
 pn:=[]
 xe:=fun _ _=>False
structure yl(ps cs:List Str)(sc:Scope):Prop where
 kind:sc.kind=.function
 co:sc.isCoroutine=false
 gen:sc.isGenerator=false
 nd:(ps++cs).Nodup
 par:∀x∈ps,sc.names.lookup x=some .local
 free:∀x∈cs,sc.names.lookup x=some .free
 has:∀y∈sc.names,y.2≠.cell/\(y.2=.free->y.1∈cs)
noncomputable def CN(b:Heap)(cl:List (Str×Addr))(cs:List Str)(caps:List V):Prop:=caps.length=cs.length/\(∀x c,cl.lookup x=some c->x∈cs)/\(∀x y c,cl.lookup x=some c->cl.lookup y=some c->x=y) /\
 ∀(j:Nat)(x:Str)(v:V),cs[j]?=some x->caps[j]?=some v->∃c u,cl.lookup x=some c/\b.IsCell c (some u)/\bp v u
theorem tY{α:Type}:∀ {ps:List Str} {us:List α} {i:Nat} {x:Str} {u:α},ps.Nodup->ps[i]?=some x->us[i]?=some u->(ps.zip us).reverse.lookup x=some u:=by
 intro ps
 induction ps with
 |nil=>intro us i x u _ h;simp at h
 |cons p ps ih=>
  intro us i x u nd h1 h2
  cases us with
  |nil=>simp at h2
  |cons w us=>
   obtain⟨n1,n2⟩:=List.nodup_cons.mp nd;rw[List.zip_cons_cons,List.reverse_cons,List.lookup_append]
   cases i with
   |zero=>
    simp at h1 h2;subst h1 h2
    have:(ps.zip us).reverse.lookup p=none:=by
     rw[List.lookup_eq_none_iff];intro q hq;rw[List.mem_reverse] at hq;have:=(List.of_mem_zip (a:=q.1) (b:=q.2) hq).1;simp only[beq_eq_false_iff_ne,ne_eq,bne_iff_ne];intro z;exact n1 (z ▸ this)
    rw[this];simp[List.lookup]
   |succ i=>
    rw[ih n2 (by simpa using h1) (by simpa using h2)]
    rfl
theorem Ld{P:Program}{w:World}{K:W.Frag}{mg:Str->Option Value}{base:Heap}{H₀:Hp}{k:Nat}{f:Addr}{q:Str}{params:Arguments}{body:Expr}{scope:Scope}{cl:List (Str×Addr)}{ps cs:List Str}{caps:List V}{sp:Sp}(L:tX H₀ f q params body scope cl)(S:yl ps cs scope)(C:CN base cl cs caps)(hb:∀(pm:Value)(c:Addr)(ctv:Value)(us:List Value),us.length=ps.length->bindArgs (W.kla_fn "<lambda>" q params body scope cl pm (.ref c) ctv) ⟨us,[]⟩=pure (ps.zip us))(len:∀vs H Q E,sp vs H Q E->vs.length=ps.length)
  (hbody:∀(cd:Value)(A:Around)(outer:List Env)(s:Shared)(H:Hp)(vs:List V)(Q:VK)(E:XK),ft k (A.deeper (W.envX q scope s.heap.objs.size f cd cl))->sp vs H Q E ->
   ∃t,PE (BY P w K mg base (ps++cs) q scope f cd cl A outer s H) body t/\t ((vs++caps).map some) H Q):Clo P w K mg base H₀ (k+1) f ps.length sp:=by
 obtain⟨pm,c,ctv,oc,vc,tc,u1,u2,e1,e2,e3,e4⟩:=L;refine⟨.inl ⟨_,_,_,_,_,e1⟩,len,fun A outer s H us vs Q E hr e0 hF r hsp=>?_⟩;have hl:=len _ _ _ _ hsp;have hlu:us.length=ps.length:=r.length.symm.trans hl;have f1:=(e0.hok _ _ (hF _ _ _ e1)).1;have f2:=(e0.hok _ _ (hF _ _ _ e2)).1;have lim:s.heap.NoLimit:=e0.mod.nolimit.keeps fun b o e=>(e0.bs b o e).1;have nps:ps.Nodup:=S.nd.sublist (List.sublist_append_left _ _)
 refine W.kla_callFunE hr.depth f1 rfl S.co S.gen rfl ⟨c,oc,vc,tc,rfl,f2,e3,e4⟩ ?_;rw[hb pm c ctv us hlu];refine wpAny_pure (wpAny_newFunctionEnv (fun y hy=>(S.has y hy).1) (fun y hy=>S.par y.1 (List.of_mem_zip (a:=y.1) (b:=y.2) hy).1) (fun h₁ hns hsb=>⟨lim.fresh _ hsb,?_⟩) S.kind);show codeAny _ _ (.expr body (W.envX q scope s.heap.objs.size f (.ref c) cl)) _ _;have hk₁:∀b o,s.heap.get? b=some o->h₁.get? b=some o:=fun b o e=>hsb.extBut b o (Nat.ne_of_lt (Heap.lt_size e)) (Heap.get?_push_of_some _ e)
 obtain⟨c1,c2,c3,c4⟩:=C;obtain⟨t,ht,hq⟩:=hbody (.ref c) A outer s H vs Q E (hr.deeper _) hsp
 have capC:∀x c,cl.lookup x=some c->∃v,base.IsCell c v:=fun x c e=>by
  obtain⟨j,hj⟩:=List.getElem?_of_mem (c2 x c e);have hj2:j<caps.length:=by rw[c1];exact(List.getElem?_eq_some_iff.mp hj).1
  obtain⟨c',u,z1,z2,_⟩:=c4 j x caps[j] hj (List.getElem?_eq_getElem hj2);rw[e] at z1;cases z1;exact⟨_,z2⟩
 have noA:∀b:Addr,b ∉ (BY P w K mg base (ps++cs) q scope f (.ref c) cl A outer s H).ex:=fun b z=>absurd (show b∈([]:List Addr) from z) (by simp)
 have I:Inv (BY P w K mg base (ps++cs) q scope f (.ref c) cl A outer s H) [] ((vs++caps).map some) H { s with heap:=h₁,toks:=s.toks+(ps.zip us).length }:=by
  refine⟨⟨e0.mod,S.kind,rfl,rfl,Nat.le_refl _,c3,fun y hy=>?_,fun y c h=>(nomatch h),fun _=>hr.hd,Around.frames_deeper e0.frames,.inr ⟨rfl,rfl⟩,fun b z=>absurd z (noA b),e0.bs,e0.bsz,fun b _ _=>noA b,fun b z=>absurd z (noA b),e0.funs,e0.frf,e0.tt⟩,
   rfl,e0.bare,Un.kept hk₁,⟨_,hns,fun i y v h1 h2 h3=>?_⟩,fun y c h=>?_,e0.hok.fresh (Nat.le_refl _),fun y c h=>?_,fun p hp=>absurd (show p∈([]:List (Addr×Obj)) from hp) (by simp),e0.hok.kept hk₁,?_⟩
  ·have hy:scope.names.lookup y=some .cell\/scope.names.lookup y=some .free:=hy
   rcases hy with hy|hy
   ·exact absurd rfl (S.has _ (PySem.mem_of_lookup hy)).1
   ·have hm:=(S.has _ (PySem.mem_of_lookup hy)).2 rfl
    obtain⟨j,hj⟩:=List.getElem?_of_mem hm;have hj2:j<caps.length:=by rw[c1];exact(List.getElem?_eq_some_iff.mp hj).1
    obtain⟨c',u,z1,z2,_⟩:=c4 j y caps[j] hj (List.getElem?_eq_getElem hj2);exact⟨c',z1⟩
  ·have h1:(ps++cs)[i]?=some y:=h1
   rw[List.getElem?_map] at h2
   cases hv:(vs++caps)[i]? with
   |none=>rw[hv] at h2;cases h2
   |some v'=>
    rw[hv] at h2;cases h2;rcases Nat.lt_or_ge i ps.length with hi|hi
    ·rw[List.getElem?_append_left hi] at h1
     rw[List.getElem?_append_left (by rw[hl];exact hi)] at hv
     obtain⟨u,hu,ru⟩:=r.get hv;exact⟨u,ru,.inl ⟨S.par y (List.mem_of_getElem? h1),tY nps h1 hu⟩⟩
    ·rw[List.getElem?_append_right hi] at h1
     rw[List.getElem?_append_right (by rw[hl];exact hi),hl] at hv
     obtain⟨c',u,z1,z2,z3⟩:=c4 _ y v h1 hv;refine⟨u,z3,.inr ⟨.inr (S.free y (List.mem_of_getElem? h1)),c',z1,?_⟩⟩;obtain⟨o,ho,hd⟩:=z2;exact⟨o,hk₁ _ _ (e0.bs _ _ ho).1,hd⟩
  ·obtain⟨v,o,ho,hd⟩:=capC y c h
   exact⟨v,o,hk₁ _ _ (e0.bs _ _ ho).1,hd⟩
  ·obtain⟨v,o,ho,hd⟩:=capC y c h
   exact(e0.bs _ _ ho).2
  ·show ((vs++caps).map some).length=(ps++cs).length
   rw[List.length_map,List.length_append,List.length_append,hl,c1]
 refine W.kla_codeExpr (wpAny_mono (ht [] _ _ H _ I hq) (fun v s' ⟨v',H',J,rv,q'⟩=>?_) fun e s' hs=>False.elim hs);exact⟨v',H',J.os,J.bare,J.base,J.hok,rv,q'⟩
structure qg(K:W.Frag)(x qual:Str)(st:Stmt)(f:Addr)(fd:FuncData)(c p:Addr):Prop where
 ex:∃(oc:Value)(od:Option Addr)(kV doc pm:Value)(an:Option Addr)(ct:Value) (osl:Array (Option Value)),
  fd=W.fnOf x qual (defArgs st) (defBody st) (defScope st) .none kV doc pm an (.ref c) ct/\K.lookup f=some ⟨oc,od,.func fd,osl⟩/\W.codeIn K (.ref c) qual=true
 tab:(x,c,p)∈jm K
 hd:qt K c p=true
theorem qg.ok{P:Program}{w:World}{K:W.Frag}{mg:Str->Option Value}{base:Heap}{x qual:Str}{st:Stmt}{f c p:Addr}{fd:FuncData}{N ps:List Str}{k:Nat}{sp:Sp}(F:qg K x qual st f fd c p)(S:az N ps (defScope st))(len:∀vs H Q E,sp vs H Q E->vs.length=ps.length)
  (hbody:∀(A:Around)(outer:List Env)(s:Shared)(H:Hp)(vs:List V)(Q:VK)(E:XK),ft k (A.deeper (envOfC qual (defScope st) s.heap.objs.size f (.ref c)))->sp vs H Q E ->
   ∃t,PSs (uk CX0 P w K mg base N qual (defScope st) f (.ref c) A outer s H E).nox (defBody st) t/\t { nx:=fun _ H'=>Q .non H',rt:=Q } (start N vs) H):aA P w K mg base CX0 (k+1) f fd ps sp:=by
 obtain⟨oc,od,kV,doc,pm,an,ct,osl,rfl,lk,hcd⟩:=F.ex;refine IN lk hcd S len fun A outer s H vs Q E hr hsp=>?_;obtain⟨t,h,q⟩:=hbody A outer s H vs Q E hr hsp;exact⟨t,h.nox,q⟩
theorem jD{K:W.Frag}{x qual:Str}{st:Stmt}{f c p:Addr}{oc:Value}{od an:Option Addr}{osl:Array (Option Value)}{kV doc pm cdv ct:Value}(l:K.lookup f=some ⟨oc,od,.func (W.fnOf x qual (defArgs st) (defBody st) (defScope st) .none kV doc pm an cdv ct),osl⟩)(hc:W.codeIn K cdv qual=true)(e:cdv=.ref c)(t:(jm K).contains (x,c,p)=true)(h:qt K c p=true):qg K x qual st f (W.fnOf x qual (defArgs st) (defBody st) (defScope st) .none kV doc pm an cdv ct) c p:=by
 subst e;exact⟨⟨oc,od,kV,doc,pm,an,ct,osl,rfl,l,hc⟩,by simpa using t,h⟩
noncomputable def ndB:List Nat->Bool
 | []=>true
 |a::r=>!(r.contains a) && ndB r
theorem BB{α:Type}(f:α->Nat):∀ {l:List α} {q:α},ndB (l.map f)=true->q∈l->l.find? (fun t=>f t == f q)=some q
 | [],_,_,m=>nomatch m
 |a::r,q,h,m=>by
  rw[List.map_cons,ndB,Bool.and_eq_true] at h;obtain⟨h1,h2⟩:=h;rcases List.mem_cons.mp m with e|m
  ·subst e
   rw[List.find?_cons_of_pos (by simp)]
  ·have ne:(f a == f q)=false:=by
    cases z:f a == f q with
    |false=>rfl
    |true=>
     have z':f a=f q:=eq_of_beq z
     have:(r.map f).contains (f a)=true:=by
      rw[z'];simpa using⟨q,m,rfl⟩
     rw[this] at h1;cases h1
   rw[List.find?_cons_of_neg (by rw[ne];simp)]
   exact BB f h2 m
noncomputable def um(K:W.Frag)(b:Addr):Option HO:=((jm K).find? fun t=>t.2.2 == b).map fun t=>HO.tbl #[.str (t.1 ++ ".<locals>." ++ "<lambda>") 0]
theorem r9{K:W.Frag}{b:Addr}{o:HO}(e:um K b=some o):∃t∈jm K,t.2.2=b/\o=HO.tbl #[.str (t.1 ++ ".<locals>." ++ "<lambda>") 0]:=by
 unfold um at e
 cases q:(jm K).find? (fun t=>t.2.2 == b) with
 |none=>rw[q] at e;cases e
 |some t=>
  rw[q] at e;cases e;have:=List.find?_some q;exact⟨t,List.mem_of_find?_eq_some q,eq_of_beq this,rfl⟩
noncomputable def Fz(K:W.Frag)(names:List Str):Bool:=W.noTabs K && ndB ((jm K).map fun t=>t.2.2) && (jm K).all fun t=>names.contains t.1
theorem Hw{K:W.Frag}{t:Str×Addr×Addr}(h:t∈jm K):W.tabIn K t.1=some t.2:=by
 unfold jm at h;split at h
 ·obtain⟨e,_,q⟩:=List.mem_filterMap.mp h
  split at q
  ·rename_i x tk hx
   cases z:W.tabIn K x with
   |none=>rw[z] at q;cases q
   |some r=>rw[z] at q;cases q;exact z
  ·cases q
 ·cases h
theorem Dv{P:Program}{w:World}{K:W.Frag}{mg mb:Str->Option Value}{CX:CXT}{k:Nat}{fa a:Addr}{fd:FuncData}{x:Str}{sp:Sp}{s₁:Shared}{vs:List Value}{ns:List Int}(KX:K.In s₁.heap)(hns:s₁.heap.Ns mainGlobals mg)(hb:s₁.heap.Ns builtinsNs mb)(hbb:∀x:Str,x≠"__name__"->mb x=bootBuiltins x)(hlim:s₁.heap.NoLimit)(hg:s₁.gens=#[])(hbm:∃bm ob,mg "__builtins__"=some (.ref bm)/\bm≠builtinsNs/\s₁.heap.get? bm=some ob/\ob.cls=.type "module"/\ob.dict=some builtinsNs/\ob.data=.plain)(hT:∀t∈jm K,W.CodeHd s₁.heap t.2.1 t.2.2/\s₁.heap.get? t.2.2=some (W.tabObj #[]))(nt:W.noTabs K=true)(nd:ndB ((jm K).map fun t=>t.2.2)=true)(ha:s₁.heap.get? a=some { cls:=.type "list",data:=.seq vs.toArray })(hi:IntsAre vs ns)(hl:ns.length<=sizeLine)(hr:ft k callerA)(F:∀base:Heap,aA P w K mg base CX k fa fd [x] sp)(hbind:∀(s:Shared)(u:Value),BindsTo s fd ⟨[u],[]⟩ [(x,u)])(hsp:∀H:Hp,SqL K H a (ns.map V.int)->sp [.ref a] H (fun v _=>v=.bl true) fun _ _ _=>False)(hCX:∀H e s',CX [] H s₁ (fun _ _ _=>False) e s'->False):
  codeAny (model P w) callerA (.call (.ref fa) ⟨[.ref a],[]⟩) (fun r s'=>r=.ok (.ret (.bool true))/\OldK s₁.heap s'.heap/\s'.os=s₁.os/\AllBare s'.gens) s₁:=by
 have rv:=vN hi;have lenV:=hi.length
 have tabNot:∀b o,K.lookup b=some o->um K b=none:=fun b o e=>by
  cases q:um K b with
  |none=>rfl
  |some u=>
   obtain⟨t,ht,rfl,_⟩:=r9 q;have e1:=(hT t ht).2;rw[KX _ _ e] at e1;cases e1;have h2:=List.all_eq_true.mp nt _ (W.mem_of_lookupK e);exact absurd (show false=true from h2) Bool.false_ne_true
 have tabA:um K a=none:=by
  cases q:um K a with
  |none=>rfl
  |some u=>
   obtain⟨t,ht,e,_⟩:=r9 q;have e1:=(hT t ht).2;rw[e,ha] at e1;cases e1
 have core:∀H:Hp,(∀b,b≠a->H b=um K b)->(H a=none\/(K.lookup a=none/\H a=some (.frz { cls:=.type "list",data:=.seq vs.toArray } (.lst (ns.map V.int)))))->SqL K H a (ns.map V.int) ->
   codeAny (model P w) callerA (.call (.ref fa) ⟨[.ref a],[]⟩) (fun r s'=>r=.ok (.ret (.bool true))/\OldK s₁.heap s'.heap/\s'.os=s₁.os/\AllBare s'.gens) s₁:=by
  intro H hH hA hS
  have what:∀b u,H b=some u->(b=a/\K.lookup a=none/\u=.frz { cls:=.type "list",data:=.seq vs.toArray } (.lst (ns.map V.int)))\/∃t∈jm K,t.2.2=b/\u=HO.tbl #[.str (t.1 ++ ".<locals>." ++ "<lambda>") 0]:=fun b u e=>by
   by_cases hb:b=a
   ·subst hb
    rcases hA with z|⟨z1,z2⟩
    ·rw[z] at e;cases e
    ·rw[z2] at e;cases e
     exact .inl ⟨rfl,z1,rfl⟩
   ·rw[hH b hb] at e
    exact .inr (r9 e)
  have hok:HOk P w H s₁.heap:=fun b u e=>by
   rcases what b u e with⟨rfl,_,rfl⟩|⟨t,ht,rfl,rfl⟩
   ·exact⟨ha,by rw[List.length_map];exact hl,vs,_,rv,ha⟩
   ·exact⟨#[],(hT t ht).2,trivial,fun pos cv q=>by cases q⟩
  have tt:DD K H:=fun t ht=>by
   refine⟨#[.str (t.1 ++ ".<locals>." ++ "<lambda>") 0],?_,rfl⟩
   have ne:t.2.2≠a:=fun z=>by
    have e1:=(hT t ht).2;rw[z,ha] at e1;cases e1
   rw[hH _ ne];unfold um;rw[BB (fun t:Str×Addr×Addr=>t.2.2) nd ht];rfl
  have base_of:∀ {b:Addr} {o:Obj},s₁.heap.get? b=some o->H b=none->(vO s₁.heap H).get? b=some o:=fun e n=>Gx e n
  have freeB:∀ {b:Addr} {o:Obj},s₁.heap.get? b=some o->o.cls≠.none->o.cls≠.type "list"->H b=none:=fun {b o} e c1 c2=>by
   cases q:H b with
   |none=>rfl
   |some u=>
    rcases what b u q with⟨rfl,_,_⟩|⟨t,ht,rfl,_⟩
    ·rw[ha] at e;cases e;exact absurd rfl c2
    ·rw[(hT t ht).2] at e;cases e;exact absurd rfl c1
  have noD:∀ {b:Addr} {o:Obj} {es:Array DictEntry} {ep:Nat},s₁.heap.get? b=some o->o.data=.dict es ep->H b=none:=fun {b o es ep} e d=>by
   cases q:H b with
   |none=>rfl
   |some u=>
    rcases what b u q with⟨rfl,_,_⟩|⟨t,ht,rfl,_⟩
    ·rw[ha] at e;cases e;cases d
    ·rw[(hT t ht).2] at e;cases e;cases d
  have nsK:∀ {b:Addr} {m:Str->Option Value},s₁.heap.Ns b m->(vO s₁.heap H).Ns b m:=fun {b m} ⟨o,es,ep,e,d,r⟩=>⟨o,es,ep,base_of e (noD e d),d,r⟩
  have hKb : K.In (vO s₁.heap H):=fun b o e=>base_of (KX b o e) (by
   cases q:H b with
   |none=>rfl
   |some u=>
    by_cases hb:b=a
    ·subst hb
     rcases hA with z|⟨z1,_⟩
     ·rw[z] at q;cases q
     ·rw[e] at z1;cases z1
    ·rw[hH b hb,tabNot b o e] at q;cases q)
  have hM:Mod K mg (vO s₁.heap H):=⟨hKb,nsK hns,⟨mb,nsK hb,hbb⟩,let ⟨mc,h1,h2⟩:=hlim;⟨mc,nsK h1,h2⟩,
   let ⟨bm,ob,b1,b2,b3,b4,b5,b6⟩:=hbm;⟨bm,ob,b1,b2,base_of b3 (freeB b3 (by rw[b4];nofun) (by rw[b4];decide)),b4,b5,b6⟩⟩
  have e0:AJ P w K mg (vO s₁.heap H) callerA [] s₁ H:=⟨rfl,hM,fun b o e=>G7 e,Nat.le_of_eq (C1 _ _),trivial,fun b hb=>absurd (show b∈([]:List Addr) from hb) (by simp),tt,hok,.of_eq hg⟩
  refine codeAny_mono ((F _).run callerA [] s₁ H ⟨[.ref a],[]⟩ [.ref a] [.ref a] _ _ hr e0 (hbind s₁ (.ref a)) (.cons rfl .nil) (hsp H hS)) fun r s' h=>?_
  cases r with
  |error e=>exact(hCX H e s' h).elim
  |ok fl=>
   cases fl with
   |next=>exact False.elim h
   |brk=>exact False.elim h
   |cont=>exact False.elim h
   |ret u=>
    obtain⟨v,H',os,bare,un,hok',r',q⟩:=h;have q':v=.bl true:=q;subst q';obtain rfl:u=Value.bool true:=r';refine⟨rfl,⟨fun b o e=>?_,fun b o e=>un.there b o e (by simp)⟩,os,bare⟩
    cases q:H b with
    |none=>exact .inl (un.keep b o e q (by intro z;exact absurd (show b∈([]:List Addr) from z) (by simp)) (by simp))
    |some u=>
     rcases what b u q with⟨rfl,_,rfl⟩|⟨t,ht,rfl,rfl⟩
     ·have z2:=un.frzs _ _ _ q
      obtain⟨e1,_⟩:=hok _ _ q;obtain⟨e2,_⟩:=hok' _ _ z2;rw[e] at e1;cases e1;exact .inl e2
     ·obtain⟨more,z2⟩:=un.tbls _ _ q
      obtain⟨qs,e2,_⟩:=hok' _ _ z2;have e1:=(hT t ht).2;rw[e] at e1;obtain rfl:=Option.some.inj e1;exact .inr (.inl ⟨((hT t ht).1.tab (hT t ht).2).isCodeTable,rfl,#[],qs,rfl,by rw[Array.empty_append];exact e2⟩)
 cases hk:K.lookup a with
 |some o=>
  have e:=KX a o hk;rw[ha] at e;cases e;exact core (fun b=>um K b) (fun _ _=>rfl) (.inl tabA) (.inr ⟨_,vs.toArray,_,hk,rfl,rfl,rfl,by rw[List.size_toArray,lenV];exact hl,by simpa using rv⟩)
 |none=>
  refine core (fun b=>if b=a then some (.frz { cls:=.type "list",data:=.seq vs.toArray } (.lst (ns.map V.int))) else um K b) (fun b hb=>if_neg hb) (.inr ⟨hk,if_pos rfl⟩) (.inl (.inr ⟨_,if_pos rfl⟩))
theorem GR{l:W.OpenLaw}{n k:Nat}{q:Program}{loose:List Str}{XP:(Str->Option Value)->Heap->Prop}{YP:World->Heap->Prop}{d:DefRec}{K:Params->W.Frag}{CX:CXT}{sp:W.Frag->Sp}{x:Str}(hn:l.most=some n)(hn2:n<=sizeLine)(hdf:d.params.defaults=[])(hr:ft k callerA)(hY:∀(w:World)(h:Heap),YP w h->(K w.params).In h)(tabs:∀w:World,Fz (K w.params) ((recsOf q).map (·.name))=true)
  (F:∀(w:World)(mg:Str->Option Value)(fa:Addr)(h:Heap),(K w.params).In h->h.Ns mainGlobals mg->mg d.name=some (.ref fa) ->
   ∃fd:FuncData,(∀(s:Shared)(u:Value),BindsTo s fd ⟨[u],[]⟩ [(x,u)])/\∀base:Heap,aA l.prog w (K w.params) mg base CX k fa fd [x] (sp (K w.params)))
  (hsp:∀(K:W.Frag)(H:Hp)(a:Addr)(ns:List Int),ns.length<=n->LR H->SqL K H a (ns.map V.int)->sp K [.ref a] H (fun v _=>v=.bl true) fun _ _ _=>False)
  (hCX:∀(H:Hp)(s:Shared)(e:Value)(s':Shared),CX [] H s (fun _ _ _=>False) e s'->False) :
  W.WalkO q loose XP YP l.row.toRowW d [] (fun f vs=>PySem.call f vs):=by
 refine Att.xG hn hdf fun w s₀ s₁ mg mb fa o pm cd doc a vs ns G Y ho hd hcd hmg hobj hints hlen hg=>?_;have KX:=hY w _ Y;have tb:=tabs w;unfold Fz at tb;rw[Bool.and_eq_true,Bool.and_eq_true] at tb;obtain⟨⟨t1,t2⟩,t3⟩:=tb;obtain⟨fd,hb,hF⟩:=F w mg fa _ KX G.T.g hmg;refine Dv KX G.T.g G.T.b G.T.builtins G.T.nolimit hg G.T.bmain (fun t ht=>?_) t1 t2 hobj hints (Nat.le_trans hlen hn2) hr hF hb (fun H hS=>hsp _ H a ns hlen trivial hS) fun H e s'=>hCX H s₁ e s'
 have hc:=List.all_eq_true.mp t3 t ht;have hm:t.1∈(recsOf q).map (·.name):=by simpa using hc
 obtain⟨r,hr1,hr2⟩:=List.mem_map.mp hm
 cases z:(recsOf q).find? (fun e=>e.name == t.1) with
 |none=>
  have:=List.find?_eq_none.mp z r hr1;rw[hr2] at this;simp at this
 |some d'=>exact W.tab_of G.T KX z (Hw ht)
end L2
namespace L2
open PySem PySem.Spec PySem.Calls PyProof.Rows
open AutoSeq1 (wpAny_loadPart')
section
variable{prog:Program}{w:World}{A:Around}{E:Value->Shared->Prop}{S:Shared}
theorem sL{j t:Addr}{k:Nat}{its:Array Value}{v:Value}{Q:Value->Shared->Prop}(hj:S.heap.IsTupleIter j t k)(ht:S.heap.IsTuple t its)(hv:its[k]?=some v)(hQ:∀h1,h1.IsTupleIter j t (k+1)->Heap.SameBut j S.heap h1->Q v { S with heap:=h1 }):wpAny (model prog w) A (Builtin.SmallTypes.nextOf (.ref j)) Q E S:=by
 obtain⟨oj,hoj,hcj,hdj⟩:=id hj;obtain⟨ot,hot,_,nt,hdt⟩:=ht;unfold Builtin.SmallTypes.nextOf;refine wpAny_bind (wpAny_callSpecial?_slot (name:=Str.ofString "__next__") hj.typeIs F.slot_tuple_iterator_next (wpAny_call_entry F.slot_tuple_iterator_next hj.typeIs F.entry_tuple_iterator_next ?_ (F.args_tuple_iterator_next_1 _)));show wpAny _ _ (field (.ref j) 0 >>= _) _ _ S;refine wpAny_bind (wpAny_field hoj hdj (x:=.ref t) rfl ?_)
 show wpAny _ _ (if (Value.ref t == Value.none)=true then _ else _) _ _ S
 rw[if_neg (show ¬ (Value.ref t == Value.none)=true by intro z;cases z)]
 show wpAny _ _ (field (.ref j) 1 >>= _) _ _ S;refine wpAny_bind (wpAny_field hoj hdj (x:=.int k 0) rfl ?_);show wpAny _ _ (seqItems? (.ref t) >>= _) _ _ S;refine wpAny_bind (wpAny_seqItems hot hdt ?_);simp only[Int.toNat_natCast,hv];refine wpAny_bind (wpAny_setField hoj hdj (by simp) (wpAny_pure ⟨v,rfl,wpAny_pure (hQ _ ?_ (Heap.SameBut.update ..))⟩))
 refine⟨_,Heap.get?_update_self _ hoj (Obj.isFreed_of_fields (Obj.data_mapFields hdj _)),(Obj.cls_mapFields ..).trans hcj,?_⟩;rw[Obj.data_mapFields hdj];simp[rawInt]
theorem uM{j t:Addr}{k:Nat}{its:Array Value}{Q:Value->Shared->Prop}(hh:A.handled=none)(hj:S.heap.IsTupleIter j t k)(ht:S.heap.IsTuple t its)(hv:its[k]?=none)(hE:∀h1 e,Heap.ExtBut j S.heap h1->(∃o,h1.get? e=some o/\o.cls=.type "StopIteration")->E (.ref e) { S with heap:=h1 }):wpAny (model prog w) A (Builtin.SmallTypes.nextOf (.ref j)) Q E S:=by
 obtain⟨oj,hoj,hcj,hdj⟩:=id hj;obtain⟨ot,hot,_,nt,hdt⟩:=ht;unfold Builtin.SmallTypes.nextOf;refine wpAny_bind (wpAny_callSpecial?_slot (name:=Str.ofString "__next__") hj.typeIs F.slot_tuple_iterator_next (wpAny_call_entry F.slot_tuple_iterator_next hj.typeIs F.entry_tuple_iterator_next ?_ (F.args_tuple_iterator_next_1 _)));show wpAny _ _ (field (.ref j) 0 >>= _) _ _ S;refine wpAny_bind (wpAny_field hoj hdj (x:=.ref t) rfl ?_)
 show wpAny _ _ (if (Value.ref t == Value.none)=true then _ else _) _ _ S
 rw[if_neg (show ¬ (Value.ref t == Value.none)=true by intro z;cases z)]
 show wpAny _ _ (field (.ref j) 1 >>= _) _ _ S;refine wpAny_bind (wpAny_field hoj hdj (x:=.int k 0) rfl ?_);show wpAny _ _ (seqItems? (.ref t) >>= _) _ _ S;refine wpAny_bind (wpAny_seqItems hot hdt ?_);simp only[Int.toNat_natCast,hv];refine wpAny_bind (wpAny_rule (wpAny_bind (wpAny_setField hoj hdj (by simp) ?_)))
 show wpAny _ _ (newExc (Value.type "StopIteration") [] >>= _) _ _ _;refine wpAny_bind ?_;simp only[newTuple,newExc];refine wpAny_bind (wpAny_newObj_type ?_ (by size_fits))
 refine wpAny_bind (m:=firstArgMember _ _) (wpAny_of_eq (a:=Value.none) (by first|rfl|(unfold firstArgMember;rfl)) ?_)
 refine wpAny_newObj_type ?_ (hd:=by size_fits)
 unfold raiseNew;refine wpAny_bind (wpAny_handled ?_)
 first|rw[show A.in1.handled=none from hh]|rw[hh]
 refine wpAny_bind (wpAny_pure (wpAny_throw (hE _ _ ?_ ⟨_,Heap.get?_push_size _ rfl,rfl⟩)));exact((Heap.SameBut.update ..).extBut.push _).push _
theorem FY(hh:A.handled=none)(j t:Addr)(hne:t≠j)(its:Array Value):
  Draws prog w A j [j,t] its.size (fun k v=>its[k]?=some v) (fun k h=>h.IsTupleIter j t k/\h.IsTuple t its) where
 live:=fun _ _ x=>let ⟨o,ho,_⟩:=x.1;⟨o,ho⟩
 frame:=fun _ _ _ x kk=>⟨x.1.at fun o e=>kk j (by simp) o e,let ⟨o,e,r⟩:=x.2;⟨o,kk t (by simp) o e,r⟩⟩
 item:=fun k S Q E hk x hQ=>sL x.1 x.2 (v:=its[k]) (by simp[hk]) fun h1 y sb=>hQ _ h1 S.toks (by simp[hk]) ⟨y,let ⟨o,e,r⟩:=x.2;⟨o,(sb.2 t hne).trans e,r⟩⟩ sb
 done:=fun S Q E x hE=>uM hh x.1 x.2 (by simp) hE
theorem Gv(hh:A.handled=none)(j l:Addr)(hne:l≠j)(its:Array Value):
  Draws prog w A j [j,l] its.size (fun k v=>its[k]?=some v) (fun k h=>h.IsListIter j l k/\h.IsList l its) where
 live:=fun _ _ x=>let ⟨o,ho,_⟩:=x.1;⟨o,ho⟩
 frame:=fun _ _ _ x kk=>⟨x.1.at fun o e=>kk j (by simp) o e,let ⟨o,e,r⟩:=x.2;⟨o,kk l (by simp) o e,r⟩⟩
 item:=fun k S Q E hk x hQ=>wpAny_nextOf_list_item x.1 x.2 (x:=its[k]) (by simp[hk]) fun h1 y sb=>hQ _ h1 S.toks (by simp[hk]) ⟨y,let ⟨o,e,r⟩:=x.2;⟨o,(sb.2 l hne).trans e,r⟩⟩ sb
 done:=fun S Q E x hE=>wpAny_nextOf_list_end hh x.1 x.2 (by simp) hE
set_option maxHeartbeats 2000000 in
theorem DA(t:Addr)(its:Array Value):
  Meets (Builtin.«enumerate.__new__» ⟨[.type "enumerate",.ref t],[]⟩) (fun _ R S=>S.heap.IsTuple t its /\
   R (.ok (.ret (.ref (S.heap.push { cls:=.type "tuple_iterator",data:=.fields #[.ref t,.int 0 0] }).objs.size)))
    { S with heap:=(S.heap.push { cls:=.type "tuple_iterator",data:=.fields #[.ref t,.int 0 0] }).push { cls:=.type "enumerate",data:=.fields #[.none,.bool false,.ref S.heap.objs.size,rawInt 0,.none,.none] } }):=
 .of_wp fun prog w A R S h=>by
  obtain⟨hp,g,d,tk,os⟩:=S;obtain⟨⟨ot,hot,hct,nt,hdt⟩,h⟩:=h;have hsub:=sub_enumerate;have hTT:Heap.IsTuple (Shared.heap ⟨hp,g,d,tk,os⟩) t its:=⟨ot,hot,hct,nt,hdt⟩;obtain⟨c,dd,dt,sl⟩:=ot
  replace hct:c=.type "tuple":=hct
  replace hdt:dt=.seq its nt:=hdt
  subst hct hdt
  wp_walk using wpAny_loadPart' hot
  refine wpAny_stack_any fun st=>wpAny_pure ?_;split
  ·rename_i c _ _ _ _ _
   cases (c == Value.type "enumerate")<;>(wp_walk using wpAny_loadPart' hot,wpAny_pyIter_tuple hTT;exact⟨_,rfl,h⟩)
  ·wp_walk using wpAny_loadPart' hot,wpAny_pyIter_tuple hTT
   exact⟨_,rfl,h⟩
theorem At{t:Addr}{its:Array Value}{Q:Value->Shared->Prop}(hT:S.heap.IsTuple t its)(h:∀h1,IsEnum h1 (S.heap.objs.size+1) S.heap.objs.size 0 .none->h1.IsTupleIter S.heap.objs.size t 0->h1.objs.size=S.heap.objs.size+2->(∀b o,S.heap.get? b=some o->h1.get? b=some o)->Q (.ref (S.heap.objs.size+1)) { S with heap:=h1 }):
  wpAny (model prog w) A (call (.type "enumerate") [.ref t]) Q E S:=by
 refine callType_new F.called_enumerate (by decide) (F.typeCall_enumerate_1 _) (F.newCall_enumerate_1 _) (fun obj=>F.args_object_init_2 obj _) F.entry_enumerate_new (DA t its) ⟨hT,?_⟩
 have hz:(S.heap.push { cls:=.type "tuple_iterator",data:=.fields #[.ref t,.int 0 0] }).objs.size=S.heap.objs.size+1:=Heap.size_push ..;show _/\_;have he:=Heap.get?_push_size (S.heap.push { cls:=.type "tuple_iterator",data:=.fields #[.ref t,.int 0 0] }) (o:={ cls:=.type "enumerate",data:=.fields #[.none,.bool false,.ref S.heap.objs.size,rawInt 0,.none,.none] }) rfl;rw[hz] at he ⊢;exact⟨⟨_,he,rfl⟩,h _ he ⟨_,Heap.get?_push_of_some _ (Heap.get?_push_size _ rfl),rfl,rfl⟩ (by rw[Heap.size_push,hz]) fun b o y=>Heap.get?_push_of_some _ (Heap.get?_push_of_some _ y)⟩
end
theorem Inv.NE{X:Cx}{pins:List (Addr×Obj)}{σ:St}{H:Hp}{s:Shared}{h':Heap}{tk:Nat}{ch:List Addr}{T:Addr}{o:HO}(I:Inv X pins σ H s)(hch:∀b∈ch,ni X pins H b)(k:∀b ob,b ∉ ch->s.heap.get? b=some ob->h'.get? b=some ob)(hT:s.heap.objs.size<=T)(new:dc X.prog X.w (upd H T o) h' T o):Inv X pins σ (upd H T o) { s with heap:=h',toks:=tk }:=by
 have hn:=I.hok.fresh hT;have nc:∀b u,H b=some u->b ∉ ch:=fun b u e hb=>by rw[(hch b hb).1] at e;cases e
 have nT:∀b u,H b=some u->b≠T:=fun b u e=>aW e hn;have lT:∀b ob,s.heap.get? b=some ob->b≠T:=fun b ob e=>Nat.ne_of_lt (Nat.lt_of_lt_of_le (Heap.lt_size e) hT)
 refine I.step (g':=s.gens) (d':=s.drawn) (ch:=ch) (fun b hb=>?_) (fun b ob _ _ hc e _=>k b ob hc e) (fun b ob _ _ hc e _=>⟨ob.slots,k b ob hc e⟩) (fun b ob _ e n=>by rw[aD (lT b ob e)];exact n)
  (fun b ob hc e=>⟨ob,k b ob hc e⟩) (fun b xs e=>by rw[aD (nT b _ e)];exact e) (fun b ob u e=>by rw[aD (nT b _ e)];exact e) (fun b ps e=>⟨#[],by rw[aD (nT b _ e),e];simp⟩) (fun m hm=>?_) (fun b u e=>?_) I.bare
 ·obtain⟨f0,f1,f2,f3,f4,f5⟩:=hch b hb
  exact⟨f3,f1,f4,f5⟩
 ·obtain⟨ob,es,ep,ho,r⟩:=hm
  exact⟨ob,es,ep,k _ ob (fun z=>(hch _ z).2.1 rfl) ho,r⟩
 ·by_cases hb:b=T
  ·subst hb;rw[bY] at e;cases e;exact new
  ·rw[aD hb] at e
   refine(I.hok b u e).stay (fun c v hc q=>k c v ?_ q) (fun c q=>by rw[aD (nT c _ q)];exact q) (fun c xs q=>by rw[aD (nT c _ q)];exact q) fun c ob u' q=>by rw[aD (nT c _ q)];exact q
   rcases hc with rfl|hc
   ·exact nc _ _ e
   ·exact nc _ _ hc
theorem Inv.NN{X:Cx}{pins:List (Addr×Obj)}{σ:St}{H:Hp}{s:Shared}{h':Heap}{tk:Nat}{ch:List Addr}(I:Inv X pins σ H s)(hch:∀b∈ch,ni X pins H b)(k:∀b ob,b ∉ ch->s.heap.get? b=some ob->h'.get? b=some ob):Inv X pins σ H { s with heap:=h',toks:=tk }:=by
 have nc:∀b u,H b=some u->b ∉ ch:=fun b u e hb=>by rw[(hch b hb).1] at e;cases e
 refine I.step (g':=s.gens) (d':=s.drawn) (ch:=ch) (fun b hb=>?_) (fun b ob _ _ hc e _=>k b ob hc e) (fun b ob _ _ hc e _=>⟨ob.slots,k b ob hc e⟩) (fun b ob _ e n=>n)
  (fun b ob hc e=>⟨ob,k b ob hc e⟩) (fun b xs e=>e) (fun b ob u e=>e) (fun b ps e=>⟨#[],by rw[e];simp⟩) (fun m hm=>?_) (fun b u e=>?_) I.bare
 ·obtain⟨f0,f1,f2,f3,f4,f5⟩:=hch b hb
  exact⟨f3,f1,f4,f5⟩
 ·obtain⟨ob,es,ep,ho,r⟩:=hm
  exact⟨ob,es,ep,k _ ob (fun z=>(hch _ z).2.1 rfl) ho,r⟩
 ·refine(I.hok b u e).stay (fun c v hc q=>k c v ?_ q) (fun c q=>q) (fun c xs q=>q) fun c ob u' q=>q
  rcases hc with rfl|hc
  ·exact nc _ _ e
  ·exact nc _ _ hc
end L2
namespace L2
open PySem PySem.Spec PySem.Calls PyProof.Rows
noncomputable def Ent(K:W.Frag)(a:Addr):It:=
 ⟨fun i H=>∃xs x,SqT K H a xs/\xs[i]?=some x,fun i H v H'=>∃T x,H T=none/\v=.ref T/\H'=upd H T (.tup [.int i,x])/\∀xs,SqT K H a xs->xs[i]?=some x,fun i H=>∃xs,SqT K H a xs/\xs.length=i⟩
noncomputable def Enl(K:W.Frag)(a:Addr):It:=
 ⟨fun i H=>∃xs x,SqL K H a xs/\xs[i]?=some x,fun i H v H'=>∃T x,H T=none/\v=.ref T/\H'=upd H T (.tup [.int i,x])/\∀xs,SqL K H a xs->xs[i]?=some x,fun i H=>∃xs,SqL K H a xs/\xs.length=i⟩
theorem AB{P:Program}{w:World}{K:W.Frag}{elts:List Expr}{kk:Nat}{pp:Pos}(a e it:Addr)(hne:e≠it):
  yB P w K (.Tuple elts kk pp) (Ent K a) [e,it] e (fun i h=>(∃old,IsEnum h e it i old)/\h.IsTupleIter it a i) where
 mem:=by simp
 obj:=fun i h st b hb=>by
  obtain⟨⟨old,he⟩,o,ho,c,d⟩:=st;rcases(by simpa using hb:b=e\/b=it) with rfl|rfl
  ·exact⟨_,he,fun v z=>by cases z⟩
  ·exact⟨o,ho,fun v z=>by rw[d] at z;cases z⟩
 keep:=fun i h h' st k=>by
  obtain⟨⟨old,he⟩,hi⟩:=st;exact⟨⟨old,k e (by simp) _ he⟩,hi.at fun o q=>k it (by simp) o q⟩
 item:=by
  intro X hP hw hK hc i pins s σ H E I hf st hg;subst hP hw hK;obtain⟨xs,x,hq,hx⟩:=hg;obtain⟨its,rv,p,hz⟩:=I.tuple hq;obtain⟨u,hu,ru⟩:=rv.get hx;obtain⟨⟨old,he⟩,hi⟩:=st;have pT:s.heap.IsTuple a its.toArray:=p
  have nai:a≠it:=fun z=>by
   obtain⟨o1,e1,c1,_⟩:=hi;obtain⟨o2,e2,c2,_⟩:=pT;rw[z,e1] at e2;cases e2;rw[c1] at c2;injection c2 with z2;exact absurd z2 (by decide)
  have nae:a≠e:=fun z=>by
   obtain⟨o2,e2,c2,_⟩:=pT;rw[z,he] at e2;cases e2;injection c2 with z2;exact absurd z2 (by decide)
  have hil:i<its.toArray.size:=by
   have:=(List.getElem?_eq_some_iff.mp hu).1;simpa using this
  refine wpAny_pyNext_enum_itemD (FY (prog:=X.prog) (w:=X.w) (A:=X.A.in1) (I.ok.hd hc) it a nai its.toArray) he ⟨hi,pT⟩ hil hne (by simp[hne,Ne.symm nae]) fun v h1 tk hv hout hst' hT hsz hk=>?_
  have hvu:v=u:=by
   have:its.toArray[i]?=some u:=by simpa using hu
   rw[this] at hv;exact(Option.some.inj hv).symm
  subst hvu;refine⟨_,rfl,wpAny_letOwnedTupleGo_enum hout fun h2 he2 sb2=>?_⟩;have hes:e<s.heap.objs.size:=Heap.lt_size he;have his:it<s.heap.objs.size:=by obtain⟨_,e1,_⟩:=hi;exact Heap.lt_size e1
  have hT2:h2.get? s.heap.objs.size=some { cls:=.type "tuple",data:=.seq #[.int i tk,v] }:=(sb2.2 _ (Nat.ne_of_gt hes)).trans hT
  have k2:∀b ob,b ∉ [e,it]->s.heap.get? b=some ob->h2.get? b=some ob:=fun b ob hb q=>by
   have h1':b≠e:=fun z=>hb (by simp[z])
   exact(sb2.2 b h1').trans (hk b ob h1' (fun z=>hb (by simp[z])) q)
  have i2:h2.IsTupleIter it a (i+1):=hst'.1.at fun o q=>(sb2.2 it (Ne.symm hne)).trans q;have J:=I.NE (h':=h2) (tk:=tk+1) (ch:=[e,it]) (T:=s.heap.objs.size) (o:=.tup [.int i,x]) hf k2 (Nat.le_refl _) ⟨(show 2<=sizeLine by decide),[.int i tk,v],.cons ⟨tk,rfl⟩ (.cons ru .nil),⟨⟨_,hT2,rfl,_,rfl⟩,_,hT2,rfl⟩⟩
  refine⟨.ref s.heap.objs.size,_,J,rfl,⟨_,x,I.hok.fresh (Nat.le_refl _),rfl,rfl,fun ys hy=>by rw[I.NA hy hq];exact hx⟩,⟨⟨_,by simpa using he2⟩,i2⟩,fun b hb=>?_⟩
  have hlt:b<s.heap.objs.size:=by
   rcases(by simpa using hb:b=e\/b=it) with rfl|rfl
   ·exact hes
   ·exact his
  rw[aD (Nat.ne_of_lt hlt)];exact(hf b hb).1
 done:=by
  intro X hP hw hK hc i pins s σ H E I hf st hg;subst hP hw hK;obtain⟨xs,hq,hx⟩:=hg;obtain⟨its,rv,p,hz⟩:=I.tuple hq;obtain⟨⟨old,he⟩,hi⟩:=st;have pT:s.heap.IsTuple a its.toArray:=p
  have nai:a≠it:=fun z=>by
   obtain⟨o1,e1,c1,_⟩:=hi;obtain⟨o2,e2,c2,_⟩:=pT;rw[z,e1] at e2;cases e2;rw[c1] at c2;injection c2 with z2;exact absurd z2 (by decide)
  have hsz:i=its.toArray.size:=by
   have:=rv.length;simp;omega
  refine wpAny_pyNext_enum_endD (FY (prog:=X.prog) (w:=X.w) (A:=X.A.in1) (I.ok.hd hc) it a nai its.toArray) he ⟨by rw[←hsz];exact hi,pT⟩ fun h1 eb=>⟨rfl,?_⟩
  obtain⟨f0,f1,f2,f3,f4,f5⟩:=hf it (by simp)
  exact I.turned (t':=s.toks) (fun b o hb q=>eb b o hb q) f0 f1 f3 f4 f5
 self:=fun A i s Q E st h=>by
  obtain⟨⟨old,he⟩,_⟩:=st;exact wpAny_pyIter_enum he h
theorem Dr:bootBuiltins "enumerate"=some (.type "enumerate"):=by kernel_rfl
theorem Al{P:Program}{w:World}{K:W.Frag}{elts:List Expr}{kk:Nat}{pp:Pos}(a e it:Addr)(hne:e≠it):
  yB P w K (.Tuple elts kk pp) (Enl K a) [e,it] e (fun i h=>(∃old,IsEnum h e it i old)/\h.IsListIter it a i) where
 mem:=by simp
 obj:=fun i h st b hb=>by
  obtain⟨⟨old,he⟩,o,ho,c,d⟩:=st;rcases(by simpa using hb:b=e\/b=it) with rfl|rfl
  ·exact⟨_,he,fun v z=>by cases z⟩
  ·exact⟨o,ho,fun v z=>by rw[d] at z;cases z⟩
 keep:=fun i h h' st k=>by
  obtain⟨⟨old,he⟩,hi⟩:=st;exact⟨⟨old,k e (by simp) _ he⟩,hi.at fun o q=>k it (by simp) o q⟩
 item:=by
  intro X hP hw hK hc i pins s σ H E I hf st hg;subst hP hw hK;obtain⟨xs,x,hq,hx⟩:=hg;obtain⟨its,rv,p,hz⟩:=I.list hq;obtain⟨u,hu,ru⟩:=rv.get hx;obtain⟨⟨old,he⟩,hi⟩:=st;have pT:s.heap.IsList a its.toArray:=p.isList
  have nai:a≠it:=fun z=>by
   obtain⟨o1,e1,c1,_⟩:=hi;obtain⟨o2,e2,c2,_⟩:=pT;rw[z,e1] at e2;cases e2;rw[c1] at c2;injection c2 with z2;exact absurd z2 (by decide)
  have nae:a≠e:=fun z=>by
   obtain⟨o2,e2,c2,_⟩:=pT;rw[z,he] at e2;cases e2;injection c2 with z2;exact absurd z2 (by decide)
  have hil:i<its.toArray.size:=by
   have:=(List.getElem?_eq_some_iff.mp hu).1;simpa using this
  refine wpAny_pyNext_enum_itemD (Gv (prog:=X.prog) (w:=X.w) (A:=X.A.in1) (I.ok.hd hc) it a nai its.toArray) he ⟨hi,pT⟩ hil hne (by simp[hne,Ne.symm nae]) fun v h1 tk hv hout hst' hT hsz hk=>?_
  have hvu:v=u:=by
   have:its.toArray[i]?=some u:=by simpa using hu
   rw[this] at hv;exact(Option.some.inj hv).symm
  subst hvu;refine⟨_,rfl,wpAny_letOwnedTupleGo_enum hout fun h2 he2 sb2=>?_⟩;have hes:e<s.heap.objs.size:=Heap.lt_size he;have his:it<s.heap.objs.size:=by obtain⟨_,e1,_⟩:=hi;exact Heap.lt_size e1
  have hT2:h2.get? s.heap.objs.size=some { cls:=.type "tuple",data:=.seq #[.int i tk,v] }:=(sb2.2 _ (Nat.ne_of_gt hes)).trans hT
  have k2:∀b ob,b ∉ [e,it]->s.heap.get? b=some ob->h2.get? b=some ob:=fun b ob hb q=>by
   have h1':b≠e:=fun z=>hb (by simp[z])
   exact(sb2.2 b h1').trans (hk b ob h1' (fun z=>hb (by simp[z])) q)
  have i2:h2.IsListIter it a (i+1):=hst'.1.at fun o q=>(sb2.2 it (Ne.symm hne)).trans q;have J:=I.NE (h':=h2) (tk:=tk+1) (ch:=[e,it]) (T:=s.heap.objs.size) (o:=.tup [.int i,x]) hf k2 (Nat.le_refl _) ⟨(show 2<=sizeLine by decide),[.int i tk,v],.cons ⟨tk,rfl⟩ (.cons ru .nil),⟨⟨_,hT2,rfl,_,rfl⟩,_,hT2,rfl⟩⟩
  refine⟨.ref s.heap.objs.size,_,J,rfl,⟨_,x,I.hok.fresh (Nat.le_refl _),rfl,rfl,fun ys hy=>by rw[I.NC hy hq];exact hx⟩,⟨⟨_,by simpa using he2⟩,i2⟩,fun b hb=>?_⟩
  have hlt:b<s.heap.objs.size:=by
   rcases(by simpa using hb:b=e\/b=it) with rfl|rfl
   ·exact hes
   ·exact his
  rw[aD (Nat.ne_of_lt hlt)];exact(hf b hb).1
 done:=by
  intro X hP hw hK hc i pins s σ H E I hf st hg;subst hP hw hK;obtain⟨xs,hq,hx⟩:=hg;obtain⟨its,rv,p,hz⟩:=I.list hq;obtain⟨⟨old,he⟩,hi⟩:=st;have pT:s.heap.IsList a its.toArray:=p.isList
  have nai:a≠it:=fun z=>by
   obtain⟨o1,e1,c1,_⟩:=hi;obtain⟨o2,e2,c2,_⟩:=pT;rw[z,e1] at e2;cases e2;rw[c1] at c2;injection c2 with z2;exact absurd z2 (by decide)
  have hsz:i=its.toArray.size:=by
   have:=rv.length;simp;omega
  refine wpAny_pyNext_enum_endD (Gv (prog:=X.prog) (w:=X.w) (A:=X.A.in1) (I.ok.hd hc) it a nai its.toArray) he ⟨by rw[←hsz];exact hi,pT⟩ fun h1 eb=>⟨rfl,?_⟩
  obtain⟨f0,f1,f2,f3,f4,f5⟩:=hf it (by simp)
  exact I.turned (t':=s.toks) (fun b o hb q=>eb b o hb q) f0 f1 f3 f4 f5
 self:=fun A i s Q E st h=>by
  obtain⟨⟨old,he⟩,_⟩:=st;exact wpAny_pyIter_enum he h
structure Src(prog:Program)(w:World)(A:Around)(j q:Addr)(its:Array Value)(It1:Nat->Heap->Prop)(Sq1:Heap->Prop):Prop where
 item:∀(n:Nat)(v:Value)(S:Shared)(Q:Value->Shared->Prop)(E:Value->Shared->Prop),It1 n S.heap->Sq1 S.heap->its[n]?=some v->(∀h1,It1 (n+1) h1->Heap.SameBut j S.heap h1->Q v { S with heap:=h1 })->wpAny (model prog w) A (Builtin.SmallTypes.nextOf (.ref j)) Q E S
 stop:∀(n:Nat)(S:Shared)(Q:Value->Shared->Prop)(E:Value->Shared->Prop),It1 n S.heap->Sq1 S.heap->its[n]?=none->(∀h1 e,Heap.ExtBut j S.heap h1->(∃o,h1.get? e=some o/\o.cls=.type "StopIteration")->E (.ref e) { S with heap:=h1 })->wpAny (model prog w) A (Builtin.SmallTypes.nextOf (.ref j)) Q E S
 mv:∀(n:Nat)(h h1:Heap),It1 n h->(∀o,h.get? j=some o->h1.get? j=some o)->It1 n h1
 sv:∀(h h1:Heap),Sq1 h->(∀o,h.get? q=some o->h1.get? q=some o)->Sq1 h1
 live:∀(n:Nat)(h:Heap),It1 n h->∃o vs,h.get? j=some o/\o.data=.fields vs
theorem Na{prog:Program}{w:World}{A:Around}(hh:A.handled=none)(j q:Addr)(its:Array Value):Src prog w A j q its (fun n h=>h.IsTupleIter j q n) (fun h=>h.IsTuple q its):=
 ⟨fun n v S Q E a b c d=>sL a b c d,fun n S Q E a b c d=>uM hh a b c d,fun n h h1 a k=>a.at k,fun h h1 a k=>let ⟨o,e,r⟩:=a;⟨o,k o e,r⟩,fun n h a=>let ⟨o,e,_,d⟩:=a;⟨o,_,e,d⟩⟩
theorem MX{prog:Program}{w:World}{A:Around}(hh:A.handled=none)(j q:Addr)(its:Array Value):Src prog w A j q its (fun n h=>h.IsListIter j q n) (fun h=>h.IsList q its):=
 ⟨fun n v S Q E a b c d=>wpAny_nextOf_list_item a b c d,fun n S Q E a b c d=>wpAny_nextOf_list_end hh a b c d,fun n h h1 a k=>a.at k,fun h h1 a k=>let ⟨o,e,r⟩:=a;⟨o,k o e,r⟩,fun n h a=>let ⟨o,e,_,d⟩:=a;⟨o,_,e,d⟩⟩
section
variable{prog:Program}{w:World}{A:Around}{E:Value->Shared->Prop}{S:Shared}{z u o i j p q:Addr}{m n:Nat}{xs ys:Array Value}{x y a b:Value}{Ii Ij:Nat->Heap->Prop}{Sp Sq:Heap->Prop}
theorem C9{Q:Value->Shared->Prop}(D:ZipApart z u o i j p q)(Gi:Src prog w A i p xs Ii Sp)(Gj:Src prog w A j q ys Ij Sq)(hz:IsZip S.heap z u o .none)(hu:IsPair S.heap u (.ref i) (.ref j))(ho:IsPair S.heap o a b)(hi:Ii m S.heap)(hj:Ij n S.heap)(hp:Sp S.heap)(hq:Sq S.heap)(hx:xs[m]?=some x)(hy:ys[n]?=some y)(hQ:∀h1,IsZip h1 z u o (rawInt S.heap.objs.size)->IsPair h1 o x y->Ii (m+1) h1->Ij (n+1) h1->IsPair h1 S.heap.objs.size x y->(∀c ob,c≠z->c≠o->c≠i->c≠j->S.heap.get? c=some ob->h1.get? c=some ob)->Q (.ref S.heap.objs.size) { S with heap:=h1 }):
  wpAny (model prog w) A (Builtin.«zip.__next__» ⟨[.ref z],[]⟩) (fun fin s1=>∃v,fin=.done (.ret v)/\Q v s1) E S:=by
 show wpAny _ _ (field (.ref z) 2 >>= _) _ _ S;refine wpAny_bind (wpAny_field hz (x:=.bool false) rfl rfl ?_);show wpAny _ _ (field (.ref z) 3 >>= _) _ _ S;refine wpAny_bind (wpAny_field hz (x:=.ref u) rfl rfl ?_);refine wpAny_bind (wpAny_seqItems hu rfl ?_);show wpAny _ _ (Builtin.SmallTypes.ownedTupleIsFree (.ref z) >>= _) _ _ S;refine wpAny_bind ?_;unfold Builtin.SmallTypes.ownedTupleIsFree;refine wpAny_bind (wpAny_field hz (x:=.none) rfl rfl (wpAny_pure ?_))
 simp only[if_true];refine wpAny_bind (wpAny_rule (wpAny_bind (wpAny_field hz (x:=.ref o) rfl rfl ?_)));refine wpAny_bind (wpAny_setField_rec hz (by simp) fun k1 z1 b1=>?_)
 replace z1:IsZip k1 z u o .ellipsis:=z1
 refine wpAny_bind ?_;simp only[List.zipIdx_cons,List.forIn_cons,List.zipIdx_nil,List.forIn_nil];refine wpAny_bind (wpAny_bind (wpAny_onRaise ?_));show wpAny _ _ (Builtin.SmallTypes.nextOf (.ref i) >>= _) _ _ _;refine wpAny_bind (Gi.item m x _ _ _ (Gi.mv _ _ _ hi fun ob e=>b1.extBut _ _ D.i1z e) (Gi.sv _ _ hp fun ob e=>b1.extBut _ _ D.l1z e) hx fun k2 i2 b2=>wpAny_pure ?_);have o2:IsPair k2 o a b:=b2.extBut _ _ D.TOi1 (b1.extBut _ _ D.TOz ho)
 refine wpAny_bind (wpAny_seqItems o2 rfl ?_);refine wpAny_bind (wpAny_updateSeq_pair o2 fun k3 o3 b3=>?_)
 replace o3:IsPair k3 o x b:=o3
 refine wpAny_bind (wpAny_letGo (wpAny_pure ?_));refine wpAny_bind (wpAny_bind (wpAny_onRaise ?_));show wpAny _ _ (Builtin.SmallTypes.nextOf (.ref j) >>= _) _ _ _;refine wpAny_bind (Gj.item n y _ _ _ (Gj.mv _ _ _ hj fun ob e=>b3.extBut _ _ D.TOi2.symm (b2.extBut _ _ D.i12.symm (b1.extBut _ _ D.i2z e))) (Gj.sv _ _ hq fun ob e=>b3.extBut _ _ D.l2TO (b2.extBut _ _ D.l2i1 (b1.extBut _ _ D.l2z e))) hy fun k4 j4 b4=>wpAny_pure ?_)
 have o4:IsPair k4 o x b:=b4.extBut _ _ D.TOi2 o3;refine wpAny_bind (wpAny_seqItems o4 rfl ?_);refine wpAny_bind (wpAny_updateSeq_pair o4 fun k5 o5 b5=>?_)
 replace o5:IsPair k5 o x y:=o5
 refine wpAny_bind (wpAny_letGo (wpAny_pure (wpAny_pure ?_)));refine wpAny_bind (wpAny_seqItems o5 rfl (wpAny_bind (wpAny_newTuple ?_)));have hsz:k5.objs.size=S.heap.objs.size:=by rw[b5.1,b4.1,b3.1,b2.1,b1.1]
 have z5:IsZip k5 z u o .ellipsis:=b5.extBut _ _ D.TOz.symm (b4.extBut _ _ D.i2z.symm (b3.extBut _ _ D.TOz.symm (b2.extBut _ _ D.i1z.symm z1)));have all5:∀c ob,c≠z->c≠o->c≠i->c≠j->S.heap.get? c=some ob->k5.get? c=some ob:=fun c ob c1 c2 c3 c4 e=>b5.extBut _ _ c2 (b4.extBut _ _ c4 (b3.extBut _ _ c2 (b2.extBut _ _ c3 (b1.extBut _ _ c1 e))));have i5:Ii (m+1) k5:=Gi.mv _ _ _ i2 fun ob e=>b5.extBut _ _ D.TOi1.symm (b4.extBut _ _ D.i12 (b3.extBut _ _ D.TOi1.symm e))
 have j5:Ij (n+1) k5:=Gj.mv _ _ _ j4 fun ob e=>b5.extBut _ _ D.TOi2.symm e;have zlt:z<k5.objs.size:=Heap.lt_size z5;show wpAny _ _ (Builtin.SmallTypes.ownedTupleHandOut (.ref z) (.ref k5.objs.size) >>= _) _ _ _;refine wpAny_bind ?_;unfold Builtin.SmallTypes.ownedTupleHandOut;have z6:IsZip (k5.push { cls:=.type "tuple",data:=.seq #[x,y] }) z u o .ellipsis:=Heap.get?_push_of_some _ z5;refine wpAny_bind (wpAny_setField_rec z6 (by simp) fun k7 z7 b7=>?_)
 replace z7:IsZip k7 z u o (rawInt k5.objs.size):=z7
 refine wpAny_setField_rec z7 (by simp) fun k8 z8 b8=>?_
 replace z8:IsZip k8 z u o (rawInt k5.objs.size):=z8
 have up:∀c ob,c≠z->k5.get? c=some ob->k8.get? c=some ob:=fun c ob c1 e=>b8.extBut _ _ c1 (b7.extBut _ _ c1 (Heap.get?_push_of_some _ e));have t8:IsPair k8 k5.objs.size x y:=b8.extBut _ _ (Nat.ne_of_gt zlt) (b7.extBut _ _ (Nat.ne_of_gt zlt) (Heap.get?_push_size _ rfl));rw[hsz] at z8 t8;refine wpAny_pure ⟨_,rfl,?_⟩;show Q (.ref k5.objs.size) _;rw[hsz];exact hQ k8 z8 (up _ _ D.TOz o5) (Gi.mv _ _ _ i5 fun ob e=>up _ ob D.i1z e) (Gj.mv _ _ _ j5 fun ob e=>up _ ob D.i2z e) t8 fun c ob c1 c2 c3 c4 e=>up c ob c1 (all5 c ob c1 c2 c3 c4 e)
theorem Em{Q:Fin->Shared->Prop}(D:ZipApart z u o i j p q)(Gi:Src prog w A i p xs Ii Sp)(Gj:Src prog w A j q ys Ij Sq)(hz:IsZip S.heap z u o .none)(hu:IsPair S.heap u (.ref i) (.ref j))(ho:IsPair S.heap o a b)(hi:Ii m S.heap)(hj:Ij n S.heap)(hp:Sp S.heap)(hq:Sq S.heap)(he:xs[m]?=none\/ys[n]?=none)(hE:∀h1 e,(∀c ob,c≠z->c≠o->c≠i->c≠j->S.heap.get? c=some ob->h1.get? c=some ob)->(∃ob,h1.get? e=some ob/\ob.cls=.type "StopIteration")->E (.ref e) { S with heap:=h1 }):
  wpAny (model prog w) A (Builtin.«zip.__next__» ⟨[.ref z],[]⟩) Q E S:=by
 show wpAny _ _ (field (.ref z) 2 >>= _) _ _ S;refine wpAny_bind (wpAny_field hz (x:=.bool false) rfl rfl ?_);show wpAny _ _ (field (.ref z) 3 >>= _) _ _ S;refine wpAny_bind (wpAny_field hz (x:=.ref u) rfl rfl ?_);refine wpAny_bind (wpAny_seqItems hu rfl ?_);show wpAny _ _ (Builtin.SmallTypes.ownedTupleIsFree (.ref z) >>= _) _ _ S;refine wpAny_bind ?_;unfold Builtin.SmallTypes.ownedTupleIsFree;refine wpAny_bind (wpAny_field hz (x:=.none) rfl rfl (wpAny_pure ?_))
 simp only[if_true];refine wpAny_bind (wpAny_rule (wpAny_bind (wpAny_field hz (x:=.ref o) rfl rfl ?_)));refine wpAny_bind (wpAny_setField_rec hz (by simp) fun k1 z1 b1=>?_)
 replace z1:IsZip k1 z u o .ellipsis:=z1
 refine wpAny_bind ?_;simp only[List.zipIdx_cons,List.forIn_cons,List.zipIdx_nil,List.forIn_nil];refine wpAny_bind (wpAny_bind (wpAny_onRaise ?_));show wpAny _ _ (Builtin.SmallTypes.nextOf (.ref i) >>= _) _ _ _;have i1:=Gi.mv _ _ _ hi fun ob e=>b1.extBut _ _ D.i1z e;have p1:=Gi.sv _ _ hp fun ob e=>b1.extBut _ _ D.l1z e
 cases hx:xs[m]? with
 |none=>
  refine wpAny_bind (Gi.stop m _ _ _ i1 p1 hx fun k2 e b2 x2=>?_);obtain⟨oe,eoe,ece⟩:=x2;have z2:IsZip k2 z u o .ellipsis:=b2 _ _ D.i1z.symm z1;have ez:e≠z:=fun w1=>by subst w1;rw[z2] at eoe;cases eoe;simp at ece
  exact wpAny_setField_rec z2 (by simp) fun k3 _ b3=>hE k3 e (fun c ob c1 _ c3 _ e1=>b3.extBut _ _ c1 (b2 _ _ c3 (b1.extBut _ _ c1 e1))) ⟨oe,b3.extBut _ _ ez eoe,ece⟩
 |some x=>
  have hy:ys[n]?=none:=he.resolve_left (by rw[hx];simp)
  refine wpAny_bind (Gi.item m x _ _ _ i1 p1 hx fun k2 i2 b2=>wpAny_pure ?_);have o2:IsPair k2 o a b:=b2.extBut _ _ D.TOi1 (b1.extBut _ _ D.TOz ho);refine wpAny_bind (wpAny_seqItems o2 rfl ?_);refine wpAny_bind (wpAny_updateSeq_pair o2 fun k3 o3 b3=>?_);refine wpAny_bind (wpAny_letGo (wpAny_pure ?_));refine wpAny_bind (wpAny_bind (wpAny_onRaise ?_));show wpAny _ _ (Builtin.SmallTypes.nextOf (.ref j) >>= _) _ _ _
  refine wpAny_bind (Gj.stop n _ _ _ (Gj.mv _ _ _ hj fun ob e=>b3.extBut _ _ D.TOi2.symm (b2.extBut _ _ D.i12.symm (b1.extBut _ _ D.i2z e))) (Gj.sv _ _ hq fun ob e=>b3.extBut _ _ D.l2TO (b2.extBut _ _ D.l2i1 (b1.extBut _ _ D.l2z e))) hy fun k4 e b4 x4=>?_);obtain⟨oe,eoe,ece⟩:=x4;have z4:IsZip k4 z u o .ellipsis:=b4 _ _ D.i2z.symm (b3.extBut _ _ D.TOz.symm (b2.extBut _ _ D.i1z.symm z1));have ez:e≠z:=fun w1=>by subst w1;rw[z4] at eoe;cases eoe;simp at ece
  exact wpAny_setField_rec z4 (by simp) fun k5 _ b5=>hE k5 e (fun c ob c1 c2 c3 c4 e1=>b5.extBut _ _ c1 (b4 _ _ c4 (b3.extBut _ _ c2 (b2.extBut _ _ c3 (b1.extBut _ _ c1 e1))))) ⟨oe,b5.extBut _ _ ez eoe,ece⟩
end
noncomputable def Zp(Sa Sb:Hp->Addr->List V->Prop)(a b:Addr):It:=
  ⟨fun i H=>∃xs ys x y,Sa H a xs/\Sb H b ys/\xs[i]?=some x/\ys[i]?=some y,fun i H v H'=>∃T x y,H T=none/\v=.ref T/\H'=upd H T (.tup [x,y])/\∀xs ys,Sa H a xs->Sb H b ys->xs[i]?=some x/\ys[i]?=some y,
   fun i H=>∃xs ys,Sa H a xs/\Sb H b ys/\min xs.length ys.length=i⟩
structure Kd(cls:String)(Sa:W.Frag->Hp->Addr->List V->Prop)(Iti:Heap->Addr->Addr->Nat->Prop)(Is:Heap->Addr->Array Value->Prop):Prop where
 got:∀ {X:Cx} {pins:List (Addr×Obj)} {σ:St} {H:Hp} {s:Shared} {a:Addr} {xs:List V},Inv X pins σ H s->Sa X.K H a xs->∃its:List Value,aT xs its/\Is s.heap a its.toArray
 inj:∀ {X:Cx} {pins:List (Addr×Obj)} {σ:St} {H:Hp} {s:Shared} {a:Addr} {xs ys:List V},Inv X pins σ H s->Sa X.K H a xs->Sa X.K H a ys->xs=ys
 src:∀(prog:Program)(w:World)(A:Around)(j q:Addr)(its:Array Value),A.handled=none->Src prog w A j q its (fun n h=>Iti h j q n) (fun h=>Is h q its)
 seq:∀ {h:Heap} {a:Addr} {its:Array Value},Is h a its->∃o n,h.get? a=some o/\o.data=.seq its n
 ne:∀ {X:Cx} {pins:List (Addr×Obj)} {σ:St} {H:Hp} {s:Shared} {a b:Addr} {xs:List V},Inv X pins σ H s->Sa X.K H a xs->ni X pins H b->a≠b
 itr:∀ {prog:Program} {w:World} {A:Around} {E:Value->Shared->Prop} {S:Shared} {a:Addr} {its:Array Value} {Q:Value->Shared->Prop},Is S.heap a its->Q (.ref S.heap.objs.size) { S with heap:=S.heap.push { cls:=.type cls,data:=.fields #[.ref a,.int 0 0] } }->wpAny (model prog w) A (pyIter (.ref a)) Q E S
 sv:∀ {h h1:Heap} {a:Addr} {its:Array Value},Is h a its->(∀ob,h.get? a=some ob->h1.get? a=some ob)->Is h1 a its
 new:∀ {h:Heap} {j q:Addr},h.get? j=some { cls:=.type cls,data:=.fields #[.ref q,.int 0 0] }->Iti h j q 0
theorem LT{X:Cx}{pins:List (Addr×Obj)}{σ:St}{H:Hp}{s:Shared}{a b:Addr}{ob:Obj}(I:Inv X pins σ H s)(e:X.K.lookup a=some ob)(f:ni X pins H b):a≠b:=fun z=>by
 subst z;have hb:=I.ok.mod.kin a ob e;rcases f.2.2.2.1 with h|h
 ·exact I.ok.noex a ob hb h
 ·exact absurd (Nat.lt_of_lt_of_le (Heap.lt_size hb) (Nat.le_trans I.ok.bsz h)) (Nat.lt_irrefl _)
theorem kdT:Kd "tuple_iterator" SqT (fun h j q n=>h.IsTupleIter j q n) (fun h q its=>h.IsTuple q its) where
 got:=fun I h=>let ⟨its,rv,p,_⟩:=I.tuple h;⟨its,rv,p⟩
 inj:=fun I h h'=>I.NA h h'
 src:=fun prog w A j q its hh=>Na hh j q its
 seq:=fun x=>let ⟨o,e,_,n,d⟩:=x;⟨o,n,e,d⟩
 ne:=fun I h f=>by
  rcases h with(h|⟨ob,h⟩)|⟨ob,its,n,hk,_⟩
  ·exact aW h f.1
  ·exact aW h f.1
  ·exact LT I hk f
 itr:=fun h hQ=>wpAny_pyIter_tuple h hQ
 sv:=fun x k=>let ⟨o,e,r⟩:=x;⟨o,k o e,r⟩
 new:=fun e=>⟨_,e,rfl,rfl⟩
theorem kdL:Kd "list_iterator" SqL (fun h j q n=>h.IsListIter j q n) (fun h q its=>h.IsList q its) where
 got:=fun I h=>let ⟨its,rv,p,_⟩:=I.list h;⟨its,rv,p.isList⟩
 inj:=fun I h h'=>I.NC h h'
 src:=fun prog w A j q its hh=>MX hh j q its
 seq:=fun x=>let ⟨o,e,_,n,d⟩:=x;⟨o,n,e,d⟩
 ne:=fun I h f=>by
  rcases h with(h|⟨ob,h⟩)|⟨ob,its,n,hk,_⟩
  ·exact aW h f.1
  ·exact aW h f.1
  ·exact LT I hk f
 itr:=fun h hQ=>wpAny_pyIter_list h hQ
 sv:=fun x k=>let ⟨o,e,r⟩:=x;⟨o,k o e,r⟩
 new:=fun e=>⟨_,e,rfl,rfl⟩
section
variable{c1 c2:String}{Sa Sb:W.Frag->Hp->Addr->List V->Prop}{Ia Ib:Heap->Addr->Addr->Nat->Prop}{Isa Isb:Heap->Addr->Array Value->Prop}
theorem EU{P:Program}{w:World}{K:W.Frag}{elts:List Expr}{kk:Nat}{pp:Pos}(k1:Kd c1 Sa Ia Isa)(k2:Kd c2 Sb Ib Isb)(a b z u o i j:Addr)(huz:u≠z)(hoz:o≠z)(hiz:i≠z)(hjz:j≠z)(huo:u≠o)(hui:u≠i)(huj:u≠j)(hoi:o≠i)(hoj:o≠j)(hij:i≠j):
  yB P w K (.Tuple elts kk pp) (Zp (Sa K) (Sb K) a b) [z,u,o,i,j] z (fun n h=>IsZip h z u o .none/\IsPair h u (.ref i) (.ref j)/\(∃x y,IsPair h o x y)/\Ia h i a n/\Ib h j b n) where
 mem:=by simp
 obj:=fun n h st c hc=>by
  obtain⟨h1,h2,⟨x,y,h3⟩,h4,h5⟩:=st;obtain⟨o4,v4,e4,d4⟩:=(k1.src default w callerA i a #[] rfl).live _ _ h4;obtain⟨o5,v5,e5,d5⟩:=(k2.src default w callerA j b #[] rfl).live _ _ h5;rcases(by simpa using hc:c=z\/c=u\/c=o\/c=i\/c=j) with rfl|rfl|rfl|rfl|rfl
  ·exact⟨_,h1,fun v q=>by cases q⟩
  ·exact⟨_,h2,fun v q=>by cases q⟩
  ·exact⟨_,h3,fun v q=>by cases q⟩
  ·exact⟨_,e4,fun v q=>by rw[d4] at q;cases q⟩
  ·exact⟨_,e5,fun v q=>by rw[d5] at q;cases q⟩
 keep:=fun n h h' st k=>by
  obtain⟨h1,h2,⟨x,y,h3⟩,h4,h5⟩:=st;exact⟨k z (by simp) _ h1,k u (by simp) _ h2,⟨x,y,k o (by simp) _ h3⟩,(k1.src default w callerA i a #[] rfl).mv _ _ _ h4 fun ob e=>k i (by simp) ob e,(k2.src default w callerA j b #[] rfl).mv _ _ _ h5 fun ob e=>k j (by simp) ob e⟩
 item:=by
  intro X hP hw hK hc n pins s σ H E I hf st hg;subst hP hw hK;obtain⟨xs,ys,x,y,ha,hb,hx,hy⟩:=hg;obtain⟨its,rv,pa⟩:=k1.got I ha;obtain⟨jts,rw',pb⟩:=k2.got I hb;obtain⟨vx,hvx,rx⟩:=rv.get hx;obtain⟨vy,hvy,ry⟩:=rw'.get hy;obtain⟨h1,h2,⟨x0,y0,h3⟩,h4,h5⟩:=st;have na:=fun c (hc:c∈[z,u,o,i,j])=>k1.ne I ha (hf c hc);have nb:=fun c (hc:c∈[z,u,o,i,j])=>k2.ne I hb (hf c hc);have D:ZipApart z u o i j a b:=⟨huz,hoz,hiz,hjz,huo,hui,huj,hoi,hoj,hij,na z (by simp),na o (by simp),na i (by simp),na j (by simp),nb z (by simp),nb o (by simp),nb i (by simp),nb j (by simp)⟩
  have hT:s.TypeIs (.ref z) "zip":=⟨_,h1,rfl⟩;unfold pyNext
  refine wpAny_bind (wpAny_attempt (wpAny_callSpecial?_slot (name:=Str.ofString "__next__") hT F.slot_zip_next (wpAny_call_entry F.slot_zip_next hT F.entry_zip_next
   (C9 D (k1.src X.prog X.w _ i a its.toArray (I.ok.hd hc)) (k2.src X.prog X.w _ j b jts.toArray (I.ok.hd hc)) h1 h2 h3 h4 h5 pa pb (x:=vx) (y:=vy) (by simpa using hvx) (by simpa using hvy) fun q1 a1 a2 a3 a4 a5 a6=>wpAny_pure ?_) (F.args_zip_next_1 _))))
  refine⟨_,rfl,wpAny_letOwnedTupleGo_zip a1 fun q2 b1 sb=>?_⟩;have lt:∀ {c ob},s.heap.get? c=some ob->c<s.heap.objs.size:=fun e=>Heap.lt_size e;have zl:=lt h1;have kp:∀c ob,c ∉ [z,u,o,i,j]->s.heap.get? c=some ob->q2.get? c=some ob:=fun c ob hc' e=>(sb.2 c fun w1=>hc' (by simp[w1])).trans (a6 c ob (fun w1=>hc' (by simp[w1])) (fun w1=>hc' (by simp[w1])) (fun w1=>hc' (by simp[w1])) (fun w1=>hc' (by simp[w1])) e)
  have hT2:q2.get? s.heap.objs.size=some { cls:=.type "tuple",data:=.seq #[vx,vy] }:=(sb.2 _ (Nat.ne_of_gt zl)).trans a5;have J:=I.NE (h':=q2) (tk:=s.toks) (ch:=[z,u,o,i,j]) (T:=s.heap.objs.size) (o:=.tup [x,y]) hf kp (Nat.le_refl _) ⟨(show 2<=sizeLine by decide),[vx,vy],.cons rx (.cons ry .nil),⟨⟨_,hT2,rfl,_,rfl⟩,_,hT2,rfl⟩⟩
  refine⟨.ref s.heap.objs.size,_,J,rfl,⟨_,x,y,I.hok.fresh (Nat.le_refl _),rfl,rfl,fun xs' ys' e1 e2=>⟨by rw[k1.inj I e1 ha];exact hx,by rw[k2.inj I e2 hb];exact hy⟩⟩,⟨b1,(sb.2 u huz).trans (a6 u _ huz huo hui huj h2),⟨vx,vy,(sb.2 o hoz).trans a2⟩,?_,?_⟩,fun c hc'=>?_⟩
  ·exact(k1.src default X.w callerA i a #[] rfl).mv _ _ _ a3 fun ob e=>(sb.2 i hiz).trans e
  ·exact(k2.src default X.w callerA j b #[] rfl).mv _ _ _ a4 fun ob e=>(sb.2 j hjz).trans e
  ·have hlt:c<s.heap.objs.size:=by
    obtain⟨o4,v4,e4,d4⟩:=(k1.src default X.w callerA i a #[] rfl).live _ _ h4;obtain⟨o5,v5,e5,d5⟩:=(k2.src default X.w callerA j b #[] rfl).live _ _ h5;rcases(by simpa using hc':c=z\/c=u\/c=o\/c=i\/c=j) with rfl|rfl|rfl|rfl|rfl
    ·exact lt h1
    ·exact lt h2
    ·exact lt h3
    ·exact lt e4
    ·exact lt e5
   rw[aD (Nat.ne_of_lt hlt)];exact(hf c hc').1
 done:=by
  intro X hP hw hK hc n pins s σ H E I hf st hg;subst hP hw hK;obtain⟨xs,ys,ha,hb,hm⟩:=hg;obtain⟨its,rv,pa⟩:=k1.got I ha;obtain⟨jts,rw',pb⟩:=k2.got I hb;obtain⟨h1,h2,⟨x0,y0,h3⟩,h4,h5⟩:=st;have na:=fun c (hc:c∈[z,u,o,i,j])=>k1.ne I ha (hf c hc);have nb:=fun c (hc:c∈[z,u,o,i,j])=>k2.ne I hb (hf c hc);have D:ZipApart z u o i j a b:=⟨huz,hoz,hiz,hjz,huo,hui,huj,hoi,hoj,hij,na z (by simp),na o (by simp),na i (by simp),na j (by simp),nb z (by simp),nb o (by simp),nb i (by simp),nb j (by simp)⟩
  have hT:s.TypeIs (.ref z) "zip":=⟨_,h1,rfl⟩;have l1:=rv.length;have l2:=rw'.length;unfold pyNext
  refine wpAny_bind (wpAny_attempt (wpAny_callSpecial?_slot (name:=Str.ofString "__next__") hT F.slot_zip_next (wpAny_call_entry F.slot_zip_next hT F.entry_zip_next
   (Em D (k1.src X.prog X.w _ i a its.toArray (I.ok.hd hc)) (k2.src X.prog X.w _ j b jts.toArray (I.ok.hd hc)) h1 h2 h3 h4 h5 pa pb ?_ fun q1 e ke xe=>?_) (F.args_zip_next_1 _))))
  ·rcases Nat.le_total xs.length ys.length with h|h
   ·exact .inl (Array.getElem?_eq_none (by simp;omega))
   ·exact .inr (Array.getElem?_eq_none (by simp;omega))
  ·obtain⟨ob,eob,cob⟩:=xe
   refine wpAny_bind (wpAny_isInstance (T:="StopIteration") (b:=true) ⟨ob,eob,cob⟩ isSubtype_stop (wpAny_pure ⟨rfl,?_⟩));exact I.NN (h':=q1) (tk:=s.toks) (ch:=[z,u,o,i,j]) hf fun c ob' hc' e1=>ke c ob' (fun w1=>hc' (by simp[w1])) (fun w1=>hc' (by simp[w1])) (fun w1=>hc' (by simp[w1])) (fun w1=>hc' (by simp[w1])) e1
 self:=fun A n s Q E st h=>wpAny_pyIter_zip st.1 h
end
section
variable{c1 c2:String}{Sa Sb:W.Frag->Hp->Addr->List V->Prop}{Ia Ib:Heap->Addr->Addr->Nat->Prop}{Isa Isb:Heap->Addr->Array Value->Prop}
noncomputable abbrev zk1(c1:String)(h:Heap)(a:Addr):Heap:=h.push { cls:=.type c1,data:=.fields #[.ref a,.int 0 0] }
noncomputable abbrev zk2(c1 c2:String)(h:Heap)(a b:Addr):Heap:=(zk1 c1 h a).push { cls:=.type c2,data:=.fields #[.ref b,.int 0 0] }
noncomputable abbrev zk3(c1 c2:String)(h:Heap)(a b:Addr):Heap:=(zk2 c1 c2 h a b).push { cls:=.type "tuple",data:=.seq #[.ref h.objs.size,.ref (zk1 c1 h a).objs.size] }
noncomputable abbrev zk4(c1 c2:String)(h:Heap)(a b:Addr):Heap:=(zk3 c1 c2 h a b).push { cls:=.type "tuple",data:=.seq #[.none,.none] }
noncomputable abbrev zk5(c1 c2:String)(h:Heap)(a b:Addr):Heap:=(zk4 c1 c2 h a b).push { cls:=.type "zip",data:=.fields #[.none,.bool false,.bool false,.ref (zk2 c1 c2 h a b).objs.size,.ref (zk3 c1 c2 h a b).objs.size] }
theorem Fu(k1:Kd c1 Sa Ia Isa)(k2:Kd c2 Sb Ib Isb)(a b:Addr)(its jts:Array Value):
  Meets (Builtin.«zip.__new__» ⟨[.type "zip",.ref a,.ref b],[]⟩) (fun _ R S=>Isa S.heap a its/\Isb S.heap b jts/\R (.ok (.ret (.ref (zk4 c1 c2 S.heap a b).objs.size))) { S with heap:=zk5 c1 c2 S.heap a b }):=
 .of_wp fun prog w A R S h=>by
  obtain⟨hp,g,d,tk,os⟩:=S;obtain⟨h1,h2,h⟩:=h;have hsub:=sub_zip;have g1:Isa (Shared.heap ⟨hp,g,d,tk,os⟩) a its:=h1;have g2:Isb (Shared.heap ⟨zk1 c1 hp a,g,d,tk,os⟩) b jts:=k2.sv h2 fun ob e=>Heap.get?_push_of_some _ e
  wp_walk using k1.itr g1,k2.itr g2
  exact⟨_,rfl,h⟩
theorem DI{prog:Program}{w:World}{A:Around}{E:Value->Shared->Prop}{S:Shared}{a b:Addr}{its jts:Array Value}{Q:Value->Shared->Prop}(k1:Kd c1 Sa Ia Isa)(k2:Kd c2 Sb Ib Isb)(h1:Isa S.heap a its)(h2:Isb S.heap b jts)
  (h:∀q,IsZip q (S.heap.objs.size+4) (S.heap.objs.size+2) (S.heap.objs.size+3) .none->IsPair q (S.heap.objs.size+2) (.ref S.heap.objs.size) (.ref (S.heap.objs.size+1))->IsPair q (S.heap.objs.size+3) .none .none ->
   Ia q S.heap.objs.size a 0->Ib q (S.heap.objs.size+1) b 0->(∀c ob,S.heap.get? c=some ob->q.get? c=some ob)->Q (.ref (S.heap.objs.size+4)) { S with heap:=q }):wpAny (model prog w) A (call (.type "zip") [.ref a,.ref b]) Q E S:=by
 refine callType_new F.called_zip (by decide) (F.typeCall_zip_2 _ _) (F.newCall_zip_2 _ _) (fun obj=>F.args_object_init_3 obj _ _) F.entry_zip_new (Fu k1 k2 a b its jts) ⟨h1,h2,?_⟩
 have n1:(zk1 c1 S.heap a).objs.size=S.heap.objs.size+1:=Heap.size_push ..;have n2:(zk2 c1 c2 S.heap a b).objs.size=S.heap.objs.size+2:=by rw[Heap.size_push,n1]
 have n3:(zk3 c1 c2 S.heap a b).objs.size=S.heap.objs.size+3:=by rw[Heap.size_push,n2]
 have n4:(zk4 c1 c2 S.heap a b).objs.size=S.heap.objs.size+4:=by rw[Heap.size_push,n3]
 have g5:(zk5 c1 c2 S.heap a b).get? (zk4 c1 c2 S.heap a b).objs.size=some _:=Heap.get?_push_size _ rfl;have g4:(zk5 c1 c2 S.heap a b).get? (zk3 c1 c2 S.heap a b).objs.size=some _:=Heap.get?_push_of_some _ (Heap.get?_push_size _ rfl);have g3:(zk5 c1 c2 S.heap a b).get? (zk2 c1 c2 S.heap a b).objs.size=some _:=Heap.get?_push_of_some _ (Heap.get?_push_of_some _ (Heap.get?_push_size _ rfl))
 have g2:(zk5 c1 c2 S.heap a b).get? (zk1 c1 S.heap a).objs.size=some _:=Heap.get?_push_of_some _ (Heap.get?_push_of_some _ (Heap.get?_push_of_some _ (Heap.get?_push_size _ rfl)));have g1:(zk5 c1 c2 S.heap a b).get? S.heap.objs.size=some _:=Heap.get?_push_of_some _ (Heap.get?_push_of_some _ (Heap.get?_push_of_some _ (Heap.get?_push_of_some _ (Heap.get?_push_size _ rfl))));show _/\_;rw[n2,n3,n4] at g5
 rw[n1,n2] at g3;rw[n3] at g4;rw[n1] at g2;rw[n4];exact⟨⟨_,g5,rfl⟩,h _ g5 g3 g4 (k1.new g1) (k2.new g2) fun c ob e=>Heap.get?_push_of_some _ (Heap.get?_push_of_some _ (Heap.get?_push_of_some _ (Heap.get?_push_of_some _ (Heap.get?_push_of_some _ e))))⟩
variable{X:Cx}
end
theorem cI{X:Cx}(K:W.Frag)(h:X.K=K){ts:List Expr}{k n:Nat}{pos:Pos}{t:TGs}(hc:X.calm=true)(hts:PGs X ts t)(hn:(assignEach ts X.env).length=n:=by rfl)(hst:(assignEach ts X.env).findIdx? (·.1)=none:=by rfl):PG X (.Tuple ts k pos) (Le K n t):=h ▸ Kg hc hts hn hst
noncomputable def bF{α:Type}(c:Nat->Nat->Bool):W.KasT α->α
 |.ret a=>a
 |.ask i j k=>bF c (k (c i j))
noncomputable def KG{α:Type}(n:Nat)(R:α->Prop):W.KasT α->Prop
 |.ret a=>R a
 |.ask i j k=>i<n/\j<n/\∀b,KG n R (k b)
theorem KG.fin{α:Type}{n:Nat}{R:α->Prop}(c:Nat->Nat->Bool):∀ {t:W.KasT α},KG n R t->R (bF c t)
 |.ret _,h=>h
 |.ask i j k,h=>KG.fin c (t:=k (c i j)) (h.2.2 (c i j))
theorem KG.mono{α:Type}{n:Nat}{R S:α->Prop}(q:∀a,R a->S a):∀ {t:W.KasT α},KG n R t->KG n S t
 |.ret a,h=>q a h
 |.ask _ _ k,h=>⟨h.1,h.2.1,fun b=>KG.mono q (t:=k b) (h.2.2 b)⟩
theorem KG.bind{α β:Type}{n:Nat}{R:β->Prop}{f:α->W.KasT β}:∀ {t:W.KasT α},KG n (fun a=>KG n R (f a)) t->KG n R (t.bind f)
 |.ret _,h=>h
 |.ask _ _ k,h=>⟨h.1,h.2.1,fun b=>KG.bind (t:=k b) (h.2.2 b)⟩
theorem KG.wp{α:Type}{n:Nat}{R:α->Prop}{c:Nat->Nat->Bool}{cmp:Nat->Nat->(Bool->Shared->Prop)->Shared->Prop}{Q:α->Shared->Prop}{s:Shared}(hc:∀i j C,i<n->j<n->C (c i j) s->cmp i j C s):
  ∀ {t:W.KasT α},KG n R t->Q (bF c t) s->t.kasWp cmp Q s
 |.ret _,_,q=>q
 |.ask i j k,h,q=>hc i j _ h.1 h.2.1 (KG.wp hc (t:=k (c i j)) (h.2.2 (c i j)) q)
noncomputable def Ord(n:Nat)(p:Array Nat):Prop:=p.Perm (List.range n).toArray
theorem Ord.lt{n:Nat}{p:Array Nat}(hn:0<n)(h:Ord n p)(k:Nat):p.getD k 0<n:=by
 by_cases hk:k<p.size
 ·have hm:p[k]∈p:=Array.getElem_mem hk
  have h2:=(h.mem_iff (a:=p[k])).mp hm;simp at h2;simp[Array.getD,hk];exact h2
 ·simp[Array.getD,hk]
  exact hn
theorem Ord.rev{n i j:Nat}{p:Array Nat}(h:Ord n p):Ord n (W.kas_rev p i j):=(mirror_perm p i j _).trans h
theorem Ord.bub{n i j:Nat}{p:Array Nat}(h:Ord n p):Ord n (bubble p i j):=(bubble_perm p i j).trans h
section
variable{n:Nat}(hn:0<n)
include hn
theorem Ax{p:Array Nat}(hp:Ord n p):∀f k,KG n (fun _=>True) (W.kas_asc p f k)
 |0,_=>trivial
 |f+1,k=>⟨hp.lt hn _,hp.lt hn _,fun b=>by
  cases b
  ·exact Ax hp f (k+1)
  ·exact trivial⟩
theorem rE:∀f (p:Array Nat) k q,Ord n p->KG n (fun r=>Ord n r.1) (W.kas_desc f p k q)
 |0,_,_,_,hp=>hp
 |f+1,p,k,q,hp=>by
  refine⟨hp.lt hn _,hp.lt hn _,fun b=>?_⟩;cases b
  ·refine⟨hp.lt hn _,hp.lt hn _,fun d=>?_⟩
   cases d
   ·exact rE f _ _ _ hp
   ·exact hp
  ·show KG n _ (if q>0 then _ else _)
   split
   ·exact rE f _ _ _ hp.rev
   ·exact rE f _ _ _ hp
theorem yZ{p:Array Nat}(hp:Ord n p)(a b:Nat):KG n (fun r=>Ord n r.2) (W.kas_tail3 a b p):=KG.bind ((Ax hn hp.rev _ _).mono fun _ _=>hp.rev)
theorem qW{p:Array Nat}(hp:Ord n p)(a b:Nat):KG n (fun r=>Ord n r.2) (W.kas_descPart a b p):=KG.bind ((rE hn _ _ _ _ hp).mono fun r hr=>by
 split
 ·exact yZ hn hr.rev _ _
 ·exact yZ hn hr _ _)
theorem FE{p:Array Nat}(hp:Ord n p)(a:Nat):KG n (fun r=>Ord n r.2) (W.kas_count a p):=KG.bind ((Ax hn hp _ _).mono fun k _=>by
 split
 ·exact hp
 ·split
  ·refine⟨hp.lt hn _,hp.lt hn _,fun b=>?_⟩
   cases b
   ·exact qW hn hp.rev _ _
   ·exact hp
  ·exact qW hn hp _ _)
theorem sE{p:Array Nat}(hp:Ord n p)(k:Nat):∀f l r,KG n (fun _=>True) (W.kas_place p k f l r)
 |0,_,_=>trivial
 |f+1,l,r=>by
  show KG n _ (if l ≥ r then _ else _)
  split
  ·exact trivial
  ·refine⟨hp.lt hn _,hp.lt hn _,fun b=>?_⟩
   cases b
   ·exact sE hp k f _ _
   ·exact sE hp k f _ _
theorem Gs:∀f (p:Array Nat) k,Ord n p->KG n (Ord n) (W.kas_bin f p k)
 |0,_,_,hp=>hp
 |f+1,_,k,hp=>KG.bind ((sE hn hp _ _ _ _).mono fun _ _=>Gs f _ _ hp.bub)
theorem BW:KG n (Ord n) (W.kas_sort n):=KG.bind ((FE hn (.refl _) n).mono fun r hr=>by
 split
 ·exact Gs hn _ _ _ hr
 ·exact hr)
end
noncomputable def Zs:List Value->List Int->Prop
 | [],[]=>True
 |v::vs,n::ns=>(∃t,v=.int n t)/\Zs vs ns
 |_,_=>False
noncomputable def ltF(e:Bool):List Int->List Int->Bool
 |x::xs,y::ys=>if x=y then ltF e xs ys else decide (x<y)
 |_,_=>e
noncomputable def ltZ(x y:List Int):Bool:=ltF (decide (x.length<y.length)) x y
theorem Zs.len:∀ {vs:List Value} {ns:List Int},Zs vs ns->vs.length=ns.length
 | [],[],_=>rfl
 |_::_,_::_,h=>congrArg (·+1) (Zs.len h.2)
 | [],_::_,h=>h.elim
 |_::_,[],h=>h.elim
section
variable{prog:Program}{w:World}{A:Around}{E:Value->Shared->Prop}{s:Shared}
theorem HE{b:Bool}{x y:Int}{t u:Tok}{Q:Bool->Shared->Prop}(h:Q (decide (x<y)) s):wpAny (model prog w) A (oneLt' b (.int x t) (.int y u)) Q E s:=by
 cases b
 ·exact W.kat_one _ _ (wpAny_lt_int h)
 ·exact oneLt_int h
theorem Bk{b e:Bool}{Q:Bool->Shared->Prop}:∀ {xs ys:List Value} {ns ms:List Int} (i:Nat),Zs xs ns->Zs ys ms->Q (ltF e ns ms) s->W.KatLex prog w A b e Q (xs.zip ys) i s
 | [],_,[],_,_,_,_,q=>W.kat_nil (by simpa[ltF] using q)
 |_::_,[],_::_,[],_,_,_,q=>W.kat_nil (by simpa[ltF] using q)
 |x::xs,y::ys,n::ns,m::ms,i,hx,hy,q=>by
  obtain⟨⟨t,rfl⟩,hx⟩:=hx;obtain⟨⟨u,rfl⟩,hy⟩:=hy;refine W.kat_cons (wpAny_eqBool_int ?_);unfold ltF at q;by_cases h:n=m
  ·rw[if_pos h] at q
   rw[show (n == m)=true by simpa using h]
   exact W.kat_yes (Bk (i+1) hx hy q)
  ·rw[if_neg h] at q
   rw[show (n == m)=false by simpa using h]
   exact W.kat_no (HE q)
 | [],_,_::_,_,_,h,_,_=>h.elim
 |_::_,_,[],_,_,h,_,_=>h.elim
 |_::_,[],_,_::_,_,_,h,_=>h.elim
 |_::_,_::_,_,[],_,_,h,_=>h.elim
end
noncomputable def TW(h:Heap):List Value->List (List Int)->Prop
 | [],[]=>True
 |v::vs,x::xs=>(∃a o its n,v=.ref a/\h.get? a=some o/\o.cls=.type "tuple"/\o.data=.seq its n/\Zs its.toList x)/\TW h vs xs
 |_,_=>False
theorem TW.len{h:Heap}:∀ {vs:List Value} {W:List (List Int)},TW h vs W->vs.length=W.length
 | [],[],_=>rfl
 |_::_,_::_,q=>congrArg (·+1) (TW.len q.2)
 | [],_::_,q=>q.elim
 |_::_,[],q=>q.elim
theorem TW.keep{h h':Heap}(k:∀b o,h.get? b=some o->o.cls=.type "tuple"->h'.get? b=some o):∀ {vs:List Value} {W:List (List Int)},TW h vs W->TW h' vs W
 | [],[],_=>trivial
 |_::_,_::_,⟨⟨a,o,its,n,e1,e2,e3,e4⟩,q⟩=>⟨⟨a,o,its,n,e1,k _ _ e2 e3,e3,e4⟩,TW.keep k q⟩
 | [],_::_,q=>q.elim
 |_::_,[],q=>q.elim
theorem TW.at{h:Heap}:∀ {vs:List Value} {W:List (List Int)} {i:Nat},TW h vs W->i<vs.length->∃a o its n,vs.getD i Value.none=.ref a/\h.get? a=some o/\o.data=.seq its n/\Zs its.toList (W.getD i [])
 |_::_,_::_,0,⟨⟨a,o,its,n,e1,e2,e3,e4,e5⟩,_⟩,_=>⟨a,o,its,n,by simpa using e1,e2,e4,by simpa using e5⟩
 |_::_,_::_,i+1,⟨_,q⟩,hi=>by
  obtain⟨a,o,its,n,e1,e2,e3,e4⟩:=TW.at (i:=i) q (by simpa using hi)
  exact⟨a,o,its,n,by simpa using e1,e2,e3,by simpa using e4⟩
 | [],_,_,_,hi=>absurd hi (by simp)
 |_::_,[],_,q,_=>q.elim
theorem TW.tups{h:Heap}:∀ {vs:List Value} {W:List (List Int)},TW h vs W->(∀x∈W,x≠[])->∃fs,PySem.W.KatTups h vs fs/\fs.length=vs.length/\∀v∈fs,∃n t,v=.int n t
 | [],[],_,_=>⟨[],trivial,rfl,by simp⟩
 |_::vs,x::xs,⟨⟨a,o,its,n,rfl,e2,e3,e4,e5⟩,q⟩,ne=>by
  obtain⟨fs,g1,g2,g3⟩:=TW.tups q fun y hy=>ne y (List.mem_cons_of_mem _ hy);have e6:=ne x List.mem_cons_self
  match hi:its.toList,x,e5,e6 with
  | [],[],_,e6=>exact absurd rfl e6
  | [],_::_,e5,_=>exact e5.elim
  |_::_,[],e5,_=>exact e5.elim
  |f::r,m::ms,e5,_=>
   obtain⟨t,ht⟩:=e5.1;refine⟨f::fs,PySem.W.KatTups.cons e2 e3 e4 ?_ g1,by simp[g2],?_⟩
   ·rw[←Array.getElem?_toList,hi];rfl
   ·intro v hv
    rcases List.mem_cons.mp hv with rfl|hv
    ·exact⟨m,t,ht⟩
    ·exact g3 v hv
 | [],_::_,q,_=>q.elim
 |_::_,[],q,_=>q.elim
noncomputable def g8(W:List (List Int)):Array Nat:=if W.length<2 then (List.range W.length).toArray else bF (fun i j=>ltZ (W.getD i []) (W.getD j [])) (PySem.W.kas_sort W.length)
theorem ie(W:List (List Int)):Ord W.length (g8 W):=by
 unfold g8;split
 ·exact .refl _
 ·exact KG.fin _ (BW (by omega))
section
variable{prog:Program}{w:World}{A:Around}{E:Value->Shared->Prop}{s:Shared}
noncomputable def xq(vs:List Value)(W:List (List Int)):Array Value:=List.toArray ((g8 W).toList.map fun i=>vs.getD i Value.none)
theorem C3{h:Heap}{vs:List Value}{W:List (List Int)}(tw:TW h vs W):(xq vs W).size=vs.length:=by
 have a:=(ie W).size_eq;have b:=tw.len;simp[xq];simp at a;omega
theorem CT{vs:List Value}{W:List (List Int)}{b:Bool}{s:Shared}(tw:TW s.heap vs W){Q:Array Nat->Shared->Prop}(h2:0<vs.length)(q:Q (bF (fun i j=>ltZ (W.getD i []) (W.getD j [])) (PySem.W.kas_sort vs.length)) s):
  (PySem.W.kas_sort vs.length).kasWp (PySem.W.kas_ask prog w A (tuples' b) vs) Q s:=by
 refine KG.wp (fun i j C hi hj hC=>?_) (BW h2) q;obtain⟨a1,o1,i1,n1,e1,e2,e3,e4⟩:=tw.at hi;obtain⟨a2,o2,i2,n2,f1,f2,f3,f4⟩:=tw.at hj;show wpAny (model prog w) A (keyLt' (tuples' b) (vs.getD i Value.none) (vs.getD j Value.none)) C _ s;rw[e1,f1];refine PySem.W.kat_lt e2 e3 f2 f3 (Bk 0 e4 f4 ?_);have g1:=e4.len;have g2:=f4.len;rw[Array.length_toList] at g1 g2;rw[g1,g2];exact hC
theorem C2:∀(vs:List Value),vs.length<2->Array.map (·.2) (vs.toArray.zip vs.toArray)=List.toArray ((List.range vs.length).map fun i=>vs.getD i Value.none)
 | [],_=>by simp
 | [v],_=>by simp
 |_::_::_,h=>absurd h (by simp)
theorem CP{a:Addr}{vs:List Value}{W:List (List Int)}{k:Nat}{P:PySem.Fin->Shared->Prop}(g:s.heap.get? a=some (seqObj "list" vs.toArray k))(tw:TW s.heap vs W)(ne:2<=W.length->∀x∈W,x≠[])(hs:vs.length<64)(q:P (.done (.ret .none)) { s with heap:=sortedHeap s.heap a vs (xq vs W) }):wpAny (model prog w) A (Builtin.«list.sort» ⟨[.ref a],[]⟩) P E s:=by
 have line:64<=sizeLine:=by rw[sizeLine_eq];omega
 have room:vs.toArray.size<=sizeLine:=by rw[List.size_toArray];omega
 have la:a<s.heap.objs.size:=Heap.lt_size g;have osz:=C3 tw;rw[list_sort_plain];obtain⟨e1,g1⟩:∃e1,(s.heap.update a (Obj.mapSeq fun _=>(#[]:Array Value))).get? a=some (seqObj "list" #[] e1):=⟨_,get?_update_seq g fun _=>#[]⟩;refine wpAny_bind (listItems_at g rfl (wpAny_bind (listUpdate_at g rfl (wpAny_bind (seqEpoch_at g1 rfl (wpAny_bind (wpAny_newTuple (wpAny_bind (wpAny_newList (wpAny_holding ?_) (Nat.zero_le _))) ?_)))) room (Nat.zero_le _))))
 case refine_2=>show vs.length<=_;omega
 have g3:(((s.heap.update a (Obj.mapSeq fun _=>(#[]:Array Value))).push (seqObj "tuple" vs.toArray 0)).push (seqObj "list" #[] 0)).get? a=some (seqObj "list" #[] e1):=Heap.get?_push_of_some _ (Heap.get?_push_of_some _ g1)
 have tw3:TW (((s.heap.update a (Obj.mapSeq fun _=>(#[]:Array Value))).push (seqObj "tuple" vs.toArray 0)).push (seqObj "list" #[] 0)) vs W:=tw.keep fun b o e c=>by
  have nb:b≠a:=fun z=>by
   subst z;rw[g] at e;cases e;exact absurd (show Value.type "list"=Value.type "tuple" from c) (fun z=>by injection z with z;exact absurd z (by decide))
  exact Heap.get?_push_of_some _ (Heap.get?_push_of_some _ ((Heap.get?_update_ne _ _ _ _ nb).trans e))
 show wpAny (model prog w) A _ P E { s with heap:=((s.heap.update a (Obj.mapSeq fun _=>(#[]:Array Value))).push (seqObj "tuple" vs.toArray 0)).push (seqObj "list" #[] 0) }
 have fin:∀out:Array Value,out=xq vs W->P (.done (.ret .none)) { s with heap:=(((s.heap.update a (Obj.mapSeq fun _=>(#[]:Array Value))).push (seqObj "tuple" vs.toArray 0)).push (seqObj "list" #[] 0)).update a (Obj.mapSeq fun _=>out) }:=fun out e=>by
  subst e;exact q
 generalize hh:((s.heap.update a (Obj.mapSeq fun _=>(#[]:Array Value))).push (seqObj "tuple" vs.toArray 0)).push (seqObj "list" #[] 0)=hp at g3 tw3 fin ⊢;dsimp only;by_cases h2:vs.toArray.size<2
 ·rw[if_pos h2,if_pos h2]
  refine wpAny_bind (wpAny_pure ?_);rw[StateT.run_pure];refine wpAny_bind (wpAny_pure ?_);dsimp only
  have same:(arrOf (SortSt.mk' general' (vs.toArray.zip vs.toArray) #[] 7 none)).map (·.2)=xq vs W:=by
   have hl:=tw.len;rw[List.size_toArray] at h2;unfold xq g8;rw[if_pos (by omega),←hl]
   exact C2 vs h2
  rw[same];refine wpAny_bind (seqEpoch_at g3 rfl (wpAny_bind (listUpdate_at g3 rfl ?_ (Nat.zero_le _) (by omega))))
  simp only[bne_self_eq_false,Bool.false_eq_true,if_false];exact wpAny_pure (fin _ rfl)
 ·rw[if_neg h2,if_neg h2]
  rw[List.size_toArray] at h2;obtain⟨fs,t1,t2,t3⟩:=tw3.tups (ne (by have:=tw.len;omega))
  refine wpAny_bind (PySem.W.kat_kind (T:=.type "int") t1 (by omega) (fun v hv=>?_) rfl ?_)
  ·obtain⟨n,t,rfl⟩:=t3 v hv
   exact PySem.W.Looks.now
  refine wpAny_bind (wpAny_mono (PySem.W.kat_run (E:=E) (Q:=fun st' s'=>failedOf st'=none/\(arrOf st').map (·.2)=xq vs W/\s'={ s with heap:=hp }) (G:=fun p s'=>p=g8 W/\s'={ s with heap:=hp }) rfl (by omega) hs (fun p st' s' _ b1 b2 b3=>⟨b2,?_,b3.2⟩) (CT tw3 (by omega) ⟨?_,rfl⟩)) ?_ fun _ _ e=>e)
  ·rw[PySem.W.kat_snds rfl b1,b3.1]
   rfl
  ·have hl:=tw.len
   unfold g8;rw[if_neg (by omega),←hl]
  ·rintro⟨⟨⟩,st'⟩ s' ⟨b1,b2,rfl⟩
   dsimp only at b1 b2 ⊢;rw[b2];refine wpAny_bind (seqEpoch_at g3 rfl (wpAny_bind (listUpdate_at g3 rfl ?_ (Nat.zero_le _) (by omega))))
   rw[b1];simp only[bne_self_eq_false,Bool.false_eq_true,if_false];exact wpAny_pure (fin _ rfl)
theorem yx{l:Addr}{vs:List Value}{W:List (List Int)}{Q:Value->Shared->Prop}(g:s.heap.IsList l vs.toArray)(tw:TW s.heap vs W)(ne:2<=W.length->∀x∈W,x≠[])(hs:vs.length<64)(q:Q (.ref (s.heap.objs.size+1)) { s with heap:=sortedAll s.heap vs (xq vs W) }):wpAny (model prog w) A (call (.builtin "sorted") [.ref l]) Q E s:=by
 have line:64<=sizeLine:=by rw[sizeLine_eq];omega
 refine Calls.call_function_entry kind_sorted plain_sorted entry_sorted (args_sorted1 _) ?_;unfold Builtin.«sorted»;have n1:((s.heap.push (seqObj "list" #[] 0)).update s.heap.objs.size (Obj.mapSeq (·++vs.toArray))).objs.size=s.heap.objs.size+1:=by rw[Heap.size_update,size_push']
 refine wpAny_bind (m:=checkCount "sorted" 1 1 _) (wpAny_pure (wpAny_bind (collect_list g (wpAny_bind (wpAny_newList ?_ (by omega))) (by omega))))
 have g2:(((s.heap.push (seqObj "list" #[] 0)).update s.heap.objs.size (Obj.mapSeq (·++vs.toArray))).push (seqObj "list" vs.toArray 0)).get? (s.heap.objs.size+1)=some (seqObj "list" vs.toArray 0):=by
  rw[←n1];exact Heap.get?_push_size _ rfl
 have tw2:TW (((s.heap.push (seqObj "list" #[] 0)).update s.heap.objs.size (Obj.mapSeq (·++vs.toArray))).push (seqObj "list" vs.toArray 0)) vs W:=tw.keep fun b o e _=>by
  have lt:=Heap.lt_size e;exact Heap.get?_push_of_some _ ((Heap.get?_update_ne _ _ _ _ (Nat.ne_of_lt lt)).trans (Heap.get?_push_of_some _ e))
 show wpAny _ _ _ _ _ { s with heap:=((s.heap.push (seqObj "list" #[] 0)).update s.heap.objs.size (Obj.mapSeq (·++vs.toArray))).push (seqObj "list" vs.toArray 0) }
 rw[n1];exact wpAny_bind (wpAny_holding (wpAny_call_entry slot_list_sort ⟨_,g2,rfl⟩ entry_list_sort (CP g2 tw2 ne hs ⟨_,rfl,wpAny_pure ⟨_,rfl,q⟩⟩) (args_list_sort _)))
end
noncomputable def srt(xs:List V)(W:List (List Int)):List V:=(g8 W).toList.map fun i=>xs.getD i .non
noncomputable def TWv(H:Hp):List V->List (List Int)->Prop
 | [],[]=>True
 |v::vs,x::xs=>(∃a,v=.ref a/\H a=some (.tup (x.map V.int)))/\TWv H vs xs
 |_,_=>False
section
variable{X:Cx}
theorem Zs.of:∀ {ns:List Int} {its:List Value},aT (ns.map V.int) its->Zs its ns
 | [],[],_=>trivial
 |n::ns,v::vs,h=>by
  cases h with
  |cons r rr=>
   exact⟨r,Zs.of rr⟩
 | [],_::_,h=>by cases h
 |_::_,[],h=>by cases h
theorem TWv.tw{pins:List (Addr×Obj)}{σ:St}{H:Hp}{s:Shared}(I:Inv X pins σ H s):∀ {xs:List V} {W:List (List Int)} {us:List Value},TWv H xs W->aT xs us->TW s.heap us W
 | [],[],[],_,_=>trivial
 |v::vs,x::ys,u::us,⟨⟨a,e1,e2⟩,q⟩,h=>by
  subst e1
  cases h with
  |cons r rr=>
   cases r;obtain⟨_,its,e4,⟨o,e5,e6,n,e7⟩,_⟩:=I.hok a _ e2;exact⟨⟨a,o,its.toArray,n,rfl,e5,e6,e7,Zs.of e4⟩,TWv.tw I q rr⟩
 | [],[],_::_,_,h=>by cases h
 |_::_,_,[],_,h=>by cases h
 | [],_::_,_,q,_=>q.elim
 |_::_,[],_,q,_=>q.elim
theorem xU{α:Type}{f:α->V}{g:α->Value}:∀ {l:List α},(∀i∈l,bp (f i) (g i))->aT (l.map f) (l.map g)
 | [],_=>.nil
 |_::_,h=>.cons (h _ (List.mem_cons_self ..)) (xU fun j hj=>h j (List.mem_cons_of_mem _ hj))
theorem Ord.mem{n:Nat}{p:Array Nat}(h:Ord n p){i:Nat}(hi:i∈p.toList):i<n:=by
 have:=(h.mem_iff (a:=i)).mp (Array.mem_toList_iff.mp hi);simpa using this
theorem xm:g9 X (.builtin "sorted") (fun xs H Q=>∃p ys W,xs=[.ref p]/\SqL X.K H p ys/\TWv H ys W/\(2<=W.length->∀x∈W,x≠[])/\W.length<64/\∀l,H l=none->Q (.ref l) (upd H l (.lst (srt ys W)))):=by
 intro pins s σ H xs us Q I r h;obtain⟨p,ys,W,rfl,hq,hT,hne,hW,q⟩:=h;obtain⟨u,rfl,rx⟩:=nL r;cases rx;obtain⟨its,r',pl,hz⟩:=I.list hq;have tw:=TWv.tw I hT r';have e1:=tw.len;have e2:=r'.length;obtain⟨e,he⟩:=sortedAll_at s.heap its (xq its W)
 have hv:aT (srt ys W) ((g8 W).toList.map fun i=>its.getD i Value.none):=xU fun i hi=>by
  have hi':=(ie W).mem hi;obtain⟨u,hu,ru⟩:=r'.get (List.getElem?_eq_getElem (by omega:i<ys.length))
  rw[List.getD_eq_getElem?_getD,List.getD_eq_getElem?_getD,hu,List.getElem?_eq_getElem (by omega:i<ys.length)]
  exact ru
 have hl:(srt ys W).length<=sizeLine:=by
  have a:=(ie W).size_eq;have b:64<=sizeLine:=by rw[sizeLine_eq];omega
  simp[srt] at a ⊢;omega
 exact yx pl.isList tw hne (by omega) ⟨.ref (s.heap.objs.size+1),_,I.laid (t':=s.toks) (fun b o e=>sortedAll_old e) (Nat.le_succ _) (show dc X.prog X.w _ _ _ (.lst (srt ys W)) from ⟨hl,_,e,hv,he⟩),rfl,q _ (I.hok.fresh (Nat.le_succ _))⟩
end
noncomputable def lr(W:List (List Int)):List (List Int):=(g8 W).toList.map fun i=>W.getD i []
theorem gg(W:List (List Int)):(lr W).Perm W:=by
 have h:(g8 W).toList.Perm (List.range W.length):=by
  have:=(ie W).toList;simpa using this
 have:=h.map fun i=>W.getD i [];refine this.trans (.of_eq ?_);apply List.ext_getElem?;intro i;by_cases hi:i<W.length
 ·rw[List.getElem?_map,List.getElem?_range hi,List.getElem?_eq_getElem hi]
  simp[hi]
 ·rw[List.getElem?_eq_none (by simpa using hi),List.getElem?_eq_none (by simpa using hi)]
theorem Bj{H:Hp}:∀ {ns:List Int} {xs:List V},aM H (ns.map D.int) xs->xs=ns.map V.int
 | [],xs,h=>by simpa[aM] using h
 |n::ns,xs,h=>by
  simp only[List.map_cons,aM,Dat] at h;obtain⟨x,r,rfl,rfl,h2⟩:=h;rw[Bj h2];rfl
theorem TWv.of{H:Hp}:∀ {W:List (List Int)} {xs:List V},aM H (W.map wdD) xs->TWv H xs W
 | [],xs,h=>by
  have:xs=[]:=by simpa[aM] using h
  subst this;exact trivial
 |x::W,xs,h=>by
  simp only[List.map_cons,aM] at h;obtain⟨v,r,rfl,hv,h2⟩:=h;simp only[wdD,Dat] at hv;obtain⟨a,ys,rfl,ha,hy⟩:=hv;rw[Bj hy] at ha;exact⟨⟨a,rfl,ha⟩,TWv.of h2⟩
theorem vh{H:Hp}{W:List (List Int)}{xs:List V}(h:aM H (W.map wdD) xs):∀ {l:List Nat},(∀i∈l,i<W.length)->aM H ((l.map fun i=>W.getD i []).map wdD) (l.map fun i=>xs.getD i .non)
 | [],_=>by simp[aM]
 |i::l,q=>by
  simp only[List.map_cons,aM];have hi:=q i (List.mem_cons_self ..);obtain⟨x,e,hx⟩:=h.get (i:=i) (d:=wdD (W.getD i [])) (by rw[List.getElem?_map,List.getD_eq_getElem?_getD,List.getElem?_eq_getElem hi];rfl)
  refine⟨_,_,rfl,?_,vh h fun j hj=>q j (List.mem_cons_of_mem _ hj)⟩;rw[show xs.getD i V.non=x by rw[List.getD_eq_getElem?_getD,e];rfl]
  exact hx
theorem Ej{H:Hp}{W:List (List Int)}{xs:List V}(h:aM H (W.map wdD) xs):aM H ((lr W).map wdD) (srt xs W):=vh h fun i hi=>(ie W).mem hi
theorem ER(W:List (List Int)):(lr W).length=W.length:=(gg W).length_eq
section
variable{X:Cx}
theorem qQ:g9 X (.builtin "sorted") (fun xs H Q=>∃p W,xs=[.ref p]/\LD H p (W.map wdD)/\(∀x∈W,x≠[])/\W.length<64/\∀l H',H l=none->db H H'->LD H' l ((lr W).map wdD)->Q (.ref l) H'):=by
 intro pins s σ H xs us Q I r h;obtain⟨p,W,rfl,⟨hn,ys,hy,hd⟩,ne,hl,q⟩:=h;exact xm pins s σ H _ us Q I r ⟨p,ys,W,rfl,SqL.of hy,TWv.of hd,fun _=>ne,hl,fun l hl=>q l _ hl (tF hl) ⟨sT _,_,bY,(Ej hd).same (tF hl)⟩⟩
end
structure Ht(c:Nat->Nat->Bool):Prop where
 as:∀i j,c i j=true->c j i=false
 tr:∀i j k,c j i=false->c k j=false->c k i=false
theorem iu{α β:Type}(c:Nat->Nat->Bool){f:α->W.KasT β}:∀t:W.KasT α,bF c (t.bind f)=bF c (f (bF c t))
 |.ret _=>rfl
 |.ask i j k=>iu c (k (c i j))
section
variable{c:Nat->Nat->Bool}(L:Ht c)
noncomputable def Up(c:Nat->Nat->Bool)(p:Array Nat)(k:Nat):Prop:=∀i j,i<=j->j<k->c (p.getD j 0) (p.getD i 0)=false
noncomputable def Dn(c:Nat->Nat->Bool)(p:Array Nat)(k:Nat):Prop:=∀i j,i<=j->j<k->c (p.getD i 0) (p.getD j 0)=false
include L
theorem Ht.rf(i:Nat):c i i=false:=by
 cases h:c i i with
 |false=>rfl
 |true=>rw[L.as i i h] at h;cases h
theorem KD(p:Array Nat):Up c p 1:=fun i j h1 h2=>by
 have:i=j:=by omega
 subst this;exact L.rf _
theorem Io{p:Array Nat}{k:Nat}(h:Up c p k)(hk:1<=k)(q:c (p.getD k 0) (p.getD (k-1) 0)=false):Up c p (k+1):=fun i j h1 h2=>by
 by_cases hj:j<k
 ·exact h i j h1 hj
 ·have:j=k:=by omega
  subst this;by_cases hi:i=j
  ·subst hi;exact L.rf _
  ·exact L.tr _ (p.getD (j-1) 0) _ (h i (j-1) (by omega) (by omega)) q
theorem oE{p:Array Nat}{k:Nat}(h:Dn c p k)(hk:1<=k)(q:c (p.getD (k-1) 0) (p.getD k 0)=false):Dn c p (k+1):=fun i j h1 h2=>by
 by_cases hj:j<k
 ·exact h i j h1 hj
 ·have:j=k:=by omega
  subst this;by_cases hi:i=j
  ·subst hi;exact L.rf _
  ·exact L.tr _ (p.getD (j-1) 0) _ q (h i (j-1) (by omega) (by omega))
theorem zX{p:Array Nat}:∀f k,1<=k->Up c p k->Up c p (bF c (W.kas_asc p f k))/\k<=bF c (W.kas_asc p f k)/\bF c (W.kas_asc p f k)<=k+f
 |0,k,_,h=>⟨h,Nat.le_refl _,Nat.le_refl _⟩
 |f+1,k,hk,h=>by
  unfold W.kas_asc;simp only[bF]
  cases q:c (p.getD k 0) (p.getD (k-1) 0) with
  |true=>exact⟨h,Nat.le_refl _,by simp[bF]⟩
  |false=>
   have:=zX f (k+1) (by omega) (Io L h hk q)
   simp only[Bool.false_eq_true,if_false];exact⟨this.1,by omega,by omega⟩
end
theorem eO{p:Array Nat}{i j:Nat}(hj:j<=p.size)(k:Nat):(W.kas_rev p i j).getD k 0=if i<=k/\k<j then p.getD (i+j-1-k) 0 else p.getD k 0:=by
 have:=getElem?_mirror_all (xs:=p) (i:=i) hj k;simp only[Array.getD_eq_getD_getElem?];unfold W.kas_rev;rw[this];split<;>rfl
theorem y7{p:Array Nat}{s d:Nat}(hs:s<p.size)(hd:d<=s)(k:Nat):(bubble p s d).getD k 0=if k=s-d then p.getD s 0 else if s-d<k/\k<=s then p.getD (k-1) 0 else p.getD k 0:=by
 have:=getElem?_bubble hs d hd k;simp only[Array.getD_eq_getD_getElem?];rw[this];split
 ·rfl
 ·split<;>rfl
section
variable{c:Nat->Nat->Bool}(L:Ht c)
include L
theorem Hg{p:Array Nat}{k:Nat}(hk:k<=p.size)(h:Dn c p k):Up c (W.kas_rev p 0 k) k:=fun i j h1 h2=>by
 rw[eO hk,eO hk,if_pos (by omega),if_pos (by omega)]
 exact h _ _ (by omega) (by omega)
theorem ss{p:Array Nat}{k:Nat}(hu:Up c p k):∀f l r,r-l<=f->l<=r->r<=k->(∀i,i<l->c (p.getD k 0) (p.getD i 0)=false)->(∀i,r<=i->i<k->c (p.getD k 0) (p.getD i 0)=true) ->
  bF c (W.kas_place p k f l r)<=k/\(∀i,i<bF c (W.kas_place p k f l r)->c (p.getD k 0) (p.getD i 0)=false)/\(∀i,bF c (W.kas_place p k f l r)<=i->i<k->c (p.getD k 0) (p.getD i 0)=true)
 |0,l,r,hf,hl,hr,h1,h2=>by
  have:l=r:=by omega
  subst this;exact⟨hr,h1,h2⟩
 |f+1,l,r,hf,hl,hr,h1,h2=>by
  unfold W.kas_place;by_cases h:l ≥ r
  ·rw[if_pos h]
   have:l=r:=by omega
   subst this;exact⟨hr,h1,h2⟩
  ·rw[if_neg h]
   simp only[bF]
   cases q:c (p.getD k 0) (p.getD ((l+r) / 2) 0) with
   |true=>
    simp only[if_true];refine ss hu f l ((l+r) / 2) (by omega) (by omega) (by omega) h1 fun i hi hik=>?_
    cases e:c (p.getD k 0) (p.getD i 0) with
    |true=>rfl
    |false=>
     have:=L.tr (p.getD ((l+r) / 2) 0) (p.getD i 0) (p.getD k 0) (hu _ _ hi hik) e;rw[this] at q;cases q
   |false=>
    simp only[Bool.false_eq_true,if_false];refine ss hu f ((l+r) / 2+1) r (by omega) (by omega) hr (fun i hi=>?_) h2
    exact L.tr (p.getD i 0) (p.getD ((l+r) / 2) 0) (p.getD k 0) (hu _ _ (by omega) (by omega)) q
theorem EJ:∀f (p:Array Nat) k,k+f<=p.size->Up c p k->Up c (bF c (W.kas_bin f p k)) (k+f)
 |0,_,_,_,h=>h
 |f+1,p,k,hz,h=>by
  unfold W.kas_bin;rw[iu];obtain⟨h1,h2,h3⟩:=ss L h k 0 k (by omega) (by omega) (Nat.le_refl _) (fun i hi=>absurd hi (by omega)) (fun i hi hik=>absurd hik (by omega))
  generalize bF c (W.kas_place p k k 0 k)=l at h1 h2 h3 ⊢
  have:=EJ f (bubble p k (k - l)) (k + 1) (by rw [bubble_size];omega) (fun i j hij hj=>by
   rw[y7 (by omega) (by omega),y7 (by omega) (by omega),show k-(k-l)=l by omega]
   by_cases j1:j=l
   ·rw[if_pos j1]
    by_cases i1:i=l
    ·rw[if_pos i1];exact L.rf _
    ·rw[if_neg i1,if_neg (by omega)];exact h2 i (by omega)
   ·rw[if_neg j1]
    by_cases j2:l<j/\j<=k
    ·rw[if_pos j2]
     by_cases i1:i=l
     ·rw[if_pos i1];exact L.as _ _ (h3 (j-1) (by omega) (by omega))
     ·rw[if_neg i1]
      by_cases i2:l<i/\i<=k
      ·rw[if_pos i2];exact h _ _ (by omega) (by omega)
      ·rw[if_neg i2];exact h _ _ (by omega) (by omega)
    ·rw[if_neg j2,if_neg (by omega),if_neg (by omega)];exact h _ _ hij (by omega))
  rw[show k+(f+1)=k+1+f by omega]
  exact this
noncomputable def Bl(c:Nat->Nat->Bool)(p:Array Nat)(a b:Nat):Prop:=∀i j,a<=i->i<b->a<=j->j<b->c (p.getD i 0) (p.getD j 0)=false
theorem ED{p:Array Nat}{a k:Nat}(hk:k<=p.size)(h:Dn c p k)(al:Bl c p a k):Dn c (W.kas_rev p a k) k:=fun i j hij hj=>by
 rw[eO hk,eO hk];by_cases j1:a<=j/\j<k
 ·rw[if_pos j1]
  by_cases i1:a<=i/\i<k
  ·rw[if_pos i1];exact al _ _ (by omega) (by omega) (by omega) (by omega)
  ·rw[if_neg i1]
   exact h _ _ (by omega) (by omega)
 ·rw[if_neg j1,if_neg (by omega)];exact h _ _ hij hj
theorem rR:∀f (p:Array Nat) n q,1<=n->q+1<=n->n+f<=p.size->Dn c p n->Bl c p (n-(q+1)) n ->
  (bF c (W.kas_desc f p n q)).1.size=p.size/\1<=(bF c (W.kas_desc f p n q)).2.1/\(bF c (W.kas_desc f p n q)).2.1<=n+f/\(bF c (W.kas_desc f p n q)).2.2+1<=(bF c (W.kas_desc f p n q)).2.1 /\
  Dn c (bF c (W.kas_desc f p n q)).1 (bF c (W.kas_desc f p n q)).2.1/\Bl c (bF c (W.kas_desc f p n q)).1 ((bF c (W.kas_desc f p n q)).2.1-((bF c (W.kas_desc f p n q)).2.2+1)) (bF c (W.kas_desc f p n q)).2.1
 |0,p,n,q,h1,h2,h3,h4,h5=>⟨rfl,h1,Nat.le_refl _,h2,h4,h5⟩
 |f+1,p,n,q,h1,h2,h3,h4,h5=>by
  have single:∀p':Array Nat,Bl c p' (n+1-(0+1)) (n+1):=fun p' i j a1 a2 a3 a4=>by
   have:i=j:=by omega
   subst this;exact L.rf _
  unfold W.kas_desc;simp only[bF]
  cases e:c (p.getD n 0) (p.getD (n-1) 0) with
  |true=>
   simp only[if_true];by_cases hq:q>0
   ·rw[if_pos hq]
    have d1:=ED L (by omega:n<=p.size) h4 h5
    have d2 : Dn c (W.kas_rev p (n - (q + 1)) n) (n + 1):=oE L d1 h1 (by
     rw[eO (by omega),eO (by omega),if_pos (by omega),if_neg (by omega)]
     exact L.tr _ (p.getD (n-1) 0) _ (L.as _ _ e) (h5 _ _ (by omega) (by omega) (by omega) (by omega)))
    have:=rR f (W.kas_rev p (n-(q+1)) n) (n+1) 0 (by omega) (by omega) (by rw[W.kas_rev_size];omega) d2 (single _)
    rw[W.kas_rev_size] at this;exact⟨this.1,this.2.1,by omega,this.2.2.2⟩
   ·rw[if_neg hq]
    have:=rR f p (n+1) 0 (by omega) (by omega) (by omega) (oE L h4 h1 (L.as _ _ e)) (single _)
    exact⟨this.1,this.2.1,by omega,this.2.2.2⟩
  |false=>
   simp only[Bool.false_eq_true,if_false,bF]
   cases e2:c (p.getD (n-1) 0) (p.getD n 0) with
   |true=>exact⟨rfl,h1,by simp[bF],h2,h4,h5⟩
   |false=>
    simp only[Bool.false_eq_true,if_false]
    have:=rR f p (n + 1) (q + 1) (by omega) (by omega) (by omega) (oE L h4 h1 e2) (fun i j a1 a2 a3 a4=>by
     have low:∀i,n-(q+1)<=i->i<n+1->c (p.getD i 0) (p.getD n 0)=false:=fun i b1 b2=>by
      by_cases hi:i=n
      ·subst hi;exact L.rf _
      ·exact L.tr _ (p.getD (n-1) 0) _ e2 (h5 _ _ (by omega) (by omega) (by omega) (by omega))
     have high:∀i,n-(q+1)<=i->i<n+1->c (p.getD n 0) (p.getD i 0)=false:=fun i b1 b2=>by
      by_cases hi:i=n
      ·subst hi;exact L.rf _
      ·exact L.tr _ (p.getD (n-1) 0) _ (h5 _ _ (by omega) (by omega) (by omega) (by omega)) e
     exact L.tr _ (p.getD n 0) _ (high j (by omega) a4) (low i (by omega) a2))
    exact⟨this.1,this.2.1,by omega,this.2.2.2⟩
theorem zb{p:Array Nat}{n z:Nat}(h1:1<=n)(h2:n<=z)(hz:z=p.size)(h:Dn c p n):(bF c (W.kas_tail3 n z p)).2.size=z/\1<=(bF c (W.kas_tail3 n z p)).1/\(bF c (W.kas_tail3 n z p)).1<=z/\Up c (bF c (W.kas_tail3 n z p)).2 (bF c (W.kas_tail3 n z p)).1:=by
 unfold W.kas_tail3;rw[iu];simp only[bF];have:=zX L (p:=W.kas_rev p 0 n) (z-n) n h1 (Hg L (by omega) h)
 exact⟨by rw[W.kas_rev_size];exact hz.symm,by omega,by omega,this.1⟩
theorem q0{p:Array Nat}{n z:Nat}(h1:1<=n)(h2:n<z)(hz:z=p.size)(h:Dn c p (n+1)):(bF c (W.kas_descPart n z p)).2.size=z/\1<=(bF c (W.kas_descPart n z p)).1/\(bF c (W.kas_descPart n z p)).1<=z/\Up c (bF c (W.kas_descPart n z p)).2 (bF c (W.kas_descPart n z p)).1:=by
 unfold W.kas_descPart;rw[iu]
 obtain ⟨a1,a2,a3,a4,a5,a6⟩:=rR L (z - (n + 1)) p (n + 1) 0 (by omega) (by omega) (by omega) h (fun i j b1 b2 b3 b4=>by
  have:i=j:=by omega
  subst this
  exact L.rf _)
 generalize bF c (W.kas_desc (z-(n+1)) p (n+1) 0)=r at a1 a2 a3 a4 a5 a6 ⊢;split
 ·exact zb L a2 (by omega) (by rw[W.kas_rev_size];omega) (ED L (by omega) a5 a6)
 ·exact zb L a2 (by omega) (by omega) a5
theorem y3{p:Array Nat}:∀f k,bF c (W.kas_asc p f k)=k+f\/c (p.getD (bF c (W.kas_asc p f k)) 0) (p.getD (bF c (W.kas_asc p f k)-1) 0)=true
 |0,k=>.inl rfl
 |f+1,k=>by
  unfold W.kas_asc;simp only[bF]
  cases q:c (p.getD k 0) (p.getD (k-1) 0) with
  |true=>exact .inr (by simpa[bF] using q)
  |false=>
   simp only[Bool.false_eq_true,if_false];rcases y3 f (k+1) with h|h
   ·exact .inl (by rw[h];omega)
   ·exact .inr h
theorem FG{p:Array Nat}{z:Nat}(h1:1<=z)(hz:z=p.size):(bF c (W.kas_count z p)).2.size=z/\1<=(bF c (W.kas_count z p)).1/\(bF c (W.kas_count z p)).1<=z/\Up c (bF c (W.kas_count z p)).2 (bF c (W.kas_count z p)).1:=by
 unfold W.kas_count;rw[iu];obtain⟨a1,a2,a3⟩:=zX L (p:=p) (z-1) 1 (Nat.le_refl _) (KD L p);have a4:=y3 L (p:=p) (z-1) 1;generalize bF c (W.kas_asc p (z-1) 1)=n at a1 a2 a3 a4 ⊢;by_cases e:(n == z)=true
 ·rw[if_pos e]
  have:n=z:=by simpa using e
  exact⟨hz.symm,a2,by show n<=z;omega,a1⟩
 ·rw[if_neg e]
  have hne:n≠z:=by simpa using e
  have st:c (p.getD n 0) (p.getD (n-1) 0)=true:=by
   rcases a4 with h|h
   ·exact absurd h (by omega)
   ·exact h
  by_cases h2:n>1
  ·rw[if_pos h2]
   simp only[bF]
   cases q:c (p.getD 0 0) (p.getD (n-1) 0) with
   |true=>exact⟨hz.symm,a2,by show n<=z;omega,a1⟩
   |false=>
    simp only[Bool.false_eq_true,if_false]
    have al:∀i j,i<n->j<n->c (p.getD i 0) (p.getD j 0)=false:=fun i j hi hj=>by
     have b1:c (p.getD i 0) (p.getD 0 0)=false->True:=fun _=>trivial;have b2:=a1 j (n-1) (by omega) (by omega)
     have b3:=a1 0 i (by omega) (by omega)
     have b4:=a1 i (n-1) (by omega) (by omega)
     have b5:=a1 0 j (by omega) (by omega)
     have up1:c (p.getD (n-1) 0) (p.getD j 0)=false:=a1 j (n-1) (by omega) (by omega)
     have x1:c (p.getD 0 0) (p.getD j 0)=false:=L.tr (p.getD j 0) (p.getD (n-1) 0) (p.getD 0 0) up1 q;exact L.tr (p.getD j 0) (p.getD 0 0) (p.getD i 0) x1 b3
    have d0:Dn c (W.kas_rev p 0 n) n:=fun i j hij hj=>by
     rw[eO (by omega),eO (by omega),if_pos (by omega),if_pos (by omega)]
     exact al _ _ (by omega) (by omega)
    have d1 : Dn c (W.kas_rev p 0 n) (n + 1):=oE L d0 (by omega) (by
     rw[eO (by omega),eO (by omega),if_pos (by omega),if_neg (by omega)]
     exact L.tr _ (p.getD (n-1) 0) _ (L.as _ _ st) (al _ _ (by omega) (by omega)))
    exact q0 L (by omega) (by omega) (by rw[W.kas_rev_size];exact hz) d1
  ·rw[if_neg h2]
   have n1:n=1:=by omega
   subst n1
   have d0:Dn c p 1:=fun i j hij hj=>by
    have:i=j:=by omega
    subst this;exact L.rf _
   exact q0 L (by omega) (by omega) hz (oE L d0 (by omega) (L.as _ _ st))
theorem GV{z:Nat}(h1:1<=z):Up c (bF c (W.kas_sort z)) z:=by
 unfold W.kas_sort;rw[iu];obtain⟨a1,a2,a3,a4⟩:=FG L (p:=List.toArray (List.range z)) h1 (by simp)
 generalize bF c (W.kas_count z (List.toArray (List.range z)))=r at a1 a2 a3 a4 ⊢;split
 ·rw[show max r.1 1=r.1 by omega]
  have:=EJ L (z-r.1) r.2 r.1 (by omega) a4
  rwa [show r.1+(z-r.1)=z by omega] at this
 ·have:r.1=z:=by omega
  rw[this] at a4;exact a4
end
noncomputable def ji:List Int->List Int->Bool
 | [],[]=>false
 | [],_::_=>true
 |_::_,[]=>false
 |x::xs,y::ys=>if x=y then ji xs ys else decide (x<y)
theorem rK:∀x y:List Int,ltZ x y=ji x y
 | [],[]=>rfl
 | [],_::_=>by simp[ltZ,ltF,ji]
 |_::_,[]=>by simp[ltZ,ltF,ji]
 |x::xs,y::ys=>by
  have:=rK xs ys;unfold ltZ at this ⊢;unfold ltF ji;have e:decide ((x::xs).length<(y::ys).length)=decide (xs.length<ys.length):=by simp
  rw[e,this]
theorem E5:∀x y:List Int,ji x y=true->ji y x=false
 | [],[],h=>by simp[ji] at h
 | [],_::_,_=>rfl
 |_::_,[],h=>by simp[ji] at h
 |x::xs,y::ys,h=>by
  unfold ji at h ⊢;by_cases e:x=y
  ·rw[if_pos e] at h;rw[if_pos e.symm];exact E5 xs ys h
  ·rw[if_neg e] at h;rw[if_neg (Ne.symm e)]
   simp at h ⊢;omega
theorem Fo:∀x y z:List Int,ji y x=false->ji z y=false->ji z x=false
 | [],_,[],_,_=>rfl
 | [],_,_::_,_,_=>rfl
 |_::_,[],_,h,_=>by simp[ji] at h
 |_::_,_::_,[],_,h=>by simp[ji] at h
 |x::xs,y::ys,z::zs,h1,h2=>by
  unfold ji at h1 h2 ⊢;by_cases e1:y=x
  ·subst e1
   rw[if_pos rfl] at h1;by_cases e2:z=y
   ·subst e2
    rw[if_pos rfl] at h2 ⊢;exact Fo xs ys zs h1 h2
   ·rw[if_neg e2] at h2 ⊢;exact h2
  ·rw[if_neg e1] at h1
   simp at h1;by_cases e2:z=y
   ·subst e2
    rw[if_neg e1];simpa using h1
   ·rw[if_neg e2] at h2
    simp at h2;rw[if_neg (by omega)]
    simp;omega
theorem Fq:∀x y:List Int,ji y x=false->ji x y=false->x=y
 | [],[],_,_=>rfl
 | [],_::_,_,h=>by simp[ji] at h
 |_::_,[],h,_=>by simp[ji] at h
 |x::xs,y::ys,h1,h2=>by
  unfold ji at h1 h2;by_cases e:x=y
  ·subst e
   rw[if_pos rfl] at h1 h2;rw[Fq xs ys h1 h2]
  ·rw[if_neg e] at h2
   rw[if_neg (Ne.symm e)] at h1;simp at h1 h2;omega
theorem zH(W:List (List Int)):Ht fun i j=>ltZ (W.getD i []) (W.getD j []) where
 as i j h:=by rw[rK] at h ⊢;exact E5 _ _ h
 tr i j k h1 h2:=by rw[rK] at h1 h2 ⊢;exact Fo _ _ _ h1 h2
noncomputable def Ris(W:List (List Int)):Prop:=W.Pairwise fun a b=>ji b a=false
theorem x3(W:List (List Int)):Ris (lr W):=by
 have hs:(g8 W).size=W.length:=by
  have:=(ie W).size_eq;simpa using this
 unfold Ris;rw[List.pairwise_iff_getElem];intro i j hi hj hij;have hl:(lr W).length=W.length:=ER W
 have at_:∀k (hk:k<(lr W).length),(lr W)[k]=W.getD ((g8 W).getD k 0) []:=fun k hk=>by
  have hk2:k<(g8 W).size:=by omega
  have q:(lr W)[k]?=some (W.getD ((g8 W).getD k 0) []):=by
   unfold lr;rw[List.getElem?_map,Array.getElem?_toList,Array.getElem?_eq_getElem hk2,Array.getD_eq_getD_getElem?,Array.getElem?_eq_getElem hk2];rfl
  exact(List.getElem?_eq_some_iff.mp q).2
 rw[at_ i hi,at_ j hj];by_cases h2:W.length<2
 ·omega
 ·have:=GV (zH W) (z:=W.length) (by omega) i j (by omega) (by omega)
  have e:g8 W=bF (fun i j=>ltZ (W.getD i []) (W.getD j [])) (PySem.W.kas_sort W.length):=by unfold g8;rw[if_neg h2]
  rw[←e] at this
  rw[←rK]
  exact this
theorem GN:∀ {A B:List (List Int)},A.Perm B->Ris A->Ris B->A=B
 | [],B,p,_,_=>by rw[List.nil_perm.mp p]
 |a::A,[],p,_,_=>by simp at p
 |a::A,b::B,p,h1,h2=>by
  have ma:a∈b::B:=p.mem_iff.mp (List.mem_cons_self ..);have mb:b∈a::A:=p.mem_iff.mpr (List.mem_cons_self ..)
  have e:a=b:=by
   rcases List.mem_cons.mp ma with h|h
   ·exact h
   ·rcases List.mem_cons.mp mb with h'|h'
    ·exact h'.symm
    ·exact Fq _ _ (List.rel_of_pairwise_cons h1 h') (List.rel_of_pairwise_cons h2 h)
  subst e;rw[GN (List.Perm.cons_inv p) h1.of_cons h2.of_cons]
theorem wX{W V:List (List Int)}(p:W.Perm V)(h:Ris V):lr W=V:=GN ((gg W).trans p) (x3 W) h
end L2
namespace L2
open PySem PySem.Spec PyProof.Rows
inductive AV where
 |d (x:D)
 |r (v:V)
 |p (v:V) (P:Hp->Prop)
inductive OC where
 |own (xs:List AV)
 |frz (ds:List D)
 |dic (kvs:List (Str×AV))
noncomputable abbrev Om:=Addr->Option OC
noncomputable abbrev SA:=List (Option AV)
noncomputable abbrev Fs:=Addr->Bool
noncomputable def Om.put(ω:Om)(l:Addr)(c:OC):Om:=fun b=>if b=l then some c else ω b
theorem Om.Nr{ω:Om}{l:Addr}{c:OC}:ω.put l c l=some c:=by unfold Om.put;rw[if_pos rfl]
theorem Om.Nt{ω:Om}{l b:Addr}{c:OC}(h:b≠l):ω.put l c b=ω b:=by unfold Om.put;rw[if_neg h]
theorem Om.Nv{ω:Om}{l:Addr}{c e:OC}:(ω.put l c).put l e=ω.put l e:=by funext b;unfold Om.put;split<;>rfl
theorem Om.NH{ω:Om}{l p:Addr}{c e:OC}(h:p≠l):(ω.put l c).put p e=(ω.put p e).put l c:=by
 funext b;unfold Om.put;split<;>split<;>simp_all
noncomputable def ow:Option OC->Bool
 |some (.own _)=>true
 |some (.dic _)=>true
 |_=>false
noncomputable def Fs.add(F:Fs)(l:Addr):Fs:=fun b=>decide (b=l) || F b
noncomputable def cut(F:Fs)(H:Hp)(ω:Om):Hp:=fun b=>if (ow (ω b) || F b)=true then none else H b
noncomputable def RV(G:Hp):AV->V->Prop
 |.d x,v=>Dat G x v
 |.r u,v=>v=u
 |.p u P,v=>v=u/\∀G',db G G'->P G'
noncomputable def RVs(G:Hp):List AV->List V->Prop
 | [],vs=>vs=[]
 |a::as,vs=>∃v r,vs=v::r/\RV G a v/\RVs G as r
noncomputable def RS(G:Hp)(ρ:SA)(σ:St):Prop:=ρ.length=σ.length/\∀(i:Nat)(a:AV),ρ[i]?=some (some a)->∃v,σ[i]?=some (some v)/\RV G a v
noncomputable def RKs(G:Hp):List (Str×AV)->List (Key×V)->Prop
 | [],ks=>ks=[]
 |p::r,ks=>∃v r',ks=((Sum.inr p.1:Key),v)::r'/\RV G p.2 v/\RKs G r r'
structure Rep(F:Fs)(H:Hp)(ω:Om):Prop where
 own:∀l xs,ω l=some (.own xs)->∃vs,H l=some (.lst vs)/\RVs (cut F H ω) xs vs
 frz:∀l ds,ω l=some (.frz ds)->Dat (cut F H ω) (.lst ds) (.ref l)
 hid:∀b,F b=true->ω b=none/\∃vs,H b=some (.lst vs)
 dic:∀l kvs,ω l=some (.dic kvs)->∃ks,H l=some (.dK ks)/\RKs (cut F H ω) kvs ks
structure Fr(F:Fs)(H:Hp)(ω:Om)(H':Hp)(ω':Om):Prop where
 st:∀b o,ow (ω b)=false->F b=false->H b=some o->H' b=some o/\ow (ω' b)=false
 hd:∀b,F b=true->H' b=H b
section
variable{F:Fs}{H H1 H2 H':Hp}{ω ω1 ω2 ω':Om}{G G':Hp}
theorem Fr.refl:Fr F H ω H ω:=⟨fun _ _ h _ e=>⟨e,h⟩,fun _ _=>rfl⟩
theorem Fr.trans(a:Fr F H ω H1 ω1)(b:Fr F H1 ω1 H2 ω2):Fr F H ω H2 ω2:=
 ⟨fun c o h f e=>let ⟨x,y⟩:=a.st c o h f e;b.st c o y f x,fun c h=>(b.hd c h).trans (a.hd c h)⟩
theorem cx{b:Addr}{o:HO}:cut F H ω b=some o↔ow (ω b)=false/\F b=false/\H b=some o:=by
 unfold cut;cases ow (ω b)<;>cases F b<;>simp
theorem Fr.same(a:Fr F H ω H' ω'):db (cut F H ω) (cut F H' ω'):=fun b o e=>by
 obtain⟨h,f,e⟩:=cx.mp e;obtain⟨x,y⟩:=a.st b o h f e;exact cx.mpr ⟨y,f,x⟩
theorem a7:db (cut F H ω) H:=fun b o e=>(cx.mp e).2.2
theorem RV.same(e:db G G'):∀ {a:AV} {v:V},RV G a v->RV G' a v
 |.d _,_,h=>Dat.same e h
 |.r _,_,h=>h
 |.p _ _,_,h=>⟨h.1,fun G2 s=>h.2 G2 (e.trans s)⟩
theorem RVs.same(e:db G G'):∀ {as:List AV} {vs:List V},RVs G as vs->RVs G' as vs
 | [],_,h=>h
 |_::_,_,⟨v,r,h1,h2,h3⟩=>⟨v,r,h1,h2.same e,h3.same e⟩
theorem RKs.same(e:db G G'):∀ {as:List (Str×AV)} {vs:List (Key×V)},RKs G as vs->RKs G' as vs
 | [],_,h=>h
 |_::_,_,⟨v,r,h1,h2,h3⟩=>⟨v,r,h1,h2.same e,h3.same e⟩
theorem RS.same(e:db G G'){ρ:SA}{σ:St}(h:RS G ρ σ):RS G' ρ σ:=⟨h.1,fun i a q=>let ⟨v,x,y⟩:=h.2 i a q;⟨v,x,y.same e⟩⟩
theorem RVs.length:∀ {as:List AV} {vs:List V},RVs G as vs->vs.length=as.length
 | [],_,h=>by cases h;rfl
 |_::_,_,⟨v,r,h1,_,h3⟩=>by subst h1;simp[h3.length]
theorem RVs.get:∀ {as:List AV} {vs:List V} {i:Nat} {a:AV},RVs G as vs->as[i]?=some a->∃v,vs[i]?=some v/\RV G a v
 | [],_,_,_,_,e=>by simp at e
 |_::_,_,0,_,⟨v,r,h1,h2,_⟩,e=>by subst h1;simp at e;subst e;exact⟨v,rfl,h2⟩
 |_::_,_,i+1,_,⟨v,r,h1,_,h3⟩,e=>by subst h1;simp at e;obtain⟨v',e1,e2⟩:=h3.get e;exact⟨v',by simpa using e1,e2⟩
theorem RVs.append:∀ {as bs:List AV} {vs us:List V},RVs G as vs->RVs G bs us->RVs G (as++bs) (vs++us)
 | [],_,_,_,h,k=>by cases h;exact k
 |_::_,_,_,_,⟨v,r,h1,h2,h3⟩,k=>by subst h1;exact⟨v,_,rfl,h2,h3.append k⟩
theorem RVs.one{a:AV}{v:V}(h:RV G a v):RVs G [a] [v]:=⟨v,[],rfl,h,rfl⟩
theorem RVs.dats:∀ {ds:List D} {vs:List V},RVs G (ds.map AV.d) vs↔aM G ds vs
 | [],_=>by simp[RVs,aM]
 |d::ds,vs=>by
  simp only[List.map_cons,RVs,aM,RV];constructor
  ·rintro⟨v,r,h1,h2,h3⟩;exact⟨v,r,h1,h2,RVs.dats.mp h3⟩
  ·rintro⟨v,r,h1,h2,h3⟩;exact⟨v,r,h1,h2,RVs.dats.mpr h3⟩
theorem RVs.set{as:List AV}{vs:List V}(i:Nat){a:AV}{v:V}(h:RVs G as vs)(k:RV G a v):RVs G (as.set i a) (vs.set i v):=by
 induction as generalizing vs i with
 |nil=>cases h;exact rfl
 |cons b as ih=>
  obtain⟨u,r,rfl,h2,h3⟩:=h
  cases i with
  |zero=>exact⟨v,r,rfl,k,h3⟩
  |succ i=>exact⟨u,_,rfl,h2,ih i h3⟩
theorem RVs.dropLast:∀ {as:List AV} {vs:List V},RVs G as vs->RVs G as.dropLast vs.dropLast
 | [],_,h=>by cases h;exact rfl
 | [a],_,⟨v,r,h1,h2,h3⟩=>by cases h3;subst h1;exact rfl
 |a::b::as,_,⟨v,r,h1,h2,h3⟩=>by
  obtain⟨u,r',rfl,k2,k3⟩:=id h3;subst h1;exact⟨v,_,rfl,h2,h3.dropLast⟩
theorem Rep.free(R:Rep F H ω){p:Addr}(h:H p=none):ω p=none/\F p=false:=by
 constructor
 ·cases e:ω p with
  |none=>rfl
  |some c=>cases c with
   |own xs=>obtain⟨vs,q,_⟩:=R.own p xs e;rw[h] at q;cases q
   |frz ds=>
    have q:=R.frz p ds e;simp only[Dat] at q;obtain⟨a,xs,e1,e2,_⟩:=q;cases e1;rw[a7 _ _ e2] at h;cases h
   |dic kvs=>obtain⟨vs,q,_⟩:=R.dic p kvs e;rw[h] at q;cases q
 ·cases e:F p with
  |false=>rfl
  |true=>obtain⟨_,o,q⟩:=R.hid p e;rw[h] at q;cases q
theorem Rep.lay(R:Rep F H ω){p:Addr}{o:HO}(h:H p=none):Rep F (upd H p o) ω/\Fr F H ω (upd H p o) ω/\cut F (upd H p o) ω p=some o:=by
 have hs:=tF (o:=o) h
 have fr:Fr F H ω (upd H p o) ω:=⟨fun b u x f e=>⟨hs _ _ e,x⟩,fun b f=>by
  obtain⟨_,u,q⟩:=R.hid b f
  rw[aD (aW q h)]⟩
 obtain⟨f1,f2⟩:=R.free h;refine⟨⟨fun l xs e=>?_,fun l ds e=>(R.frz l ds e).same fr.same,fun b f=>?_,fun l ks e=>(by obtain⟨vs,e1,e2⟩:=R.dic l ks e;exact⟨vs,hs _ _ e1,e2.same fr.same⟩)⟩,fr,cx.mpr ⟨by rw[f1];rfl,f2,bY⟩⟩
 ·obtain⟨vs,e1,e2⟩:=R.own l xs e
  exact⟨vs,hs _ _ e1,e2.same fr.same⟩
 ·obtain⟨x,u,q⟩:=R.hid b f
  exact⟨x,u,hs _ _ q⟩
theorem Dg{l:Addr}{xs ys:List AV}{o:HO}(h:ω l=some (.own xs)):cut F (upd H l o) (ω.put l (.own ys))=cut F H ω:=by
 funext b
 unfold cut Om.put;by_cases hb:b=l
 ·subst hb;rw[if_pos rfl,h];simp[ow]
 ·rw[if_neg hb,aD hb]
theorem Rep.write(R:Rep F H ω){l:Addr}{xs ys:List AV}{vs:List V}(h:ω l=some (.own xs))(hv:RVs (cut F H ω) ys vs):
  Rep F (upd H l (.lst vs)) (ω.put l (.own ys))/\Fr F H ω (upd H l (.lst vs)) (ω.put l (.own ys)):=by
 have c:=Dg (F:=F) (H:=H) (ys:=ys) (o:=.lst vs) h
 refine ⟨⟨fun k zs e=>?_,fun k ds e=>?_,fun b f=>?_,fun k ks e=>(by
  have hk:k≠l:=fun z=>(by subst z;rw[Om.Nr] at e;cases e)
  rw[Om.Nt hk] at e;rw[c,aD hk];exact R.dic k ks e)⟩,fun b o x f e=>?_,fun b f=>?_⟩
 ·rw[c]
  by_cases hk:k=l
  ·subst hk;rw[Om.Nr] at e;cases e;exact⟨vs,bY,hv⟩
  ·rw[Om.Nt hk] at e;rw[aD hk];exact R.own k zs e
 ·rw[c]
  by_cases hk:k=l
  ·subst hk;rw[Om.Nr] at e;cases e
  ·rw[Om.Nt hk] at e;exact R.frz k ds e
 ·obtain⟨x,o,q⟩:=R.hid b f
  have hb:b≠l:=fun z=>by subst z;rw[h] at x;cases x
  exact⟨by rw[Om.Nt hb];exact x,o,by rw[aD hb];exact q⟩
 ·have hb:b≠l:=fun z=>by subst z;rw[h] at x;cases x
  rw[Om.Nt hb,aD hb];exact⟨e,x⟩
 ·obtain⟨x,o,q⟩:=R.hid b f
  have hb:b≠l:=fun z=>by subst z;rw[h] at x;cases x
  exact aD hb
theorem Rep.mk'(R:Rep F H ω){l:Addr}{xs:List AV}{vs:List V}(h:H l=none)(hv:RVs (cut F H ω) xs vs):
  Rep F (upd H l (.lst vs)) (ω.put l (.own xs))/\Fr F H ω (upd H l (.lst vs)) (ω.put l (.own xs)):=by
 obtain⟨f1,f2⟩:=R.free h
 have c:cut F (upd H l (.lst vs)) (ω.put l (.own xs))=cut F H ω:=by
  funext b
  unfold cut Om.put;by_cases hb:b=l
  ·subst hb;rw[if_pos rfl,f1,f2,h];simp[ow]
  ·rw[if_neg hb,aD hb]
 refine ⟨⟨fun k zs e=>?_,fun k ds e=>?_,fun b f=>?_,fun k ks e=>(by
  have hk:k≠l:=fun z=>(by subst z;rw[Om.Nr] at e;cases e)
  rw[Om.Nt hk] at e;rw[c,aD hk];exact R.dic k ks e)⟩,fun b o x f e=>?_,fun b f=>?_⟩
 ·rw[c]
  by_cases hk:k=l
  ·subst hk;rw[Om.Nr] at e;cases e;exact⟨vs,bY,hv⟩
  ·rw[Om.Nt hk] at e;rw[aD hk];exact R.own k zs e
 ·rw[c]
  by_cases hk:k=l
  ·subst hk;rw[Om.Nr] at e;cases e
  ·rw[Om.Nt hk] at e;exact R.frz k ds e
 ·obtain⟨x,o,q⟩:=R.hid b f
  have hb:b≠l:=aW q h;exact⟨by rw[Om.Nt hb];exact x,o,by rw[aD hb];exact q⟩
 ·have hb:b≠l:=aW e h
  rw[Om.Nt hb,aD hb];exact⟨e,x⟩
 ·obtain⟨x,o,q⟩:=R.hid b f
  exact aD (aW q h)
theorem Rep.freeze(R:Rep F H ω){l:Addr}{ds:List D}(h:ω l=some (.own (ds.map AV.d))):
  Rep F H (ω.put l (.frz ds))/\Fr F H ω H (ω.put l (.frz ds))/\Dat (cut F H (ω.put l (.frz ds))) (.lst ds) (.ref l):=by
 have fr:Fr F H ω H (ω.put l (.frz ds)):=⟨fun b o x f e=>⟨e,by
  by_cases hb:b=l
  ·subst hb;rw[h] at x;cases x
  ·rw[Om.Nt hb];exact x⟩,fun _ _=>rfl⟩
 obtain⟨vs,e1,e2⟩:=R.own l _ h
 have hF:F l=false:=by
  cases e:F l with
  |false=>rfl
  |true=>have:=(R.hid l e).1;rw[h] at this;cases this
 have dl:Dat (cut F H (ω.put l (.frz ds))) (.lst ds) (.ref l):=by
  simp only[Dat];exact⟨l,vs,rfl,cx.mpr ⟨by rw[Om.Nr];rfl,hF,e1⟩,(RVs.dats.mp e2).same fr.same⟩
 refine ⟨⟨fun k zs e=>?_,fun k es e=>?_,fun b f=>?_,fun k ks e=>(by
  have hk:k≠l:=fun z=>(by subst z;rw[Om.Nr] at e;cases e)
  rw[Om.Nt hk] at e;obtain⟨us,q1,q2⟩:=R.dic k ks e;exact⟨us,q1,q2.same fr.same⟩)⟩,fr,dl⟩
 ·by_cases hk:k=l
  ·subst hk;rw[Om.Nr] at e;cases e
  ·rw[Om.Nt hk] at e
   obtain⟨us,q1,q2⟩:=R.own k zs e;exact⟨us,q1,q2.same fr.same⟩
 ·by_cases hk:k=l
  ·subst hk;rw[Om.Nr] at e;cases e;exact dl
  ·rw[Om.Nt hk] at e;exact(R.frz k es e).same fr.same
 ·obtain⟨x,o,q⟩:=R.hid b f
  have hb:b≠l:=fun z=>by subst z;rw[h] at x;cases x
  exact⟨by rw[Om.Nt hb];exact x,o,q⟩
theorem Rep.hide(R:Rep F H ω){l:Addr}{vs:List V}(h:H l=none):Rep (F.add l) (upd H l (.lst vs)) ω/\cut (F.add l) (upd H l (.lst vs)) ω=cut F H ω:=by
 obtain⟨f1,f2⟩:=R.free h
 have c:cut (F.add l) (upd H l (.lst vs)) ω=cut F H ω:=by
  funext b
  unfold cut Fs.add;by_cases hb:b=l
  ·subst hb;simp[h]
  ·rw[aD hb];simp[hb]
 refine⟨⟨fun k zs e=>?_,fun k ds e=>?_,fun b f=>?_,fun k ks e=>(by rw[c];obtain⟨us,q1,q2⟩:=R.dic k ks e;exact⟨us,by rw[aD (aW q1 h)];exact q1,q2⟩)⟩,c⟩
 ·rw[c]
  obtain⟨us,q1,q2⟩:=R.own k zs e;exact⟨us,by rw[aD (aW q1 h)];exact q1,q2⟩
 ·rw[c];exact R.frz k ds e
 ·by_cases hb:b=l
  ·subst hb;exact⟨f1,_,bY⟩
  ·have f':F b=true:=by simpa[Fs.add,hb] using f
   obtain⟨x,o,q⟩:=R.hid b f';exact⟨x,o,by rw[aD hb];exact q⟩
theorem Rep.hwrite(R:Rep F H ω){l:Addr}{vs:List V}(h:F l=true):Rep F (upd H l (.lst vs)) ω/\cut F (upd H l (.lst vs)) ω=cut F H ω:=by
 have c:cut F (upd H l (.lst vs)) ω=cut F H ω:=by
  funext b
  unfold cut;by_cases hb:b=l
  ·subst hb;simp[h]
  ·rw[aD hb]
 refine ⟨⟨fun k zs e=>?_,fun k ds e=>?_,fun b f=>?_,fun k ks e=>(by
  have hk:k≠l:=fun z=>(by subst z;rw[(R.hid _ h).1] at e;cases e)
  rw[c,aD hk];exact R.dic k ks e)⟩,c⟩
 ·rw[c]
  obtain⟨us,q1,q2⟩:=R.own k zs e;have hk:k≠l:=fun z=>by subst z;rw[(R.hid _ h).1] at e;cases e
  exact⟨us,by rw[aD hk];exact q1,q2⟩
 ·rw[c];exact R.frz k ds e
 ·by_cases hb:b=l
  ·subst hb;exact⟨(R.hid _ h).1,_,bY⟩
  ·obtain⟨x,o,q⟩:=R.hid b f
   exact⟨x,o,by rw[aD hb];exact q⟩
theorem Rep.unhide{l:Addr}{vs:List V}(R:Rep (F.add l) H ω)(hF:F l=false)(h:H l=some (.lst vs)):
  Rep F H ω/\db (cut (F.add l) H ω) (cut F H ω)/\cut F H ω l=some (.lst vs):=by
 have hl:ω l=none:=(R.hid l (by simp[Fs.add])).1
 have sm:db (cut (F.add l) H ω) (cut F H ω):=fun b o e=>by
  obtain⟨x,f,e⟩:=cx.mp e;refine cx.mpr ⟨x,?_,e⟩;unfold Fs.add at f
  cases q:F b with
  |false=>rfl
  |true=>rw[q] at f;simp at f
 refine⟨⟨fun k zs e=>?_,fun k ds e=>(R.frz k ds e).same sm,fun b f=>R.hid b (by simp[Fs.add,f]),fun k ks e=>(by obtain⟨us,q1,q2⟩:=R.dic k ks e;exact⟨us,q1,q2.same sm⟩)⟩,sm,cx.mpr ⟨by rw[hl];rfl,hF,h⟩⟩
 obtain⟨us,q1,q2⟩:=R.own k zs e;exact⟨us,q1,q2.same sm⟩
end
noncomputable def LP{α β:Type}(R:Hp->α->β->Prop)(F:Fs)(H:Hp)(ω:Om)(Q':α->Om->Prop)(Q:β->Hp->Prop):Prop:=
 ∀a ω' v H',Rep F H' ω'->Fr F H ω H' ω'->R (cut F H' ω') a v->Q' a ω'->Q v H'
theorem LP.fr{α β:Type}{R:Hp->α->β->Prop}{F:Fs}{H H1:Hp}{ω ω1:Om}{Q':α->Om->Prop}{Q:β->Hp->Prop}(k:LP R F H ω Q' Q)(f:Fr F H ω H1 ω1):LP R F H1 ω1 Q' Q:=
 fun a ω' v H' rp fr rv q=>k a ω' v H' rp (f.trans fr) rv q
structure Ref{α β:Type}(R:Hp->α->β->Prop)(t:St->Hp->(β->Hp->Prop)->Prop)(t':SA->Om->(α->Om->Prop)->Prop):Prop where
 run:∀(F:Fs)(H:Hp)(ω:Om)(σ:St)(ρ:SA)(Q:β->Hp->Prop)(Q':α->Om->Prop),Rep F H ω->RS (cut F H ω) ρ σ->t' ρ ω Q'->LP R F H ω Q' Q->t σ H Q
theorem Ref.go{α β:Type}{R:Hp->α->β->Prop}{t:St->Hp->(β->Hp->Prop)->Prop}{t':SA->Om->(α->Om->Prop)->Prop}(h:Ref R t t'){F:Fs}{H:Hp}{ω:Om}{σ:St}{ρ:SA}{Q:β->Hp->Prop}{Q':α->Om->Prop}(rp:Rep F H ω)(rs:RS (cut F H ω) ρ σ)(w:t' ρ ω Q')(k:∀a ω1 v H1,Rep F H1 ω1->Fr F H ω H1 ω1->RS (cut F H1 ω1) ρ σ->R (cut F H1 ω1) a v->Q' a ω1->Q v H1):t σ H Q:=
 h.run F H ω σ ρ Q Q' rp rs w fun a ω1 v H1 rp1 fr1 rv q=>k a ω1 v H1 rp1 fr1 (rs.same fr1.same) rv q
noncomputable abbrev AE:=SA->Om->(AV->Om->Prop)->Prop
noncomputable abbrev AT:=SA->Om->(Bool->Om->Prop)->Prop
noncomputable abbrev AA:=SA->Om->(List AV->Om->Prop)->Prop
noncomputable def REq{α:Type}(_:Hp)(a b:α):Prop:=a=b
noncomputable abbrev bj(t:TE)(t':AE):Prop:=Ref RV t t'
noncomputable abbrev lu(t:TT)(t':AT):Prop:=Ref REq t t'
noncomputable abbrev nV(t:TA)(t':AA):Prop:=Ref RVs t t'
structure cy where
 nx:SA->Om->Prop
 rt:AV->Om->Prop
 bk:SA->Om->Prop:=fun _ _=>False
 ct:SA->Om->Prop:=fun _ _=>False
noncomputable abbrev AS:=cy->SA->Om->Prop
structure LE(F:Fs)(H:Hp)(ω:Om)(D':cy)(D:nu):Prop where
 nx:LP RS F H ω D'.nx D.nx
 rt:LP RV F H ω D'.rt D.rt
 bk:LP RS F H ω D'.bk D.bk
 ct:LP RS F H ω D'.ct D.ct
theorem LE.fr{F:Fs}{H H1:Hp}{ω ω1:Om}{D':cy}{D:nu}(k:LE F H ω D' D)(f:Fr F H ω H1 ω1):LE F H1 ω1 D' D:=⟨k.nx.fr f,k.rt.fr f,k.bk.fr f,k.ct.fr f⟩
structure jT(t:TS)(t':AS):Prop where
 run:∀(F:Fs)(H:Hp)(ω:Om)(σ:St)(ρ:SA)(D:nu)(D':cy),Rep F H ω->RS (cut F H ω) ρ σ->t' D' ρ ω->LE F H ω D' D->t D σ H
noncomputable abbrev AG:=AV->SA->Om->(SA->Om->Prop)->Prop
noncomputable abbrev AGs:=List AV->SA->Om->(SA->Om->Prop)->Prop
structure uq(g:TG)(g':AG):Prop where
 run:∀(F:Fs)(H:Hp)(ω:Om)(σ:St)(ρ:SA)(v:V)(a:AV)(Q:St->Hp->Prop)(Q':SA->Om->Prop),Rep F H ω->RS (cut F H ω) ρ σ->RV (cut F H ω) a v->g' a ρ ω Q'->LP RS F H ω Q' Q->g v σ H Q
structure Bq(g:TGs)(g':AGs):Prop where
 run:∀(F:Fs)(H:Hp)(ω:Om)(σ:St)(ρ:SA)(v:List V)(a:List AV)(Q:St->Hp->Prop)(Q':SA->Om->Prop),Rep F H ω->RS (cut F H ω) ρ σ->RVs (cut F H ω) a v->g' a ρ ω Q'->LP RS F H ω Q' Q->g v σ H Q
noncomputable abbrev ASp:=List AV->Om->(AV->Om->Prop)->Prop
noncomputable def bo(sp:ASp):Sp:=fun vs H Q _=>∃(F:Fs)(xs:List AV)(ω:Om)(Q':AV->Om->Prop),Rep F H ω/\RVs (cut F H ω) xs vs/\sp xs ω Q'/\LP RV F H ω Q' Q
noncomputable def IC:AS:=fun D ρ ω=>D.nx ρ ω
noncomputable def yG(t u:AS):AS:=fun D ρ ω=>t { D with nx:=u D } ρ ω
noncomputable def ID:AS:=fun D ρ ω=>D.ct ρ ω
noncomputable def u7(te:AE):AS:=fun D ρ ω=>te ρ ω fun _ ω1=>D.nx ρ ω1
noncomputable def Mw(te:AE):AS:=fun D ρ ω=>te ρ ω D.rt
noncomputable def Hm(c:AT)(t u:AS):AS:=fun D ρ ω=>c ρ ω fun b ω1=>if b=true then t D ρ ω1 else u D ρ ω1
noncomputable def KM:AS:=fun _ _ _=>False
noncomputable def JM(te:AE)(g:AG):AS:=fun D ρ ω=>te ρ ω fun x ω1=>g x ρ ω1 D.nx
noncomputable def J5(c:AT)(tb:AS):AS:=fun D ρ ω=>∃W:Nat->SA->Om->Prop,(∃m,W m ρ ω)/\∀m ρ ω,W m ρ ω ->
 c ρ ω fun b ω1=>if b=true then ∃N:SA->Om->Prop,(∀ρ' ω',N ρ' ω'->∃m',m'<m/\W m' ρ' ω')/\tb { D with nx:=N,ct:=N,bk:=D.nx } ρ ω1 else D.nx ρ ω1
noncomputable def gq(i:Nat):AG:=fun v ρ ω Q=>Q (ρ.set i (some v)) ω
noncomputable def Bx:AGs:=fun vs ρ ω Q=>vs=[]/\Q ρ ω
noncomputable def pK(t:AG)(u:AGs):AGs:=fun vs ρ ω Q=>∃v r,vs=v::r/\t v ρ ω fun ρ' ω'=>u r ρ' ω' Q
section
variable{t u:TS}{t' u':AS}{te:TE}{te':AE}{tc:TT}{tc':AT}{g:TG}{g':AG}{gs:TGs}{gs':AGs}
theorem RS.set{G:Hp}{ρ:SA}{σ:St}{i:Nat}{a:AV}{v:V}(h:RS G ρ σ)(r:RV G a v):RS G (ρ.set i (some a)) (σ.set i (some v)):=by
 refine⟨by simp[h.1],fun j b e=>?_⟩
 by_cases hj:j=i
 ·subst hj
  rw[List.getElem?_set] at e;rw[List.getElem?_set];simp only[if_true] at e ⊢;split at e
  ·rename_i hl
   cases e;rw[if_pos (h.1 ▸ hl)];exact⟨v,rfl,r⟩
  ·cases e
 ·rw[List.getElem?_set_ne (Ne.symm hj)] at e
  rw[List.getElem?_set_ne (Ne.symm hj)];exact h.2 j b e
theorem bE:jT Jw IC:=⟨fun F H ω σ ρ D D' rp rs h k=>k.nx ρ ω σ H rp .refl rs h⟩
theorem av(h1:jT t t')(h2:jT u u'):jT (Mg t u) (yG t' u'):=⟨fun F H ω σ ρ D D' rp rs h k=>
 h1.run F H ω σ ρ _ _ rp rs h ⟨fun ρ1 ω1 σ1 H1 rp1 fr1 rs1 q=>h2.run F H1 ω1 σ1 ρ1 D D' rp1 rs1 q (k.fr fr1),k.rt,k.bk,k.ct⟩⟩
theorem KR:jT Iw ID:=⟨fun F H ω σ ρ D D' rp rs h k=>k.ct ρ ω σ H rp .refl rs h⟩
theorem c9(h:bj te te'):jT (Jk te) (u7 te'):=⟨fun F H ω σ ρ D D' rp rs w k=>h.go rp rs w fun a ω1 v H1 rp1 fr1 rs1 rv q=>k.nx ρ ω1 σ H1 rp1 fr1 rs1 q⟩
theorem aO(h:bj te te'):jT (LG te) (Mw te'):=⟨fun F H ω σ ρ D D' rp rs w k=>h.run F H ω σ ρ _ _ rp rs w k.rt⟩
theorem dX(hc:lu tc tc')(h1:jT t t')(h2:jT u u'):jT (Ly tc t u) (Hm tc' t' u'):=⟨fun F H ω σ ρ D D' rp rs w k=>
 hc.go rp rs w fun a ω1 v H1 rp1 fr1 rs1 rv q=>by
  cases (show a=v from rv)
  cases a with
  |true=>rw[if_pos rfl] at q ⊢;exact h1.run F H1 ω1 σ ρ D D' rp1 rs1 q (k.fr fr1)
  |false=>rw[if_neg Bool.false_ne_true] at q ⊢;exact h2.run F H1 ω1 σ ρ D D' rp1 rs1 q (k.fr fr1)⟩
theorem Ct:jT t KM:=⟨fun F H ω σ ρ D D' rp rs w k=>w.elim⟩
theorem aN(h:bj te te')(hg:uq g g'):jT (Ip te g) (JM te' g'):=⟨fun F H ω σ ρ D D' rp rs w k=>h.go rp rs w fun a ω1 v H1 rp1 fr1 rs1 rv q=>
 hg.run F H1 ω1 σ ρ v a _ _ rp1 rs1 rv q (k.nx.fr fr1)⟩
theorem ao{i:Nat}:uq (BP i) (gq i):=⟨fun F H ω σ ρ v a Q Q' rp rs rv w k=>k _ ω _ H rp .refl (rs.set rv) w⟩
theorem fV:Bq Ma Bx:=⟨fun F H ω σ ρ vs as Q Q' rp rs rv w k=>by
 obtain⟨rfl,w⟩:=w
 exact⟨rv,k ρ ω σ H rp .refl rs w⟩⟩
theorem aV(h1:uq g g')(h2:Bq gs gs'):Bq (IJ g gs) (pK g' gs'):=⟨fun F H ω σ ρ vs as Q Q' rp rs rv w k=>by
 obtain⟨a,r,rfl,w⟩:=w;obtain⟨v,us,rfl,rv1,rv2⟩:=rv
 exact⟨v,us,rfl,h1.run F H ω σ ρ v a _ _ rp rs rv1 w fun ρ1 ω1 σ1 H1 rp1 fr1 rs1 q=>h2.run F H1 ω1 σ1 ρ1 us r Q Q' rp1 rs1 (rv2.same fr1.same) q (k.fr fr1)⟩⟩
theorem oH(hc:lu tc tc')(hb:jT t t'):jT (F3 tc t) (J5 tc' t'):=⟨fun F H ω σ ρ D D' rp rs w k=>by
 obtain⟨W,⟨m0,w0⟩,turn⟩:=w;refine⟨fun m σ1 H1=>∃ρ1 ω1,Rep F H1 ω1/\RS (cut F H1 ω1) ρ1 σ1/\Fr F H ω H1 ω1/\W m ρ1 ω1,⟨m0,ρ,ω,rp,rs,.refl,w0⟩,?_⟩;rintro m σ1 H1 ⟨ρ1,ω1,rp1,rs1,fr1,w1⟩;refine hc.go rp1 rs1 (turn m ρ1 ω1 w1) fun a ω2 v H2 rp2 fr2 rs2 rv q=>?_;cases (show a=v from rv)
 have k2:=k.fr (fr1.trans fr2)
 cases a with
 |true=>
  rw[if_pos rfl] at q ⊢;obtain⟨N,hN,q⟩:=q;refine⟨fun σ' H'=>∃ρ' ω',Rep F H' ω'/\RS (cut F H' ω') ρ' σ'/\Fr F H ω H' ω'/\N ρ' ω',?_,hb.run F H2 ω2 σ1 ρ1 _ _ rp2 rs2 q ⟨?_,k2.rt,k2.nx,?_⟩⟩
  ·rintro σ' H' ⟨ρ',ω',e1,e2,e3,e4⟩
   obtain⟨m',hm,z⟩:=hN _ _ e4;exact⟨m',hm,ρ',ω',e1,e2,e3,z⟩
  ·exact fun ρ' ω' σ' H' e1 e2 e3 e4=>⟨ρ',ω',e1,e3,(fr1.trans fr2).trans e2,e4⟩
  ·exact fun ρ' ω' σ' H' e1 e2 e3 e4=>⟨ρ',ω',e1,e3,(fr1.trans fr2).trans e2,e4⟩
 |false=>
  rw[if_neg Bool.false_ne_true] at q ⊢
  exact k2.nx ρ1 ω2 σ1 H2 rp2 .refl rs2 q⟩
end
noncomputable def wM(G:Hp)(as:List AV)(J:It):Prop:=∀(F:Fs)(H:Hp)(ω:Om),Rep F H ω->db G (cut F H ω)->J.stop as.length H /\
 ∀(i:Nat)(a:AV),as[i]?=some a->J.go i H/\∀x H',J.yld i H x H'->Rep F H' ω/\Fr F H ω H' ω/\RV (cut F H' ω) a x
noncomputable abbrev AI:=SA->Om->(List AV->Om->Prop)->Prop
noncomputable abbrev x9(t:TI)(t':AI):Prop:=Ref wM t t'
noncomputable def mn(g:AG)(tb:AS)(D:cy):List AV->SA->Om->Prop
 | [],ρ,ω=>D.nx ρ ω
 |a::as,ρ,ω=>g a ρ ω fun ρ1 ω1=>tb { nx:=mn g tb D as,ct:=mn g tb D as,bk:=D.nx,rt:=D.rt } ρ1 ω1
noncomputable def Mn(wi:AI)(g:AG)(tb:AS):AS:=fun D ρ ω=>wi ρ ω fun as ω1=>mn g tb D as ρ ω1
theorem mJ{α:Type}{as:List α}{i:Nat}(h:i<as.length):∃a,as[i]?=some a/\as.drop i=a::as.drop (i+1):=
 ⟨as[i],List.getElem?_eq_getElem h,List.drop_eq_getElem_cons h⟩
theorem lp{wi:TI}{wi':AI}{g:TG}{g':AG}{t:TS}{t':AS}(hi:x9 wi wi')(hg:uq g g')(hb:jT t t'):jT (KU wi g t) (Mn wi' g' t'):=⟨fun F H ω σ ρ D D' rp rs w k=>by
 rw[H9];refine hi.go rp rs w fun as ω1 J H1 rp1 fr1 rs1 it q=>?_;refine⟨fun i m σ2 H2=>m+i=as.length/\∃ρ2 ω2,Rep F H2 ω2/\RS (cut F H2 ω2) ρ2 σ2/\Fr F H1 ω1 H2 ω2/\mn g' t' D' (as.drop i) ρ2 ω2,⟨as.length,rfl,ρ,ω1,rp1,rs1,.refl,q⟩,?_⟩;rintro i m σ2 H2 ⟨hm,ρ2,ω2,rp2,rs2,fr2,q2⟩;obtain⟨stop,go⟩:=it F H2 ω2 rp2 fr2.same;by_cases hl:i<as.length
 ·obtain⟨a,ha,hd⟩:=mJ hl
  rw[hd] at q2;obtain⟨g1,y1⟩:=go i a ha;refine .inr ⟨g1,fun σ' H'=>m-1+(i+1)=as.length/\∃ρ' ω',Rep F H' ω'/\RS (cut F H' ω') ρ' σ'/\Fr F H1 ω1 H' ω'/\mn g' t' D' (as.drop (i+1)) ρ' ω',fun σ' H' z=>⟨m-1,by omega,z⟩,fun x H' hy=>?_⟩
  obtain⟨rp3,fr3,rv3⟩:=y1 x H' hy;have fr13:=(fr2.trans fr3);refine hg.run F H' ω2 σ2 ρ2 x a _ _ rp3 (rs2.same fr3.same) rv3 q2 fun ρ4 ω4 σ4 H4 rp4 fr4 rs4 q4=>?_;have k4:=k.fr ((fr1.trans fr13).trans fr4);refine hb.run F H4 ω4 σ4 ρ4 _ _ rp4 rs4 q4 ⟨?_,k4.rt,k4.nx,?_⟩
  ·exact fun ρ' ω' σ' H'' e1 e2 e3 e4=>⟨by omega,ρ',ω',e1,e3,(fr13.trans fr4).trans e2,e4⟩
  ·exact fun ρ' ω' σ' H'' e1 e2 e3 e4=>⟨by omega,ρ',ω',e1,e3,(fr13.trans fr4).trans e2,e4⟩
 ·have hi:i=as.length:=by omega
  subst hi;rw[List.drop_length] at q2
  exact .inl ⟨stop,k.nx ρ2 ω2 σ2 H2 rp2 (fr1.trans fr2) rs2 q2⟩⟩
noncomputable abbrev AL:=List AV->SA->Om->(List AV->SA->Om->Prop)->Prop
structure Fa(l:Addr)(F:Fs)(H:Hp)(ω:Om)(H':Hp)(ω':Om):Prop where
 st:∀b o,ow (ω b)=false->F b=false->H b=some o->H' b=some o/\ow (ω' b)=false
 hd:∀b,F b=true->b≠l->H' b=H b
theorem Fr.fa{l:Addr}{F:Fs}{H H':Hp}{ω ω':Om}(h:Fr F H ω H' ω'):Fa l F H ω H' ω':=⟨h.st,fun b f _=>h.hd b f⟩
theorem Fa.trans{l:Addr}{F:Fs}{H H1 H2:Hp}{ω ω1 ω2:Om}(a:Fa l F H ω H1 ω1)(b:Fa l F H1 ω1 H2 ω2):Fa l F H ω H2 ω2:=
 ⟨fun c o h f e=>let ⟨x,y⟩:=a.st c o h f e;b.st c o y f x,fun c h n=>(b.hd c h n).trans (a.hd c h n)⟩
theorem Fa.same{l:Addr}{F:Fs}{H H':Hp}{ω ω':Om}(a:Fa l F H ω H' ω'):db (cut F H ω) (cut F H' ω'):=fun b o e=>by
 obtain⟨h,f,e⟩:=cx.mp e;obtain⟨x,y⟩:=a.st b o h f e;exact cx.mpr ⟨y,f,x⟩
noncomputable def LL(l:Addr)(F:Fs)(H:Hp)(ω:Om)(K':List AV->SA->Om->Prop)(K:St->Hp->Prop):Prop:=
 ∀xs vs ρ ω' σ H',Rep F H' ω'->Fa l F H ω H' ω'->RS (cut F H' ω') ρ σ->H' l=some (.lst vs)->RVs (cut F H' ω') xs vs->K' xs ρ ω'->K σ H'
theorem LL.fa{l:Addr}{F:Fs}{H H1:Hp}{ω ω1:Om}{K':List AV->SA->Om->Prop}{K:St->Hp->Prop}(k:LL l F H ω K' K)(f:Fa l F H ω H1 ω1):LL l F H1 ω1 K' K:=
 fun xs vs ρ ω' σ H' e1 e2 e3 e4 e5 e6=>k xs vs ρ ω' σ H' e1 (f.trans e2) e3 e4 e5 e6
structure CV(l:TL)(l':AL):Prop where
 run:∀(F:Fs)(H:Hp)(ω:Om)(σ:St)(ρ:SA)(acc:Addr)(vs:List V)(xs:List AV)(K:St->Hp->Prop)(K':List AV->SA->Om->Prop),Rep F H ω->RS (cut F H ω) ρ σ->F acc=true->H acc=some (.lst vs)->RVs (cut F H ω) xs vs ->
  l' xs ρ ω K'->LL acc F H ω K' K->l acc σ H K
noncomputable def ph:AT:=fun _ ω Q=>Q true ω
noncomputable def ll(te:AE):AL:=fun xs ρ ω K=>te ρ ω fun y ω1=>xs.length<sizeLine/\K (xs++[y]) ρ ω1
noncomputable def d9(g:AG)(tc:AT)(l:AL):List AV->AL
 | [],xs,ρ,ω,K=>K xs ρ ω
 |a::as,xs,ρ,ω,K=>g a ρ ω fun ρ1 ω1=>tc ρ1 ω1 fun b ω2=>if b=true then l xs ρ1 ω2 (fun xs' ρ' ω'=>d9 g tc l as xs' ρ' ω' K) else d9 g tc l as xs ρ1 ω2 K
noncomputable def Jq(wi:AI)(g:AG)(tc:AT)(l:AL):AL:=fun xs ρ ω K=>wi ρ ω fun as ω1=>d9 g tc l as xs ρ ω1 K
noncomputable def zd(src:List (Option Nat))(ρ:SA):SA:=src.map fun o=>match o with|none=>none|some j=>(ρ[j]?).join
noncomputable def und:List AV->Option (List D)
 | []=>some []
 |.d x::r=>(und r).map (x::·)
 |_=>none
theorem a8:∀ds:List D,und (ds.map AV.d)=some ds
 | []=>rfl
 |d::ds=>by simp[und,a8 ds]
theorem jk:∀ {xs:List AV} {ds:List D},und xs=some ds->xs=ds.map AV.d
 | [],ds,h=>by cases h;rfl
 |.d x::r,ds,h=>by
  simp only[und,Option.map_eq_some_iff] at h;obtain⟨es,e1,rfl⟩:=h;rw[jk e1];rfl
 |.r _::_,_,h=>by simp[und] at h
 |.p _ _::_,_,h=>by simp[und] at h
noncomputable def IK(src:List (Option Nat))(wi:AI)(g:AG)(tc:AT)(l:AL):AE:=fun ρ ω Q=>wi ρ ω fun as ω1=>d9 g tc l as [] (zd src ρ) ω1 fun xs _ ω'=>∃ds,und xs=some ds/\Q (.d (.lst ds)) ω'
section
variable{te:TE}{te':AE}{tc:TT}{tc':AT}{g:TG}{g':AG}{wi:TI}{wi':AI}{l:TL}{l':AL}{src:List (Option Nat)}
theorem oR:lu A7 ph:=⟨fun F H ω σ ρ Q Q' rp rs w k=>k true ω true H rp .refl rfl w⟩
theorem cM(h:bj te te'):CV (Jc te) (ll te'):=⟨fun F H ω σ ρ acc vs xs K K' rp rs fa ha rx w k=>by
 refine h.go rp rs w fun y ω1 v H1 rp1 fr1 rs1 rv q=>?_;obtain⟨q1,q2⟩:=q;have ha1:H1 acc=some (.lst vs):=(fr1.hd acc fa).trans ha;obtain⟨rp2,c2⟩:=rp1.hwrite (vs:=vs++[v]) fa;refine⟨vs,ha1,by rw[rx.length];exact q1,k (xs++[y]) (vs++[v]) ρ ω1 σ _ rp2 ?_ ?_ bY ?_ q2⟩
 ·refine fr1.fa.trans ⟨fun b o e1 e2 e3=>⟨?_,e1⟩,fun b f n=>aD n⟩
  have hb:b≠acc:=fun z=>by subst z;rw[fa] at e2;cases e2
  rw[aD hb];exact e3
 ·rw[c2];exact rs1
 ·rw[c2];exact(rx.same fr1.same).append (.one rv)⟩
theorem DK(hg:uq g g')(hc:lu tc tc')(hl:CV l l'){G:Hp}{as:List AV}{J:It}(it:wM G as J){F:Fs}{H:Hp}{ω:Om}{σ:St}{ρ:SA}{acc:Addr}{vs:List V}{xs:List AV}{K:St->Hp->Prop}{K':List AV->SA->Om->Prop}(rp:Rep F H ω)(rs:RS (cut F H ω) ρ σ)(fa:F acc=true)(ha:H acc=some (.lst vs))(rx:RVs (cut F H ω) xs vs)(sG:db G (cut F H ω))(w:d9 g' tc' l' as xs ρ ω K')(k:LL acc F H ω K' K):CI J g tc l acc σ H K:=by
 refine⟨fun i m σ2 H2=>m+i=as.length/\∃ρ2 ω2 vs2 xs2,Rep F H2 ω2/\RS (cut F H2 ω2) ρ2 σ2/\Fa acc F H ω H2 ω2/\H2 acc=some (.lst vs2)/\RVs (cut F H2 ω2) xs2 vs2/\d9 g' tc' l' (as.drop i) xs2 ρ2 ω2 K',
  ⟨as.length,rfl,ρ,ω,vs,xs,rp,rs,Fr.refl.fa,ha,rx,w⟩,?_⟩
 rintro i m σ2 H2 ⟨hm,ρ2,ω2,vs2,xs2,rp2,rs2,fr2,ha2,rx2,q2⟩;obtain⟨stop,go⟩:=it F H2 ω2 rp2 (sG.trans fr2.same);by_cases hl':i<as.length
 ·obtain⟨a,hai,hd⟩:=mJ hl'
  rw[hd] at q2;obtain⟨g1,y1⟩:=go i a hai;refine .inr ⟨g1,fun x H' hy=>?_⟩;obtain⟨rp3,fr3,rv3⟩:=y1 x H' hy;refine hg.run F H' ω2 σ2 ρ2 x a _ _ rp3 (rs2.same fr3.same) rv3 q2 fun ρ4 ω4 σ4 H4 rp4 fr4 rs4 q4=>?_;refine hc.go rp4 rs4 q4 fun b ω5 b' H5 rp5 fr5 rs5 rb q5=>?_;cases (show b=b' from rb)
  have fr25:Fr F H2 ω2 H5 ω5:=(fr3.trans fr4).trans fr5;have ha5:H5 acc=some (.lst vs2):=(fr25.hd acc fa).trans ha2;have rx5:=rx2.same fr25.same
  cases b with
  |true=>
   rw[if_pos rfl] at q5 ⊢;refine hl.run F H5 ω5 σ4 ρ4 acc vs2 xs2 _ _ rp5 rs5 fa ha5 rx5 q5 fun xs6 vs6 ρ6 ω6 σ6 H6 e1 e2 e3 e4 e5 e6=>?_;exact⟨m-1,by omega,by omega,ρ6,ω6,vs6,xs6,e1,e3,(fr2.trans fr25.fa).trans e2,e4,e5,e6⟩
  |false=>
   rw[if_neg Bool.false_ne_true] at q5 ⊢;exact⟨m-1,by omega,by omega,ρ4,ω5,vs2,xs2,rp5,rs5,fr2.trans fr25.fa,ha5,rx5,q5⟩
 ·have hi:i=as.length:=by omega
  subst hi;rw[List.drop_length] at q2;exact .inl ⟨stop,k xs2 vs2 ρ2 ω2 σ2 H2 rp2 fr2 rs2 ha2 rx2 q2⟩
theorem Jv(hi:x9 wi wi')(hg:uq g g')(hc:lu tc tc')(hl:CV l l'):CV (LV wi g tc l) (Jq wi' g' tc' l'):=⟨fun F H ω σ ρ acc vs xs K K' rp rs fa ha rx w k=>
 hi.go rp rs w fun as ω1 J H1 rp1 fr1 rs1 it q=>DK hg hc hl it rp1 rs1 fa ((fr1.hd acc fa).trans ha) (rx.same fr1.same) (db.refl _) q (k.fa fr1.fa)⟩
theorem RS.blk{G:Hp}{ρ:SA}{σ:St}(h:RS G ρ σ):RS G (zd src ρ) (y8 src σ):=by
 refine⟨by simp[zd,y8],fun i a e=>?_⟩
 unfold zd at e;unfold y8;rw[List.getElem?_map] at e ⊢
 cases q:src[i]? with
 |none=>rw[q] at e;simp at e
 |some o=>
  rw[q] at e
  cases o with
  |none=>simp at e
  |some j=>
   simp only[Option.map_some,Option.some.injEq] at e ⊢
   have e':ρ[j]?=some (some a):=by
    cases z:ρ[j]? with
    |none=>rw[z] at e;simp at e
    |some y=>rw[z] at e;simp at e;rw[e]
   obtain⟨v,e1,e2⟩:=h.2 j a e';exact⟨v,by rw[e1];rfl,e2⟩
theorem Ik(hi:x9 wi wi')(hg:uq g g')(hc:lu tc tc')(hl:CV l l'){F:Fs}{H:Hp}{ω:Om}{σ:St}{ρ:SA}{Q:VK}{K':List AV->SA->Om->Prop}(rp:Rep F H ω)(rs:RS (cut F H ω) ρ σ)(w:wi' ρ ω fun as ω1=>d9 g' tc' l' as [] (zd src ρ) ω1 K')(k:∀p xs vs ρ' ω' H',F p=false->(∀b o,ow (ω b)=false->F b=false->H b=some o->b≠p)->Rep (F.add p) H' ω'->Fr F H ω H' ω'->H' p=some (.lst vs)->RVs (cut (F.add p) H' ω') xs vs->K' xs ρ' ω'->Q (.ref p) H'):x6 src wi g tc l σ H Q:=by
 refine hi.go rp rs w fun as ω1 J H1 rp1 fr1 rs1 it q=>fun acc hacc=>?_;obtain⟨rp2,c2⟩:=rp1.hide (vs:=[]) hacc;obtain⟨f1,f2⟩:=rp1.free hacc;have hb1:∀b,b≠acc->F b=false->(F.add acc) b=false:=fun b h f=>by simp[Fs.add,h,f]
 have hne:∀b o,ow (ω b)=false->F b=false->H b=some o->b≠acc:=fun b o h f e=>aW (fr1.st b o h f e).1 hacc;refine DK (xs:=[]) hg hc hl it rp2 (by rw[c2];exact rs1.blk) (by simp[Fs.add]) bY rfl (by rw[c2];exact db.refl _) q fun xs vs ρ' ω' σ' H' e1 e2 e3 e4 e5 e6=>?_
 refine k acc xs vs ρ' ω' H' f2 hne e1 ⟨fun b o h f e=>?_,fun b f=>?_⟩ e4 e5 e6
 ·obtain⟨x,y⟩:=fr1.st b o h f e
  have hb:=hne b o h f e;exact e2.st b o y (hb1 b hb f) (by rw[aD hb];exact x)
 ·have hb:b≠acc:=fun z=>by subst z;rw[f] at f2;cases f2
  rw[e2.hd b (by simp[Fs.add,f]) hb,aD hb,fr1.hd b f]
theorem cL(hi:x9 wi wi')(hg:uq g g')(hc:lu tc tc')(hl:CV l l'):bj (x6 src wi g tc l) (IK src wi' g' tc' l'):=⟨fun F H ω σ ρ Q Q' rp rs w k=>by
 refine Ik hi hg hc hl rp rs w fun p xs vs ρ' ω' H' f hne rp1 fr1 e1 e2 q=>?_;obtain⟨ds,hu,q⟩:=q;cases jk hu;obtain⟨rp2,sm,hp⟩:=rp1.unhide f e1;refine k (.d (.lst ds)) ω' _ H' rp2 fr1 ?_ q;simp only[RV,Dat]
 exact⟨p,vs,rfl,hp,RVs.dats.mp (e2.same sm)⟩⟩
end
noncomputable def cg(ω:Om):AV->Option D
 |.d x=>some x
 |.r (.ref l)=>match ω l with
  |some (.own xs)=>(und xs).map D.lst
  |some (.frz ds)=>some (.lst ds)
  |_=>none
 |_=>none
noncomputable def hV(ω:Om):AV->Option (List AV)
 |.d (.lst ds)=>some (ds.map AV.d)
 |.r (.ref l)=>match ω l with
  |some (.own xs)=>some xs
  |some (.frz ds)=>some (ds.map AV.d)
  |_=>none
 |_=>none
noncomputable def j9:AV->Option (List AV)
 |.d (.tup ds)=>some (ds.map AV.d)
 |_=>none
noncomputable def pE(ω:Om)(x:AV)(K:D->Om->Prop):Prop:=match x with
 |.d x=>K x ω
 |.r (.ref l)=>match ω l with
  |some (.own xs)=>∃ds,und xs=some ds/\K (.lst ds) (ω.put l (.frz ds))
  |some (.frz ds)=>K (.lst ds) ω
  |_=>False
 |_=>False
section
variable{F:Fs}{H:Hp}{ω:Om}{x:AV}{v:V}
theorem wC(rp:Rep F H ω)(rv:RV (cut F H ω) x v){xs:List AV}(h:hV ω x=some xs):∃a vs,v=.ref a/\H a=some (.lst vs)/\RVs (cut F H ω) xs vs:=by
 cases x with
 |d x=>cases x with
  |lst ds=>
   simp only[hV,Option.some.injEq] at h;subst h;simp only[RV,Dat] at rv;obtain⟨a,vs,rfl,e1,e2⟩:=rv;exact⟨a,vs,rfl,a7 _ _ e1,RVs.dats.mpr e2⟩
  |_=>simp[hV] at h
 |p u P=>simp[hV] at h
 |r u=>
  cases (show v=u from rv)
  cases v with
  |ref l=>
   simp only[hV] at h
   cases e:ω l with
   |none=>rw[e] at h;simp at h
   |some c=>
    rw[e] at h
    cases c with
    |own ys=>
     simp only[Option.some.injEq] at h;subst h;obtain⟨vs,e1,e2⟩:=rp.own l _ e;exact⟨l,vs,rfl,e1,e2⟩
    |frz ds=>
     simp only[Option.some.injEq] at h;subst h;have q:=rp.frz l ds e;simp only[Dat] at q;obtain⟨a,vs,e1,e2,e3⟩:=q;cases e1;exact⟨l,vs,rfl,a7 _ _ e2,RVs.dats.mpr e3⟩
    |dic ks=>simp at h
  |_=>simp[hV] at h
theorem GM(rv:RV (cut F H ω) x v){xs:List AV}(h:j9 x=some xs):∃a vs,v=.ref a/\cut F H ω a=some (.tup vs)/\RVs (cut F H ω) xs vs:=by
 cases x with
 |d x=>cases x with
  |tup ds=>
   simp only[j9,Option.some.injEq] at h;subst h;simp only[RV,Dat] at rv;obtain⟨a,vs,rfl,e1,e2⟩:=rv;exact⟨a,vs,rfl,e1,RVs.dats.mpr e2⟩
  |_=>simp[j9] at h
 |p u P=>simp[j9] at h
 |r u=>simp[j9] at h
theorem vZ(rp:Rep F H ω)(rv:RV (cut F H ω) x v){d:D}(h:cg ω x=some d):Dat H d v:=by
 cases x with
 |d x=>
  simp only[cg,Option.some.injEq] at h;subst h;exact Dat.same a7 rv
 |p u P=>simp[cg] at h
 |r u=>
  cases (show v=u from rv)
  cases v with
  |ref l=>
   simp only[cg] at h
   cases e:ω l with
   |none=>rw[e] at h;simp at h
   |some c=>
    rw[e] at h
    cases c with
    |own ys=>
     simp only[Option.map_eq_some_iff] at h;obtain⟨ds,h1,rfl⟩:=h;cases jk h1;obtain⟨vs,e1,e2⟩:=rp.own l _ e;simp only[Dat];exact⟨l,vs,rfl,e1,(RVs.dats.mp e2).same a7⟩
    |frz ds=>
     simp only[Option.some.injEq] at h;subst h;exact(rp.frz l ds e).same a7
    |dic ks=>simp at h
  |_=>simp[cg] at h
theorem gL(rp:Rep F H ω)(rv:RV (cut F H ω) x v){ds:List D}(h:cg ω x=some (.lst ds)):∃a vs,v=.ref a/\H a=some (.lst vs)/\aM (cut F H ω) ds vs:=by
 have:hV ω x=some (ds.map AV.d):=by
  cases x with
  |d x=>simp only[cg,Option.some.injEq] at h;subst h;rfl
  |p u P=>simp[cg] at h
  |r u=>cases u with
   |ref l=>
    simp only[cg] at h;simp only[hV]
    cases e:ω l with
    |none=>rw[e] at h;simp at h
    |some c=>
     rw[e] at h
     cases c with
     |own ys=>
      simp only[Option.map_eq_some_iff] at h;obtain⟨es,h1,h2⟩:=h;cases h2;rw[jk h1]
     |frz es=>simp only[Option.some.injEq] at h;cases h;rfl
     |dic ks=>simp at h
   |_=>simp[cg] at h
 obtain⟨a,vs,e1,e2,e3⟩:=wC rp rv this;exact⟨a,vs,e1,e2,RVs.dats.mp e3⟩
theorem tP(rp:Rep F H ω)(rv:RV (cut F H ω) x v){K:D->Om->Prop}(h:pE ω x K):∃d ω',Rep F H ω'/\Fr F H ω H ω'/\Dat (cut F H ω') d v/\K d ω':=by
 cases x with
 |d x=>exact⟨x,ω,rp,.refl,rv,h⟩
 |p u P=>exact h.elim
 |r u=>
  cases (show v=u from rv)
  cases v with
  |ref l=>
   simp only[pE] at h
   cases e:ω l with
   |none=>rw[e] at h;exact h.elim
   |some c=>
    rw[e] at h
    cases c with
    |own ys=>
     obtain⟨ds,h1,h2⟩:=h;cases jk h1;obtain⟨q1,q2,q3⟩:=rp.freeze e;exact⟨_,_,q1,q2,q3,h2⟩
    |frz ds=>exact⟨_,_,rp,.refl,rp.frz l ds e,h⟩
    |dic ks=>exact h.elim
  |_=>exact h.elim
end
noncomputable abbrev A2:=AV->AV->Om->(AV->Om->Prop)->Prop
structure nv(r:R2)(r':A2):Prop where
 run:∀(F:Fs)(H:Hp)(ω:Om)(v u:V)(x y:AV)(Q:VK)(Q':AV->Om->Prop),Rep F H ω->RV (cut F H ω) x v->RV (cut F H ω) y u->r' x y ω Q'->LP RV F H ω Q' Q->r v u H Q
structure L5(r:V->Hp->VK->Prop)(r':AV->Om->(AV->Om->Prop)->Prop):Prop where
 run:∀(F:Fs)(H:Hp)(ω:Om)(v:V)(x:AV)(Q:VK)(Q':AV->Om->Prop),Rep F H ω->RV (cut F H ω) x v->r' x ω Q'->LP RV F H ω Q' Q->r v H Q
structure ug(r:List V->Hp->VK->Prop)(r':List AV->Om->(AV->Om->Prop)->Prop):Prop where
 run:∀(F:Fs)(H:Hp)(ω:Om)(vs:List V)(xs:List AV)(Q:VK)(Q':AV->Om->Prop),Rep F H ω->RVs (cut F H ω) xs vs->r' xs ω Q'->LP RV F H ω Q' Q->r vs H Q
noncomputable def ia(i:Nat):AE:=fun ρ ω Q=>∃a,ρ[i]?=some (some a)/\Q a ω
noncomputable def IS(i:Nat):AE:=fun ρ ω Q=>∃a,ρ[i]?=some (some a)/\pE ω a fun d ω'=>Q (.d d) ω'
noncomputable def aC(d:D):AE:=fun _ ω Q=>Q (.d d) ω
noncomputable def aOp(r:A2)(ta tb:AE):AE:=fun ρ ω Q=>ta ρ ω fun x ω1=>tb ρ ω1 fun y ω2=>r x y ω2 Q
noncomputable def aUn(r:AV->Om->(AV->Om->Prop)->Prop)(ta:AE):AE:=fun ρ ω Q=>ta ρ ω fun x ω1=>r x ω1 Q
noncomputable def wF:AA:=fun _ ω Q=>Q [] ω
noncomputable def ln(ta:AE)(tr:AA):AA:=fun ρ ω Q=>ta ρ ω fun x ω1=>tr ρ ω1 fun xs ω2=>Q (x::xs) ω2
noncomputable def Mb(t:AA):AE:=fun ρ ω Q=>t ρ ω fun xs ω1=>xs.length<=sizeLine/\∃ds,und xs=some ds/\Q (.d (.tup ds)) ω1
noncomputable def MP(t:AA):AE:=fun ρ ω Q=>t ρ ω fun xs ω1=>xs.length<=sizeLine/\∃ds,und xs=some ds/\Q (.d (.lst ds)) ω1
noncomputable def Ji(t:AA):AE:=fun ρ ω Q=>t ρ ω fun xs ω1=>xs.length<=sizeLine/\∀p,ω1 p=none->Q (.r (.ref p)) (ω1.put p (.own xs))
noncomputable def Gd(sp:ASp)(t:AA):AE:=fun ρ ω Q=>t ρ ω fun xs ω1=>sp xs ω1 Q
noncomputable def aCB(r:List AV->Om->(AV->Om->Prop)->Prop)(t:AA):AE:=fun ρ ω Q=>t ρ ω fun xs ω1=>r xs ω1 Q
noncomputable def vk(t:AE):AT:=fun ρ ω Q=>t ρ ω fun x ω1=>∃k,x=.d (.bl k)/\Q k ω1
noncomputable def ML(t u:AT):AT:=fun ρ ω Q=>t ρ ω fun c ω1=>if c=true then u ρ ω1 Q else Q false ω1
noncomputable def aOr(t u:AT):AT:=fun ρ ω Q=>t ρ ω fun c ω1=>if c=true then Q true ω1 else u ρ ω1 Q
noncomputable def Mv(t:AT):AT:=fun ρ ω Q=>t ρ ω fun c ω1=>Q (!c) ω1
noncomputable def aIf(t:AT)(ta tb:AE):AE:=fun ρ ω Q=>t ρ ω fun c ω1=>if c=true then ta ρ ω1 Q else tb ρ ω1 Q
section
variable{ta tb tc:TE}{ta' tb' tc':AE}{t u:TT}{t' u':AT}{r r2:R2}{r' r2':A2}{s:TA}{s':AA}
theorem ac{i:Nat}:bj (Hr i) (ia i):=⟨fun F H ω σ ρ Q Q' rp rs h k=>by
 obtain⟨a,e,q⟩:=h;obtain⟨v,e1,e2⟩:=rs.2 i a e
 exact⟨v,e1,k a ω v H rp .refl e2 q⟩⟩
theorem Ew{i:Nat}:bj (Hr i) (IS i):=⟨fun F H ω σ ρ Q Q' rp rs h k=>by
 obtain⟨a,e,q⟩:=h;obtain⟨v,e1,e2⟩:=rs.2 i a e;obtain⟨d,ω',q1,q2,q3,q4⟩:=tP rp e2 q
 exact⟨v,e1,k (.d d) ω' v H q1 q2 q3 q4⟩⟩
theorem ak{i:Int}:bj (tC (.int i)) (aC (.int i)):=⟨fun F H ω σ ρ Q Q' rp rs h k=>k _ ω _ H rp .refl (by simp[RV,Dat]) h⟩
theorem aX{x:Str}:bj (tC (.str x)) (aC (.str x)):=⟨fun F H ω σ ρ Q Q' rp rs h k=>k _ ω _ H rp .refl (by simp[RV,Dat]) h⟩
theorem lx{b:Bool}:bj (tC (.bl b)) (aC (.bl b)):=⟨fun F H ω σ ρ Q Q' rp rs h k=>k _ ω _ H rp .refl (by simp[RV,Dat]) h⟩
theorem CB:bj (tC .non) (aC .non):=⟨fun F H ω σ ρ Q Q' rp rs h k=>k _ ω _ H rp .refl (by simp[RV,Dat]) h⟩
theorem ap(h2:nv r r')(ha:bj ta ta')(hb:bj tb tb'):bj (tOp r ta tb) (aOp r' ta' tb'):=⟨fun F H ω σ ρ Q Q' rp rs h k=>
 ha.go rp rs h fun x ω1 v H1 rp1 fr1 rs1 rv1 q1=>hb.go rp1 rs1 q1 fun y ω2 u H2 rp2 fr2 rs2 rv2 q2=>h2.run F H2 ω2 v u x y Q Q' rp2 (rv1.same fr2.same) rv2 q2 (k.fr (fr1.trans fr2))⟩
theorem Kw{r:V->Hp->VK->Prop}{r':AV->Om->(AV->Om->Prop)->Prop}(h2:L5 r r')(ha:bj ta ta'):bj (tUn r ta) (aUn r' ta'):=⟨fun F H ω σ ρ Q Q' rp rs h k=>
 ha.go rp rs h fun x ω1 v H1 rp1 fr1 rs1 rv1 q1=>h2.run F H1 ω1 v x Q Q' rp1 rv1 q1 (k.fr fr1)⟩
theorem ag:nV Im wF:=⟨fun F H ω σ ρ Q Q' rp rs h k=>k [] ω _ H rp .refl rfl h⟩
theorem ab(ha:bj ta ta')(hs:nV s s'):nV (kl ta s) (ln ta' s'):=⟨fun F H ω σ ρ Q Q' rp rs h k=>
 ha.go rp rs h fun x ω1 v H1 rp1 fr1 rs1 rv1 q1=>hs.go rp1 rs1 q1 fun y ω2 u H2 rp2 fr2 rs2 rv2 q2=>k (x::y) ω2 (v::u) H2 rp2 (fr1.trans fr2) ⟨v,u,rfl,rv1.same fr2.same,rv2⟩ q2⟩
theorem a9(hs:nV s s'):bj (MQ s) (Mb s'):=⟨fun F H ω σ ρ Q Q' rp rs h k=>
 hs.go rp rs h fun xs ω1 vs H1 rp1 fr1 rs1 rv1 ⟨z,ds,hu,q1⟩=>⟨by rw[rv1.length];exact z,fun p hp=>by
  cases jk hu;obtain⟨rp2,fr2,hc⟩:=rp1.lay (o:=.tup vs) hp;refine k _ ω1 _ _ rp2 (fr1.trans fr2) ?_ q1;simp only[RV,Dat]
  exact⟨p,vs,rfl,hc,(RVs.dats.mp rv1).same fr2.same⟩⟩⟩
theorem pw(hs:nV s s'):bj (Kt s) (MP s'):=⟨fun F H ω σ ρ Q Q' rp rs h k=>
 hs.go rp rs h fun xs ω1 vs H1 rp1 fr1 rs1 rv1 ⟨z,ds,hu,q1⟩=>⟨by rw[rv1.length];exact z,fun p hp=>by
  cases jk hu;obtain⟨rp2,fr2,hc⟩:=rp1.lay (o:=.lst vs) hp;refine k _ ω1 _ _ rp2 (fr1.trans fr2) ?_ q1;simp only[RV,Dat]
  exact⟨p,vs,rfl,hc,(RVs.dats.mp rv1).same fr2.same⟩⟩⟩
theorem jc(hs:nV s s'):bj (Kt s) (Ji s'):=⟨fun F H ω σ ρ Q Q' rp rs h k=>
 hs.go rp rs h fun xs ω1 vs H1 rp1 fr1 rs1 rv1 ⟨z,q1⟩=>⟨by rw[rv1.length];exact z,fun p hp=>by
  obtain⟨rp2,fr2⟩:=rp1.mk' (vs:=vs) hp rv1
  exact k (.r (.ref p)) _ _ _ rp2 (fr1.trans fr2) rfl (q1 p (rp1.free hp).1)⟩⟩
theorem aq{sp:ASp}{E:XK}(hs:nV s s'):bj (IE (bo sp) [] E s) (Gd sp s'):=⟨fun F H ω σ ρ Q Q' rp rs h k=>
 hs.go rp rs h fun xs ω1 vs H1 rp1 fr1 rs1 rv1 q=>⟨F,xs,ω1,Q',rp1,by rw[List.append_nil];exact rv1,q,k.fr fr1⟩⟩
theorem du{r:List V->Hp->VK->Prop}{r':List AV->Om->(AV->Om->Prop)->Prop}(hr:ug r r')(hs:nV s s'):bj (tCB r s) (aCB r' s'):=⟨fun F H ω σ ρ Q Q' rp rs h k=>
 hs.go rp rs h fun xs ω1 vs H1 rp1 fr1 rs1 rv1 q=>hr.run F H1 ω1 vs xs Q Q' rp1 rv1 q (k.fr fr1)⟩
theorem aP(ha:bj ta ta'):lu (II ta) (vk ta'):=⟨fun F H ω σ ρ Q Q' rp rs h k=>
 ha.go rp rs h fun x ω1 v H1 rp1 fr1 rs1 rv1 ⟨c,e,q⟩=>by subst e;exact⟨c,by simpa[RV,Dat] using rv1,k c ω1 c H1 rp1 fr1 rfl q⟩⟩
theorem MA(h1:lu t t')(h2:lu u u'):lu (Ls t u) (ML t' u'):=⟨fun F H ω σ ρ Q Q' rp rs h k=>
 h1.go rp rs h fun c ω1 c' H1 rp1 fr1 rs1 rv1 q=>by
  cases (show c=c' from rv1)
  cases c with
  |true=>rw[if_pos rfl] at q ⊢;exact h2.run F H1 ω1 σ ρ Q Q' rp1 rs1 q (k.fr fr1)
  |false=>rw[if_neg Bool.false_ne_true] at q ⊢;exact k false ω1 false H1 rp1 fr1 rfl q⟩
theorem xD(h1:lu t t')(h2:lu u u'):lu (tOr t u) (aOr t' u'):=⟨fun F H ω σ ρ Q Q' rp rs h k=>
 h1.go rp rs h fun c ω1 c' H1 rp1 fr1 rs1 rv1 q=>by
  cases (show c=c' from rv1)
  cases c with
  |true=>rw[if_pos rfl] at q ⊢;exact k true ω1 true H1 rp1 fr1 rfl q
  |false=>rw[if_neg Bool.false_ne_true] at q ⊢;exact h2.run F H1 ω1 σ ρ Q Q' rp1 rs1 q (k.fr fr1)⟩
theorem lP(h1:lu t t'):lu (Lr t) (Mv t'):=⟨fun F H ω σ ρ Q Q' rp rs h k=>
 h1.go rp rs h fun c ω1 c' H1 rp1 fr1 rs1 rv1 q=>by
  cases (show c=c' from rv1)
  exact k _ ω1 _ H1 rp1 fr1 rfl q⟩
theorem Ck{G:Hp}{c:Bool}{v:V}(h:RV G (.d (.bl c)) v):v=.bl c:=by simpa[RV,Dat] using h
theorem Ao(h1:lu t t')(ha:bj ta ta')(hb:bj tb tb'):bj (tIf t ta tb) (aIf t' ta' tb'):=⟨fun F H ω σ ρ Q Q' rp rs h k=>
 h1.go rp rs h fun c ω1 c' H1 rp1 fr1 rs1 rv1 q=>by
  cases (show c=c' from rv1)
  cases c with
  |true=>rw[if_pos rfl] at q ⊢;exact ha.run F H1 ω1 σ ρ Q Q' rp1 rs1 q (k.fr fr1)
  |false=>rw[if_neg Bool.false_ne_true] at q ⊢;exact hb.run F H1 ω1 σ ρ Q Q' rp1 rs1 q (k.fr fr1)⟩
noncomputable def kI(ω:Om)(x:AV):Option Bool:=match x with
 |.d .non=>some false
 |.d (.bl b)=>some b
 |.d (.int i)=>some (i != 0)
 |.d (.tup ds)=>some (!ds.isEmpty)
 |x=>(hV ω x).map fun xs=>!xs.isEmpty
noncomputable def KO(ta:AE):AT:=fun ρ ω Q=>ta ρ ω fun x ω1=>∃k,kI ω1 x=some k/\Q k ω1
theorem qJ{α β:Type}{xs:List α}{ys:List β}(h:xs.length=ys.length):xs.isEmpty=ys.isEmpty:=by
 cases xs<;>cases ys<;>simp_all
theorem Av{K:W.Frag}{F:Fs}{H1:Hp}{ω1:Om}{x:AV}{v:V}{c:Bool}(rp1:Rep F H1 ω1)(rv1:RV (cut F H1 ω1) x v)(e:kI ω1 x=some c):yo K v H1 c:=by
  have ls:∀ {xs:List AV},hV ω1 x=some xs->c=(!xs.isEmpty)->yo K v H1 c:=fun {xs} e1 e2=>by
   obtain⟨a,vs,rfl,e3,e4⟩:=wC rp1 rv1 e1;exact .inl ⟨vs,.inl (.inl e3),by rw[e2,qJ e4.length.symm]⟩
  cases x with
  |d x=>cases x with
   |non=>simp only[kI,Option.some.injEq] at e;simp only[RV,Dat] at rv1;subst rv1;exact e.symm
   |bl b=>simp only[kI,Option.some.injEq] at e;simp only[RV,Dat] at rv1;subst rv1;exact e.symm
   |int b=>simp only[kI,Option.some.injEq] at e;simp only[RV,Dat] at rv1;subst rv1;exact e.symm
   |str b=>simp[kI,hV] at e
   |dk b=>simp[kI,hV] at e
   |dt b=>simp[kI,hV] at e
   |tup ds=>
    simp only[kI,Option.some.injEq] at e;simp only[RV,Dat] at rv1;obtain⟨a,vs,rfl,e1,e2⟩:=rv1;exact .inr (.inl ⟨vs,.inl (.inl (a7 _ _ e1)),by rw[←e,qJ e2.length]⟩)
   |lst ds=>
    simp only[kI,Option.map_eq_some_iff] at e;obtain⟨xs,e1,e2⟩:=e;exact ls e1 e2.symm
  |r u=>
   simp only[kI,Option.map_eq_some_iff] at e;obtain⟨xs,e1,e2⟩:=e;exact ls e1 e2.symm
  |p u P=>simp[kI,hV] at e
theorem iW{K:W.Frag}(ha:bj ta ta'):lu (fun σ H Q=>ta σ H fun x H'=>∃k,yo K x H' k/\Q k H') (KO ta'):=⟨fun F H ω σ ρ Q Q' rp rs h k=>
 ha.go rp rs h fun x ω1 v H1 rp1 fr1 rs1 rv1 ⟨c,e,q⟩=>⟨c,Av rp1 rv1 e,k c ω1 c H1 rp1 fr1 rfl q⟩⟩
end
noncomputable def aI0(f:Int->Int->D):A2:=fun x y ω Q=>∃i j,x=.d (.int i)/\y=.d (.int j)/\Q (.d (f i j)) ω
noncomputable def aI(C:Int->Int->Prop)(f:Int->Int->D):A2:=fun x y ω Q=>∃i j,x=.d (.int i)/\y=.d (.int j)/\C i j/\Q (.d (f i j)) ω
noncomputable def aU(f:Int->D):AV->Om->(AV->Om->Prop)->Prop:=fun x ω Q=>∃i,x=.d (.int i)/\Q (.d (f i)) ω
section
variable{F:Fs}{H:Hp}{ω:Om}{Q:VK}{Q':AV->Om->Prop}
theorem LP.int(k:LP RV F H ω Q' Q)(rp:Rep F H ω){i:Int}(q:Q' (.d (.int i)) ω):Q (.int i) H:=k (.d (.int i)) ω _ H rp .refl (by simp[RV,Dat]) q
theorem LP.bl(k:LP RV F H ω Q' Q)(rp:Rep F H ω){i:Bool}(q:Q' (.d (.bl i)) ω):Q (.bl i) H:=k (.d (.bl i)) ω _ H rp .refl (by simp[RV,Dat]) q
theorem cC{G:Hp}{i:Int}{v:V}(h:RV G (.d (.int i)) v):v=.int i:=by simpa[RV,Dat] using h
theorem s0{G:Hp}{i:Str}{v:V}(h:RV G (.d (.str i)) v):v=.str i:=by simpa[RV,Dat] using h
theorem KI{G:Hp}{v:V}(h:RV G (.d .non) v):v=.non:=by simpa[RV,Dat] using h
theorem LP.tup(k:LP RV F H ω Q' Q)(rp:Rep F H ω){ds:List D}{vs:List V}(hd:aM (cut F H ω) ds vs)(q:Q' (.d (.tup ds)) ω):∀p,H p=none->Q (.ref p) (upd H p (.tup vs)):=fun p hp=>by
 obtain⟨rp2,fr2,hc⟩:=rp.lay (o:=.tup vs) hp;refine k (.d (.tup ds)) ω _ _ rp2 fr2 ?_ q;simp only[RV,Dat];exact⟨p,vs,rfl,hc,hd.same fr2.same⟩
theorem LP.lst(k:LP RV F H ω Q' Q)(rp:Rep F H ω){ds:List D}{vs:List V}(hd:aM (cut F H ω) ds vs)(q:Q' (.d (.lst ds)) ω):∀p,H p=none->Q (.ref p) (upd H p (.lst vs)):=fun p hp=>by
 obtain⟨rp2,fr2,hc⟩:=rp.lay (o:=.lst vs) hp;refine k (.d (.lst ds)) ω _ _ rp2 fr2 ?_ q;simp only[RV,Dat];exact⟨p,vs,rfl,hc,hd.same fr2.same⟩
theorem LP.own(k:LP RV F H ω Q' Q)(rp:Rep F H ω){xs:List AV}{vs:List V}(hd:RVs (cut F H ω) xs vs)(q:∀p,ω p=none->Q' (.r (.ref p)) (ω.put p (.own xs))):∀p,H p=none->Q (.ref p) (upd H p (.lst vs)):=fun p hp=>by
 obtain⟨rp2,fr2⟩:=rp.mk' (vs:=vs) hp hd;exact k (.r (.ref p)) _ _ _ rp2 fr2 rfl (q p (rp.free hp).1)
end
theorem lm{f:Int->Int->Int}:nv (rI0 fun i j=>.int (f i j)) (aI0 fun i j=>.int (f i j)):=⟨fun F H ω v u x y Q Q' rp h1 h2 ⟨i,j,e1,e2,q⟩ k=>by
 subst e1 e2;exact⟨i,j,cC h1,cC h2,k.int rp q⟩⟩
theorem sU{f:Int->Int->Bool}:nv (rI0 fun i j=>.bl (f i j)) (aI0 fun i j=>.bl (f i j)):=⟨fun F H ω v u x y Q Q' rp h1 h2 ⟨i,j,e1,e2,q⟩ k=>by
 subst e1 e2;exact⟨i,j,cC h1,cC h2,k.bl rp q⟩⟩
theorem nn{C:Int->Int->Prop}{f:Int->Int->Int}:nv (rI C fun i j=>.int (f i j)) (aI C fun i j=>.int (f i j)):=⟨fun F H ω v u x y Q Q' rp h1 h2 ⟨i,j,e1,e2,c,q⟩ k=>by
 subst e1 e2;exact⟨i,j,cC h1,cC h2,c,k.int rp q⟩⟩
theorem u_i{f:Int->Int}:L5 (rU fun i=>.int (f i)) (aU fun i=>.int (f i)):=⟨fun F H ω v x Q Q' rp h1 ⟨i,e1,q⟩ k=>by
 subst e1;exact⟨i,cC h1,k.int rp q⟩⟩
noncomputable def DT(neg:Bool):A2:=fun x y ω Q=>∃a b,cg ω x=some a/\cg ω y=some b/\dep a<=100/\Q (.d (.bl (if neg then !eqD a b else eqD a b))) ω
theorem bq{neg:Bool}:nv (J8 neg) (DT neg):=⟨fun F H ω v u x y Q Q' rp h1 h2 ⟨a,b,e1,e2,s,q⟩ k=>⟨a,b,vZ rp h1 e1,vZ rp h2 e2,s,k.bl rp q⟩⟩
noncomputable def aIn(neg:Bool):A2:=fun x y ω Q=>∃a b ds,cg ω x=some a/\cg ω y=some b/\(b=.lst ds\/b=.tup ds)/\ib ds<=90/\Q (.d (.bl (if neg then !inD a ds else inD a ds))) ω
theorem ze{neg:Bool}:nv (K0 neg) (aIn neg):=⟨fun F H ω v u x y Q Q' rp h1 h2 ⟨a,b,ds,e1,e2,e3,s,q⟩ k=>⟨a,ds,vZ rp h1 e1,by
 have:=vZ rp h2 e2;rcases e3 with rfl|rfl
 ·exact .inl this
 ·exact .inr this,s,k.bl rp q⟩⟩
noncomputable def MI:A2:=fun x y ω Q=>∃ds es,x=.d (.tup ds)/\y=.d (.tup es)/\ds.length+es.length<=sizeLine/\Q (.d (.tup (ds++es))) ω
noncomputable def Cd:R2:=fun x y H Q=>∃a b xs ys,x=.ref a/\y=.ref b/\H a=some (.tup xs)/\H b=some (.tup ys)/\xs.length+ys.length<=sizeLine /\
 (xs=[]->Q (.ref b) H)/\(ys=[]->Q (.ref a) H)/\∀p,H p=none->Q (.ref p) (upd H p (.tup (xs++ys)))
theorem cR{X:Cx}:OpR X (binaryOp .Add) Cd:=by
 intro pins s σ H x y v u Q I rx ry h;obtain⟨a,b,xs,ys,rfl,rfl,ha,hb,hz,g1,g2,g3⟩:=h;by_cases hn:xs=[]
 ·subst hn
  cases rx;cases ry;obtain⟨its,r1,ht⟩:=li I ha;obtain⟨its2,r2,hb2⟩:=li I hb;cases r1;obtain⟨⟨cls,dd,data,sl⟩,ho,hc,n,hd⟩:=id ht;obtain⟨⟨cls2,dd2,data2,sl2⟩,ho2,hc2,n2,hd2⟩:=id hb2;simp only at hc hd hc2 hd2;subst hc hd hc2 hd2
  exact concat_meets ⟨_,ho,rfl⟩ ⟨_,ho2,rfl⟩ noFill_tuple_add seq_tuple_add PySem.F.slot_tuple_add PySem.F.entry_tuple_add (PySem.F.args_tuple_add_2 _ _)
   (tuple_addW0 a b _ _ n n2 dd dd2 sl sl2 (by simp)) ⟨ho,ho2,⟨.ref b,H,I,rfl,g1 rfl⟩⟩
 ·exact HM pins s σ H (.ref a) (.ref b) v u Q I rx ry ⟨a,b,xs,ys,rfl,rfl,SqT.of ha,SqT.of hb,hn,hz,g2,fun _ p hp=>g3 p hp⟩
theorem JP:nv Cd MI:=⟨fun F H ω v u x y Q Q' rp h1 h2 ⟨ds,es,e1,e2,z,q⟩ k=>by
 subst e1 e2;have h1':=h1;have h2':=h2;simp only[RV,Dat] at h1 h2;obtain⟨a,xs,rfl,ha,hxs⟩:=h1;obtain⟨b,ys,rfl,hb,hys⟩:=h2;refine⟨a,b,xs,ys,rfl,rfl,a7 _ _ ha,a7 _ _ hb,by rw[hxs.length,hys.length];exact z,fun e=>?_,fun e=>?_,k.tup rp (hxs.append hys) q⟩
 ·have:ds=[]:=List.length_eq_zero_iff.mp (by rw[←hxs.length,e];rfl)
  subst this;exact k _ ω _ H rp .refl h2' q
 ·have:es=[]:=List.length_eq_zero_iff.mp (by rw[←hys.length,e];rfl)
  subst this;rw[List.append_nil] at q
  exact k _ ω _ H rp .refl h1' q⟩
theorem Rep.later{F:Fs}{H H':Hp}{ω:Om}(rp:Rep F H ω)(s:db H H'):Rep F H' ω/\Fr F H ω H' ω:=by
 have fr:Fr F H ω H' ω:=⟨fun b o x f e=>⟨s _ _ e,x⟩,fun b f=>by
  obtain⟨_,o,q⟩:=rp.hid b f
  rw[q,s _ _ q]⟩
 refine⟨⟨fun l xs e=>?_,fun l ds e=>(rp.frz l ds e).same fr.same,fun b f=>?_,fun l ks e=>(by obtain⟨vs,e1,e2⟩:=rp.dic l ks e;exact⟨vs,s _ _ e1,e2.same fr.same⟩)⟩,fr⟩
 ·obtain⟨vs,e1,e2⟩:=rp.own l xs e
  exact⟨vs,s _ _ e1,e2.same fr.same⟩
 ·obtain⟨x,o,q⟩:=rp.hid b f
  exact⟨x,o,s _ _ q⟩
noncomputable def MZ:A2:=fun x y ω Q=>∃xs i a,hV ω x=some xs/\y=.d (.int i)/\atI xs i=some a/\Q a ω
noncomputable def Ni:A2:=fun x y ω Q=>∃xs i a,j9 x=some xs/\y=.d (.int i)/\atI xs i=some a/\Q a ω
theorem RVs.atI{G:Hp}{xs:List AV}{vs:List V}{i:Int}{a:AV}(h:RVs G xs vs)(e:atI xs i=some a):∃v,L2.atI vs i=some v/\RV G a v:=by
 unfold L2.atI at e ⊢;rw[h.length]
 cases z:ixN xs.length i with
 |none=>rw[z] at e;cases e
 |some j=>
  rw[z] at e;exact h.get e
theorem LQ{K:W.Frag}:nv (J9 K) MZ:=⟨fun F H ω v u x y Q Q' rp h1 h2 ⟨xs,i,a,e1,e2,e3,q⟩ k=>by
 subst e2;obtain⟨l,vs,rfl,q1,q2⟩:=wC rp h1 e1;obtain⟨w,z1,z2⟩:=q2.atI e3
 exact⟨l,vs,i,w,rfl,cC h2,.inl (.inl q1),z1,k a ω w H rp .refl z2 q⟩⟩
theorem Mc{K:W.Frag}:nv (KP K) Ni:=⟨fun F H ω v u x y Q Q' rp h1 h2 ⟨xs,i,a,e1,e2,e3,q⟩ k=>by
 subst e2;obtain⟨l,vs,rfl,q1,q2⟩:=GM h1 e1;obtain⟨w,z1,z2⟩:=q2.atI e3
 exact⟨l,vs,i,w,rfl,cC h2,.inl (.inl (a7 _ _ q1)),z1,k a ω w H rp .refl z2 q⟩⟩
noncomputable def aIx:A2:=fun x y ω Q=>∃xs i a,(hV ω x=some xs\/j9 x=some xs)/\y=.d (.int i)/\atI xs i=some a/\Q a ω
theorem aG{K:W.Frag}:nv (rIx K) aIx:=⟨fun F H ω v u x y Q Q' rp h1 h2 ⟨xs,i,a,e1,e2,e3,q⟩ k=>by
 rcases e1 with e1|e1
 ·exact .inl (LQ.run F H ω v u x y Q Q' rp h1 h2 ⟨xs,i,a,e1,e2,e3,q⟩ k)
 ·exact .inr (.inl (Mc.run F H ω v u x y Q Q' rp h1 h2 ⟨xs,i,a,e1,e2,e3,q⟩ k))⟩
noncomputable def MK(neg:Bool):A2:=fun x y ω Q=>∃a,x=.d a/\y=.d .non/\Q (.d (.bl (if neg then !eqD a .non else eqD a .non))) ω
theorem K4{G:Hp}{a:D}{v:V}(h:RV G (.d a) v):decide (v=.non)=eqD a .non:=by
 cases a<;>simp only[RV,Dat] at h
 all_goals first
  |(subst h;simp[eqD])
  |(obtain⟨_,_,rfl,_⟩:=h;simp[eqD])
theorem IQ:nv (fun x y H Q=>y=.non/\Q (.bl (decide (x=.non))) H) (MK false):=⟨fun F H ω v u x y Q Q' rp h1 h2 ⟨a,e1,e2,q⟩ k=>by
 subst e1 e2;exact⟨KI h2,by rw[K4 h1];exact k.bl rp q⟩⟩
noncomputable def MF(f:Bool->Bool->Bool):A2:=fun x y ω Q=>∃a b,x=.d (.bl a)/\y=.d (.bl b)/\Q (.d (.bl (f a b))) ω
theorem uN{f:Bool->Bool->Bool}:nv (fun x y H Q=>∃c d,x=.bl c/\y=.bl d/\Q (.bl (f c d)) H) (MF f):=⟨fun F H ω v u x y Q Q' rp h1 h2 ⟨a,b,e1,e2,q⟩ k=>by
 subst e1 e2;exact⟨a,b,Ck h1,Ck h2,k.bl rp q⟩⟩
noncomputable abbrev AC:=List AV->Om->(AV->Om->Prop)->Prop
theorem qe{G:Hp}{a:AV}{vs:List V}(h:RVs G [a] vs):∃v,vs=[v]/\RV G a v:=by
 obtain⟨v,r,rfl,h1,h2⟩:=h;cases h2;exact⟨v,rfl,h1⟩
theorem Kp{G:Hp}{a b:AV}{vs:List V}(h:RVs G [a,b] vs):∃v u,vs=[v,u]/\RV G a v/\RV G b u:=by
 obtain⟨v,r,rfl,h1,h2⟩:=h;obtain⟨u,rfl,h3⟩:=qe h2;exact⟨v,u,rfl,h1,h3⟩
noncomputable def zw(ω:Om)(x:AV):Option Nat:=match j9 x with
 |some xs=>some xs.length
 |none=>(hV ω x).map List.length
noncomputable def Lp:AC:=fun xs ω Q=>∃x n,xs=[x]/\zw ω x=some n/\Q (.d (.int n)) ω
theorem tD{K:W.Frag}:ug (fun xs H Q=>∃x n,xs=[x]/\Lg K x H n/\Q (.int n) H) Lp:=⟨fun F H ω vs xs Q Q' rp rv ⟨x,n,e1,e2,q⟩ k=>by
 subst e1;obtain⟨v,rfl,r⟩:=qe rv;refine⟨v,n,rfl,?_,k.int rp q⟩;unfold zw at e2
 cases z:j9 x with
 |some xs=>
  rw[z] at e2;cases e2;obtain⟨a,us,rfl,q1,q2⟩:=GM r z;exact .inr ⟨us,.inl (.inl (a7 _ _ q1)),q2.length.symm⟩
 |none=>
  rw[z] at e2;simp only[Option.map_eq_some_iff] at e2;obtain⟨ys,e3,rfl⟩:=e2;obtain⟨a,us,rfl,q1,q2⟩:=wC rp r e3
  exact .inl ⟨us,.inl (.inl q1),q2.length.symm⟩⟩
theorem A9{G:Hp}:∀ {bs:List Bool} {vs:List V},aM G (bs.map D.bl) vs->vs=bs.map V.bl
 | [],_,h=>by simpa[aM] using h
 |b::bs,vs,h=>by
  simp only[List.map_cons,aM,Dat] at h;obtain⟨x,r,rfl,rfl,h⟩:=h;rw[A9 h];rfl
noncomputable def Md(f:List Bool->Bool):AC:=fun xs ω Q=>∃x bs,xs=[x]/\cg ω x=some (.lst (bs.map D.bl))/\Q (.d (.bl (f bs))) ω
theorem IX{K:W.Frag}{f:List Bool->Bool}:ug (fun xs H Q=>∃(a:Addr)(bs:List Bool),xs=[.ref a]/\SqL K H a (bs.map V.bl)/\Q (.bl (f bs)) H) (Md f):=⟨fun F H ω vs xs Q Q' rp rv ⟨x,bs,e1,e2,q⟩ k=>by
 subst e1;obtain⟨v,rfl,r⟩:=qe rv;obtain⟨a,us,rfl,q1,q2⟩:=gL rp r e2;cases A9 q2
 exact⟨a,bs,rfl,.inl (.inl q1),k.bl rp q⟩⟩
noncomputable def aF2(f:Int->Int->Int):AC:=fun xs ω Q=>∃i j,xs=[.d (.int i),.d (.int j)]/\Q (.d (.int (f i j))) ω
theorem DF{f:Int->Int->Int}:ug (fun xs H Q=>∃i j,xs=[.int i,.int j]/\Q (.int (f i j)) H) (aF2 f):=⟨fun F H ω vs xs Q Q' rp rv ⟨i,j,e1,q⟩ k=>by
 subst e1;obtain⟨v,u,rfl,r1,r2⟩:=Kp rv
 exact⟨i,j,by rw[cC r1,cC r2],k.int rp q⟩⟩
noncomputable def aF1(f:Int->Int):AC:=fun xs ω Q=>∃i,xs=[.d (.int i)]/\Q (.d (.int (f i))) ω
theorem K6{f:Int->Int}:ug (fun xs H Q=>∃i,xs=[.int i]/\Q (.int (f i)) H) (aF1 f):=⟨fun F H ω vs xs Q Q' rp rv ⟨i,e1,q⟩ k=>by
 subst e1;obtain⟨v,rfl,r1⟩:=qe rv
 exact⟨i,by rw[cC r1],k.int rp q⟩⟩
noncomputable def Gg:D->Option Int
 |.int i=>some i
 |.bl k=>some (if k then 1 else 0)
 |_=>none
noncomputable def Lm:AC:=fun xs ω Q=>∃d i,xs=[.d d]/\Gg d=some i/\Q (.d (.int i)) ω
theorem FS:ug (fun xs H Q=>(∃i,xs=[.int i]/\Q (.int i) H)\/∃k,xs=[.bl k]/\Q (.int (if k then 1 else 0)) H) Lm:=⟨fun F H ω vs xs Q Q' rp rv ⟨d,i,e1,e2,q⟩ k=>by
 subst e1;obtain⟨v,rfl,r1⟩:=qe rv
 cases d with
 |int j=>simp only[Gg,Option.some.injEq] at e2;subst e2;exact .inl ⟨_,by rw[cC r1],k.int rp q⟩
 |bl j=>simp only[Gg,Option.some.injEq] at e2;subst e2;exact .inr ⟨j,by rw[Ck r1],k.int rp q⟩
 |_=>cases e2⟩
noncomputable def Fh:AC:=fun xs ω Q=>∃x ds,xs=[x]/\(cg ω x=some (.lst ds)\/x=.d (.tup ds))/\Q (.d (.tup ds)) ω
theorem dS{K:W.Frag}:ug (fun xs H Q=>∃p ys,xs=[.ref p]/\((SqL K H p ys/\∀l,H l=none->Q (.ref l) (upd H l (.tup ys)))\/(SqT K H p ys/\Q (.ref p) H))) Fh:=⟨fun F H ω vs xs Q Q' rp rv ⟨x,ds,e1,e2,q⟩ k=>by
 subst e1;obtain⟨v,rfl,r1⟩:=qe rv;rcases e2 with e2|rfl
 ·obtain⟨a,us,rfl,q1,q2⟩:=gL rp r1 e2
  exact⟨a,us,rfl,.inl ⟨.inl (.inl q1),k.tup rp q2 q⟩⟩
 ·have r2:=r1
  simp only[RV,Dat] at r2;obtain⟨a,us,rfl,q1,q2⟩:=r2
  exact⟨a,us,rfl,.inr ⟨.inl (.inl (a7 _ _ q1)),k _ ω _ H rp .refl r1 q⟩⟩⟩
noncomputable def Fx:AC:=fun xs ω Q=>∃x ds,xs=[x]/\(cg ω x=some (.lst ds)\/x=.d (.tup ds))/\∀p,ω p=none->Q (.r (.ref p)) (ω.put p (.own (ds.map AV.d)))
theorem GZ{K:W.Frag}:ug (fun xs H Q=>∃p ys,xs=[.ref p]/\(SqL K H p ys\/SqT K H p ys)/\∀l,H l=none->Q (.ref l) (upd H l (.lst ys))) Fx:=⟨fun F H ω vs xs Q Q' rp rv ⟨x,ds,e1,e2,q⟩ k=>by
 subst e1;obtain⟨v,rfl,r1⟩:=qe rv;rcases e2 with e2|rfl
 ·obtain⟨a,us,rfl,q1,q2⟩:=gL rp r1 e2
  exact⟨a,us,rfl,.inl (.inl (.inl q1)),k.own rp (RVs.dats.mpr q2) q⟩
 ·have r2:=r1
  simp only[RV,Dat] at r2;obtain⟨a,us,rfl,q1,q2⟩:=r2
  exact⟨a,us,rfl,.inr (.inl (.inl (a7 _ _ q1))),k.own rp (RVs.dats.mpr q2) q⟩⟩
noncomputable def nl(lo:Int)(n:Nat):List AV:=(List.range n).map fun i=>AV.d (.int (lo+(i:Nat)))
noncomputable def EE(ta:AA):AI:=fun ρ ω R=>ta ρ ω fun xs ω1=>∃j:Int,xs=[.d (.int j)]/\-(2^62)<=j/\j<2^62/\R (nl 0 j.toNat) ω1
noncomputable def nJ(ds:List D):List AV:=ds.zipIdx.map fun p=>AV.d (.tup [.int (p.2:Nat),p.1])
noncomputable def oM(ds es:List D):List AV:=(ds.zip es).map fun p=>AV.d (.tup [p.1,p.2])
section
variable{te:TE}{te':AE}{ta:TA}{ta':AA}{K:W.Frag}
theorem HS{G:Hp}{ds:List D}{a:Addr}(h:Dat G (.lst ds) (.ref a)):wM G (ds.map AV.d) (Itl K a):=fun F H ω rp s=>by
 have h2:=h.same s;simp only[Dat] at h2;obtain⟨_,vs,e,ha,hd⟩:=h2;cases e;have hq:SqL K H a vs:=.inl (.inl (a7 _ _ ha));have hl:=hd.length;refine⟨⟨vs,hq,by simp;omega⟩,fun i x hx=>?_⟩
 obtain⟨v,e1,e2⟩:=(RVs.dats.mpr hd).get hx;refine⟨⟨vs,v,hq,e1⟩,fun y H' hy=>?_⟩;obtain⟨rfl,hy⟩:=hy;have:=hy vs hq;rw[e1] at this;cases this;exact⟨rp,.refl,e2⟩
theorem Lc{G:Hp}{ds:List D}{a:Addr}(h:Dat G (.tup ds) (.ref a)):wM G (ds.map AV.d) (Itt K a):=fun F H ω rp s=>by
 have h2:=h.same s;simp only[Dat] at h2;obtain⟨_,vs,e,ha,hd⟩:=h2;cases e;have hq:SqT K H a vs:=.inl (.inl (a7 _ _ ha));have hl:=hd.length;refine⟨⟨vs,hq,by simp;omega⟩,fun i x hx=>?_⟩
 obtain⟨v,e1,e2⟩:=(RVs.dats.mpr hd).get hx;refine⟨⟨vs,v,hq,e1⟩,fun y H' hy=>?_⟩;obtain⟨rfl,hy⟩:=hy;have:=hy vs hq;rw[e1] at this;cases this;exact⟨rp,.refl,e2⟩
theorem qi{G:Hp}{ds:List D}{v:V}(h:Dat G (.lst ds) v):∃a vs,v=.ref a/\G a=some (.lst vs):=by
 simp only[Dat] at h;obtain⟨a,vs,e,h,_⟩:=h;exact⟨a,vs,e,h⟩
theorem pZ{G:Hp}{ds:List D}{v:V}(h:Dat G (.tup ds) v):∃a vs,v=.ref a/\G a=some (.tup vs):=by
 simp only[Dat] at h;obtain⟨a,vs,e,h,_⟩:=h;exact⟨a,vs,e,h⟩
theorem Kn{G:Hp}{lo:Int}{n:Nat}:wM G (nl lo n) (Itr lo n):=fun F H ω rp s=>by
 refine⟨by simp[nl,Itr],fun i x hx=>?_⟩
 unfold nl at hx;rw[List.getElem?_map] at hx;by_cases hi:i<n
 ·rw[List.getElem?_range hi] at hx
  simp only[Option.map_some,Option.some.injEq] at hx;subst hx;refine⟨hi,fun y H' hy=>?_⟩;obtain⟨rfl,rfl⟩:=hy;exact⟨rp,.refl,by simp[RV,Dat]⟩
 ·rw[List.getElem?_eq_none (by simp;omega)] at hx
  cases hx
theorem sH(h:nV ta ta'):x9 (JD ta) (EE ta'):=⟨fun F H ω σ ρ R R' rp rs w k=>h.go rp rs w fun xs ω1 vs H1 rp1 fr1 rs1 rv ⟨j,e,h1,h2,q⟩=>by
 subst e;obtain⟨v,rfl,r⟩:=qe rv
 exact⟨j,by rw[cC r],h1,h2,k _ ω1 _ H1 rp1 fr1 Kn q⟩⟩
theorem u8(ds:List D):(nJ ds).length=ds.length:=by simp[nJ]
theorem qp{ds:List D}{i:Nat}{x:AV}(h:(nJ ds)[i]?=some x):∃d,ds[i]?=some d/\x=.d (.tup [.int (i:Nat),d]):=by
 unfold nJ at h;rw[List.getElem?_map,List.getElem?_zipIdx] at h
 cases e:ds[i]? with
 |none=>rw[e] at h;simp at h
 |some d=>rw[e] at h;simp at h;exact⟨d,rfl,h.symm⟩
theorem z9{F:Fs}{H:Hp}{ω:Om}(rp:Rep F H ω){T:Addr}(hT:H T=none){a b:V}{d e:D}(ha:Dat (cut F H ω) d a)(hb:Dat (cut F H ω) e b):
  Rep F (upd H T (.tup [a,b])) ω/\Fr F H ω (upd H T (.tup [a,b])) ω/\RV (cut F (upd H T (.tup [a,b])) ω) (.d (.tup [d,e])) (.ref T):=by
 obtain⟨rp2,fr2,hc⟩:=rp.lay (o:=.tup [a,b]) hT;refine⟨rp2,fr2,?_⟩;simp only[RV,Dat,aM];exact⟨T,_,rfl,hc,_,_,rfl,ha.same fr2.same,_,_,rfl,hb.same fr2.same,rfl⟩
theorem EC{G:Hp}{ds:List D}{a:Addr}(h:Dat G (.lst ds) (.ref a)):wM G (nJ ds) (Enl K a):=fun F H ω rp s=>by
 have h2:=h.same s;simp only[Dat] at h2;obtain⟨_,vs,e,ha,hd⟩:=h2;cases e;have hq:SqL K H a vs:=.inl (.inl (a7 _ _ ha));have hl:=hd.length;refine⟨⟨vs,hq,by rw[u8];omega⟩,fun i x hx=>?_⟩
 obtain⟨d,h1,rfl⟩:=qp hx;obtain⟨v,e1,e2⟩:=hd.get h1;refine⟨⟨vs,v,hq,e1⟩,fun y H' hy=>?_⟩;obtain⟨T,z,hT,rfl,rfl,hz⟩:=hy;have:=hz vs hq;rw[e1] at this;cases this;exact z9 rp hT (by simp[Dat]) e2
theorem FI{G:Hp}{ds:List D}{a:Addr}(h:Dat G (.tup ds) (.ref a)):wM G (nJ ds) (Ent K a):=fun F H ω rp s=>by
 have h2:=h.same s;simp only[Dat] at h2;obtain⟨_,vs,e,ha,hd⟩:=h2;cases e;have hq:SqT K H a vs:=.inl (.inl (a7 _ _ ha));have hl:=hd.length;refine⟨⟨vs,hq,by rw[u8];omega⟩,fun i x hx=>?_⟩
 obtain⟨d,h1,rfl⟩:=qp hx;obtain⟨v,e1,e2⟩:=hd.get h1;refine⟨⟨vs,v,hq,e1⟩,fun y H' hy=>?_⟩;obtain⟨T,z,hT,rfl,rfl,hz⟩:=hy;have:=hz vs hq;rw[e1] at this;cases this;exact z9 rp hT (by simp[Dat]) e2
theorem tT{ds es:List D}{i:Nat}{x:AV}(h:(oM ds es)[i]?=some x):∃d e,ds[i]?=some d/\es[i]?=some e/\x=.d (.tup [d,e]):=by
 unfold oM at h;rw[List.getElem?_map,Option.map_eq_some_iff] at h;obtain⟨⟨d,e⟩,h1,rfl⟩:=h;obtain⟨h1,h2⟩:=List.getElem?_zip_eq_some.mp h1;exact⟨d,e,h1,h2,rfl⟩
noncomputable def uf:D->Option (List D)
 |.tup ds=>some ds
 |.lst ds=>some ds
 |_=>none
theorem J3{G:Hp}{ds es:List D}{a b:Addr}{Sa Sb:Hp->Addr->List V->Prop}(ha:∀F H ω,Rep F H ω->db G (cut F H ω)->∃vs,Sa H a vs/\aM (cut F H ω) ds vs)(hb:∀F H ω,Rep F H ω->db G (cut F H ω)->∃vs,Sb H b vs/\aM (cut F H ω) es vs):wM G (oM ds es) (Zp Sa Sb a b):=fun F H ω rp s=>by
 obtain⟨vs,a1,a2⟩:=ha F H ω rp s;obtain⟨us,b1,b2⟩:=hb F H ω rp s;refine⟨⟨vs,us,a1,b1,by simp[oM,a2.length,b2.length]⟩,fun i x hx=>?_⟩
 obtain⟨d,e,h1,h2,rfl⟩:=tT hx;obtain⟨v,e1,e2⟩:=a2.get h1;obtain⟨u,e3,e4⟩:=b2.get h2;refine⟨⟨vs,us,v,u,a1,b1,e1,e3⟩,fun y H' hy=>?_⟩;obtain⟨T,z1,z2,hT,rfl,rfl,hz⟩:=hy;obtain⟨q1,q2⟩:=hz vs us a1 b1;rw[e1] at q1;rw[e3] at q2;cases q1;cases q2;exact z9 rp hT e2 e4
end
noncomputable def CC(n:Nat)(t:AGs):AG:=fun v ρ ω Q=>∃ds,v=.d (.tup ds)/\ds.length=n/\t (ds.map AV.d) ρ ω Q
noncomputable def Jn(to ti:AE):AG:=fun v ρ ω Q=>to ρ ω fun o ω1=>ti ρ ω1 fun i ω2=>∃l k xs j,o=.r (.ref l)/\i=.d (.int k)/\ω2 l=some (.own xs)/\ixN xs.length k=some j/\Q ρ (ω2.put l (.own (xs.set j v)))
section
variable{K:W.Frag}{n:Nat}{gs:TGs}{gs':AGs}{to ti:TE}{to' ti':AE}
theorem fW(h:Bq gs gs'):uq (Le K n gs) (CC n gs'):=⟨fun F H ω σ ρ v a Q Q' rp rs rv ⟨ds,e,hn,q⟩ k=>by
 subst e;simp only[RV,Dat] at rv;obtain⟨b,vs,rfl,h1,h2⟩:=rv
 exact⟨b,vs,rfl,.inl (.inl (a7 _ _ h1)),by rw[h2.length];exact hn,h.run F H ω σ ρ vs _ Q Q' rp rs (RVs.dats.mpr h2) q k⟩⟩
theorem Mo(ho:bj to to')(hi:bj ti ti'):uq (Mm to ti IY) (Jn to' ti'):=⟨fun F H ω σ ρ v a Q Q' rp rs rv w k=>
 ho.go rp rs w fun x ω1 u H1 rp1 fr1 rs1 rv1 q1=>hi.go rp1 rs1 q1 fun y ω2 u2 H2 rp2 fr2 rs2 rv2 ⟨l,j,xs,i,e1,e2,e3,e4,q⟩=>by
  subst e1 e2;have e5:u=.ref l:=rv1;obtain⟨vs,z1,z2⟩:=rp2.own l xs e3;have rv':=rv.same (fr1.trans fr2).same;obtain⟨rp3,fr3⟩:=rp2.write e3 (z2.set i rv');have fr:=(fr1.trans fr2).trans fr3
  exact⟨l,vs,j,i,e5,cC rv2,z1,by rw[z2.length];exact e4,k ρ _ σ _ rp3 fr (rs.same fr.same) q⟩⟩
end
noncomputable def l0{α:Type}(xs:List α)(lo hi:Option Int):List α:=(xs.drop (HT.sIx xs.length 0 lo)).take (HT.sIx xs.length xs.length hi-HT.sIx xs.length 0 lo)
noncomputable abbrev AO:=SA->Om->(Option Int->Om->Prop)->Prop
noncomputable def D6:AO:=fun _ ω Q=>Q none ω
noncomputable def Eu(t:AE):AO:=fun ρ ω Q=>t ρ ω fun x ω1=>∃i,x=.d (.int i)/\Q (some i) ω1
theorem aM.cut{G:Hp}{ds:List D}{vs:List V}{lo hi:Option Int}(h:aM G ds vs):aM G (l0 ds lo hi) (wJ vs lo hi):=by
 unfold l0 wJ;rw[h.length];exact(h.drop _).take _
section
variable{K:W.Frag}{te ts:TE}{te' ts':AE}{tl th:TO}{tl' th':AO}
theorem J4:Ref REq BX D6:=⟨fun F H ω σ ρ Q Q' rp rs w k=>k none ω none H rp .refl rfl w⟩
theorem JY(h:bj te te'):Ref REq (Jh te) (Eu te'):=⟨fun F H ω σ ρ Q Q' rp rs w k=>h.go rp rs w fun x ω1 v H1 rp1 fr1 rs1 rv ⟨i,e,q⟩=>by
 subst e;exact⟨i,cC rv,k _ ω1 _ H1 rp1 fr1 rfl q⟩⟩
noncomputable def Lq(te:AE):AE:=fun ρ ω Q=>te ρ ω fun x ω1=>∃ds,cg ω1 x=some (.lst ds)/\Q (.d (.lst ds.reverse)) ω1
theorem aM.rev{G:Hp}:∀ {ds:List D} {vs:List V},aM G ds vs->aM G ds.reverse vs.reverse
 | [],_,h=>by simp only[aM] at h;subst h;simp[aM]
 |d::ds,vs,h=>by
  simp only[aM] at h;obtain⟨x,r,rfl,h1,h2⟩:=h;simp only[List.reverse_cons];exact h2.rev.append (.one h1)
theorem Jf(he:bj te te'):bj (JW K te (tUn (rU fun i=>.int (-i)) (tC (.int 1)))) (Lq te'):=⟨fun F H ω σ ρ Q Q' rp rs w k=>
 he.go rp rs w fun x ω1 v H1 rp1 fr1 rs1 rv1 ⟨ds,e,q⟩=>⟨1,rfl,rfl,by
  obtain⟨a,vs,rfl,z1,z2⟩:=gL rp1 rv1 e
  exact⟨a,vs,rfl,.inl (.inl z1),(k.fr fr1).lst rp1 z2.rev q⟩⟩⟩
end
noncomputable def m9(to:AE)(t:AA):AE:=fun ρ ω Q=>to ρ ω fun x ω1=>∃l,x=.r (.ref l)/\(∃zs,ω1 l=some (.own zs))/\t ρ ω1 fun ys ω2=>∃xs y,ys=[y]/\ω2 l=some (.own xs)/\xs.length<sizeLine/\Q (.d .non) (ω2.put l (.own (xs++[y])))
noncomputable def Hx(to:AE):AE:=fun ρ ω Q=>to ρ ω fun x ω1=>∃l xs y,x=.r (.ref l)/\ω1 l=some (.own xs)/\xs[xs.length-1]?=some y/\Q y (ω1.put l (.own xs.dropLast))
section
variable{K:W.Frag}{to:TE}{to':AE}{t:TA}{t':AA}
theorem bH(ho:bj to to')(ht:nV t t'):bj (tBM K "list" BG to t) (m9 to' t'):=⟨fun F H ω σ ρ Q Q' rp rs w k=>
 ho.go rp rs w fun x ω1 v H1 rp1 fr1 rs1 rv1 ⟨l,e,⟨zs,hz⟩,q1⟩=>by
  subst e;cases (show v=.ref l from rv1)
  obtain⟨us,z1,_⟩:=rp1.own l zs hz;refine⟨.inl ⟨rfl,us,.inl (.inl z1)⟩,ht.go rp1 rs1 q1 fun ys ω2 vs H2 rp2 fr2 rs2 rv2 ⟨xs,y,e1,e2,e3,q⟩=>?_⟩;subst e1;obtain⟨u,rfl,r⟩:=qe rv2;obtain⟨ws,z3,z4⟩:=rp2.own l xs e2;obtain⟨rp3,fr3⟩:=rp2.write e2 (z4.append (.one r))
  exact⟨l,ws,u,rfl,rfl,z3,by rw[z4.length];exact e3,k _ _ _ _ rp3 ((fr1.trans fr2).trans fr3) (by simp[RV,Dat]) q⟩⟩
theorem ny(ho:bj to to'):bj (Lo K "list" Lx to) (Hx to'):=⟨fun F H ω σ ρ Q Q' rp rs w k=>
 ho.go rp rs w fun x ω1 v H1 rp1 fr1 rs1 rv1 ⟨l,xs,y,e,hz,hy,q⟩=>by
  subst e;cases (show v=.ref l from rv1)
  obtain⟨us,z1,z2⟩:=rp1.own l xs hz;obtain⟨u,z3,z4⟩:=z2.get hy;obtain⟨rp3,fr3⟩:=rp1.write hz z2.dropLast
  exact⟨.inl ⟨rfl,us,.inl (.inl z1)⟩,l,us,u,rfl,rfl,z1,by rw[z2.length];exact z3,k y _ u _ rp3 (fr1.trans fr3) (z4.same fr3.same) q⟩⟩
end
noncomputable def B6:AC:=fun xs ω Q=>∃(x:AV) (W:List (List Int)),xs=[x]/\cg ω x=some (.lst (W.map wdD))/\(∀y∈W,y≠[])/\W.length<64/\Q (.d (.lst ((lr W).map wdD))) ω
theorem Rep.stays{F:Fs}{H:Hp}{ω:Om}(rp:Rep F H ω):E8 H (cut F H ω):=fun b xs e=>by
 refine cx.mpr ⟨?_,?_,e⟩
 ·cases y:ω b with
  |none=>rfl
  |some c=>cases c with
   |frz ds=>rfl
   |own ys=>
    obtain⟨vs,e1,_⟩:=rp.own b ys y;rw[e] at e1;cases e1
   |dic ys=>
    obtain⟨vs,e1,_⟩:=rp.dic b ys y;rw[e] at e1;cases e1
 ·cases z:F b with
  |false=>rfl
  |true=>
   obtain⟨_,vs,q⟩:=rp.hid b z;rw[e] at q;cases q
theorem xL:ug (fun xs H Q=>∃p W,xs=[.ref p]/\LD H p (W.map wdD)/\(∀x∈W,x≠[])/\W.length<64/\∀l H',H l=none->db H H'->LD H' l ((lr W).map wdD)->Q (.ref l) H') B6:=⟨fun F H ω vs xs Q Q' rp rv ⟨x,W,e1,e2,e3,e4,q⟩ k=>by
 subst e1;obtain⟨v,rfl,r⟩:=qe rv;obtain⟨a,us,rfl,z1,z2⟩:=gL rp r e2;refine⟨a,W,rfl,⟨sT _,us,z1,z2.same a7⟩,e3,e4,fun l H' hl s ld=>?_⟩;obtain⟨rp2,fr2⟩:=rp.later s;obtain⟨hn,ws,y1,y2⟩:=ld;obtain⟨f1,f2⟩:=rp.free hl;refine k _ ω _ H' rp2 fr2 ?_ q;simp only[RV,Dat]
 exact⟨l,ws,rfl,cx.mpr ⟨by rw[f1];rfl,f2,y1⟩,aM.t rp2.stays hn y2⟩⟩
noncomputable def MD:A2:=fun x y ω Q=>∃ds es,cg ω x=some (.lst ds)/\cg ω y=some (.lst es)/\ds.length+es.length<=sizeLine/\Q (.d (.lst (ds++es))) ω
theorem KS:nv Hy MD:=⟨fun F H ω v u x y Q Q' rp h1 h2 ⟨ds,es,e1,e2,z,q⟩ k=>by
 obtain⟨a,vs,rfl,z1,z2⟩:=gL rp h1 e1;obtain⟨b,us,rfl,z3,z4⟩:=gL rp h2 e2
 exact⟨a,b,vs,us,rfl,rfl,z1,z3,by rw[z2.length,z4.length];exact z,k.lst rp (z2.append z4) q⟩⟩
noncomputable def Fe:A2:=fun x y ω Q=>∃ds k,cg ω x=some (.lst ds)/\y=.d (.int k)/\-(2^63)<=k/\k<2^63/\ds.length*k.toNat<=sizeLine/\Q (.d (.lst (List.replicate k.toNat ds).flatten)) ω
theorem aM.rep{G:Hp}{ds:List D}{vs:List V}(h:aM G ds vs):∀n:Nat,aM G (List.replicate n ds).flatten (List.replicate n vs).flatten
 |0=>by simp[aM]
 |n+1=>by
  simp only[List.replicate_succ,List.flatten_cons];exact h.append (h.rep n)
theorem Lb:nv G4 Fe:=⟨fun F H ω v u x y Q Q' rp h1 h2 ⟨ds,k',e1,e2,b1,b2,z,q⟩ k=>by
 subst e2;obtain⟨a,vs,rfl,z1,z2⟩:=gL rp h1 e1
 exact⟨a,k',vs,rfl,cC h2,z1,b1,b2,by rw[z2.length];exact z,k.lst rp (z2.rep _) q⟩⟩
section
variable{X:Cx}{tg:Expr}
noncomputable def rOr(r1 r2:R2):R2:=fun x y H Q=>r1 x y H Q\/r2 x y H Q
theorem ba{f:Value->Value->Sem Value}{r1 r2:R2}(h1:OpR X f r1)(h2:OpR X f r2):OpR X f (rOr r1 r2):=fun pins s σ H x y v u Q I rx ry h=>by
 rcases h with h|h
 ·exact h1 pins s σ H x y v u Q I rx ry h
 ·exact h2 pins s σ H x y v u Q I rx ry h
noncomputable def Aa(K:W.Frag):V->Option Int->Option Int->Hp->VK->Prop:=fun x lo hi H Q=>L3 K x lo hi H Q\/Jo K x lo hi H Q
theorem JV(K:W.Frag)(hK:X.K=K):SlR X (Aa K):=by
 subst hK;intro pins s σ H x v vl vu lo hi sl Q I rx hs pl pu h;rcases h with h|h
 ·exact Hs pins s σ H x v vl vu lo hi sl Q I rx hs pl pu h
 ·exact Ir pins s σ H x v vl vu lo hi sl Q I rx hs pl pu h
noncomputable def LY(K:W.Frag)(tl:TE):TI:=fun σ H R=>tl σ H fun x H1=>(∃a,x=.ref a/\(∃xs,SqL K H1 a xs)/\R (Itl K a) H1)\/∃a,x=.ref a/\(∃xs,SqT K H1 a xs)/\R (Itt K a) H1
theorem cf(K:W.Frag)(hK:X.K=K){l:Expr}{tl:TE}(hl:PE X l tl):PI X tg l (LY K tl):=by
 subst hK;intro pins s σ H R I h;refine thn (hl pins s σ H _ I h) fun v s1 ⟨x,H1,I1,r1,q1⟩=>?_;rcases q1 with q1|q1
 ·obtain⟨a,e,⟨xs,hq⟩,q⟩:=q1
  subst e;cases r1;obtain⟨its,rv,p,hz⟩:=I1.list hq;refine wpAny_pyIter_list p.isList ?_;refine⟨s1.heap.objs.size,[s1.heap.objs.size],_,_,H1,rfl,I1.kept (t':=s1.toks) fun b o e=>Heap.get?_push_of_some _ e,CS a _,⟨_,Heap.get?_push_size _ rfl,rfl,rfl⟩,fun b hb=>?_,q⟩;have e:b=s1.heap.objs.size:=by simpa using hb
  subst e;exact I1.NG (Nat.le_refl _) (I1.hok.fresh (Nat.le_refl _))
 ·obtain⟨a,e,⟨xs,hq⟩,q⟩:=q1
  subst e;cases r1;obtain⟨its,rv,p,hz⟩:=I1.tuple hq;refine wpAny_pyIter_tuple (show s1.heap.IsTuple a its.toArray from p) ?_
  refine⟨s1.heap.objs.size,[s1.heap.objs.size],_,_,H1,rfl,I1.kept (t':=s1.toks) fun b o e=>Heap.get?_push_of_some _ e,AM a _,⟨_,Heap.get?_push_size _ rfl,rfl,rfl⟩,fun b hb=>?_,q⟩;have e:b=s1.heap.objs.size:=by simpa using hb
  subst e;exact I1.NG (Nat.le_refl _) (I1.hok.fresh (Nat.le_refl _))
noncomputable def IU(K:W.Frag)(ta:TA):TI:=fun σ H R=>ta σ H fun vs H1=>(∃a,vs=[.ref a]/\(∃xs,SqT K H1 a xs)/\R (Ent K a) H1)\/∃a,vs=[.ref a]/\(∃xs,SqL K H1 a xs)/\R (Enl K a) H1
theorem BD(K:W.Frag)(hK:X.K=K){a:Expr}{p pos pp:Pos}{elts:List Expr}{kk:Nat}{ta:TA}(hg:Gl X "enumerate")(hm:X.mg "enumerate"=none)(ha:PA X [a] ta)(hs:starEach [a] X.env=[(false,eval a X.env)]:=by rfl):PI X (.Tuple elts kk pp) (.Call (.Name "enumerate" p) [a] [] pos) (IU K ta):=by
 subst hK;intro pins s σ H R I h;refine Call_ (n8 I hg hm Dr (PyProof.Rows.callWith_type1 (thn (ha pos pins s σ H _ I h) fun us s1 ⟨vs,H1,I1,r1,q1⟩=>?_) hs rfl));rcases q1 with q1|q1
 ·obtain⟨l,e,⟨xs,hq⟩,q⟩:=q1
  subst e;obtain⟨u,rfl,ru⟩:=nL r1;cases ru;obtain⟨its,rv,p',hz⟩:=I1.tuple hq;refine At (show s1.heap.IsTuple l its.toArray from p') fun h1 he hi hsz hk=>?_
  refine wpAny_pyIter_enum he ⟨_,[s1.heap.objs.size+1,s1.heap.objs.size],_,_,H1,rfl,I1.kept (t':=s1.toks) hk,AB l _ _ (Nat.succ_ne_self _),⟨⟨_,he⟩,hi⟩,fun b hb=>?_,q⟩;rcases(by simpa using hb:b=s1.heap.objs.size+1\/b=s1.heap.objs.size) with rfl|rfl
  ·exact I1.NG (Nat.le_succ _) (I1.hok.fresh (Nat.le_succ _))
  ·exact I1.NG (Nat.le_refl _) (I1.hok.fresh (Nat.le_refl _))
 ·obtain⟨l,e,⟨xs,hq⟩,q⟩:=q1
  subst e;obtain⟨u,rfl,ru⟩:=nL r1;cases ru;obtain⟨its,rv,p',hz⟩:=I1.list hq;refine call_enumerate_list p'.isList fun h1 he hi hsz hk=>?_;refine wpAny_pyIter_enum he ⟨_,[s1.heap.objs.size+1,s1.heap.objs.size],_,_,H1,rfl,I1.kept (t':=s1.toks) hk,Al l _ _ (Nat.succ_ne_self _),⟨⟨_,he⟩,hi⟩,fun b hb=>?_,q⟩;rcases(by simpa using hb:b=s1.heap.objs.size+1\/b=s1.heap.objs.size) with rfl|rfl
  ·exact I1.NG (Nat.le_succ _) (I1.hok.fresh (Nat.le_succ _))
  ·exact I1.NG (Nat.le_refl _) (I1.hok.fresh (Nat.le_refl _))
noncomputable abbrev ZK:=W.Frag->Hp->Addr->List V->Prop
noncomputable def zAt(K:W.Frag)(Sa Sb:ZK)(vs:List V)(H1:Hp)(R:It->Hp->Prop):Prop:=∃a b,vs=[.ref a,.ref b]/\(∃xs,Sa K H1 a xs)/\(∃ys,Sb K H1 b ys)/\R (Zp (Sa K) (Sb K) a b) H1
noncomputable def Jj(K:W.Frag)(ta:TA):TI:=fun σ H R=>ta σ H fun vs H1=>zAt K SqT SqT vs H1 R\/zAt K SqT SqL vs H1 R\/zAt K SqL SqT vs H1 R\/zAt K SqL SqL vs H1 R
theorem oU{c1 c2:String}{Sa Sb:ZK}{Ia Ib:Heap->Addr->Addr->Nat->Prop}{Isa Isb:Heap->Addr->Array Value->Prop}(k1:Kd c1 Sa Ia Isa)(k2:Kd c2 Sb Ib Isb){pp:Pos}{elts:List Expr}{kk:Nat}{pins:List (Addr×Obj)}{σ:St}{H1:Hp}{s1:Shared}{R:It->Hp->Prop}{us:List Value}{vs:List V}(I1:Inv X pins σ H1 s1)(r1:aT vs us)(q1:zAt X.K Sa Sb vs H1 R):wpAny (model X.prog X.w) X.A (call (Value.type "zip") us) (fun v s1=>wpAny (model X.prog X.w) X.A (pyIter v) (PIE X pins σ (.Tuple elts kk pp) R) X.xe s1) X.xe s1:=by
 obtain⟨l,m,e,⟨xs,hq⟩,⟨ys,hy⟩,q⟩:=q1;subst e
 cases r1 with
 |cons ra rr=>
  cases rr with
  |cons rb rr=>
   cases rr;cases ra;cases rb;obtain⟨its,_,pa⟩:=k1.got I1 hq;obtain⟨jts,_,pb⟩:=k2.got I1 hy;refine DI k1 k2 pa pb fun h1 z1 z2 z3 z4 z5 hk=>?_
   refine wpAny_pyIter_zip z1 ⟨_,[s1.heap.objs.size+4,s1.heap.objs.size+2,s1.heap.objs.size+3,s1.heap.objs.size,s1.heap.objs.size+1],_,_,H1,rfl,I1.kept (t':=s1.toks) hk,
    EU k1 k2 l m (s1.heap.objs.size+4) (s1.heap.objs.size+2) (s1.heap.objs.size+3) s1.heap.objs.size (s1.heap.objs.size+1) (by simp) (by simp) (by simp) (by simp) (by simp) (by simp) (by simp) (by simp) (by simp) (by simp),⟨z1,z2,⟨_,_,z3⟩,z4,z5⟩,fun c hc=>?_,q⟩
   have hge:s1.heap.objs.size<=c:=by
    rcases(by simpa using hc:c=s1.heap.objs.size+4\/c=s1.heap.objs.size+2\/c=s1.heap.objs.size+3\/c=s1.heap.objs.size\/c=s1.heap.objs.size+1) with rfl|rfl|rfl|rfl|rfl<;>omega
   exact I1.NG hge (I1.hok.fresh hge)
theorem rS(K:W.Frag)(hK:X.K=K){a b:Expr}{p pos pp:Pos}{elts:List Expr}{kk:Nat}{ta:TA}(hg:Gl X "zip")(hm:X.mg "zip"=none)(ha:PA X [a,b] ta)(hs:starEach [a,b] X.env=[(false,eval a X.env),(false,eval b X.env)]:=by rfl)(hs2:starEach [b] X.env=[(false,eval b X.env)]:=by rfl):PI X (.Tuple elts kk pp) (.Call (.Name "zip" p) [a,b] [] pos) (Jj K ta):=by
 subst hK;intro pins s σ H R I h;refine Call_ (n8 I hg hm PyProof.Rows.boot_zip (PyProof.Rows.callWith_type1 (thn (ha pos pins s σ H _ I h) fun us s1 ⟨vs,H1,I1,r1,q1⟩=>?_) (by rw[hs,hs2]) (by rw[hs2];rfl)))
 rcases q1 with q|q|q|q
 ·exact oU kdT kdT I1 r1 q
 ·exact oU kdT kdL I1 r1 q
 ·exact oU kdL kdT I1 r1 q
 ·exact oU kdL kdL I1 r1 q
noncomputable def MR(K:W.Frag)(ta tb:TE):TE:=fun σ H Q=>ta σ H fun x H1=>∃c,yo K x H1 c/\if c=true then Q x H1 else tb σ H1 Q
noncomputable def JC(K:W.Frag)(ta tb:TE):TE:=fun σ H Q=>ta σ H fun x H1=>∃c,yo K x H1 c/\if c=true then tb σ H1 Q else Q x H1
variable{a b:Expr}{bB:List Expr}{pos:Pos}{ta tb:TE}
theorem JI(K:W.Frag)(hK:X.K=K)(ha:PE X a ta)(hb:PE X (.BoolOp .Or (b::bB) pos) tb):PE X (.BoolOp .Or (a::b::bB) pos) (MR K ta tb):=.mk <| by
 subst hK;intro pins s σ H Q I h;refine BoolOp_or (thn (ha pins s σ H _ I h) fun v s1 ⟨x,H1,I1,r1,q1⟩=>?_);refine thn (A1 pins s1 σ H1 x v (fun c H2=>H2=H1/\if c=true then Q x H1 else tb σ H1 Q) I1 r1 ?_) fun c s2 ⟨H2,I2,e,q2⟩=>?_
 ·obtain⟨c,hc,q⟩:=q1
  exact⟨c,hc,rfl,q⟩
 ·subst e
  cases c with
  |false=>rw[if_neg Bool.false_ne_true] at q2;exact hb pins s2 σ H2 Q I2 q2
  |true=>rw[if_pos rfl] at q2;exact⟨x,H2,I2,r1,q2⟩
theorem Ch(K:W.Frag)(hK:X.K=K)(ha:PE X a ta)(hb:PE X (.BoolOp .And (b::bB) pos) tb):PE X (.BoolOp .And (a::b::bB) pos) (JC K ta tb):=.mk <| by
 subst hK;intro pins s σ H Q I h;refine BoolOp_and (thn (ha pins s σ H _ I h) fun v s1 ⟨x,H1,I1,r1,q1⟩=>?_);refine thn (A1 pins s1 σ H1 x v (fun c H2=>H2=H1/\if c=true then tb σ H1 Q else Q x H1) I1 r1 ?_) fun c s2 ⟨H2,I2,e,q2⟩=>?_
 ·obtain⟨c,hc,q⟩:=q1
  exact⟨c,hc,rfl,q⟩
 ·subst e
  cases c with
  |true=>rw[if_pos rfl] at q2;exact hb pins s2 σ H2 Q I2 q2
  |false=>rw[if_neg Bool.false_ne_true] at q2;exact⟨x,H2,I2,r1,q2⟩
end
noncomputable def Mf(ta tb:AE):AE:=fun ρ ω Q=>ta ρ ω fun x ω1=>∃c,kI ω1 x=some c/\if c=true then Q x ω1 else tb ρ ω1 Q
noncomputable def Iu(ta tb:AE):AE:=fun ρ ω Q=>ta ρ ω fun x ω1=>∃c,kI ω1 x=some c/\if c=true then tb ρ ω1 Q else Q x ω1
noncomputable def aSl(te:AE)(tl th:AO):AE:=fun ρ ω Q=>te ρ ω fun x ω1=>tl ρ ω1 fun lo ω2=>th ρ ω2 fun hi ω3=>match x with
 |.d (.tup ds)=>Q (.d (.tup (l0 ds lo hi))) ω3
 |x=>∃ds,cg ω3 x=some (.lst ds)/\Q (.d (.lst (l0 ds lo hi))) ω3
noncomputable def Jg(te:AE):AI:=fun ρ ω R=>te ρ ω fun x ω1=>pE ω1 x fun d ω2=>∃ds,uf d=some ds/\R (ds.map AV.d) ω2
noncomputable def FQ(ta:AA):AI:=fun ρ ω R=>ta ρ ω fun xs ω1=>∃x,xs=[x]/\pE ω1 x fun d ω2=>∃ds,uf d=some ds/\R (nJ ds) ω2
noncomputable def IF(ta:AA):AI:=fun ρ ω R=>ta ρ ω fun xs ω1=>∃x y,xs=[x,y]/\pE ω1 x fun d ω2=>pE ω2 y fun e ω3=>∃ds es,uf d=some ds/\uf e=some es/\R (oM ds es) ω3
noncomputable def JK:A2:=fun x y ω Q=>match x with
 |.d (.int i)=>∃j,y=.d (.int j)/\Q (.d (.int (i+j))) ω
 |.d (.tup ds)=>∃es,y=.d (.tup es)/\ds.length+es.length<=sizeLine/\Q (.d (.tup (ds++es))) ω
 |x=>∃ds es,cg ω x=some (.lst ds)/\cg ω y=some (.lst es)/\ds.length+es.length<=sizeLine/\Q (.d (.lst (ds++es))) ω
noncomputable def Ms:A2:=fun x y ω Q=>match x with
 |.d (.int i)=>∃j,y=.d (.int j)/\wB i j/\Q (.d (.int (i*j))) ω
 |x=>Fe x y ω Q
section
variable{K:W.Frag}{te ta tb:TE}{te' ta' tb':AE}{tl th:TO}{tl' th':AO}{sa:TA}{sa':AA}
theorem Lv(ha:bj ta ta')(hb:bj tb tb'):bj (MR K ta tb) (Mf ta' tb'):=⟨fun F H ω σ ρ Q Q' rp rs h k=>
 ha.go rp rs h fun x ω1 v H1 rp1 fr1 rs1 rv1 ⟨c,e,q⟩=>⟨c,Av rp1 rv1 e,by
  cases c with
  |true=>rw[if_pos rfl] at q ⊢;exact k x ω1 v H1 rp1 fr1 rv1 q
  |false=>rw[if_neg Bool.false_ne_true] at q ⊢;exact hb.run F H1 ω1 σ ρ Q Q' rp1 rs1 q (k.fr fr1)⟩⟩
theorem Fy(ha:bj ta ta')(hb:bj tb tb'):bj (JC K ta tb) (Iu ta' tb'):=⟨fun F H ω σ ρ Q Q' rp rs h k=>
 ha.go rp rs h fun x ω1 v H1 rp1 fr1 rs1 rv1 ⟨c,e,q⟩=>⟨c,Av rp1 rv1 e,by
  cases c with
  |false=>rw[if_neg Bool.false_ne_true] at q ⊢;exact k x ω1 v H1 rp1 fr1 rv1 q
  |true=>rw[if_pos rfl] at q ⊢;exact hb.run F H1 ω1 σ ρ Q Q' rp1 rs1 q (k.fr fr1)⟩⟩
theorem M7(he:bj te te')(hl:Ref REq tl tl')(hh:Ref REq th th'):bj (tSl (Aa K) te tl th) (aSl te' tl' th'):=⟨fun F H ω σ ρ Q Q' rp rs w k=>
 he.go rp rs w fun x ω1 v H1 rp1 fr1 rs1 rv1 q1=>hl.go rp1 rs1 q1 fun lo ω2 lo' H2 rp2 fr2 rs2 e2 q2=>hh.go rp2 rs2 q2 fun hi ω3 hi' H3 rp3 fr3 rs3 e3 q=>by
  cases (show lo=lo' from e2)
  cases (show hi=hi' from e3)
  have r:=rv1.same (fr2.trans fr3).same;have k3:=k.fr ((fr1.trans fr2).trans fr3)
  have ls:(∃ds,cg ω3 x=some (.lst ds)/\Q' (.d (.lst (l0 ds lo hi))) ω3)->Aa K v lo hi H3 Q:=fun⟨ds,e,q⟩=>by
   obtain⟨a,vs,rfl,z1,z2⟩:=gL rp3 r e;exact .inl ⟨a,vs,rfl,.inl (.inl z1),k3.lst rp3 z2.cut q⟩
  cases x with
  |d x=>cases x with
   |tup ds=>
    refine .inr ?_;have r':=r;simp only[RV,Dat] at r;obtain⟨a,vs,rfl,z1,z2⟩:=r;refine⟨a,vs,rfl,.inl (.inl (a7 _ _ z1)),?_⟩;by_cases hw:HT.sIx vs.length 0 lo=0/\HT.sIx vs.length vs.length hi=vs.length
    ·rw[if_pos hw]
     have:l0 ds lo hi=ds:=by
      unfold l0;rw[←z2.length,hw.1,hw.2,List.drop_zero,Nat.sub_zero,z2.length,List.take_length]
     replace q:Q' (.d (.tup (l0 ds lo hi))) ω3:=q
     rw[this] at q;exact k3 _ ω3 _ H3 rp3 .refl r' q
    ·rw[if_neg hw]
     exact k3.tup rp3 z2.cut q
   |_=>exact ls q
  |_=>exact ls q⟩
theorem dF(h:bj te te'):x9 (LY K te) (Jg te'):=⟨fun F H ω σ ρ R R' rp rs w k=>h.go rp rs w fun x ω1 v H1 rp1 fr1 rs1 rv q=>by
 obtain⟨d,ω2,rp2,fr2,hd,ds,hs,q2⟩:=tP rp1 rv q
 cases d with
 |lst es=>
  cases hs;obtain⟨a,vs,rfl,ha⟩:=qi hd;exact .inl ⟨a,rfl,⟨vs,.inl (.inl (a7 _ _ ha))⟩,k _ ω2 _ H1 rp2 (fr1.trans fr2) (HS hd) q2⟩
 |tup es=>
  cases hs;obtain⟨a,vs,rfl,ha⟩:=pZ hd;exact .inr ⟨a,rfl,⟨vs,.inl (.inl (a7 _ _ ha))⟩,k _ ω2 _ H1 rp2 (fr1.trans fr2) (Lc hd) q2⟩
 |_=>cases hs⟩
theorem Fb(h:nV sa sa'):x9 (IU K sa) (FQ sa'):=⟨fun F H ω σ ρ R R' rp rs w k=>h.go rp rs w fun xs ω1 vs H1 rp1 fr1 rs1 rv ⟨x,e,q⟩=>by
 subst e;obtain⟨v,rfl,r⟩:=qe rv;obtain⟨d,ω2,rp2,fr2,hd,ds,hs,q2⟩:=tP rp1 r q
 cases d with
 |lst es=>
  cases hs;obtain⟨a,vs,rfl,ha⟩:=qi hd;exact .inr ⟨a,rfl,⟨vs,.inl (.inl (a7 _ _ ha))⟩,k _ ω2 _ H1 rp2 (fr1.trans fr2) (EC hd) q2⟩
 |tup es=>
  cases hs;obtain⟨a,vs,rfl,ha⟩:=pZ hd;exact .inl ⟨a,rfl,⟨vs,.inl (.inl (a7 _ _ ha))⟩,k _ ω2 _ H1 rp2 (fr1.trans fr2) (FI hd) q2⟩
 |_=>cases hs⟩
theorem G9{G:Hp}{ds:List D}{v:V}(h:Dat G (.lst ds) v):∃a,v=.ref a/\∀F H ω,Rep F H ω->db G (cut F H ω)->∃vs,SqL K H a vs/\aM (cut F H ω) ds vs:=by
 obtain⟨a,_,rfl,_⟩:=qi h;refine⟨a,rfl,fun F H ω rp s=>?_⟩;have h2:=h.same s;simp only[Dat] at h2;obtain⟨_,vs,e,ha,hd⟩:=h2;cases e;exact⟨vs,.inl (.inl (a7 _ _ ha)),hd⟩
theorem G5{G:Hp}{ds:List D}{v:V}(h:Dat G (.tup ds) v):∃a,v=.ref a/\∀F H ω,Rep F H ω->db G (cut F H ω)->∃vs,SqT K H a vs/\aM (cut F H ω) ds vs:=by
 obtain⟨a,_,rfl,_⟩:=pZ h;refine⟨a,rfl,fun F H ω rp s=>?_⟩;have h2:=h.same s;simp only[Dat] at h2;obtain⟨_,vs,e,ha,hd⟩:=h2;cases e;exact⟨vs,.inl (.inl (a7 _ _ ha)),hd⟩
theorem GS{F:Fs}{H1:Hp}{ω3:Om}{Sa Sb:ZK}{ds es:List D}{v u:V}{R:It->Hp->Prop}{R':List AV->Om->Prop}(rp3:Rep F H1 ω3)(k:LP wM F H1 ω3 R' R)(h1:∃a,v=.ref a/\∀F' H ω,Rep F' H ω->db (cut F H1 ω3) (cut F' H ω)->∃vs,Sa K H a vs/\aM (cut F' H ω) ds vs)(h2:∃a,u=.ref a/\∀F' H ω,Rep F' H ω->db (cut F H1 ω3) (cut F' H ω)->∃vs,Sb K H a vs/\aM (cut F' H ω) es vs)(q:R' (oM ds es) ω3):zAt K Sa Sb [v,u] H1 R:=by
 obtain⟨a,rfl,ha⟩:=h1;obtain⟨b,rfl,hb⟩:=h2;obtain⟨vs,e1,_⟩:=ha F H1 ω3 rp3 (db.refl _);obtain⟨us,e2,_⟩:=hb F H1 ω3 rp3 (db.refl _);exact⟨a,b,rfl,⟨vs,e1⟩,⟨us,e2⟩,k _ ω3 _ H1 rp3 .refl (J3 ha hb) q⟩
theorem Cr(h:nV sa sa'):x9 (Jj K sa) (IF sa'):=⟨fun F H ω σ ρ R R' rp rs w k=>h.go rp rs w fun xs ω1 vs H1 rp1 fr1 rs1 rv ⟨x,y,e,q⟩=>by
 subst e;obtain⟨v,u,rfl,r1,r2⟩:=Kp rv;obtain⟨d,ω2,rp2,fr2,hd,q⟩:=tP rp1 r1 q;obtain⟨e,ω3,rp3,fr3,he,ds,es,hs,ht,qz⟩:=tP rp2 (r2.same fr2.same) q;have hd3:=hd.same fr3.same;have k3:=k.fr ((fr1.trans fr2).trans fr3)
 cases d with
 |tup d1=>
  cases hs
  cases e with
  |tup e1=>cases ht;exact .inl (GS rp3 k3 (G5 hd3) (G5 he) qz)
  |lst e1=>cases ht;exact .inr (.inl (GS rp3 k3 (G5 hd3) (G9 he) qz))
  |_=>cases ht
 |lst d1=>
  cases hs
  cases e with
  |tup e1=>cases ht;exact .inr (.inr (.inl (GS rp3 k3 (G9 hd3) (G5 he) qz)))
  |lst e1=>cases ht;exact .inr (.inr (.inr (GS rp3 k3 (G9 hd3) (G9 he) qz)))
  |_=>cases ht
 |_=>cases hs⟩
theorem gT:nv (rOr (rI0 fun i j=>.int (i+j)) (rOr Cd Hy)) JK:=⟨fun F H ω v u x y Q Q' rp h1 h2 q k=>by
 have ls:(∃ds es,cg ω x=some (.lst ds)/\cg ω y=some (.lst es)/\ds.length+es.length<=sizeLine/\Q' (.d (.lst (ds++es))) ω)->rOr (rI0 fun i j=>.int (i+j)) (rOr Cd Hy) v u H Q:=fun q=>
  .inr (.inr (KS.run F H ω v u x y Q Q' rp h1 h2 q k))
 cases x with
 |d x=>cases x with
  |int i=>
   obtain⟨j,rfl,q⟩:=q;exact .inl ⟨i,j,cC h1,cC h2,k.int rp q⟩
  |tup ds=>
   obtain⟨es,rfl,z,q⟩:=q;exact .inr (.inl (JP.run F H ω v u _ _ Q Q' rp h1 h2 ⟨ds,es,rfl,rfl,z,q⟩ k))
  |_=>exact ls q
 |_=>exact ls q⟩
theorem CF:nv (rOr (rI wB fun i j=>.int (i*j)) G4) Ms:=⟨fun F H ω v u x y Q Q' rp h1 h2 q k=>by
 have ls:Fe x y ω Q'->rOr (rI wB fun i j=>.int (i*j)) G4 v u H Q:=fun q=>.inr (Lb.run F H ω v u x y Q Q' rp h1 h2 q k)
 cases x with
 |d x=>cases x with
  |int i=>
   obtain⟨j,rfl,c,q⟩:=q;exact .inl ⟨i,j,cC h1,cC h2,c,k.int rp q⟩
  |_=>exact ls q
 |_=>exact ls q⟩
end
noncomputable def vD:V->Option D
 |.non=>some .non
 |.bl b=>some (.bl b)
 |.int i=>some (.int i)
 |.str x=>some (.str x)
 |_=>none
noncomputable def Ju(kvs:List (Str×V))(ty:AE):AE:=fun ρ ω Q=>ty ρ ω fun y ω1=>∃x v d,y=.d (.str x)/\so kvs x=some v/\vD v=some d/\Q (.d d) ω1
theorem Ay{kvs:List (Str×V)}{a:Addr}{ty:TE}{ty':AE}(h:bj ty ty'):bj (JA kvs (tC (.ref a)) ty) (Ju kvs ty'):=⟨fun F H ω σ ρ Q Q' rp rs w k=>h.go rp rs w fun y ω1 u H1 rp1 fr1 rs1 rv ⟨x,v,d,e1,e2,e3,q⟩=>by
 subst e1;refine⟨x,v,s0 rv,e2,?_⟩;refine k (.d d) ω1 v H1 rp1 fr1 ?_ q;cases v<;>simp only[vD,Option.some.injEq,reduceCtorEq] at e3
 all_goals (subst e3;simp[RV,Dat])⟩
noncomputable def l4(N:List Str)(xs:List AV):SA:=xs.map some++List.replicate (N.length-xs.length) none
theorem RS.start{G:Hp}{N:List Str}{xs:List AV}{vs:List V}(h:RVs G xs vs):RS G (l4 N xs) (start N vs):=by
 refine⟨by simp[l4,L2.start,h.length],fun i a e=>?_⟩
 unfold l4 at e;unfold L2.start;by_cases hi:i<xs.length
 ·rw[List.getElem?_append_left (by simpa using hi),List.getElem?_map] at e
  rw[List.getElem?_append_left (by simpa[h.length] using hi),List.getElem?_map]
  cases z:xs[i]? with
  |none=>rw[z] at e;simp at e
  |some b=>
   rw[z] at e;simp at e;subst e;obtain⟨v,e1,e2⟩:=h.get z;exact⟨v,by rw[e1];rfl,e2⟩
 ·rw[List.getElem?_append_right (by simpa using hi)] at e
  have:=List.mem_of_getElem? e;rw[List.mem_replicate] at this;cases this.2
theorem Fun.okA{P:Program}{w:World}{K:W.Frag}{mg:Str->Option Value}{base:Heap}{x qual:Str}{st:Stmt}{f:Addr}{fd:FuncData}{N ps:List Str}{k:Nat}{sp:ASp}(F:Fun K x qual st f fd)(S:az N ps (defScope st))(len:∀xs ω Q,sp xs ω Q->xs.length=ps.length)
  (hbody:∀(cdv:Value)(A:Around)(outer:List Env)(s:Shared)(H:Hp)(E:XK),ft k (A.deeper (envOfC qual (defScope st) s.heap.objs.size f cdv)) ->
   ∃t t',PSs (uk CX0 P w K mg base N qual (defScope st) f cdv A outer s H E).nox (defBody st) t/\jT t t'/\∀xs ω Q',sp xs ω Q'->t' { nx:=fun _ ω'=>Q' (.d .non) ω',rt:=Q' } (l4 N xs) ω):aA P w K mg base CX0 (k+1) f fd ps (bo sp):=by
 refine F.ok S (fun vs H Q E h=>?_) (fun cdv A outer s H vs Q E hr h=>?_)
 ·obtain⟨F,xs,ω,Q',rp,rv,h,_⟩:=h
  rw[rv.length,len xs ω Q' h]
 ·obtain⟨t,t',h1,h2,h3⟩:=hbody cdv A outer s H E hr
  obtain⟨F,xs,ω,Q',rp,rv,h,kq⟩:=h;refine⟨t,h1,h2.run F H ω _ _ _ _ rp (RS.start rv) (h3 xs ω Q' h) ⟨?_,kq,fun _ _ _ _ _ _ _ z=>z.elim,fun _ _ _ _ _ _ _ z=>z.elim⟩⟩;exact fun ρ' ω' σ' H' e1 e2 e3 q=>kq (.d .non) ω' .non H' e1 e2 (by simp[RV,Dat]) q
theorem sP(D:cy)(ρ:SA)(ω:Om):IC D ρ ω=(D.nx ρ ω):=rfl
theorem pA(t u:AS)(D:cy)(ρ:SA)(ω:Om):yG t u D ρ ω=(t { D with nx:=u D } ρ ω):=rfl
theorem yc(D:cy)(ρ:SA)(ω:Om):ID D ρ ω=(D.ct ρ ω):=rfl
theorem yR(te:AE)(D:cy)(ρ:SA)(ω:Om):u7 te D ρ ω=(te ρ ω fun _ ω1=>D.nx ρ ω1):=rfl
theorem Cq(te:AE)(D:cy)(ρ:SA)(ω:Om):Mw te D ρ ω=(te ρ ω D.rt):=rfl
theorem CL(c:AT)(t u:AS)(D:cy)(ρ:SA)(ω:Om):Hm c t u D ρ ω=(c ρ ω fun b ω1=>if b=true then t D ρ ω1 else u D ρ ω1):=rfl
theorem Cb(te:AE)(g:AG)(D:cy)(ρ:SA)(ω:Om):JM te g D ρ ω=(te ρ ω fun x ω1=>g x ρ ω1 D.nx):=rfl
theorem iy(i:Nat)(v:AV)(ρ:SA)(ω:Om)(Q:SA->Om->Prop):gq i v ρ ω Q=(Q (ρ.set i (some v)) ω):=rfl
theorem yP(vs:List AV)(ρ:SA)(ω:Om)(Q:SA->Om->Prop):Bx vs ρ ω Q=(vs=[]/\Q ρ ω):=rfl
theorem vm(t:AG)(u:AGs)(vs:List AV)(ρ:SA)(ω:Om)(Q:SA->Om->Prop):pK t u vs ρ ω Q=(∃v r,vs=v::r/\t v ρ ω fun ρ' ω'=>u r ρ' ω' Q):=rfl
theorem CA(wi:AI)(g:AG)(tb:AS)(D:cy)(ρ:SA)(ω:Om):Mn wi g tb D ρ ω=(wi ρ ω fun as ω1=>mn g tb D as ρ ω1):=rfl
theorem nY(z0:SA)(ω:Om)(Q:Bool->Om->Prop):ph z0 ω Q=(Q true ω):=rfl
theorem kF(te:AE)(xs:List AV)(ρ:SA)(ω:Om)(K:List AV->SA->Om->Prop):ll te xs ρ ω K=(te ρ ω fun y ω1=>xs.length<sizeLine/\K (xs++[y]) ρ ω1):=rfl
theorem yS(wi:AI)(g:AG)(tc:AT)(l:AL)(xs:List AV)(ρ:SA)(ω:Om)(K:List AV->SA->Om->Prop):Jq wi g tc l xs ρ ω K=(wi ρ ω fun as ω1=>d9 g tc l as xs ρ ω1 K):=rfl
theorem Cm(i:Nat)(ρ:SA)(ω:Om)(Q:AV->Om->Prop):ia i ρ ω Q=(∃a,ρ[i]?=some (some a)/\Q a ω):=rfl
theorem yu(i:Nat)(ρ:SA)(ω:Om)(Q:AV->Om->Prop):IS i ρ ω Q=(∃a,ρ[i]?=some (some a)/\pE ω a fun d ω'=>Q (.d d) ω'):=rfl
theorem JB(d:D)(z0:SA)(ω:Om)(Q:AV->Om->Prop):aC d z0 ω Q=(Q (.d d) ω):=rfl
theorem FX(r:A2)(ta tb:AE)(ρ:SA)(ω:Om)(Q:AV->Om->Prop):aOp r ta tb ρ ω Q=(ta ρ ω fun x ω1=>tb ρ ω1 fun y ω2=>r x y ω2 Q):=rfl
theorem Co(z0:SA)(ω:Om)(Q:List AV->Om->Prop):wF z0 ω Q=(Q [] ω):=rfl
theorem yX(ta:AE)(tr:AA)(ρ:SA)(ω:Om)(Q:List AV->Om->Prop):ln ta tr ρ ω Q=(ta ρ ω fun x ω1=>tr ρ ω1 fun xs ω2=>Q (x::xs) ω2):=rfl
theorem Ca(t:AA)(ρ:SA)(ω:Om)(Q:AV->Om->Prop):Mb t ρ ω Q=(t ρ ω fun xs ω1=>xs.length<=sizeLine/\∃ds,und xs=some ds/\Q (.d (.tup ds)) ω1):=rfl
theorem CJ(t:AA)(ρ:SA)(ω:Om)(Q:AV->Om->Prop):MP t ρ ω Q=(t ρ ω fun xs ω1=>xs.length<=sizeLine/\∃ds,und xs=some ds/\Q (.d (.lst ds)) ω1):=rfl
theorem yV(t:AA)(ρ:SA)(ω:Om)(Q:AV->Om->Prop):Ji t ρ ω Q=(t ρ ω fun xs ω1=>xs.length<=sizeLine/\∀p,ω1 p=none->Q (.r (.ref p)) (ω1.put p (.own xs))):=rfl
theorem yh(sp:ASp)(t:AA)(ρ:SA)(ω:Om)(Q:AV->Om->Prop):Gd sp t ρ ω Q=(t ρ ω fun xs ω1=>sp xs ω1 Q):=rfl
theorem x8(t:AE)(ρ:SA)(ω:Om)(Q:Bool->Om->Prop):vk t ρ ω Q=(t ρ ω fun x ω1=>∃k,x=.d (.bl k)/\Q k ω1):=rfl
theorem By(t u:AT)(ρ:SA)(ω:Om)(Q:Bool->Om->Prop):ML t u ρ ω Q=(t ρ ω fun c ω1=>if c=true then u ρ ω1 Q else Q false ω1):=rfl
theorem DR(t u:AT)(ρ:SA)(ω:Om)(Q:Bool->Om->Prop):aOr t u ρ ω Q=(t ρ ω fun c ω1=>if c=true then Q true ω1 else u ρ ω1 Q):=rfl
theorem BK(t:AT)(ρ:SA)(ω:Om)(Q:Bool->Om->Prop):Mv t ρ ω Q=(t ρ ω fun c ω1=>Q (!c) ω1):=rfl
theorem FO(t:AT)(ta tb:AE)(ρ:SA)(ω:Om)(Q:AV->Om->Prop):aIf t ta tb ρ ω Q=(t ρ ω fun c ω1=>if c=true then ta ρ ω1 Q else tb ρ ω1 Q):=rfl
theorem B9(ta:AE)(ρ:SA)(ω:Om)(Q:Bool->Om->Prop):KO ta ρ ω Q=(ta ρ ω fun x ω1=>∃k,kI ω1 x=some k/\Q k ω1):=rfl
theorem E6(f:Int->Int->D)(x:AV)(y:AV)(ω:Om)(Q:AV->Om->Prop):aI0 f x y ω Q=(∃i j,x=.d (.int i)/\y=.d (.int j)/\Q (.d (f i j)) ω):=rfl
theorem Iv(C:Int->Int->Prop)(f:Int->Int->D)(x:AV)(y:AV)(ω:Om)(Q:AV->Om->Prop):aI C f x y ω Q=(∃i j,x=.d (.int i)/\y=.d (.int j)/\C i j/\Q (.d (f i j)) ω):=rfl
theorem Ba(neg:Bool)(x:AV)(y:AV)(ω:Om)(Q:AV->Om->Prop):DT neg x y ω Q=(∃a b,cg ω x=some a/\cg ω y=some b/\dep a<=100/\Q (.d (.bl (if neg then !eqD a b else eqD a b))) ω):=rfl
theorem Fp(neg:Bool)(x:AV)(y:AV)(ω:Om)(Q:AV->Om->Prop):aIn neg x y ω Q=(∃a b ds,cg ω x=some a/\cg ω y=some b/\(b=.lst ds\/b=.tup ds)/\ib ds<=90/\Q (.d (.bl (if neg then !inD a ds else inD a ds))) ω):=rfl
theorem ES(x:AV)(y:AV)(ω:Om)(Q:AV->Om->Prop):aIx x y ω Q=(∃xs i a,(hV ω x=some xs\/j9 x=some xs)/\y=.d (.int i)/\atI xs i=some a/\Q a ω):=rfl
theorem CO(neg:Bool)(x:AV)(y:AV)(ω:Om)(Q:AV->Om->Prop):MK neg x y ω Q=(∃a,x=.d a/\y=.d .non/\Q (.d (.bl (if neg then !eqD a .non else eqD a .non))) ω):=rfl
theorem CD(f:Bool->Bool->Bool)(x:AV)(y:AV)(ω:Om)(Q:AV->Om->Prop):MF f x y ω Q=(∃a b,x=.d (.bl a)/\y=.d (.bl b)/\Q (.d (.bl (f a b))) ω):=rfl
theorem Bb(xs:List AV)(ω:Om)(Q:AV->Om->Prop):Lp xs ω Q=(∃x n,xs=[x]/\zw ω x=some n/\Q (.d (.int n)) ω):=rfl
theorem BO(f:List Bool->Bool)(xs:List AV)(ω:Om)(Q:AV->Om->Prop):Md f xs ω Q=(∃x bs,xs=[x]/\cg ω x=some (.lst (bs.map D.bl))/\Q (.d (.bl (f bs))) ω):=rfl
theorem EI(f:Int->Int->Int)(xs:List AV)(ω:Om)(Q:AV->Om->Prop):aF2 f xs ω Q=(∃i j,xs=[.d (.int i),.d (.int j)]/\Q (.d (.int (f i j))) ω):=rfl
theorem Gr(f:Int->Int)(xs:List AV)(ω:Om)(Q:AV->Om->Prop):aF1 f xs ω Q=(∃i,xs=[.d (.int i)]/\Q (.d (.int (f i))) ω):=rfl
theorem Bt(xs:List AV)(ω:Om)(Q:AV->Om->Prop):Lm xs ω Q=(∃d i,xs=[.d d]/\Gg d=some i/\Q (.d (.int i)) ω):=rfl
theorem uO(xs:List AV)(ω:Om)(Q:AV->Om->Prop):Fh xs ω Q=(∃x ds,xs=[x]/\(cg ω x=some (.lst ds)\/x=.d (.tup ds))/\Q (.d (.tup ds)) ω):=rfl
theorem vJ(xs:List AV)(ω:Om)(Q:AV->Om->Prop):Fx xs ω Q=(∃x ds,xs=[x]/\(cg ω x=some (.lst ds)\/x=.d (.tup ds))/\∀p,ω p=none->Q (.r (.ref p)) (ω.put p (.own (ds.map AV.d)))):=rfl
theorem uK(ta:AA)(ρ:SA)(ω:Om)(R:List AV->Om->Prop):EE ta ρ ω R=(ta ρ ω fun xs ω1=>∃j:Int,xs=[.d (.int j)]/\-(2^62)<=j/\j<2^62/\R (nl 0 j.toNat) ω1):=rfl
theorem yT(n:Nat)(t:AGs)(v:AV)(ρ:SA)(ω:Om)(Q:SA->Om->Prop):CC n t v ρ ω Q=(∃ds,v=.d (.tup ds)/\ds.length=n/\t (ds.map AV.d) ρ ω Q):=rfl
theorem x5(to ti:AE)(v:AV)(ρ:SA)(ω:Om)(Q:SA->Om->Prop):Jn to ti v ρ ω Q=(to ρ ω fun o ω1=>ti ρ ω1 fun i ω2=>∃l k xs j,o=.r (.ref l)/\i=.d (.int k)/\ω2 l=some (.own xs)/\ixN xs.length k=some j/\Q ρ (ω2.put l (.own (xs.set j v)))):=rfl
theorem uV(z0:SA)(ω:Om)(Q:Option Int->Om->Prop):D6 z0 ω Q=(Q none ω):=rfl
theorem vo(t:AE)(ρ:SA)(ω:Om)(Q:Option Int->Om->Prop):Eu t ρ ω Q=(t ρ ω fun x ω1=>∃i,x=.d (.int i)/\Q (some i) ω1):=rfl
theorem Bz(te:AE)(ρ:SA)(ω:Om)(Q:AV->Om->Prop):Lq te ρ ω Q=(te ρ ω fun x ω1=>∃ds,cg ω1 x=some (.lst ds)/\Q (.d (.lst ds.reverse)) ω1):=rfl
theorem tI(to:AE)(t:AA)(ρ:SA)(ω:Om)(Q:AV->Om->Prop):m9 to t ρ ω Q=(to ρ ω fun x ω1=>∃l,x=.r (.ref l)/\(∃zs,ω1 l=some (.own zs))/\t ρ ω1 fun ys ω2=>∃xs y,ys=[y]/\ω2 l=some (.own xs)/\xs.length<sizeLine/\Q (.d .non) (ω2.put l (.own (xs++[y])))):=rfl
theorem sZ(xs:List AV)(ω:Om)(Q:AV->Om->Prop):B6 xs ω Q=(∃(x:AV) (W:List (List Int)),xs=[x]/\cg ω x=some (.lst (W.map wdD))/\(∀y∈W,y≠[])/\W.length<64/\Q (.d (.lst ((lr W).map wdD))) ω):=rfl
theorem CG(ta tb:AE)(ρ:SA)(ω:Om)(Q:AV->Om->Prop):Mf ta tb ρ ω Q=(ta ρ ω fun x ω1=>∃c,kI ω1 x=some c/\if c=true then Q x ω1 else tb ρ ω1 Q):=rfl
theorem yd(ta tb:AE)(ρ:SA)(ω:Om)(Q:AV->Om->Prop):Iu ta tb ρ ω Q=(ta ρ ω fun x ω1=>∃c,kI ω1 x=some c/\if c=true then tb ρ ω1 Q else Q x ω1):=rfl
theorem yN(te:AE)(ρ:SA)(ω:Om)(R:List AV->Om->Prop):Jg te ρ ω R=(te ρ ω fun x ω1=>pE ω1 x fun d ω2=>∃ds,uf d=some ds/\R (ds.map AV.d) ω2):=rfl
theorem ve(ta:AA)(ρ:SA)(ω:Om)(R:List AV->Om->Prop):FQ ta ρ ω R=(ta ρ ω fun xs ω1=>∃x,xs=[x]/\pE ω1 x fun d ω2=>∃ds,uf d=some ds/\R (nJ ds) ω2):=rfl
theorem xO(ta:AA)(ρ:SA)(ω:Om)(R:List AV->Om->Prop):IF ta ρ ω R=(ta ρ ω fun xs ω1=>∃x y,xs=[x,y]/\pE ω1 x fun d ω2=>pE ω2 y fun e ω3=>∃ds es,uf d=some ds/\uf e=some es/\R (oM ds es) ω3):=rfl
theorem zo(src:List (Option Nat))(wi:AI)(g:AG)(tc:AT)(l:AL)(ρ:SA)(ω:Om)(Q:AV->Om->Prop):IK src wi g tc l ρ ω Q=(wi ρ ω fun as ω1=>d9 g tc l as [] (zd src ρ) ω1 fun xs _ ω'=>∃ds,und xs=some ds/\Q (.d (.lst ds)) ω'):=rfl
theorem F4(r:AV->Om->(AV->Om->Prop)->Prop)(ta:AE)(ρ:SA)(ω:Om)(Q:AV->Om->Prop):aUn r ta ρ ω Q=(ta ρ ω fun x ω1=>r x ω1 Q):=rfl
theorem DW(r:List AV->Om->(AV->Om->Prop)->Prop)(t:AA)(ρ:SA)(ω:Om)(Q:AV->Om->Prop):aCB r t ρ ω Q=(t ρ ω fun xs ω1=>r xs ω1 Q):=rfl
theorem Jl(f:Int->D)(x:AV)(ω:Om)(Q:AV->Om->Prop):aU f x ω Q=(∃i,x=.d (.int i)/\Q (.d (f i)) ω):=rfl
theorem zi(kvs:List (Str×V))(ty:AE)(ρ:SA)(ω:Om)(Q:AV->Om->Prop):Ju kvs ty ρ ω Q=(ty ρ ω fun y ω1=>∃x v d,y=.d (.str x)/\so kvs x=some v/\vD v=some d/\Q (.d d) ω1):=rfl
theorem zn(i:Int)(y:AV)(ω:Om)(Q:AV->Om->Prop):JK (.d (.int i)) y ω Q=(∃j,y=.d (.int j)/\Q (.d (.int (i+j))) ω):=rfl
theorem yg(ds:List D)(y:AV)(ω:Om)(Q:AV->Om->Prop):JK (.d (.lst ds)) y ω Q=(∃es,cg ω y=some (.lst es)/\ds.length+es.length<=sizeLine/\Q (.d (.lst (ds++es))) ω):=by
 show (∃ds' es,cg ω (.d (.lst ds))=some (.lst ds')/\cg ω y=some (.lst es)/\ds'.length+es.length<=sizeLine/\Q (.d (.lst (ds'++es))) ω)=_;simp only[cg,Option.some.injEq,D.lst.injEq,exists_eq_left',exists_and_left]
theorem y6(i:Int)(y:AV)(ω:Om)(Q:AV->Om->Prop):Ms (.d (.int i)) y ω Q=(∃j,y=.d (.int j)/\wB i j/\Q (.d (.int (i*j))) ω):=rfl
noncomputable def slA(x:AV)(lo hi:Option Int)(ω:Om)(Q:AV->Om->Prop):Prop:=match x with
 |.d (.tup ds)=>Q (.d (.tup (l0 ds lo hi))) ω
 |x=>∃ds,cg ω x=some (.lst ds)/\Q (.d (.lst (l0 ds lo hi))) ω
theorem Bi(ds:List D)(lo hi:Option Int)(ω:Om)(Q:AV->Om->Prop):slA (.d (.lst ds)) lo hi ω Q=Q (.d (.lst (l0 ds lo hi))) ω:=by
 show (∃ds',cg ω (.d (.lst ds))=some (.lst ds')/\Q (.d (.lst (l0 ds' lo hi))) ω)=_;simp only[cg,Option.some.injEq,D.lst.injEq,exists_eq_left']
theorem EK(te:AE)(tl th:AO)(ρ:SA)(ω:Om)(Q:AV->Om->Prop):aSl te tl th ρ ω Q=(te ρ ω fun x ω1=>tl ρ ω1 fun lo ω2=>th ρ ω2 fun hi ω3=>slA x lo hi ω3 Q):=rfl
theorem GQ(ω:Om)(x:D)(K:D->Om->Prop):pE ω (.d x) K=K x ω:=rfl
theorem DP(ω:Om)(l:Addr)(K:D->Om->Prop):pE ω (.r (.ref l)) K=(match ω l with
  |some (.own xs)=>∃ds,und xs=some ds/\K (.lst ds) (ω.put l (.frz ds))
  |some (.frz ds)=>K (.lst ds) ω
  |_=>False):=rfl
theorem DQ(ω:Om)(x:D):cg ω (.d x)=some x:=rfl
theorem zL(ω:Om)(l:Addr):cg ω (.r (.ref l))=(match ω l with
  |some (.own xs)=>(und xs).map D.lst
  |some (.frz ds)=>some (.lst ds)
  |_=>none):=rfl
theorem FJ(ω:Om)(ds:List D):hV ω (.d (.lst ds))=some (ds.map AV.d):=rfl
theorem Er(ω:Om)(ds:List D):hV ω (.d (.tup ds))=none:=rfl
theorem A0(ω:Om)(l:Addr):hV ω (.r (.ref l))=(match ω l with
  |some (.own xs)=>some xs
  |some (.frz ds)=>some (ds.map AV.d)
  |_=>none):=rfl
theorem zJ(ds:List D):j9 (.d (.tup ds))=some (ds.map AV.d):=rfl
theorem FU(ds:List D):j9 (.d (.lst ds))=none:=rfl
theorem Ev(v:V):j9 (.r v)=none:=rfl
theorem D9(ω:Om)(b:Bool):kI ω (.d (.bl b))=some b:=rfl
theorem A4(ω:Om)(l:Addr):kI ω (.r (.ref l))=(hV ω (.r (.ref l))).map fun xs=>!xs.isEmpty:=rfl
theorem ya(x:D)(r:List AV):und (.d x::r)=(und r).map (x::·):=rfl
theorem BQ:und []=some []:=rfl
theorem Gz(ω:Om)(ds:List D):zw ω (.d (.tup ds))=some ds.length:=by simp[zw,j9]
theorem Fd(ω:Om)(ds:List D):zw ω (.d (.lst ds))=some ds.length:=by simp[zw,j9,hV]
theorem Ec(ds:List D):uf (.tup ds)=some ds:=rfl
theorem FF(ds:List D):uf (.lst ds)=some ds:=rfl
theorem A5{g:AG}{tb:AS}{D:cy}{as:List AV}{ρ:SA}{ω:Om}(I:Nat->SA->Om->Prop)(h0:I 0 ρ ω)(hs:∀(i:Nat)(a:AV)(ρ:SA)(ω:Om)(N:SA->Om->Prop),as[i]?=some a->I i ρ ω->(∀ρ' ω',I (i+1) ρ' ω'->N ρ' ω')->g a ρ ω fun ρ1 ω1=>tb { nx:=N,ct:=N,bk:=D.nx,rt:=D.rt } ρ1 ω1)(hd:∀ρ ω,I as.length ρ ω->D.nx ρ ω):mn g tb D as ρ ω:=by
 have key:∀(n i:Nat)(ρ:SA)(ω:Om),i+n=as.length->I i ρ ω->mn g tb D (as.drop i) ρ ω:=by
  intro n
  induction n with
  |zero=>intro i ρ ω hi h;rw[List.drop_eq_nil_of_le (by omega)];exact hd ρ ω (by rw[←hi];exact h)
  |succ n ih=>
   intro i ρ ω hi h;obtain⟨a,ha,hdr⟩:=mJ (as:=as) (i:=i) (by omega)
   rw[hdr];exact hs i a ρ ω _ ha h fun ρ' ω' h'=>ih (i+1) ρ' ω' (by omega) h'
 simpa using key as.length 0 ρ ω (by omega) h0
theorem pd{g:AG}{tb:AS}{D:cy}{ds:List L2.D}{ρ:SA}{ω:Om}(I:Nat->SA->Om->Prop)(h0:I 0 ρ ω)(hs:∀(i:Nat)(d:L2.D)(ρ:SA)(ω:Om)(N:SA->Om->Prop),ds[i]?=some d->I i ρ ω->(∀ρ' ω',I (i+1) ρ' ω'->N ρ' ω')->g (.d d) ρ ω fun ρ1 ω1=>tb { nx:=N,ct:=N,bk:=D.nx,rt:=D.rt } ρ1 ω1)(hd:∀ρ ω,I ds.length ρ ω->D.nx ρ ω):mn g tb D (ds.map AV.d) ρ ω:=
 A5 I h0 (fun i a ρ ω N ha h k=>by
  rw[List.getElem?_map,Option.map_eq_some_iff] at ha;obtain⟨d,h1,rfl⟩:=ha
  exact hs i d ρ ω N h1 h k) (fun ρ ω h=>hd ρ ω (by simpa using h))
theorem Cn{g:AG}{tb:AS}{D:cy}{lo:Int}{n:Nat}{ρ:SA}{ω:Om}(I:Nat->SA->Om->Prop)(h0:I 0 ρ ω)(hs:∀(i:Nat)(ρ:SA)(ω:Om)(N:SA->Om->Prop),i<n->I i ρ ω->(∀ρ' ω',I (i+1) ρ' ω'->N ρ' ω')->g (.d (.int (lo+(i:Nat)))) ρ ω fun ρ1 ω1=>tb { nx:=N,ct:=N,bk:=D.nx,rt:=D.rt } ρ1 ω1)(hd:∀ρ ω,I n ρ ω->D.nx ρ ω):mn g tb D (nl lo n) ρ ω:=
 A5 I h0 (fun i a ρ ω N ha h k=>by
  unfold nl at ha;rw[List.getElem?_map,Option.map_eq_some_iff] at ha;obtain⟨j,h1,rfl⟩:=ha;obtain⟨hj,rfl⟩:=List.getElem?_eq_some_iff.mp h1;simp only[List.getElem_range,List.length_range] at hj ⊢
  exact hs i ρ ω N hj h k) (fun ρ ω h=>hd ρ ω (by simpa[nl] using h))
theorem G6{g:AG}{tb:AS}{D:cy}{ds es:List L2.D}{ρ:SA}{ω:Om}(I:Nat->SA->Om->Prop)(h0:I 0 ρ ω)(hs:∀(i:Nat)(d e:L2.D)(ρ:SA)(ω:Om)(N:SA->Om->Prop),ds[i]?=some d->es[i]?=some e->I i ρ ω->(∀ρ' ω',I (i+1) ρ' ω'->N ρ' ω')->g (.d (.tup [d,e])) ρ ω fun ρ1 ω1=>tb { nx:=N,ct:=N,bk:=D.nx,rt:=D.rt } ρ1 ω1)(hd:∀ρ ω,I (min ds.length es.length) ρ ω->D.nx ρ ω):mn g tb D (oM ds es) ρ ω:=
 A5 I h0 (fun i a ρ ω N ha h k=>by
  obtain⟨d,e,h1,h2,rfl⟩:=tT ha
  exact hs i d e ρ ω N h1 h2 h k) (fun ρ ω h=>hd ρ ω (by simpa[oM] using h))
theorem xa{g:AG}{tc:AT}{l:AL}{as xs:List AV}{ρ:SA}{ω:Om}{K:List AV->SA->Om->Prop}(I:Nat->List AV->SA->Om->Prop)(h0:I 0 xs ρ ω)(hs:∀(i:Nat)(a:AV)(xs:List AV)(ρ:SA)(ω:Om)(N:List AV->SA->Om->Prop),as[i]?=some a->I i xs ρ ω->(∀xs' ρ' ω',I (i+1) xs' ρ' ω'->N xs' ρ' ω')->g a ρ ω fun ρ1 ω1=>tc ρ1 ω1 fun b ω2=>if b=true then l xs ρ1 ω2 N else N xs ρ1 ω2)(hd:∀xs ρ ω,I as.length xs ρ ω->K xs ρ ω):d9 g tc l as xs ρ ω K:=by
 have key:∀(n i:Nat)(xs:List AV)(ρ:SA)(ω:Om),i+n=as.length->I i xs ρ ω->d9 g tc l (as.drop i) xs ρ ω K:=by
  intro n
  induction n with
  |zero=>intro i xs ρ ω hi h;rw[List.drop_eq_nil_of_le (by omega)];exact hd xs ρ ω (by rw[←hi];exact h)
  |succ n ih=>
   intro i xs ρ ω hi h;obtain⟨a,ha,hdr⟩:=mJ (as:=as) (i:=i) (by omega)
   rw[hdr];exact hs i a xs ρ ω (fun xs' ρ' ω'=>d9 g tc l (as.drop (i+1)) xs' ρ' ω' K) ha h fun xs' ρ' ω' h'=>ih (i+1) xs' ρ' ω' (by omega) h'
 simpa using key as.length 0 xs ρ ω (by omega) h0
theorem qC{g:AG}{tc:AT}{l:AL}{ds:List D}{xs:List AV}{ρ:SA}{ω:Om}{K:List AV->SA->Om->Prop}(I:Nat->List AV->SA->Om->Prop)(h0:I 0 xs ρ ω)(hs:∀(i:Nat)(d:D)(xs:List AV)(ρ:SA)(ω:Om)(N:List AV->SA->Om->Prop),ds[i]?=some d->I i xs ρ ω->(∀xs' ρ' ω',I (i+1) xs' ρ' ω'->N xs' ρ' ω')->g (.d d) ρ ω fun ρ1 ω1=>tc ρ1 ω1 fun b ω2=>if b=true then l xs ρ1 ω2 N else N xs ρ1 ω2)(hd:∀xs ρ ω,I ds.length xs ρ ω->K xs ρ ω):d9 g tc l (ds.map AV.d) xs ρ ω K:=
 xa I h0 (fun i a xs ρ ω N ha h k=>by
  rw[List.getElem?_map,Option.map_eq_some_iff] at ha;obtain⟨d,h1,rfl⟩:=ha
  exact hs i d xs ρ ω N h1 h k) (fun xs ρ ω h=>hd xs ρ ω (by simpa using h))
theorem HY{tc:AT}{te:AE}{ds:List D}{v0:Option AV}{bB:SA}{ω:Om}{K:List AV->SA->Om->Prop}(p:D->Bool)(f:D->D)(ht:∀d∈ds,∀Q:Bool->Om->Prop,Q (p d) ω->tc (some (.d d)::bB) ω Q)(he:∀d∈ds,p d=true->∀Q:AV->Om->Prop,Q (.d (f d)) ω->te (some (.d d)::bB) ω Q)(hz:ds.length<=sizeLine)(hk:∀ρ,K (((ds.filter p).map f).map AV.d) ρ ω):d9 (gq 0) tc (ll te) (ds.map AV.d) [] (v0::bB) ω K:=by
 refine qC (fun i xs ρ ω'=>ω'=ω/\(∃v,ρ=v::bB)/\xs=(((ds.take i).filter p).map f).map AV.d) ⟨rfl,⟨_,rfl⟩,rfl⟩ ?_ ?_
 ·rintro i d xs ρ ω' N hd ⟨rfl,⟨v,rfl⟩,rfl⟩ kN
  have hi:=(List.getElem?_eq_some_iff.mp hd).1;have hm:=List.mem_of_getElem? hd;have et:ds.take (i+1)=ds.take i++[d]:=by rw[List.take_succ,hd];rfl
  rw[iy,List.set_cons_zero];refine ht d hm _ ?_
  cases hp:p d with
  |true=>
   rw[if_pos rfl,kF];refine he d hm hp _ ⟨?_,kN _ _ _ ⟨rfl,⟨_,rfl⟩,?_⟩⟩
   ·rw[List.length_map,List.length_map]
    have:=List.length_filter_le p (ds.take i);rw[List.length_take] at this;omega
   ·rw[et,List.filter_append]
    simp[hp]
  |false=>
   rw[if_neg Bool.false_ne_true];refine kN _ _ _ ⟨rfl,⟨_,rfl⟩,?_⟩;rw[et,List.filter_append];simp[hp]
 ·rintro xs ρ ω' ⟨rfl,_,rfl⟩
  rw[List.take_length];exact hk ρ
structure Pn where
 f:Int
 x:Int
 i:Int
 h:0<=f
section
variable{α:Type}(a b c e:α)(l:List α)
theorem lj{xs:List α}{x:α}(j:Nat){i:Int}(hi:i=(j:Int))(h:xs[j]?=some x):atI xs i=some x:=by
 subst hi;have hj:=(List.getElem?_eq_some_iff.mp h).1;unfold atI ixN;rw[if_pos (by omega),if_pos (by omega)]
 simpa using h
theorem IT:atI (a::l) 0=some a:=lj 0 rfl rfl
theorem IW:atI (a::b::l) 1=some b:=lj 1 rfl rfl
theorem Iy:atI (a::b::c::l) 2=some c:=lj 2 rfl rfl
theorem Js:atI (a::b::c::e::l) 3=some e:=lj 3 rfl rfl
end
theorem sz1:(1<=sizeLine)=True:=eq_true (by decide)
theorem sz2:(2<=sizeLine)=True:=eq_true (by decide)
theorem sz3:(3<=sizeLine)=True:=eq_true (by decide)
theorem sz4:(4<=sizeLine)=True:=eq_true (by decide)
theorem sz6:(6<=sizeLine)=True:=eq_true (by decide)
theorem gJ(a b:Int):eqD (.int a) (.int b)=(a == b):=by simp[eqD]
theorem rJ(a b:Str):eqD (.str a) (.str b)=(a == b):=by simp[eqD]
theorem F8:eqD .non .non=true:=by simp[eqD]
theorem EV(a:List D):eqD (.tup a) .non=false:=by simp[eqD]
theorem Cj(a:Int):dep (.int a)=0:=by simp[dep]
theorem rQ(a:Str):dep (.str a)=0:=by simp[dep]
theorem BM(a:Bool):Gg (.bl a)=some (if a then 1 else 0):=rfl
theorem zR{n m:Nat}(h:n<=1000):n<=sizeLine:=Nat.le_trans h (by decide)
theorem jJ{n m:Nat}(h:n<=1000):n<sizeLine:=Nat.lt_of_le_of_lt h (by decide)
noncomputable def Om.only(ω' ω:Om):Om:=fun b=>if (ω b).isSome=true then ω' b else none
noncomputable def Ex(ω ω':Om):Prop:=∀b,(ω b).isSome=true->ω' b=ω b
theorem Ex.refl(ω:Om):Ex ω ω:=fun _ _=>rfl
theorem Ex.none{ω ω':Om}(h:Ex ω ω'){l:Addr}(e:ω' l=none):ω l=none:=by
 cases z:ω l with
 |none=>rfl
 |some c=>have:=h l (by rw[z];rfl);rw[e,z] at this;cases this
theorem Ex.new{ω ω':Om}(h:Ex ω ω'){l:Addr}{c:OC}(e:ω' l=Option.none):Ex ω (ω'.put l c):=fun b hb=>by
 have:b≠l:=fun z=>by subst z;rw[h.none e] at hb;cases hb
 rw[Om.Nt this];exact h b hb
theorem Ex.over{ω ω':Om}(h:Ex ω ω'){l:Addr}{c:OC}(e:ω l=Option.none):Ex ω (ω'.put l c):=fun b hb=>by
 have:b≠l:=fun z=>by subst z;rw[e] at hb;cases hb
 rw[Om.Nt this];exact h b hb
theorem ay(ω:Om):ω.only ω=ω:=by
 funext b;unfold Om.only
 cases e:ω b<;>simp
theorem jF{ω ω':Om}(h:Ex ω ω'):ω'.only ω=ω:=by
 funext b;unfold Om.only
 cases e:ω b with
 |none=>simp
 |some c=>simp only[Option.isSome_some,if_true];rw[h b (by rw[e];rfl),e]
theorem EB{ω ω':Om}{p:Addr}{c:OC}(h:Ex (ω.put p c) ω')(hp:(ω p).isSome=true):ω'.only ω=ω.put p c:=by
 funext b;unfold Om.only
 by_cases hb:b=p
 ·subst hb;rw[if_pos hp,h b (by rw[Om.Nr];rfl)]
 ·rw[Om.Nt hb]
  cases e:ω b with
  |none=>simp
  |some o=>simp only[Option.isSome_some,if_true];rw[h b (by rw[Om.Nt hb,e];rfl),Om.Nt hb,e]
theorem Rep.only{F:Fs}{H:Hp}{ω ω':Om}(rp:Rep F H ω'):Rep F H (ω'.only ω)/\db (cut F H ω') (cut F H (ω'.only ω)):=by
 have ho:∀b,ow (ω' b)=false->ow ((ω'.only ω) b)=false:=fun b h=>by
  unfold Om.only;split
  ·exact h
  ·rfl
 have sm:db (cut F H ω') (cut F H (ω'.only ω)):=fun b o e=>by
  obtain⟨h,f,e⟩:=cx.mp e;exact cx.mpr ⟨ho b h,f,e⟩
 have un:∀b c,(ω'.only ω) b=some c->ω' b=some c:=fun b c e=>by
  unfold Om.only at e;split at e
  ·exact e
  ·cases e
 refine⟨⟨fun l xs e=>?_,fun l ds e=>(rp.frz l ds (un _ _ e)).same sm,fun b f=>?_,fun l ks e=>(by obtain⟨vs,e1,e2⟩:=rp.dic l ks (un _ _ e);exact⟨vs,e1,e2.same sm⟩)⟩,sm⟩
 ·obtain⟨vs,e1,e2⟩:=rp.own l xs (un _ _ e)
  exact⟨vs,e1,e2.same sm⟩
 ·obtain⟨h1,h2⟩:=rp.hid b f
  refine⟨?_,h2⟩;unfold Om.only;rw[h1];simp
theorem Fr.only{F:Fs}{H H':Hp}{ω ω':Om}(fr:Fr F H ω H' ω'):Fr F H ω H' (ω'.only ω):=⟨fun b o h f e=>by
 obtain⟨x,y⟩:=fr.st b o h f e;refine⟨x,?_⟩;unfold Om.only;split
 ·exact y
 ·rfl,fr.hd⟩
theorem Fun.okD{P:Program}{w:World}{K:W.Frag}{mg:Str->Option Value}{base:Heap}{x qual:Str}{st:Stmt}{f:Addr}{fd:FuncData}{N ps:List Str}{k:Nat}{sp:ASp}(F:Fun K x qual st f fd)(S:az N ps (defScope st))(len:∀xs ω Q,sp xs ω Q->xs.length=ps.length)
  (hbody:∀(cdv:Value)(A:Around)(outer:List Env)(s:Shared)(H:Hp)(E:XK),ft k (A.deeper (envOfC qual (defScope st) s.heap.objs.size f cdv)) ->
   ∃t t',PSs (uk CX0 P w K mg base N qual (defScope st) f cdv A outer s H E).nox (defBody st) t/\jT t t'/\∀xs ω Q',sp xs ω Q'->t' { nx:=fun _ ω'=>Q' (.d .non) (ω'.only ω),rt:=fun a ω'=>∃d,a=.d d/\Q' (.d d) (ω'.only ω) } (l4 N xs) ω):aA P w K mg base CX0 (k+1) f fd ps (bo sp):=by
 refine F.ok S (fun vs H Q E h=>?_) (fun cdv A outer s H vs Q E hr h=>?_)
 ·obtain⟨F,xs,ω,Q',rp,rv,h,_⟩:=h
  rw[rv.length,len xs ω Q' h]
 ·obtain⟨t,t',h1,h2,h3⟩:=hbody cdv A outer s H E hr
  obtain⟨F,xs,ω,Q',rp,rv,h,kq⟩:=h;refine⟨t,h1,h2.run F H ω _ _ _ _ rp (RS.start rv) (h3 xs ω Q' h) ⟨?_,?_,fun _ _ _ _ _ _ _ z=>z.elim,fun _ _ _ _ _ _ _ z=>z.elim⟩⟩
  ·exact fun ρ' ω' σ' H' e1 e2 e3 q=>kq (.d .non) (ω'.only ω) .non H' e1.only.1 e2.only (by simp[RV,Dat]) q
  ·rintro a ω' v H' e1 e2 e3 ⟨d,rfl,q⟩
   exact kq (.d d) (ω'.only ω) v H' e1.only.1 e2.only (e3.same e1.only.2) q
noncomputable def wl:Nat->List (List Int)
 |0=>[[]]
 |n+1=>(wl n).flatMap fun w=>[w++[0],w++[1]]
theorem AK:∀n,(wl n).length=2^n
 |0=>rfl
 |n+1=>by
  have h:∀ws:List (List Int),(ws.flatMap fun w=>[w++[0],w++[1]]).length=2*ws.length:=fun ws=>by
   induction ws with
   |nil=>rfl
   |cons a r ih=>rw[List.flatMap_cons,List.length_append,ih];simp;omega
  rw[wl,h,AK n,Nat.pow_succ];omega
theorem cK:∀ {n:Nat} {w:List Int},w∈wl n->w.length=n/\∀x∈w,x=0\/x=1
 |0,w,h=>by simp[wl] at h;rw[h];simp
 |n+1,w,h=>by
  simp only[wl,List.mem_flatMap] at h;obtain⟨v,hv,h⟩:=h;obtain⟨h1,h2⟩:=cK hv;simp only[List.mem_cons,List.not_mem_nil,or_false] at h;rcases h with rfl|rfl<;>refine⟨by simp[h1],fun x hx=>?_⟩<;>rcases List.mem_append.mp hx with hx|hx
  ·exact h2 x hx
  ·rw[List.mem_singleton.mp hx];exact .inl rfl
  ·exact h2 x hx
  ·rw[List.mem_singleton.mp hx];exact .inr rfl
theorem Jx{n:Nat}(h:n<=5):(wl n).length<=32:=by
 rw[AK];exact Nat.pow_le_pow_right (by decide) h
theorem K7:∀n:Fin 6,(wl n.val).Nodup:=by decide +kernel
theorem LB{n:Nat}(h:n<=5):(wl n).Nodup:=K7 ⟨n,by omega⟩
noncomputable def Wds(n:Nat)(ws:List (List Int)):Prop:=ws.Nodup/\∀w∈ws,w∈wl n
theorem Wds.le{n:Nat}{ws:List (List Int)}(h:Wds n ws)(hn:n<=5):ws.length<=32:=by
 have:=h.1.length_le_of_subset (l₂:=wl n) (fun w hw=>h.2 w hw);have:=Jx hn;omega
theorem Wds.sub{n:Nat}{ws:List (List Int)}(h:ws.Sublist (wl n))(hn:n<=5):Wds n ws:=⟨h.nodup (LB hn),fun w hw=>h.mem hw⟩
theorem Wds.perm{n:Nat}{ws vs:List (List Int)}(h:Wds n ws)(p:vs.Perm ws):Wds n vs:=⟨(p.nodup_iff).mpr h.1,fun w hw=>h.2 w (p.mem_iff.mp hw)⟩
theorem vt:∀a b:List Int,gN (a.map D.int) (b.map D.int)=decide (a=b)
 | [],[]=>by simp[gN]
 | [],_::_=>by simp[gN]
 |_::_,[]=>by simp[gN]
 |x::a,y::b=>by
  simp only[List.map_cons,gN,eqD,vt a b,List.cons.injEq];by_cases h1:x=y<;>by_cases h2:a=b<;>simp[h1,h2]
theorem GH(a b:List Int):eqD (wdD a) (wdD b)=decide (a=b):=by simp only[wdD,eqD];exact vt a b
theorem Km(w:List Int):dep (wdD w)=1:=by simp[wdD,dep,m8]
theorem fv(ws:List (List Int)):ib (ws.map wdD)<=1:=wL fun d hd=>by
 obtain⟨w,_,rfl⟩:=List.mem_map.mp hd;rw[Km];exact Nat.le_refl _
theorem p5(a:List Int)(ws:List (List Int)):inD (wdD a) (ws.map wdD)=decide (a∈ws):=by
 unfold inD;rw[Bool.eq_iff_iff,List.any_eq_true,decide_eq_true_iff];constructor
 ·rintro⟨d,hd,e⟩
  obtain⟨w,hw,rfl⟩:=List.mem_map.mp hd;rw[GH,decide_eq_true_iff] at e;exact e ▸ hw
 ·intro h
  exact⟨wdD a,List.mem_map.mpr ⟨a,h,rfl⟩,by rw[GH];simp⟩
theorem dA{α β:Type}{f:α->β}{xs:List α}{i:Nat}{y:β}(h:(xs.map f)[i]?=some y):∃x,xs[i]?=some x/\y=f x:=by
 rw[List.getElem?_map] at h
 cases e:xs[i]? with
 |none=>rw[e] at h;cases h
 |some x=>rw[e] at h;cases h;exact⟨x,rfl,rfl⟩
theorem mS{α:Type}{f:α->AV}{xs:List α}{i:Int}(h0:0<=i)(h1:i<xs.length):∃x,x∈xs/\xs[i.toNat]?=some x/\atI (xs.map f) i=some (f x):=by
 obtain⟨j,rfl⟩:=Int.eq_ofNat_of_zero_le h0;have hj:j<xs.length:=by omega
 exact⟨xs[j],List.getElem_mem hj,by simp[List.getElem?_eq_getElem hj],lj j rfl (by rw[List.getElem?_map,List.getElem?_eq_getElem hj];rfl)⟩
theorem Ix{w:List Int}{i:Int}(h0:0<=i)(h1:i<w.length):atI ((w.map D.int).map AV.d) i=some (.d (.int (w.getD i.toNat 0))):=by
 obtain⟨j,rfl⟩:=Int.eq_ofNat_of_zero_le h0;have hj:j<w.length:=by omega
 refine lj j rfl ?_;rw[List.getElem?_map,List.getElem?_map,List.getElem?_eq_getElem hj];simp[List.getD_eq_getElem?_getD,List.getElem?_eq_getElem hj]
theorem mf{n:Nat}{w:List Int}(h:w∈wl n)(i:Nat):w.getD i 0=0\/w.getD i 0=1:=by
 rw[List.getD_eq_getElem?_getD]
 cases e:w[i]? with
 |none=>exact .inl rfl
 |some x=>exact(cK h).2 x (List.mem_of_getElem? e)
theorem Bh(x:List Int):j9 (.d (wdD x))=some ((x.map D.int).map AV.d):=rfl
theorem BI(ω:Om)(x:List Int):hV ω (.d (wdD x))=none:=rfl
theorem EZ{α β:Type}(f:α->β)(xs:List α)(lo hi:Option Int):l0 (xs.map f) lo hi=(l0 xs lo hi).map f:=by
 unfold l0;rw[List.length_map,List.map_take,List.map_drop]
inductive Sy where
 |is (i b:Int)
 |jn (an:Bool) (l r:Sy)
namespace Sy
noncomputable def d:Sy->D
 |.is i b=>.tup [.str "is",.int i,.int b]
 |.jn an l r=>.tup [.str (if an then "and" else "or"),l.d,r.d]
noncomputable def ok(n:Nat):Sy->Prop
 |.is i b=>0<=i/\i<n/\(b=0\/b=1)
 |.jn _ l r=>l.ok n/\r.ok n
noncomputable def dp:Sy->Nat
 |.is _ _=>0
 |.jn _ l r=>1+max l.dp r.dp
noncomputable def lvs:Sy->Nat
 |.is _ _=>1
 |.jn _ l r=>l.lvs+r.lvs
noncomputable def up:Sy->Prop
 |.is _ b=>b=1
 |.jn _ l r=>l.up/\r.up
noncomputable def val(w:List Int):Sy->Bool
 |.is i b=>decide (w.getD i.toNat 0=b)
 |.jn an l r=>if an then val w l && val w r else val w l || val w r
end Sy
inductive Ta where
 |en (i:Int)
 |nd (y:Bool) (ws:List (List Int)) (l r:Ta)
namespace Ta
noncomputable def d:Ta->D
 |.en i=>.tup [.str "end",.int i]
 |.nd y ws l r=>.tup [.str (if y then "yes" else "no"),.tup (ws.map wdD),l.d,r.d]
noncomputable def ok(n:Nat):Ta->Prop
 |.en i=>0<=i/\i<n
 |.nd _ ws l r=>Wds n ws/\l.ok n/\r.ok n
noncomputable def dp:Ta->Nat
 |.en _=>0
 |.nd _ _ l r=>1+max l.dp r.dp
noncomputable def lvs:Ta->Nat
 |.en _=>1
 |.nd _ _ l r=>l.lvs+r.lvs
noncomputable def size:Ta->Nat
 |.en _=>1
 |.nd _ _ l r=>l.size+r.size+1
noncomputable def bit(y n:List Int)(hy:Bool)(ws:List (List Int)):Bool:=decide ((if hy then y else n)∈ws)
noncomputable def way(y n:List Int):Ta->List Int
 |.en _=>[]
 |.nd h ws a b=>if bit y n h ws then 1::way y n b else 0::way y n a
noncomputable def fin(y n:List Int):Ta->Int
 |.en i=>i
 |.nd h ws a b=>if bit y n h ws then fin y n b else fin y n a
theorem vS(y n:List Int):∀u:Ta,(way y n u).length<=u.dp
 |.en _=>by simp[way,dp]
 |.nd h ws a b=>by
  have h1:=vS y n a;have h2:=vS y n b;simp only[way,dp];split<;>simp<;>omega
theorem s9{m:Nat}{y n:List Int}:∀ {u:Ta},u.ok m->0<=fin y n u/\fin y n u<m
 |.en i,h=>h
 |.nd h ws a b,h'=>by
  obtain⟨_,ha,hb⟩:=h';simp only[fin];split
  ·exact s9 hb
  ·exact s9 ha
theorem gO:∀t:Ta,t.size+1=2*t.lvs
 |.en x=>rfl
 |.nd y ws l r=>by
  have:=gO l;have:=gO r;simp only[size,lvs];omega
end Ta
theorem A8:(("end":Str)=("yes":Str))=False:=eq_false (by decide +kernel)
theorem Bd:(("yes":Str)=("no":Str))=False:=eq_false (by decide +kernel)
theorem Ci:(("no":Str)=("yes":Str))=False:=eq_false (by decide +kernel)
theorem BT:(("and":Str)=("is":Str))=False:=eq_false (by decide +kernel)
theorem B0:(("and":Str)=("or":Str))=False:=eq_false (by decide +kernel)
theorem Bf:(("or":Str)=("is":Str))=False:=eq_false (by decide +kernel)
theorem B7:(("or":Str)=("and":Str))=False:=eq_false (by decide +kernel)
theorem Bn:(("any":Str)=("rising":Str))=False:=eq_false (by decide +kernel)
theorem EM(F:Nat->SA->Om->Prop):∃Pv:Nat->SA->Om->Prop,∀i ρ ω,Pv i ρ ω↔F i ρ ω:=⟨F,fun _ _ _=>Iff.rfl⟩
noncomputable def om2(ω:Om)(p l:Addr)(c A:OC):Om:=(ω.put p c).put l A
section
variable{ω:Om}{p l l1 l2:Addr}{c c' A A' B B':OC}
theorem nG(h:p≠l):om2 ω p l c A p=some c:=by unfold om2;rw[Om.Nt h,Om.Nr]
theorem df:om2 ω p l c A l=some A:=by unfold om2;rw[Om.Nr]
theorem mE(h:p≠l):(om2 ω p l c A).put p c'=om2 ω p l c' A:=by unfold om2;rw[Om.NH h,Om.Nv]
theorem dq:(om2 ω p l c A).put l A'=om2 ω p l c A':=by unfold om2;rw[Om.Nv]
theorem pj{q:Addr}{o:OC}(h:ω.put p o q=none):q≠p/\ω q=none:=by
 have:q≠p:=fun z=>by subst z;rw[Om.Nr] at h;cases h
 exact⟨this,by rwa [Om.Nt this] at h⟩
end
theorem IZ{α:Type}{xs:List α}(h:xs.Nodup){i j:Nat}{x:α}(hi:xs[i]?=some x)(hj:xs[j]?=some x):i=j:=
 (List.getElem?_inj (List.getElem?_eq_some_iff.mp hi).1 h).mp (hi.trans hj.symm)
structure Ne4(p l1 l2 l3:Addr):Prop where
 p1:p≠l1
 p2:p≠l2
 p3:p≠l3
 a:l1≠l2
 b:l1≠l3
 c:l2≠l3
section
variable{ω:Om}{p l1 l2 l3:Addr}{c c' A A' B B' C C':OC}(h:Ne4 p l1 l2 l3)
include h
end
section
variable{P:Program}{w:World}{K:W.Frag}{mg:Str->Option Value}{base:Heap}
structure Cs(n:Nat)(ys zs:List (List Int)):Prop where
 y:Wds n ys
 z:Wds n zs
 y1:ys≠[]
 z1:zs≠[]
theorem pG{t u:AS}{D:cy}{ρ:SA}{ω:Om}(I:SA->Om->Prop)(h1:∀N:SA->Om->Prop,(∀ρ' ω',I ρ' ω'->N ρ' ω')->t { D with nx:=N } ρ ω)(h2:∀ρ' ω',I ρ' ω'->u D ρ' ω'):yG t u D ρ ω:=h1 (u D) h2
theorem FR{α:Type}(xs:List α)(lo hi:Option Int):(l0 xs lo hi).Sublist xs:=(List.take_sublist _ _).trans (List.drop_sublist _ _)
theorem FC{ω:Om}{l:Addr}{ds:List D}(h:ω l=some (.own (ds.map AV.d))):cg ω (.r (.ref l))=some (.lst ds):=by
 rw[zL,h];simp only[a8,Option.map_some]
noncomputable def JU:ASp:=fun _ _ _=>False
theorem Jt{f:Addr}{fd:FuncData}{ps:List Str}{k:Nat}:aA P w K mg base CX0 k f fd ps (bo JU):=
 ⟨fun _ _ _ _ h=>by obtain⟨_,_,_,_,_,_,h,_⟩:=h;exact h.elim,fun _ _ _ _ _ _ _ _ _ _ _ _ _ h=>by obtain⟨_,_,_,_,_,_,h,_⟩:=h;exact h.elim⟩
noncomputable def b01(b:Bool):Int:=if b then 1 else 0
theorem kK{n:Nat}{ws:List (List Int)}(h:Wds n ws)(q:List Int->Bool):Wds n (ws.filter q):=⟨h.1.filter _,fun v hv=>h.2 v (List.mem_filter.mp hv).1⟩
theorem Du{α:Type}{xs:List α}{b:α}:atI (xs++[b]) (-1)=some b:=by
 unfold atI ixN;rw[if_neg (by decide),if_pos (by simp;omega)]
 show (xs++[b])[((-1:Int)+((xs++[b]).length:Nat)).toNat]?=some b;have:((-1:Int)+((xs++[b]).length:Nat)).toNat=xs.length:=by simp;omega
 rw[this];simp
theorem xV(to:AE)(ρ:SA)(ω:Om)(Q:AV->Om->Prop):Hx to ρ ω Q=(to ρ ω fun x ω1=>∃l xs y,x=.r (.ref l)/\ω1 l=some (.own xs)/\xs.getLast?=some y/\Q y (ω1.put l (.own xs.dropLast))):=by
 unfold Hx;simp only[List.getLast?_eq_getElem?]
theorem AU{α:Type}(A:List α)(x:α):(A++[x]).isEmpty=false:=by cases A<;>rfl
theorem qM{α:Type}(A:List α)(x:α):(A++[x]).getLast?=some x:=by simp
theorem kJ{α:Type}(A:List α)(x:α):(A++[x]).dropLast=A:=by simp
end
noncomputable def lD(caps:List V)(cA:List AV)(sp:ASp):Sp:=fun vs H Q _=>∃(F:Fs)(xs:List AV)(ω:Om)(Q':AV->Om->Prop),Rep F H ω/\RVs (cut F H ω) xs vs/\RVs (cut F H ω) cA caps/\sp xs ω Q'/\LP RV F H ω Q' Q
noncomputable def zC(f:Addr)(caps:List V)(cA:List AV):AV:=.p (.ref f) (fun G=>RVs G cA caps)
noncomputable def Au(i:Nat)(f:Addr)(caps:List V)(cA:List AV)(sp:ASp)(t:AA):AE:=fun ρ ω Q=>ρ[i]?=some (some (zC f caps cA))/\t ρ ω fun xs ω1=>sp xs ω1 Q
theorem Bo{X:Cx}{k n i:Nat}{t:TA}{t':AA}{f:Addr}{caps:List V}{cA:List AV}{sp:ASp}(C:Clo X.prog X.w X.K X.mg X.base X.H₀ k f n (lD caps cA sp))(ht:nV t t'):bj (DZ X k n i t) (Au i f caps cA sp t'):=⟨fun F H ω σ ρ Q Q' rp rs w kq=>by
 obtain⟨e,w⟩:=w;obtain⟨v,e1,e2⟩:=rs.2 i _ e;obtain⟨rfl,e3⟩:=e2
 refine⟨f,_,e1,C,ht.go rp rs w fun xs ω1 vs H1 rp1 fr1 rs1 rv1 q=>⟨F,xs,ω1,Q',rp1,rv1,e3 _ fr1.same,q,kq.fr fr1⟩⟩⟩
theorem dP{P:Program}{w:World}{K:W.Frag}{mg:Str->Option Value}{base:Heap}{H₀:Hp}{k:Nat}{f:Addr}{q:Str}{params:Arguments}{body:Expr}{scope:Scope}{cl:List (Str×Addr)}{ps cs:List Str}{caps:List V}{cA:List AV}{sp:ASp}(L:tX H₀ f q params body scope cl)(S:yl ps cs scope)(C:CN base cl cs caps)(hb:∀(pm:Value)(c:Addr)(ctv:Value)(us:List Value),us.length=ps.length->bindArgs (W.kla_fn "<lambda>" q params body scope cl pm (.ref c) ctv) ⟨us,[]⟩=pure (ps.zip us))(len:∀xs ω Q,sp xs ω Q->xs.length=ps.length)
  (hbody:∀(cd:Value)(A:Around)(outer:List Env)(s:Shared)(H:Hp),ft k (A.deeper (W.envX q scope s.heap.objs.size f cd cl)) ->
   ∃t t',PE (BY P w K mg base (ps++cs) q scope f cd cl A outer s H) body t/\bj t t'/\∀xs ω Q,sp xs ω Q->t' ((xs++cA).map some) ω Q):Clo P w K mg base H₀ (k+1) f ps.length (lD caps cA sp):=by
 refine Ld L S C hb (fun vs H Q E h=>?_) (fun cd A outer s H vs Q E hr h=>?_)
 ·obtain⟨F,xs,ω,Q',rp,rv,_,h,_⟩:=h
  rw[rv.length,len xs ω Q' h]
 ·obtain⟨t,t',h1,h2,h3⟩:=hbody cd A outer s H hr
  obtain⟨F,xs,ω,Q',rp,rv,rc,h,kq⟩:=h;refine⟨t,h1,h2.run F H ω _ _ Q Q' rp ?_ (h3 xs ω Q' h) kq⟩;have:=rv.append rc;refine⟨by simp[this.length,rv.length,rc.length],fun i a e=>?_⟩
  rw[List.getElem?_map,Option.map_eq_some_iff] at e;obtain⟨b,hb,e⟩:=e;cases e;obtain⟨v,e1,e2⟩:=this.get hb;exact⟨v,by rw[List.getElem?_map,e1];rfl,e2⟩
theorem Db(b:Heap):CN b [] [] []:=⟨rfl,fun _ _ h=>(nomatch h),fun _ _ _ h=>(nomatch h),fun _ _ _ h=>(nomatch h)⟩
theorem lG{b:Heap}{x:Str}{c:Addr}{v:V}{u:Value}(h:b.IsCell c (some u))(r:bp v u):CN b [(x,c)] [x] [v]:=by
 have lk:∀y d,([(x,c)]:List (Str×Addr)).lookup y=some d->y=x/\d=c:=fun y d e=>by
  rw[List.lookup_cons] at e
  cases q:y == x with
  |true=>rw[q] at e;cases e;exact⟨eq_of_beq q,rfl⟩
  |false=>rw[q] at e;cases e
 refine⟨rfl,fun y d e=>?_,fun y z d e1 e2=>(lk y d e1).1.trans (lk z d e2).1.symm,fun j y w h1 h2=>?_⟩
 ·rw[(lk y d e).1];exact List.mem_singleton.mpr rfl
 ·cases j with
  |zero=>
   simp at h1 h2;subst h1 h2;exact⟨c,u,by simp[List.lookup],h,r⟩
  |succ j=>simp at h1
noncomputable def MJ(js:List Nat)(σ:St)(caps:List V):Prop:=caps.length=js.length/\∀(k j:Nat)(v:V),js[k]?=some j->caps[k]?=some v->σ[j]?=some (some v)
noncomputable def qm:List Nat->SA->Option (List AV)
 | [],_=>some []
 |j::js,ρ=>match ρ[j]?,qm js ρ with
  |some (some a),some r=>some (a::r)
  |_,_=>none
theorem vP{G:Hp}{ρ:SA}{σ:St}(rs:RS G ρ σ):∀ {js:List Nat} {cA:List AV},qm js ρ=some cA->∃caps,MJ js σ caps/\RVs G cA caps
 | [],cA,h=>by cases h;exact⟨[],⟨rfl,fun _ _ _ h=>by simp at h⟩,rfl⟩
 |j::js,cA,h=>by
  simp only[qm] at h
  cases e1:ρ[j]? with
  |none=>rw[e1] at h;simp at h
  |some o=>
   cases o with
   |none=>rw[e1] at h;simp at h
   |some a=>
    cases e2:qm js ρ with
    |none=>rw[e1,e2] at h;simp at h
    |some r=>
     rw[e1,e2] at h;simp at h;subst h;obtain⟨caps,⟨c1,c2⟩,c3⟩:=vP rs e2;obtain⟨v,v1,v2⟩:=rs.2 j a e1;refine⟨v::caps,⟨by simp[c1],fun k i u h1 h2=>?_⟩,v,caps,rfl,v2,c3⟩
     cases k with
     |zero=>simp at h1 h2;subst h1 h2;exact v1
     |succ k=>simp at h1 h2;exact c2 k i u h1 h2
noncomputable def fP(kc:Nat)(P:Program)(w:World)(K:W.Frag)(mg:Str->Option Value)(base:Heap):Sp:=fun vs H Q _=>∃(F:Fs)(ω:Om)(Q':AV->Om->Prop)(v:V)(lw:Str)(u:Tr)(f1 f2:Addr)(c1 c2:List V)(a1 a2:List AV)(s1 s2:ASp)(g:Tr->D),
 vs=[v,.str lw,.ref f1,.ref f2]/\Rep F H ω/\Dat (cut F H ω) u.d v/\u.ok lw/\u.size<=100000/\Clo P w K mg base H kc f1 1 (lD c1 a1 s1)/\Clo P w K mg base H kc f2 3 (lD c2 a2 s2)/\RVs (cut F H ω) a1 c1/\RVs (cut F H ω) a2 c2 /\
 (∀x,Tr.lf x∈u.post->∀ω1 Q1,Q1 (.d (g (.lf x))) ω1->s1 [.d (Tr.lf x).d] ω1 Q1)/\(∀x l r,Tr.nd x l r∈u.post->∀ω1 Q1,Q1 (.d (g (.nd x l r))) ω1->s2 [.d (Tr.nd x l r).d,.d (g l),.d (g r)] ω1 Q1)/\Q' (.d (g u)) ω/\LP RV F H ω Q' Q
noncomputable def IA(j1 j2:List Nat)(s1 s2:List AV->ASp)(ta tb:AE):AE:=fun ρ ω Q=>ta ρ ω fun x ω0=>tb ρ ω0 fun y ω1=>∃(lw:Str)(u:Tr)(g:Tr->D)(a1 a2:List AV),y=.d (.str lw)/\x=.d u.d/\u.ok lw/\u.size<=100000/\qm j1 ρ=some a1/\qm j2 ρ=some a2 /\
 (∀x,Tr.lf x∈u.post->∀ω1 Q1,Q1 (.d (g (.lf x))) ω1->s1 a1 [.d (Tr.lf x).d] ω1 Q1)/\(∀x l r,Tr.nd x l r∈u.post->∀ω1 Q1,Q1 (.d (g (.nd x l r))) ω1->s2 a2 [.d (Tr.nd x l r).d,.d (g l),.d (g r)] ω1 Q1)/\Q (.d (g u)) ω1
theorem yY(j1 j2:List Nat)(s1 s2:List AV->ASp)(ta tb:AE)(ρ:SA)(ω:Om)(Q:AV->Om->Prop):IA j1 j2 s1 s2 ta tb ρ ω Q=(ta ρ ω fun x ω0=>tb ρ ω0 fun y ω1=>∃(lw:Str)(u:Tr)(g:Tr->D)(a1 a2:List AV),y=.d (.str lw)/\x=.d u.d/\u.ok lw/\u.size<=100000/\qm j1 ρ=some a1/\qm j2 ρ=some a2 /\
 (∀x,Tr.lf x∈u.post->∀ω1 Q1,Q1 (.d (g (.lf x))) ω1->s1 a1 [.d (Tr.lf x).d] ω1 Q1)/\(∀x l r,Tr.nd x l r∈u.post->∀ω1 Q1,Q1 (.d (g (.nd x l r))) ω1->s2 a2 [.d (Tr.nd x l r).d,.d (g l),.d (g r)] ω1 Q1)/\Q (.d (g u)) ω1):=rfl
noncomputable def K8(X:Cx)(kc n:Nat)(js:List Nat)(q:Str)(a:Arguments)(b:Expr)(sc:Scope)(cl:List (Str×Addr))(s:List AV->ASp):Prop:=
 ∀(b':Heap)(H:Hp)(f:Addr)(σ:St)(caps:List V)(cA:List AV),tX H f q a b sc cl->Ep X σ b'->MJ js σ caps->cA.length=js.length->Clo X.prog X.w X.K X.mg b' H kc f n (lD caps cA (s cA))
theorem pk{ρ:SA}:∀ {js:List Nat} {cA:List AV},qm js ρ=some cA->cA.length=js.length
 | [],cA,h=>by cases h;rfl
 |j::js,cA,h=>by
  simp only[qm] at h
  cases e1:ρ[j]? with
  |none=>rw[e1] at h;simp at h
  |some o=>
   cases o with
   |none=>rw[e1] at h;simp at h
   |some a=>
    cases e2:qm js ρ with
    |none=>rw[e1,e2] at h;simp at h
    |some r=>
     rw[e1,e2] at h;simp at h;subst h;simp[pk e2]
theorem qv{X:Cx}{kc:Nat}{ta tb:TE}{ta' tb':AE}{q1 q2:Str}{j1 j2:List Nat}{p1 p2:Arguments}{b1 b2:Expr}{sc1 sc2:Scope}{l1 l2:List (Str×Addr)}{s1 s2:List AV->ASp}(h1:K8 X kc 1 j1 q1 p1 b1 sc1 l1 s1)(h2:K8 X kc 3 j2 q2 p2 b2 sc2 l2 s2)(ha:bj ta ta')(hb:bj tb tb'):
  bj (zO X (fun b'=>fP kc X.prog X.w X.K X.mg b') (kl ta (kl tb (kl (Hb q1 p1 b1 sc1 l1) (kl (Hb q2 p2 b2 sc2 l2) Im))))) (IA j1 j2 s1 s2 ta' tb'):=⟨fun F H ω σ ρ Q Q' rp rs w kq=>by
 refine ha.go rp rs w fun x ω0 v H0 rp0 fr0 rs0 rv0 q=>hb.go rp0 rs0 q fun y ω1 yv H1 rp1 fr1 rs1 rv1 q=>?_;obtain⟨lw,u,g,a1,a2,rfl,rfl,hok,hsz,e1,e2,k1,k2,q⟩:=q;cases s0 rv1;intro f1 H2 m1 _ M1 f2 H3 m2 _ M2 b' sub cb;obtain⟨rp3,fr3⟩:=rp1.later (m1.trans m2);obtain⟨c1,v1,r1⟩:=vP (rs1.same fr3.same) e1;obtain⟨c2,v2,r2⟩:=vP (rs1.same fr3.same) e2
 exact⟨F,ω1,Q',v,lw,u,f1,f2,c1,c2,a1,a2,s1 a1,s2 a2,g,rfl,rp3,Dat.same (fr1.trans fr3).same rv0,hok,hsz,h1 b' H3 f1 σ c1 a1 (M1.frz m2.frz) cb v1 (pk e1),h2 b' H3 f2 σ c2 a2 M2 cb v2 (pk e2),r1,r2,k1,k2,q,kq.fr ((fr0.trans fr1).trans fr3)⟩⟩
theorem qg.okD{P:Program}{w:World}{K:W.Frag}{mg:Str->Option Value}{base:Heap}{x qual:Str}{st:Stmt}{f c p:Addr}{fd:FuncData}{N ps:List Str}{k:Nat}{sp:ASp}(F:qg K x qual st f fd c p)(S:az N ps (defScope st))(len:∀xs ω Q,sp xs ω Q->xs.length=ps.length)
  (hbody:∀(A:Around)(outer:List Env)(s:Shared)(H:Hp)(E:XK),ft k (A.deeper (envOfC qual (defScope st) s.heap.objs.size f (.ref c))) ->
   ∃t t',PSs (uk CX0 P w K mg base N qual (defScope st) f (.ref c) A outer s H E).nox (defBody st) t/\jT t t'/\∀xs ω Q',sp xs ω Q'->t' { nx:=fun _ ω'=>Q' (.d .non) (ω'.only ω),rt:=fun a ω'=>∃d,a=.d d/\Q' (.d d) (ω'.only ω) } (l4 N xs) ω):aA P w K mg base CX0 (k+1) f fd ps (bo sp):=by
 refine F.ok S (fun vs H Q E h=>?_) (fun A outer s H vs Q E hr h=>?_)
 ·obtain⟨F,xs,ω,Q',rp,rv,h,_⟩:=h
  rw[rv.length,len xs ω Q' h]
 ·obtain⟨t,t',h1,h2,h3⟩:=hbody A outer s H E hr
  obtain⟨F,xs,ω,Q',rp,rv,h,kq⟩:=h;refine⟨t,h1,h2.run F H ω _ _ _ _ rp (RS.start rv) (h3 xs ω Q' h) ⟨?_,?_,fun _ _ _ _ _ _ _ z=>z.elim,fun _ _ _ _ _ _ _ z=>z.elim⟩⟩
  ·exact fun ρ' ω' σ' H' e1 e2 e3 q=>kq (.d .non) (ω'.only ω) .non H' e1.only.1 e2.only (by simp[RV,Dat]) q
  ·rintro a ω' v H' e1 e2 e3 ⟨d,rfl,q⟩
   exact kq (.d d) (ω'.only ω) v H' e1.only.1 e2.only (e3.same e1.only.2) q
structure No(t2 t:TS)(t':AS):Prop where
 run:∀(F:Fs)(H:Hp)(ω:Om)(σ:St)(ρ:SA)(D:nu)(D':cy),Rep F H ω->RS (cut F H ω) ρ σ->t' D' ρ ω->LE F H ω D' { D with nx:=t2 D }->t D σ H
section
variable{t t1 t2 u:TS}{t1' u':AS}{N:SA->Om->Prop}{m:Nat}
noncomputable def isL(H:Hp):Fs:=fun b=>match H b with
 |some (.lst _)=>true
 |_=>false
end
theorem Ig{P:Program}{w:World}{K:W.Frag}{mg:Str->Option Value}{b':Heap}{H:Hp}{k:Nat}{x qual:Str}{st:Stmt}{f:Addr}{fd:FuncData}{ps:List Str}{sp:ASp}(T:Fun K x qual st f fd)(F:aA P w K mg b' CX0 k f fd ps (bo sp))(hb:aS K fd ps []):Clo P w K mg b' H k f ps.length (lD [] [] sp):=by
 obtain⟨oc,od,kV,doc,pm,an,cdv,ct,osl,rfl,lk,hcd⟩:=T.ex;have tl:∀vs H Q E,lD [] [] sp vs H Q E->bo sp vs H Q E:=fun vs H Q E ⟨F,xs,ω,Q',rp,rv,_,h,k⟩=>⟨F,xs,ω,Q',rp,rv,h,k⟩;refine⟨.inr ⟨_,_,_,_,lk⟩,fun vs H Q E h=>F.len vs H Q E (tl _ _ _ _ h),fun A outer s H us vs Q E hr e0 _ hv hs=>?_⟩;have kin:K.In s.heap:=fun a o e=>(e0.bs a o (e0.mod.kin a o e)).1;have hl:(us++[]).length=ps.length:=by rw[List.append_nil,←hv.length];exact F.len _ _ _ _ (tl _ _ _ _ hs)
 have hbb:=hb s us kin hl;rw[List.append_nil] at hbb;exact F.run A outer s H ⟨us,[]⟩ us vs Q E hr e0 hbb hv (tl _ _ _ _ hs)
noncomputable def Gb(j1:List Nat)(s1:List AV->ASp)(s2:ASp)(ta tb:AE):AE:=fun ρ ω Q=>ta ρ ω fun x ω0=>tb ρ ω0 fun y ω1=>∃(lw:Str)(u:Tr)(g:Tr->D)(a1:List AV),y=.d (.str lw)/\x=.d u.d/\u.ok lw/\u.size<=100000/\qm j1 ρ=some a1 /\
 (∀x,Tr.lf x∈u.post->∀ω1 Q1,Q1 (.d (g (.lf x))) ω1->s1 a1 [.d (Tr.lf x).d] ω1 Q1)/\(∀x l r,Tr.nd x l r∈u.post->∀ω1 Q1,Q1 (.d (g (.nd x l r))) ω1->s2 [.d (Tr.nd x l r).d,.d (g l),.d (g r)] ω1 Q1)/\Q (.d (g u)) ω1
theorem vb(j1:List Nat)(s1:List AV->ASp)(s2:ASp)(ta tb:AE)(ρ:SA)(ω:Om)(Q:AV->Om->Prop):Gb j1 s1 s2 ta tb ρ ω Q=(ta ρ ω fun x ω0=>tb ρ ω0 fun y ω1=>∃(lw:Str)(u:Tr)(g:Tr->D)(a1:List AV),y=.d (.str lw)/\x=.d u.d/\u.ok lw/\u.size<=100000/\qm j1 ρ=some a1 /\
 (∀x,Tr.lf x∈u.post->∀ω1 Q1,Q1 (.d (g (.lf x))) ω1->s1 a1 [.d (Tr.lf x).d] ω1 Q1)/\(∀x l r,Tr.nd x l r∈u.post->∀ω1 Q1,Q1 (.d (g (.nd x l r))) ω1->s2 [.d (Tr.nd x l r).d,.d (g l),.d (g r)] ω1 Q1)/\Q (.d (g u)) ω1):=rfl
theorem CH{X:Cx}{kc:Nat}{ta tb:TE}{ta' tb':AE}{q1:Str}{j1:List Nat}{p1:Arguments}{b1:Expr}{sc1:Scope}{l1:List (Str×Addr)}{s1:List AV->ASp}{s2:ASp}{f2:Addr}(h1:K8 X kc 1 j1 q1 p1 b1 sc1 l1 s1)(h2:∀b' H,Clo X.prog X.w X.K X.mg b' H kc f2 3 (lD [] [] s2))(ha:bj ta ta')(hb:bj tb tb'):
  bj (zO X (fun b'=>fP kc X.prog X.w X.K X.mg b') (kl ta (kl tb (kl (Hb q1 p1 b1 sc1 l1) (kl (tC (.ref f2)) Im))))) (Gb j1 s1 s2 ta' tb'):=⟨fun F H ω σ ρ Q Q' rp rs w kq=>by
 refine ha.go rp rs w fun x ω0 v H0 rp0 fr0 rs0 rv0 q=>hb.go rp0 rs0 q fun y ω1 yv H1 rp1 fr1 rs1 rv1 q=>?_;obtain⟨lw,u,g,a1,rfl,rfl,hok,hsz,e1,k1,k2,q⟩:=q;cases s0 rv1;intro f1 H2 m1 _ M1 b' sub cb;obtain⟨rp3,fr3⟩:=rp1.later m1;obtain⟨c1,v1,r1⟩:=vP (rs1.same fr3.same) e1
 exact⟨F,ω1,Q',v,lw,u,f1,f2,c1,[],a1,[],s1 a1,s2,g,rfl,rp3,Dat.same (fr1.trans fr3).same rv0,hok,hsz,h1 b' H2 f1 σ c1 a1 M1 cb v1 (pk e1),h2 b' H2,r1,rfl,k1,k2,q,kq.fr ((fr0.trans fr1).trans fr3)⟩⟩
theorem px{g:AG}{te:AE}{as:List AV}{rs:List D}{ρ:SA}{ω:Om}{K:List AV->SA->Om->Prop}(R:SA->Prop)(h0:R ρ)(hl:rs.length=as.length)(hz:as.length<=sizeLine)(he:∀(i:Nat)(a:AV)(r:D)(ρ:SA)(N:SA->Om->Prop),as[i]?=some a->rs[i]?=some r->R ρ->(∀ρ1,R ρ1->(∀Q:AV->Om->Prop,Q (.d r) ω->te ρ1 ω Q)->N ρ1 ω)->g a ρ ω N)(hk:∀ρ,R ρ->K (rs.map AV.d) ρ ω):d9 g ph (ll te) as [] ρ ω K:=by
 refine xa (fun i xs ρ ω'=>ω'=ω/\R ρ/\xs=(rs.take i).map AV.d) ⟨rfl,h0,rfl⟩ ?_ ?_
 ·rintro i a xs ρ ω' N ha ⟨rfl,hR,rfl⟩ kN
  have hi:=(List.getElem?_eq_some_iff.mp ha).1;have hr:rs[i]?=some rs[i]:=List.getElem?_eq_getElem (by omega)
  refine he i a _ ρ _ ha hr hR fun ρ1 hR1 h=>?_;rw[nY,if_pos rfl,kF];refine h _ ⟨by rw[List.length_map,List.length_take];omega,kN _ _ _ ⟨rfl,hR1,?_⟩⟩
  rw[show rs.take (i+1)=rs.take i++[rs[i]] from by rw[List.take_succ,hr];rfl,List.map_append]
  rfl
 ·rintro xs ρ ω' ⟨rfl,hR,rfl⟩
  rw[←hl,List.take_length]
  exact hk ρ hR
theorem mU{te:AE}{as:List AV}{rs:List D}{v0:Option AV}{bB:SA}{ω:Om}{K:List AV->SA->Om->Prop}(hl:rs.length=as.length)(hz:as.length<=sizeLine)(he:∀(i:Nat)(a:AV)(r:D),as[i]?=some a->rs[i]?=some r->∀Q:AV->Om->Prop,Q (.d r) ω->te (some a::bB) ω Q)(hk:∀ρ,K (rs.map AV.d) ρ ω):d9 (gq 0) ph (ll te) as [] (v0::bB) ω K:=
 px (fun ρ=>∃v,ρ=v::bB) ⟨_,rfl⟩ hl hz (fun i a r ρ N ha hr ⟨v,e⟩ k=>by
  subst e;rw[iy,List.set_cons_zero]
  exact k _ ⟨_,rfl⟩ (he i a r ha hr)) (fun ρ _=>hk ρ)
theorem yp{te:AE}{ds es:List D}{rs:List D}{v0 v1:Option AV}{bB:SA}{ω:Om}{K:List AV->SA->Om->Prop}(hl1:ds.length=rs.length)(hl2:es.length=rs.length)(hz:rs.length<=sizeLine)(he:∀(i:Nat)(d e r:D),ds[i]?=some d->es[i]?=some e->rs[i]?=some r->∀Q:AV->Om->Prop,Q (.d r) ω->te (some (.d d)::some (.d e)::bB) ω Q)(hk:∀ρ,K (rs.map AV.d) ρ ω):d9 (CC 2 (pK (gq 0) (pK (gq 1) Bx))) ph (ll te) (oM ds es) [] (v0::v1::bB) ω K:=by
 have el:(oM ds es).length=rs.length:=by simp[oM,hl1,hl2]
 refine px (fun ρ=>∃v v',ρ=v::v'::bB) ⟨_,_,rfl⟩ el.symm (by omega) (fun i a r ρ N ha hr ⟨v,v',e⟩ k=>?_) (fun ρ _=>hk ρ)
 subst e;obtain⟨d,e,h1,h2,rfl⟩:=tT ha;exact⟨_,rfl,rfl,_,_,rfl,_,_,rfl,rfl,k _ ⟨_,_,rfl⟩ (he i d e r h1 h2 hr)⟩
noncomputable def q9(K:W.Frag)(a:Addr)(ns:List Int):AV:=.p (.ref a) (fun H=>SqL K H a (ns.map V.int))
noncomputable def GL(K:W.Frag):AC:=fun xs ω Q=>∃(a:Addr)(ns:List Int),xs=[q9 K a ns]/\Q (.d (.lst (ns.map D.int))) ω
theorem vK(K:W.Frag)(xs:List AV)(ω:Om)(Q:AV->Om->Prop):GL K xs ω Q=(∃(a:Addr)(ns:List Int),xs=[q9 K a ns]/\Q (.d (.lst (ns.map D.int))) ω):=rfl
theorem JL{F:Fs}{H:Hp}{ω:Om}{K:W.Frag}{a:Addr}{ns:List Int}{v:V}(r:RV (cut F H ω) (q9 K a ns) v):v=.ref a/\SqL K H a (ns.map V.int):=by
 obtain⟨rfl,r⟩:=r;exact⟨rfl,r _ a7⟩
theorem HX{K:W.Frag}:ug (fun xs H Q=>∃p ys,xs=[.ref p]/\(SqL K H p ys\/SqT K H p ys)/\∀l,H l=none->Q (.ref l) (upd H l (.lst ys))) (GL K):=⟨fun F H ω vs xs Q Q' rp rv ⟨a,ns,e,q⟩ k=>by
 subst e;obtain⟨v,rfl,r⟩:=qe rv;obtain⟨rfl,hs⟩:=JL r
 exact⟨a,_,rfl,.inl hs,k.lst rp (qk _ ns) q⟩⟩
theorem zu{K:W.Frag}{H:Hp}{a:Addr}{ns:List Int}(h:SqL K H a (ns.map V.int)):RV (cut (fun _=>false) H (fun _=>none)) (q9 K a ns) (.ref a):=by
 refine⟨rfl,fun G' s=>?_⟩;have s2:db H G':=fun b o e=>s b o (cx.mpr ⟨rfl,rfl,e⟩);rcases h with(h|⟨o,h⟩)|h
 ·exact .inl (.inl (s2 _ _ h))
 ·exact .inl (.inr ⟨o,s2 _ _ h⟩)
 ·exact .inr h
theorem HJ{H:Hp}:Rep (fun _=>false) H (fun _=>none):=⟨fun _ _ h=>by simp at h,fun _ _ h=>by simp at h,fun _ h=>by simp at h,fun _ _ h=>by simp at h⟩
theorem sM{tc:AT}{te:AE}{ds:List D}{v0:Option AV}{bB:SA}{ω:Om}{K:List AV->SA->Om->Prop}(S:Om->Prop)(h0:S ω)(ht:∀d∈ds,∀ω,S ω->∀Q:Bool->Om->Prop,(∀b ω',S ω'->Q b ω')->tc (some (.d d)::bB) ω Q)(he:∀d∈ds,∀ω,S ω->∀Q:AV->Om->Prop,Q (.d d) ω->te (some (.d d)::bB) ω Q)(hz:ds.length<=sizeLine)(hk:∀(es:List D) ρ ω,es.Sublist ds->S ω->K (es.map AV.d) ρ ω):d9 (gq 0) tc (ll te) (ds.map AV.d) [] (v0::bB) ω K:=by
 refine qC (fun i xs ρ ω'=>∃v es,S ω'/\ρ=v::bB/\xs=es.map AV.d/\es.Sublist (ds.take i)) ⟨_,[],h0,rfl,rfl,List.nil_sublist _⟩ ?_ ?_
 ·rintro i d xs ρ ω' N hd ⟨v,es,hS,rfl,rfl,hs⟩ kN
  have hi:=(List.getElem?_eq_some_iff.mp hd).1;have hm:=List.mem_of_getElem? hd;have et:ds.take (i+1)=ds.take i++[d]:=by rw[List.take_succ,hd];rfl
  have hle:=hs.length_le;rw[List.length_take] at hle;rw[iy,List.set_cons_zero];refine ht d hm _ hS _ fun b ω2 hS2=>?_
  cases b with
  |true=>
   rw[if_pos rfl,kF];refine he d hm _ hS2 _ ⟨by rw[List.length_map];omega,kN _ _ _ ⟨_,es++[d],hS2,rfl,by simp,?_⟩⟩
   rw[et];exact hs.append (List.Sublist.refl _)
  |false=>
   rw[if_neg Bool.false_ne_true];refine kN _ _ _ ⟨_,es,hS2,rfl,rfl,?_⟩;rw[et];exact hs.trans (List.sublist_append_left _ _)
 ·rintro xs ρ ω' ⟨v,es,hS,rfl,rfl,hs⟩
  rw[List.take_length] at hs;exact hk es _ _ hs hS
theorem vW{α:Type}{g:AG}{tc:AT}{te:AE}{as:List AV}{xs:List α}{ρ:SA}{ω:Om}{K:List AV->SA->Om->Prop}(R:SA->Prop)(h0:R ρ)(enc:α->AV)(p:α->Bool)(f:α->D)(ea:as=xs.map enc)(hz:xs.length<=sizeLine)(he:∀(x:α)(ρ:SA)(N:SA->Om->Prop),x∈xs->R ρ->(∀ρ1,R ρ1->(∀Q:Bool->Om->Prop,Q (p x) ω->tc ρ1 ω Q)->(p x=true->∀Q:AV->Om->Prop,Q (.d (f x)) ω->te ρ1 ω Q)->N ρ1 ω)->g (enc x) ρ ω N)(hk:∀ρ,R ρ->K (((xs.filter p).map f).map AV.d) ρ ω):d9 g tc (ll te) as [] ρ ω K:=by
 subst ea;refine xa (fun i ys ρ ω'=>ω'=ω/\R ρ/\ys=(((xs.take i).filter p).map f).map AV.d) ⟨rfl,h0,rfl⟩ ?_ ?_
 ·rintro i a ys ρ ω' N ha ⟨rfl,hR,rfl⟩ kN
  rw[List.getElem?_map,Option.map_eq_some_iff] at ha;obtain⟨x,hx,rfl⟩:=ha;have hi:=(List.getElem?_eq_some_iff.mp hx).1;have et:xs.take (i+1)=xs.take i++[x]:=by rw[List.take_succ,hx];rfl
  refine he x ρ _ (List.mem_of_getElem? hx) hR fun ρ1 hR1 h1 h2=>h1 _ ?_
  cases hp:p x with
  |true=>
   rw[if_pos rfl,kF];refine h2 hp _ ⟨?_,kN _ _ _ ⟨rfl,hR1,?_⟩⟩
   ·rw[List.length_map,List.length_map]
    have:=List.length_filter_le p (xs.take i);rw[List.length_take] at this;omega
   ·rw[et,List.filter_append]
    simp[hp]
  |false=>
   rw[if_neg Bool.false_ne_true];refine kN _ _ _ ⟨rfl,hR1,?_⟩;rw[et,List.filter_append];simp[hp]
 ·rintro ys ρ ω' ⟨rfl,hR,rfl⟩
  rw[List.length_map,List.take_length];exact hk ρ hR
theorem wG{α:Type}{tc:AT}{te:AE}{xs:List α}{v0:Option AV}{bB:SA}{ω:Om}{K:List AV->SA->Om->Prop}(enc:α->D)(p:α->Bool)(f:α->D)(hz:xs.length<=sizeLine)(ht:∀x∈xs,∀Q:Bool->Om->Prop,Q (p x) ω->tc (some (.d (enc x))::bB) ω Q)(he:∀x∈xs,p x=true->∀Q:AV->Om->Prop,Q (.d (f x)) ω->te (some (.d (enc x))::bB) ω Q)(hk:∀ρ,K (((xs.filter p).map f).map AV.d) ρ ω):d9 (gq 0) tc (ll te) ((xs.map enc).map AV.d) [] (v0::bB) ω K:=
 vW (fun ρ=>∃ v,ρ = v :: bB) ⟨_,rfl⟩ (fun x=>.d (enc x)) p f (by simp) hz (fun x ρ N hx ⟨v,e⟩ k=>by
  subst e;rw[iy,List.set_cons_zero]
  exact k _ ⟨_,rfl⟩ (ht x hx) (he x hx)) (fun ρ _=>hk ρ)
theorem HB{α β:Type}{tc:AT}{te:AE}{xs:List α}{ys:List β}{v0 v1:Option AV}{bB:SA}{ω:Om}{K:List AV->SA->Om->Prop}(e1:α->D)(e2:β->D)(p:α×β->Bool)(f:α×β->D)(hz:xs.length<=sizeLine)(ht:∀q∈xs.zip ys,∀Q:Bool->Om->Prop,Q (p q) ω->tc (some (.d (e1 q.1))::some (.d (e2 q.2))::bB) ω Q)(he:∀q∈xs.zip ys,p q=true->∀Q:AV->Om->Prop,Q (.d (f q)) ω->te (some (.d (e1 q.1))::some (.d (e2 q.2))::bB) ω Q)(hk:∀ρ,K ((((xs.zip ys).filter p).map f).map AV.d) ρ ω):d9 (CC 2 (pK (gq 0) (pK (gq 1) Bx))) tc (ll te) (oM (xs.map e1) (ys.map e2)) [] (v0::v1::bB) ω K:=
 vW (fun ρ=>∃ v v',ρ = v :: v' :: bB) ⟨_,_,rfl⟩ (fun q : α × β=>.d (.tup [e1 q.1,e2 q.2])) p f (by simp [oM,List.zip_map,Function.comp_def]) (Nat.le_trans (by simp;omega) hz) (fun x ρ N hx ⟨v,v',e⟩ k=>by
  subst e
  exact⟨_,rfl,rfl,_,_,rfl,_,_,rfl,rfl,k _ ⟨_,_,rfl⟩ (ht x hx) (he x hx)⟩) (fun ρ _=>hk ρ)
structure Pq where
 a:Addr
 ns:List Int
 i:Int
 f:Int
 h0:0<=i
 hf:0<=f
 hn:ns.length<=63
section
variable{prog:Program}{w:World}{A:Around}{E:Value->Shared->Prop}{s:Shared}
theorem DL{Q:List Value->Shared->Prop}{r:Addr}{a b c:Int}{t u v:Tok}{n:Nat}(hh:A.handled=none)(hr:IsRange s.heap r a b c t u v)(hsm:Builtin.Range.small a b c=true)(hn:Builtin.Range.rangeSize a b c=n)(hlen:n<=2^24)(hQ:∀(h':Heap)(tk:Nat)(its:Array Value),(∀b o,s.heap.get? b=some o->h'.get? b=some o)->ItemsOf (fun i v=>∃t,v=.int (a+i*c) t) its n->Q its.toList { s with heap:=h',toks:=tk }):
  wpAny (model prog w) A (collect (.ref r)) Q E s:=by
 unfold collect;refine wpAny_bind (wpAny_runValue (codeAny_builtin F.entry_proto_collect ?_));rw[Around.under_plainId F.plain_proto_collect _];show wpAny _ A.in1 (newList [] >>= fun l=>again (.builtin "list.__iadd__" ⟨[l,.ref r],[]⟩)) _ _ s;refine wpAny_bind (wpAny_newObj_type ?_);refine wpAny_pure ⟨plainId_quiet F.plain_list_iadd _,codeAny_builtin F.entry_list_iadd ?_⟩;rw[Around.under_plainId F.plain_list_iadd _]
 show wpAny _ A.in1 (Builtin.List.listExtendWith (.ref s.heap.objs.size) (.ref r) (.ref s.heap.objs.size)) _ _ _;have hNew:(s.heap.push { cls:=.type "list",data:=.seq ([]:List Value).toArray }).get? s.heap.objs.size=some { cls:=.type "list",data:=.seq #[] 0 }:=Heap.get?_push_size _ rfl
 have last:∀(h':Heap)(tk:Nat)(its:Array Value)(c':Nat),(∀b o,s.heap.get? b=some o->h'.get? b=some o)->h'.get? s.heap.objs.size=some { cls:=.type "list",dict:=none,data:=.seq its c',slots:=#[] }->ItemsOf (fun i v=>∃t,v=.int (a+i*c) t) its n ->
   wpAny (model prog w) A (match Value.ref s.heap.objs.size with|Value.ref a=>do { match (← load a).data with|Data.seq xs _=>pure xs.toList|_=>unsupported "internal:collect" }|_=>unsupported "internal:collect") Q E { s with heap:=h',toks:=tk }:=fun h' tk its c' hk hS hi=>by
  show wpAny _ A (load s.heap.objs.size >>= _) _ _ _;refine wpAny_bind (wpAny_load hS ?_);exact wpAny_pure (hQ h' tk its hk hi)
 refine wpAny_mono (wpAny_extend_range (A:=A) (R:=fun rr s'=>∃(h':Heap)(tk:Nat)(its:Array Value)(c':Nat),rr=.ok (.ret (.ref s.heap.objs.size))/\s'={ s with heap:=h',toks:=tk }/\(∀b o,s.heap.get? b=some o->h'.get? b=some o)/\h'.get? s.heap.objs.size=some { cls:=.type "list",dict:=none,data:=.seq its c',slots:=#[] }/\ItemsOf (fun i v=>∃t,v=.int (a+i*c) t) its n)
  (s:={ s with heap:=s.heap.push { cls:=.type "list",data:=.seq ([]:List Value).toArray } }) hh (Heap.get?_push_of_some _ hr) hsm hn hlen _ _ 0 hNew fun h' tk acc' c' hk hS' hacc=>⟨h',tk,acc',c',rfl,rfl,fun b o e=>hk b o (Nat.ne_of_lt (Heap.lt_size e)) (Heap.get?_push_of_some _ e),hS',hacc⟩) (fun fin s' h=>?_) (fun e s' h=>?_)
 ·cases fin with
  |done f=>
   obtain⟨h',tk,its,c',e,rfl,h1,h2,h3⟩:=h;cases e;exact last h' tk its c' h1 h2 h3
  |again c'=>exact⟨h.1,codeAny_mono h.2 fun rr s'' hr=>by obtain⟨h',tk,its,c',rfl,rfl,h1,h2,h3⟩:=hr;exact last h' tk its c' h1 h2 h3⟩
 ·obtain⟨_,_,_,_,e,_⟩:=h
  cases e
end
theorem yF(r:Addr)(a b c:Int)(t u v:Tok)(n:Nat)(hsm:Builtin.Range.small a b c=true)(hn:Builtin.Range.rangeSize a b c=n)(hlen:n<=2^24):
  Meets (Builtin.«tuple.__new__» ⟨[.type "tuple",.ref r],[]⟩)
   (fun A R s=>A.handled=none/\IsRange s.heap r a b c t u v/\∀(h':Heap)(tk:Nat)(its:Array Value),(∀b o,s.heap.get? b=some o->h'.get? b=some o)->ItemsOf (fun i v=>∃t,v=.int (a+i*c) t) its n->R (.ok (.ret (.ref h'.objs.size))) { s with heap:=h'.push { cls:=.type "tuple",data:=.seq its },toks:=tk }):=
 .of_wp fun prog w A R s h=>by
  obtain⟨hp,g,d,tk0,os⟩:=s;obtain⟨hh,ht,h⟩:=h;have hsub:=sub_tuple_self;have hinit:=init_tuple_lookup;have hmh:=madeHere_tuple;have hT:Shared.TypeIs ⟨hp,g,d,tk0,os⟩ (.ref r) "range":=⟨_,ht,rfl⟩
  wp_walk using AutoSeq1.wpAny_loadPart' ht,wpAny_typeOf hT,DL (A:=A.in1) hh ht hsm hn hlen
  intro h' tk its hk hi;have hz:its.size<=sizeLine:=by rw[hi.1,sizeLine_eq];omega
  show wpAny _ _ (Builtin.Tuple.tupleExact its.toList.toArray >>= fun v=>ret v) _ _ _;unfold Builtin.Tuple.tupleExact;refine wpAny_bind (wpAny_newObj_type ?_ (by show its.toList.toArray.size<=sizeLine;simpa using hz))
  refine wpAny_pure ⟨_,rfl,?_⟩;rw[show its.toList.toArray=its from by simp]
  exact h h' tk its hk hi
theorem wK{prog:Program}{w:World}{A:Around}{E:Value->Shared->Prop}{s:Shared}{Q:Value->Shared->Prop}{r:Addr}{a b c:Int}{t u v:Tok}{n:Nat}(hh:A.handled=none)(hr:IsRange s.heap r a b c t u v)(hsm:Builtin.Range.small a b c=true)(hn:Builtin.Range.rangeSize a b c=n)(hlen:n<=2^24)(hQ:∀(h':Heap)(tk:Nat)(its:Array Value),(∀b o,s.heap.get? b=some o->h'.get? b=some o)->ItemsOf (fun i v=>∃t,v=.int (a+i*c) t) its n->Q (.ref h'.objs.size) { s with heap:=h'.push { cls:=.type "tuple",data:=.seq its },toks:=tk }):
  wpAny (model prog w) A (call (.type "tuple") [.ref r]) Q E s:=
 callType_new F.called_tuple (by decide) (F.typeCall_tuple_1 _) (F.newCall_tuple_1 _) (fun obj=>F.args_object_init_2 obj _) F.entry_tuple_new (yF r a b c t u v n hsm hn hlen) ⟨hh,hr,fun h' tk its hk hi=>⟨⟨_,Heap.get?_push_size _ rfl,rfl⟩,hQ h' tk its hk hi⟩⟩
theorem FH{n:Nat}{its:List Value}(hl:its.length=n)(h:∀(j:Nat)(v:Value),its[j]?=some v->∃t,v=Value.int (j:Int) t):∀k,k<=n->aT ((List.range' k (n-k)).map fun i:Nat=>V.int (i:Int)) (its.drop k):=by
 intro k hk
 induction hm:n-k generalizing k with
 |zero=>
  have:k=n:=by omega
  rw[List.range'_zero,List.drop_eq_nil_of_le (by omega)]
  exact .nil
 |succ m ih=>
  have hlt:k<its.length:=by omega
  rw[List.range'_succ,List.map_cons,List.drop_eq_getElem_cons hlt];exact .cons (h k _ (List.getElem?_eq_getElem hlt)) (ih (k+1) (by omega) (by omega))
noncomputable def Bg(ta:TA):TE:=fun σ H Q=>ta σ H fun vs H1=>∃j:Int,vs=[.int j]/\0<=j/\j<=1000/\∀p,H1 p=none->Q (.ref p) (upd H1 p (.tup ((List.range j.toNat).map fun i:Nat=>V.int (i:Int))))
theorem Dp{X:Cx}{a:Expr}{ta:TA}{p p2 pos pos2:Pos}(hc:X.calm=true)(hg:Gl X "tuple")(hm:X.mg "tuple"=none)(hg2:Gl X "range")(hm2:X.mg "range"=none)(ha:PA X [a] ta)(hs:starEach [a] X.env=[(false,eval a X.env)]:=by rfl)(hs2:starEach [.Call (.Name "range" p2) [a] [] pos2] X.env=[(false,eval (.Call (.Name "range" p2) [a] [] pos2) X.env)]:=by rfl):PE X (.Call (.Name "tuple" p) [.Call (.Name "range" p2) [a] [] pos2] [] pos) (Bg ta):=.mk <| by
 intro pins s σ H Q I h;refine wpAny_Call_Name_kw (n8 I hg hm PyProof.Rows.boot_tuple ?_ (by decide) (by decide))
 refine PyProof.Rows.callWith_type1 ?_ hs2 rfl;rw[hs2];show wpAny _ _ (spliced [(false,eval (.Call (.Name "range" p2) [a] [] pos2) X.env)]) _ _ s;refine Calls.spliced_cons (Call_ (n8 I hg2 hm2 boot_range (PyProof.Rows.callWith_type1 (thn (ha pos2 pins s σ H _ I h) fun us s1 ⟨vs,H1,I1,r1,q1⟩=>?_) hs rfl)));obtain⟨j,e,j0,j1,q⟩:=q1;subst e
 cases r1 with
 |cons r rr=>
  cases rr;obtain⟨t,rfl⟩:=r;refine call_range_1 (Calls.spliced_nil ?_);have I2:Inv X pins σ H1 { s1 with heap:=s1.heap.push { cls:=.type "range",data:=.fields #[.int 0 s1.toks,.int j t,.int 1 (s1.toks+1)] },toks:=s1.toks+1+1 }:=I1.kept fun b o e=>Heap.get?_push_of_some _ e;refine wK (n:=j.toNat) (I.ok.hd hc) (IsRange.new ..) (small_one (by omega) (by omega) (by omega) (by omega)) (by rw[rangeSize_one];split<;>omega) (by omega) fun h' tk its hk hi=>?_
  have I3:Inv X pins σ H1 { s1 with heap:=h',toks:=tk }:=I2.kept (h':=h') (t':=tk) hk
  have hr:=FH (n:=j.toNat) (its:=its.toList) (by rw [Array.length_toList];exact hi.1) (fun i v e=>by
   obtain⟨t,e⟩:=hi.2 i v (by simpa using e)
   exact⟨t,by rw[e];simp⟩) 0 (Nat.zero_le _)
  rw[Nat.sub_zero,List.drop_zero,←List.range_eq_range'] at hr
  have I4:Inv X pins σ (upd H1 h'.objs.size (.tup ((List.range j.toNat).map fun i:Nat=>V.int (i:Int)))) { s1 with heap:=h'.push { cls:=.type "tuple",data:=.seq its },toks:=tk }:=
   I3.laid (t':=tk) (fun b o e=>Heap.get?_push_of_some _ e) (Nat.le_refl _) (show dc X.prog X.w _ _ _ (.tup _) from ⟨by rw[List.length_map,List.length_range];exact Nat.le_of_lt (bu (by omega)),its.toList,hr,by simpa using wD.new h' its⟩)
  exact⟨.ref h'.objs.size,_,I4,rfl,q _ (I3.hok.fresh (Nat.le_refl _))⟩
noncomputable def Cc(ta:AA):AE:=fun ρ ω Q=>ta ρ ω fun xs ω1=>∃j:Int,xs=[.d (.int j)]/\0<=j/\j<=1000/\Q (.d (.tup ((List.range j.toNat).map fun i:Nat=>D.int (i:Int)))) ω1
theorem tm(ta:AA)(ρ:SA)(ω:Om)(Q:AV->Om->Prop):Cc ta ρ ω Q=(ta ρ ω fun xs ω1=>∃j:Int,xs=[.d (.int j)]/\0<=j/\j<=1000/\Q (.d (.tup ((List.range j.toNat).map fun i:Nat=>D.int (i:Int)))) ω1):=rfl
theorem F6{ta:TA}{ta':AA}(h:nV ta ta'):bj (Bg ta) (Cc ta'):=⟨fun F H ω σ ρ Q Q' rp rs w k=>h.go rp rs w fun xs ω1 vs H1 rp1 fr1 rs1 rv q=>by
 obtain⟨j,rfl,j0,j1,q⟩:=q;obtain⟨v,rfl,r1⟩:=qe rv;cases cC r1;have e:(List.range j.toNat).map (fun i:Nat=>D.int (i:Int))=((List.range j.toNat).map fun i:Nat=>(i:Int)).map D.int:=by simp
 have e2:(List.range j.toNat).map (fun i:Nat=>V.int (i:Int))=((List.range j.toNat).map fun i:Nat=>(i:Int)).map V.int:=by simp
 rw[e] at q
 exact⟨j,rfl,j0,j1,by rw[e2];exact(k.fr fr1).tup rp1 (qk _ _) q⟩⟩
noncomputable def rj(kvs:List (Str×AV))(k:Str):Option AV:=(kvs.find? fun p=>decide (p.1=k)).map (·.2)
noncomputable def uy:List (Str×AV)->Str->AV->List (Str×AV)
 | [],k,a=>[(k,a)]
 |p::r,k,a=>if p.1=k then (k,a)::r else p::uy r k a
noncomputable def ndK(kvs:List (Str×AV)):Prop:=(kvs.map (·.1)).Nodup
section
variable{G:Hp}{F:Fs}{H:Hp}{ω:Om}
theorem RKs.length:∀ {kvs:List (Str×AV)} {ks:List (Key×V)},RKs G kvs ks->ks.length=kvs.length
 | [],_,h=>by cases h;rfl
 |_::_,_,⟨v,r,h1,_,h3⟩=>by subst h1;simp[h3.length]
theorem RKs.get{k:Str}{a:AV}:∀ {kvs:List (Str×AV)} {ks:List (Key×V)},RKs G kvs ks->rj kvs k=some a->∃v,rD ks (Sum.inr k:Key)=some v/\RV G a v
 | [],_,_,e=>by simp[rj] at e
 |p::r,_,⟨v,r',h1,h2,h3⟩,e=>by
  subst h1;by_cases hp:p.1=k
  ·rw[rj,List.find?_cons,decide_eq_true hp] at e
   cases e;exact⟨v,pD (by rw[hp]),h2⟩
  ·rw[rj,List.find?_cons,decide_eq_false hp] at e
   obtain⟨u,e1,e2⟩:=h3.get (k:=k) (a:=a) e;exact⟨u,by rw[pe (fun z=>hp (Sum.inr.inj z))];exact e1,e2⟩
theorem RKs.any{k:Str}:∀ {kvs:List (Str×AV)} {ks:List (Key×V)},RKs G kvs ks->(ks.any fun kv=>decide (kv.1=(Sum.inr k:Key)))=kvs.any fun p=>decide (p.1=k)
 | [],_,h=>by cases h;rfl
 |p::r,_,⟨v,r',h1,h2,h3⟩=>by
  subst h1;rw[List.any_cons,List.any_cons,h3.any]
  congr 1
  by_cases hp:p.1=k
  ·rw[decide_eq_true hp,decide_eq_true (by rw[hp])]
  ·rw[decide_eq_false hp,decide_eq_false fun z=>hp (Sum.inr.inj z)]
theorem RKs.keep{k:Str}{v:V}:∀ {kvs:List (Str×AV)} {ks:List (Key×V)},RKs G kvs ks->(kvs.any fun p=>decide (p.1=k))=false->ks.map (fun kv=>if kv.1=(Sum.inr k:Key) then (kv.1,v) else kv)=ks
 | [],_,h,_=>by cases h;rfl
 |p::r,_,⟨u,r',h1,h2,h3⟩,e=>by
  subst h1;rw[List.any_cons,Bool.or_eq_false_iff] at e;have hp:¬ p.1=k:=of_decide_eq_false e.1;rw[List.map_cons,h3.keep e.2,if_neg fun z=>hp (Sum.inr.inj z)]
theorem RKs.NR{k:Str}{a:AV}{v:V}(hv:RV G a v):∀ {kvs:List (Str×AV)} {ks:List (Key×V)},RKs G kvs ks->ndK kvs->(kvs.any fun p=>decide (p.1=k))=true->RKs G (uy kvs k a) (ks.map fun kv=>if kv.1=(Sum.inr k:Key) then (kv.1,v) else kv)
 | [],_,_,_,e=>by simp at e
 |p::r,_,⟨u,r',h1,h2,h3⟩,nd,e=>by
  subst h1;unfold uy;by_cases hp:p.1=k
  ·rw[if_pos hp,List.map_cons,if_pos (by rw[hp])]
   have hn:(r.any fun p=>decide (p.1=k))=false:=by
    rw[List.any_eq_false];intro q hq hk;have hk:=of_decide_eq_true hk;have:=(List.nodup_cons.mp nd).1;exact this (List.mem_map.mpr ⟨q,hq,by rw[hk];exact hp.symm⟩)
   rw[h3.keep hn];exact⟨v,r',by rw[hp],hv,h3⟩
  ·rw[if_neg hp,List.map_cons,if_neg fun z=>hp (Sum.inr.inj z)]
   rw[List.any_cons,decide_eq_false hp,Bool.false_or] at e;exact⟨u,_,rfl,h2,h3.NR hv (List.nodup_cons.mp nd).2 e⟩
theorem RKs.put{k:Str}{a:AV}{v:V}{kvs:List (Str×AV)}{ks:List (Key×V)}(h:RKs G kvs ks)(hv:RV G a v)(nd:ndK kvs)(e:(kvs.any fun p=>decide (p.1=k))=true):RKs G (uy kvs k a) (kt ks (Sum.inr k:Key) v):=by
 unfold kt;rw[if_pos (by rw[h.any];exact e)]
 exact h.NR hv nd e
theorem AF{l:Addr}{xs ys:List (Str×AV)}{o:HO}(h:ω l=some (.dic xs)):cut F (upd H l o) (ω.put l (.dic ys))=cut F H ω:=by
 funext b;unfold cut Om.put
 by_cases hb:b=l
 ·subst hb;rw[if_pos rfl,h];simp[ow]
 ·rw[if_neg hb,aD hb]
theorem Rep.NM(R:Rep F H ω){l:Addr}{xs ys:List (Str×AV)}{vs:List (Key×V)}(h:ω l=some (.dic xs))(hv:RKs (cut F H ω) ys vs):
  Rep F (upd H l (.dK vs)) (ω.put l (.dic ys))/\Fr F H ω (upd H l (.dK vs)) (ω.put l (.dic ys)):=by
 have c:=AF (F:=F) (H:=H) (ys:=ys) (o:=.dK vs) h;refine⟨⟨fun k zs e=>?_,fun k ds e=>?_,fun b f=>?_,fun k zs e=>?_⟩,fun b o x f e=>?_,fun b f=>?_⟩
 ·have hk:k≠l:=fun z=>(by subst z;rw[Om.Nr] at e;cases e)
  rw[Om.Nt hk] at e;rw[c,aD hk];exact R.own k zs e
 ·have hk:k≠l:=fun z=>(by subst z;rw[Om.Nr] at e;cases e)
  rw[Om.Nt hk] at e;rw[c];exact R.frz k ds e
 ·obtain⟨x,o,q⟩:=R.hid b f
  have hb:b≠l:=fun z=>(by subst z;rw[h] at x;cases x)
  exact⟨by rw[Om.Nt hb];exact x,o,by rw[aD hb];exact q⟩
 ·rw[c]
  by_cases hk:k=l
  ·subst hk;rw[Om.Nr] at e;cases e;exact⟨vs,bY,hv⟩
  ·rw[Om.Nt hk] at e;rw[aD hk];exact R.dic k zs e
 ·have hb:b≠l:=fun z=>(by subst z;rw[h] at x;cases x)
  rw[Om.Nt hb,aD hb];exact⟨e,x⟩
 ·obtain⟨x,o,q⟩:=R.hid b f
  have hb:b≠l:=fun z=>(by subst z;rw[h] at x;cases x)
  exact aD hb
theorem Rep.mkD(R:Rep F H ω){l:Addr}{xs:List (Str×AV)}{vs:List (Key×V)}(h:H l=none)(hv:RKs (cut F H ω) xs vs):
  Rep F (upd H l (.dK vs)) (ω.put l (.dic xs))/\Fr F H ω (upd H l (.dK vs)) (ω.put l (.dic xs)):=by
 obtain⟨f1,f2⟩:=R.free h
 have c:cut F (upd H l (.dK vs)) (ω.put l (.dic xs))=cut F H ω:=by
  funext b;unfold cut Om.put
  by_cases hb:b=l
  ·subst hb;rw[if_pos rfl,f1,f2,h];simp[ow]
  ·rw[if_neg hb,aD hb]
 refine⟨⟨fun k zs e=>?_,fun k ds e=>?_,fun b f=>?_,fun k zs e=>?_⟩,fun b o x f e=>?_,fun b f=>?_⟩
 ·have hk:k≠l:=fun z=>(by subst z;rw[Om.Nr] at e;cases e)
  rw[Om.Nt hk] at e;rw[c,aD hk];exact R.own k zs e
 ·have hk:k≠l:=fun z=>(by subst z;rw[Om.Nr] at e;cases e)
  rw[Om.Nt hk] at e;rw[c];exact R.frz k ds e
 ·obtain⟨x,o,q⟩:=R.hid b f
  have hb:b≠l:=aW q h;exact⟨by rw[Om.Nt hb];exact x,o,by rw[aD hb];exact q⟩
 ·rw[c]
  by_cases hk:k=l
  ·subst hk;rw[Om.Nr] at e;cases e;exact⟨vs,bY,hv⟩
  ·rw[Om.Nt hk] at e;rw[aD hk];exact R.dic k zs e
 ·have hb:b≠l:=aW e h
  rw[Om.Nt hb,aD hb];exact⟨e,x⟩
 ·obtain⟨x,o,q⟩:=R.hid b f
  exact aD (aW q h)
end
noncomputable def Jb(td ty:AE):AE:=fun ρ ω Q=>td ρ ω fun x ω1=>ty ρ ω1 fun y ω2=>∃l kvs k a,x=.r (.ref l)/\ω2 l=some (.dic kvs)/\y=.d (.str k)/\rj kvs k=some a/\Q a ω2
theorem xZ(td ty:AE)(ρ:SA)(ω:Om)(Q:AV->Om->Prop):Jb td ty ρ ω Q=(td ρ ω fun x ω1=>ty ρ ω1 fun y ω2=>∃l kvs k a,x=.r (.ref l)/\ω2 l=some (.dic kvs)/\y=.d (.str k)/\rj kvs k=some a/\Q a ω2):=rfl
theorem me{td ty:TE}{td' ty':AE}(hd:bj td td')(hy:bj ty ty'):bj (Iz td ty) (Jb td' ty'):=⟨fun F H ω σ ρ Q Q' rp rs w k=>
 hd.go rp rs w fun x ω1 v H1 rp1 fr1 rs1 rv1 q1=>hy.go rp1 rs1 q1 fun y ω2 u H2 rp2 fr2 rs2 rv2 ⟨l,kvs,kk,a,e1,e2,e3,e4,q⟩=>by
  subst e1 e3;cases (show v=.ref l from rv1)
  cases s0 rv2;obtain⟨ks,z1,z2⟩:=rp2.dic l kvs e2;obtain⟨vv,y1,y2⟩:=z2.get e4;have g:=Dj.k (k:=(Sum.inr kk:Key)) z1;rw[y1] at g
  exact⟨l,vv,rfl,g,k a ω2 vv H2 rp2 (fr1.trans fr2) y2 q⟩⟩
noncomputable def IP(td ty tv:AE):AS:=fun D ρ ω=>tv ρ ω fun v ω1=>td ρ ω1 fun x ω2=>ty ρ ω2 fun y ω3=>∃l kvs k,x=.r (.ref l)/\ω3 l=some (.dic kvs)/\y=.d (.str k)/\ndK kvs/\(kvs.any fun p=>decide (p.1=k))=true/\kvs.length<sizeLine/\D.nx ρ (ω3.put l (.dic (uy kvs k v)))
theorem yO(td ty tv:AE)(D:cy)(ρ:SA)(ω:Om):IP td ty tv D ρ ω=(tv ρ ω fun v ω1=>td ρ ω1 fun x ω2=>ty ρ ω2 fun y ω3=>∃l kvs k,x=.r (.ref l)/\ω3 l=some (.dic kvs)/\y=.d (.str k)/\ndK kvs/\(kvs.any fun p=>decide (p.1=k))=true/\kvs.length<sizeLine/\D.nx ρ (ω3.put l (.dic (uy kvs k v)))):=rfl
theorem Ab{td ty tv:TE}{td' ty' tv':AE}(hd:bj td td')(hy:bj ty ty')(hv:bj tv tv'):jT (JE td ty tv) (IP td' ty' tv'):=⟨fun F H ω σ ρ D D' rp rs w k=>
 hv.go rp rs w fun v ω1 vv H1 rp1 fr1 rs1 rv1 q1=>hd.go rp1 rs1 q1 fun x ω2 xv H2 rp2 fr2 rs2 rv2 q2=>hy.go rp2 rs2 q2 fun y ω3 yv H3 rp3 fr3 rs3 rv3 ⟨l,kvs,kk,e1,e2,e3,nd,an,sz,q⟩=>by
  subst e1 e3;cases (show xv=.ref l from rv2)
  cases s0 rv3;obtain⟨ks,z1,z2⟩:=rp3.dic l kvs e2;have rv:RV (cut F H3 ω3) v vv:=rv1.same (fr2.trans fr3).same;obtain⟨rp4,fr4⟩:=rp3.NM e2 (z2.put (k:=kk) rv nd an)
  exact⟨l,_,rfl,Gn.k (k:=(Sum.inr kk:Key)) z1 (by rw[z2.length];exact sz),k.nx ρ _ σ _ rp4 (((fr1.trans fr2).trans fr3).trans fr4) (rs3.same fr4.same) q⟩⟩
noncomputable def sV:List AE->SA->Om->(List AV->Om->Prop)->Prop
 | [],_,ω,Q=>Q [] ω
 |t::r,ρ,ω,Q=>t ρ ω fun x ω1=>sV r ρ ω1 fun xs ω2=>Q (x::xs) ω2
theorem u9(ρ:SA)(ω:Om)(Q:List AV->Om->Prop):sV [] ρ ω Q=Q [] ω:=rfl
theorem t6(t:AE)(r:List AE)(ρ:SA)(ω:Om)(Q:List AV->Om->Prop):sV (t::r) ρ ω Q=(t ρ ω fun x ω1=>sV r ρ ω1 fun xs ω2=>Q (x::xs) ω2):=rfl
noncomputable def Ja(ks:List Str)(ts:List AE):AE:=fun ρ ω Q=>ks.Nodup/\ks.length<=15/\∀p,ω p=none->sV ts ρ (ω.put p (.dic [])) fun xs ω1=>ω1 p=some (.dic [])/\xs.length=ks.length/\Q (.r (.ref p)) (ω1.put p (.dic (ks.zip xs)))
theorem xF(ks:List Str)(ts:List AE)(ρ:SA)(ω:Om)(Q:AV->Om->Prop):Ja ks ts ρ ω Q=(ks.Nodup/\ks.length<=15/\∀p,ω p=none->sV ts ρ (ω.put p (.dic [])) fun xs ω1=>ω1 p=some (.dic [])/\xs.length=ks.length/\Q (.r (.ref p)) (ω1.put p (.dic (ks.zip xs)))):=rfl
inductive nw:List (TE×TE)->List Str->List AE->Prop
 |nil:nw [] [] []
 |cons {k:Str} {tv:TE} {tv':AE} {r:List (TE×TE)} {ks:List Str} {ts:List AE}:bj tv tv'->nw r ks ts->nw ((tC (.str k),tv)::r) (k::ks) (tv'::ts)
theorem nw.go{trs:List (TE×TE)}{ks:List Str}{ts:List AE}(h:nw trs ks ts):∀ {F:Fs} {H:Hp} {ω:Om} {σ:St} {ρ:SA} {Q:List (V×V)->Hp->Prop} {Q':List AV->Om->Prop},Rep F H ω->RS (cut F H ω) ρ σ->sV ts ρ ω Q' ->
  (∀(xs:List AV)(ω1:Om)(vs:List V)(H1:Hp),Rep F H1 ω1->Fr F H ω H1 ω1->RVs (cut F H1 ω1) xs vs->vs.length=ks.length->Q' xs ω1->Q ((ks.zip vs).map fun p=>(V.str p.1,p.2)) H1)->wV trs σ H Q:=by
 induction h with
 |nil=>intro F H ω σ ρ Q Q' rp rs w k;exact k [] ω [] H rp .refl rfl rfl w
 | @cons kk tv tv' r ks ts hv hr ih=>
  intro F H ω σ ρ Q Q' rp rs w k;refine hv.go rp rs w fun x ω1 v H1 rp1 fr1 rs1 rv1 q1=>ih rp1 rs1 q1 fun xs ω2 vs H2 rp2 fr2 rvs hl q2=>?_;exact k (x::xs) ω2 (v::vs) H2 rp2 (fr1.trans fr2) ⟨v,vs,rfl,rv1.same fr2.same,rvs⟩ (by simp[hl]) q2
theorem yw:∀ {more acc:List (Key×V)},((acc++more).map (·.1)).Nodup->mq acc more=acc++more
 | [],acc,_=>by simp[mq]
 |p::r,acc,h=>by
  have hn:(acc.any fun kv=>decide (kv.1=p.1))=false:=by
   rw[List.any_eq_false];intro q hq hk;have hk:=of_decide_eq_true hk;rw[List.map_append,List.map_cons] at h;exact(List.nodup_append.mp h).2.2 _ (List.mem_map.mpr ⟨q,hq,rfl⟩) _ (List.mem_cons_self ..) hk
  have hp:kt acc p.1 p.2=acc++[p]:=by unfold kt;rw[if_neg (by rw[hn];decide)]
  show mq (kt acc p.1 p.2) r=_;rw[hp,yw (by simpa using h)]
  simp
theorem Cf{G:Hp}:∀ {ks:List Str} {xs:List AV} {vs:List V},RVs G xs vs->xs.length=ks.length->RKs G (ks.zip xs) ((ks.zip vs).map fun p=>((Sum.inr p.1:Key),p.2))
 | [],[],_,h,_=>by cases h;rfl
 | [],_::_,_,_,e=>by simp at e
 |_::_,[],_,_,e=>by simp at e
 |k::ks,x::xs,_,⟨v,r,h1,h2,h3⟩,e=>by
  subst h1;exact⟨v,_,rfl,h2,Cf h3 (by simpa using e)⟩
theorem JO{trs:List (TE×TE)}{ks:List Str}{ts:List AE}(h:nw trs ks ts):bj (Je trs) (Ja ks ts):=⟨fun F H ω σ ρ Q Q' rp rs w k=>by
 obtain⟨nd,h15,w⟩:=w;intro p hp;obtain⟨rp1,fr1⟩:=rp.mkD (xs:=[]) (vs:=[]) hp rfl;refine h.go rp1 (rs.same fr1.same) (w p (rp.free hp).1) fun xs ω1 vs H1 rp2 fr2 rvs hl q=>?_;obtain⟨e1,e2,q⟩:=q;obtain⟨k0,z1,z2⟩:=rp2.dic p [] e1;cases z2;have hz:=Cf rvs e2;obtain⟨rp3,fr3⟩:=rp2.NM e1 hz;refine⟨z1,(ks.zip vs).map fun p=>((Sum.inr p.1:Key),p.2),by simp[kV,Function.comp_def],by simp;omega,?_⟩
 rw [yw (by
  rw[List.nil_append,List.map_map]
  have:(List.map ((fun x:Key×V=>x.1) ∘ fun p:Str×V=>((Sum.inr p.1:Key),p.2)) (ks.zip vs))=ks.map fun k=>(Sum.inr k:Key):=by
   rw[show ((fun x:Key×V=>x.1) ∘ fun p:Str×V=>((Sum.inr p.1:Key),p.2))=(fun k=>(Sum.inr k:Key)) ∘ Prod.fst from rfl,←List.map_map,List.map_fst_zip (by omega)]
  rw[this]
  exact List.pairwise_map.mpr (nd.imp fun {a b} hne e=>hne (Sum.inr.inj e))),List.nil_append]
 exact k (.r (.ref p)) _ _ _ rp3 ((fr1.trans fr2).trans fr3) rfl q⟩
noncomputable def tx(l:List Nat):Str:=⟨l.toArray⟩
noncomputable def jn(s:List Nat):List (List Nat)->List Nat
 | []=>[]
 | [x]=>x
 |x::y::r=>x++s++jn s (y::r)
inductive PFs (X:Cx):List Expr->List TE->Prop
 |nil:PFs X [] []
 |cons {e:Expr} {t:TE} {es:List Expr} {ts:List TE}:PE X e t->PFs X es ts->PFs X (e::es) (t::ts)
inductive Gy:List TE->List AE->Prop
 |nil:Gy [] []
 |cons {t:TE} {t':AE} {ts:List TE} {ts':List AE}:bj t t'->Gy ts ts'->Gy (t::ts) (t'::ts')
noncomputable def BU:V->List V->Hp->VK->Prop:=fun x vs H Q=>∃(l:Addr)(xs:List V)(j:Nat)(y:V),x=.ref l/\vs=[.int j,y]/\H l=some (.lst xs)/\j<=xs.length/\xs.length<sizeLine/\Q .non (upd H l (.lst (xs.take j++y::xs.drop j)))
theorem Dd{X:Cx}:MtM X "list.insert" BU:=by
 intro pins s σ H x vs v us Q I rx rv h;obtain⟨l,xs,j,y,rfl,rfl,hH,hj,hz,q⟩:=h;cases rx
 ·obtain⟨u1,u,rfl,⟨t,rfl⟩,ru⟩:=rv.two
  obtain⟨z,its,n,r,hl,e⟩:=I.NK hH;have hs:sizeLine<=9223372036854775807:=by decide
  have hjs:(j:Int)<2^63:=by
   show (j:Int)<9223372036854775808;generalize sizeLine=q at *;omega
  have hf:Builtin.List.listFitsIndex (j:Int)=true:=fitsIndex_both (by generalize sizeLine=q at *;omega) hjs
  have hsz:its.toArray.size<=sizeLine:=by rw[List.size_toArray];exact hl ▸ Nat.le_of_lt hz
  obtain⟨i,hi⟩:∃i:Int,i=(j:Int):=⟨_,rfl⟩;rw[←hi] at hf ⊢
  refine call_meets F.slot_list_insert ⟨_,e,rfl⟩ F.entry_list_insert (F.args_list_insert_3 _ _ _) (AutoSeq1.list_insert_list_int_val_1 l _ n i t u (by simp[hf]) hsz) ⟨e,?_⟩
  subst hi;refine⟨.non,_,I.lset (its':=its.take j++u::its.drop j) hH e ?_ ((r.take j).append (.cons ru (r.drop j))) ?_,rfl,q⟩
  ·show (its.toArray.extract 0 (if (j:Int)<0 then ((j:Int)+(its.toArray.size:Int)).toNat else min (j:Int).toNat its.toArray.size)).push u++its.toArray.extract (if (j:Int)<0 then ((j:Int)+(its.toArray.size:Int)).toNat else min (j:Int).toNat its.toArray.size)=(its.take j++u::its.drop j).toArray
   rw[if_neg (by omega),Int.toNat_natCast,List.size_toArray,Nat.min_eq_left (by omega)]
   simp;exact List.take_of_length_le (by rw[List.length_drop];exact Nat.le_refl _)
  ·rw[List.length_append,List.length_cons,List.length_take,List.length_drop]
   omega
theorem RVs.NO{G:Hp}:∀ {xs:List AV} {us:List V} (j:Nat),RVs G xs us->RVs G (xs.take j) (us.take j)/\RVs G (xs.drop j) (us.drop j)
 |xs,us,0,h=>⟨by simp[RVs],by simpa using h⟩
 | [],us,j+1,h=>by cases h;exact⟨rfl,rfl⟩
 |x::xs,us,j+1,h=>by
  obtain⟨v,r,rfl,h1,h2⟩:=h;obtain⟨h3,h4⟩:=RVs.NO j h2;exact⟨⟨v,_,rfl,h1,h3⟩,h4⟩
noncomputable def BZ(to:AE)(t:AA):AE:=fun ρ ω Q=>to ρ ω fun x ω1=>∃l,x=.r (.ref l)/\(∃zs,ω1 l=some (.own zs))/\t ρ ω1 fun ys ω2=>∃(xs:List AV)(j:Nat)(y:AV),ys=[.d (.int j),y]/\ω2 l=some (.own xs)/\j<=xs.length/\xs.length<sizeLine/\Q (.d .non) (ω2.put l (.own (xs.take j++y::xs.drop j)))
theorem sB(to:AE)(t:AA)(ρ:SA)(ω:Om)(Q:AV->Om->Prop):BZ to t ρ ω Q=(to ρ ω fun x ω1=>∃l,x=.r (.ref l)/\(∃zs,ω1 l=some (.own zs))/\t ρ ω1 fun ys ω2=>∃(xs:List AV)(j:Nat)(y:AV),ys=[.d (.int j),y]/\ω2 l=some (.own xs)/\j<=xs.length/\xs.length<sizeLine/\Q (.d .non) (ω2.put l (.own (xs.take j++y::xs.drop j)))):=rfl
section
variable{K:W.Frag}{to:TE}{to':AE}{t:TA}{t':AA}
theorem EF(ho:bj to to')(ht:nV t t'):bj (tBM K "list" BU to t) (BZ to' t'):=⟨fun F H ω σ ρ Q Q' rp rs w k=>
 ho.go rp rs w fun x ω1 v H1 rp1 fr1 rs1 rv1 ⟨l,e,⟨zs,hz⟩,q1⟩=>by
  subst e;cases (show v=.ref l from rv1)
  obtain⟨us,z1,_⟩:=rp1.own l zs hz;refine⟨.inl ⟨rfl,us,.inl (.inl z1)⟩,ht.go rp1 rs1 q1 fun ys ω2 vs H2 rp2 fr2 rs2 rv2 ⟨xs,j,y,e1,e2,e3,e4,q⟩=>?_⟩;subst e1;obtain⟨u,u2,rfl,r,r2⟩:=Kp rv2;cases cC r;obtain⟨ws,z3,z4⟩:=rp2.own l xs e2;obtain⟨g1,g2⟩:=RVs.NO j z4;obtain⟨rp3,fr3⟩:=rp2.write (ys:=xs.take j++y::xs.drop j) (vs:=ws.take j++u2::ws.drop j) e2 (g1.append ⟨u2,_,rfl,r2,g2⟩)
  exact⟨l,ws,j,u2,rfl,rfl,z3,by rw[z4.length];exact e3,by rw[z4.length];exact e4,k _ _ _ _ rp3 ((fr1.trans fr2).trans fr3) (by simp[RV,Dat]) q⟩⟩
end
end L2
namespace L2
open PySem PySem.Spec PyProof.Rows PySem.W
noncomputable def CXx(P:Program)(w:World):CXT:=fun outer H s E e s'=>∃(a C t:Addr)(H':Hp)(B:Heap),e=.ref a/\s'.os=s.os/\AllBare s'.gens/\Un (frs outer) [] H H' s.heap s'.heap/\HOk P w H' B /\
 Heap.FlyingW B outer a (.ref C) (.ref t) s'.heap/\(∀b o,s.heap.get? b=some o->H b=none->b ∉ frs outer->B.get? b=some o)/\(∀b o,s.heap.get? b=some o->b ∉ frs outer->∃o',B.get? b=some o')/\E (.ref a) (some C) H'
end L2
namespace L2
open PySem PySem.Spec PySem.Calls PyProof.Rows PySem.W PySem.Builtin PySem.Builtin.ObjectAttr PySem.Builtin.Getset_descriptor
end L2
namespace L2
open PySem PySem.Spec PySem.Calls PyProof.Rows PySem.W
end L2
namespace L2
open PySem PySem.Spec PyProof.Rows
noncomputable abbrev JJ:=List AV->Om->(AV->Om->Prop)->(Addr->Om->Prop)->Prop
noncomputable def LX(F:Fs)(H:Hp)(ω:Om)(Ex:Addr->Om->Prop)(E:XK):Prop:=∀C ω' a H',Rep F H' ω'->Fr F H ω H' ω'->Ex C ω'->E (.ref a) (some C) H'
noncomputable abbrev AXS:=cy->(Addr->Om->Prop)->SA->Om->Prop
structure Nl(E:XK)(t:TS)(t':AXS):Prop where
 run:∀(F:Fs)(H:Hp)(ω:Om)(σ:St)(ρ:SA)(D:nu)(D':cy)(Ex:Addr->Om->Prop),Rep F H ω->RS (cut F H ω) ρ σ->t' D' Ex ρ ω->LE F H ω D' D->LX F H ω Ex E->t D σ H
noncomputable def Lu(t u:AXS):AXS:=fun D Ex ρ ω=>t { D with nx:=u D Ex } Ex ρ ω
theorem DM(t u:AXS)(D:cy)(Ex:Addr->Om->Prop)(ρ:SA)(ω:Om):Lu t u D Ex ρ ω=t { D with nx:=u D Ex } Ex ρ ω:=rfl
end L2
namespace L2
open PySem PySem.Spec PySem.Calls PyProof.Rows PySem.W
structure Nm(P:Program)(w:World)(K:W.Frag)(mg:Str->Option Value)(base:Heap)(H₀:Hp)(k:Nat)(f:Addr)(n:Nat)(sp:Sp):Prop where
 fn:∃(oc:Value)(od:Option Addr)(fd:FuncData) (sl:Array (Option Value)) (u:HO),H₀ f=some (.frz ⟨oc,od,.func fd,sl⟩ u)
 len:∀vs H Q E,sp vs H Q E->vs.length=n
 run:∀(A:Around)(outer:List Env)(s:Shared)(H:Hp)(us:List Value)(vs:List V)(Q:VK)(E:XK),ft k A->AJ P w K mg base A outer s H->Frz H₀ H->aT vs us->sp vs H Q E ->
  codeAny (model P w) A (.call (.ref f) ⟨us,[]⟩) (CR (CXx P w) outer P w H s Q E) s
end L2
namespace L2
open PySem PySem.Spec PySem.Calls PyProof.Rows
structure Ap3(z u o i j l p q r:Addr):Prop where
 uz:u≠z
 oz:o≠z
 iz:i≠z
 jz:j≠z
 lz:l≠z
 uo:u≠o
 ui:u≠i
 uj:u≠j
 ul:u≠l
 oi:o≠i
 oj:o≠j
 ol:o≠l
 ij:i≠j
 il:i≠l
 jl:j≠l
 np:∀c∈[z,u,o,i,j,l],p≠c
 nq:∀c∈[z,u,o,i,j,l],q≠c
 nr:∀c∈[z,u,o,i,j,l],r≠c
end L2
namespace L2
open PySem PySem.Spec PyProof.Rows
inductive O where
 |d (x:D)|box (b:Bool)|tup (os:List O)
end L2
namespace L2
open PySem PySem.Spec PyProof.Rows AutoSeq1
end L2
namespace L2
open PySem PySem.Spec PyProof PyProof.Rows PySem.SeqAt
open AutoSeq1 (wpAny_loadPart')
mutual
noncomputable def ltD:D->D->Bool
 |.int a,.int b=>decide (a<b)
 |.str a,.str b=>decide (a.cps.toList<b.cps.toList)
 |.tup xs,.tup ys=>L6 xs ys
 |_,_=>false
noncomputable def L6:List D->List D->Bool
 | [],[]=>false
 | [],_::_=>true
 |_::_,[]=>false
 |x::xs,y::ys=>if eqD x y then L6 xs ys else ltD x y
end
mutual
noncomputable def cmD:D->D->Bool
 |.int _,.int _=>true
 |.str _,.str _=>true
 |.tup xs,.tup ys=>Mr xs ys
 |_,_=>false
noncomputable def Mr:List D->List D->Bool
 |x::xs,y::ys=>if eqD x y then Mr xs ys else cmD x y
 |_,_=>true
end
end L2
namespace L2
open PySem PySem.Spec PyProof PyProof.Rows PySem.SeqAt
end L2
namespace L2
open PySem PySem.Spec PySem.Calls PyProof PyProof.Rows PySem.SeqAt
section
variable{prog:Program}{w:World}{A:Around}{E:Value->Shared->Prop}{s:Shared}
noncomputable def Jd(h0 h:Heap):Prop:=∀x o,h0.get? x=some o->h.get? x=some o
structure Nq(prog:Program)(w:World)(A:Around)(h0:Heap)(s:Shared)(vs:List Value)(c:Nat->Nat->Bool)(b:Bool):Prop where
 kind:∀h,Jd h0 h->∃fs T,W.KatTups h vs fs/\fs.length=vs.length/\(∀v∈fs,W.Looks (model prog w) h (typeOf v) T)/\(T == T)=true/\(T != Value.type "tuple")=b
 ask:∀h,Jd h0 h->∀i j,i<vs.length->j<vs.length->∀(C:Bool->Shared->Prop)(E:Value->Shared->Prop),C (c i j) { s with heap:=h }->wpAny (model prog w) A (keyLt' (tuples' b) (vs.getD i Value.none) (vs.getD j Value.none)) C E { s with heap:=h }
end
section
variable{X:Cx}{pins:List (Addr×Obj)}{σ:St}{H:Hp}{s:Shared}{A:Around}
noncomputable def Ng(k:Bool)(d:D):Prop:=∃r,(k=true/\∃z,d=.tup (.str z::r))\/(k=false/\∃i,d=.tup (.int i::r))
end
structure Srt(W:List D)(key:D->List Int)(k:Bool):Prop where
 row:∀d∈W,Ng k d
 cmp:∀d∈W,∀e∈W,cmD d e=true
 lt:∀d∈W,∀e∈W,ltD d e=ji (key d) (key e)
end L2
namespace L2
open PySem PySem.Spec PyProof PyProof.Rows PySem.SeqAt
noncomputable def Jm(te:AE):AE:=fun ρ ω Q=>te ρ ω fun x ω1=>∃ds,cg ω1 x=some (.lst ds)/\∀l,ω1 l=none->Q (.r (.ref l)) (ω1.put l (.own (ds.reverse.map AV.d)))
theorem yy(te:AE)(ρ:SA)(ω:Om)(Q:AV->Om->Prop):Jm te ρ ω Q=te ρ ω fun x ω1=>∃ds,cg ω1 x=some (.lst ds)/\∀l,ω1 l=none->Q (.r (.ref l)) (ω1.put l (.own (ds.reverse.map AV.d))):=rfl
theorem Ko{K:W.Frag}{te:TE}{te':AE}(he:bj te te'):bj (JW K te (tUn (rU fun i=>.int (-i)) (tC (.int 1)))) (Jm te'):=⟨fun F H ω σ ρ Q Q' rp rs w k=>
 he.go rp rs w fun x ω1 v H1 rp1 fr1 rs1 rv1 ⟨ds,e,q⟩=>⟨1,rfl,rfl,by
  obtain⟨a,vs,rfl,z1,z2⟩:=gL rp1 rv1 e
  exact⟨a,vs,rfl,.inl (.inl z1),(k.fr fr1).own rp1 (RVs.dats.mpr z2.rev) q⟩⟩⟩
section
variable{K:W.Frag}{x qual:Str}{st:Stmt}{f:Addr}{fd:FuncData}
theorem Fun.Ny{p0:Str}(F:Fun K x qual st f fd)(h:∀(kV doc pm:Value)(an:Option Addr)(cdv ct:Value)(u0:Value),bindArgs (W.fnOf x qual (defArgs st) (defBody st) (defScope st) .none kV doc pm an cdv ct) ⟨[u0],[]⟩=pure ([p0].zip [u0])):aS K fd [p0] []:=
 F.binds fun a b c d e g us hl=>match us,hl with | [u0],_=>h a b c d e g u0
theorem Fun.Nu{p0 p1:Str}(F:Fun K x qual st f fd)(h:∀(kV doc pm:Value)(an:Option Addr)(cdv ct:Value)(u0 u1:Value),bindArgs (W.fnOf x qual (defArgs st) (defBody st) (defScope st) .none kV doc pm an cdv ct) ⟨[u0,u1],[]⟩=pure ([p0,p1].zip [u0,u1])):aS K fd [p0,p1] []:=
 F.binds fun a b c d e g us hl=>match us,hl with | [u0,u1],_=>h a b c d e g u0 u1
theorem Fun.Nz{p0 p1 p2:Str}(F:Fun K x qual st f fd)(h:∀(kV doc pm:Value)(an:Option Addr)(cdv ct:Value)(u0 u1 u2:Value),bindArgs (W.fnOf x qual (defArgs st) (defBody st) (defScope st) .none kV doc pm an cdv ct) ⟨[u0,u1,u2],[]⟩=pure ([p0,p1,p2].zip [u0,u1,u2])):aS K fd [p0,p1,p2] []:=
 F.binds fun a b c d e g us hl=>match us,hl with | [u0,u1,u2],_=>h a b c d e g u0 u1 u2
theorem Fun.NF{p0 p1 p2 p3:Str}(F:Fun K x qual st f fd)(h:∀(kV doc pm:Value)(an:Option Addr)(cdv ct:Value)(u0 u1 u2 u3:Value),bindArgs (W.fnOf x qual (defArgs st) (defBody st) (defScope st) .none kV doc pm an cdv ct) ⟨[u0,u1,u2,u3],[]⟩=pure ([p0,p1,p2,p3].zip [u0,u1,u2,u3])):aS K fd [p0,p1,p2,p3] []:=
 F.binds fun a b c d e g us hl=>match us,hl with | [u0,u1,u2,u3],_=>h a b c d e g u0 u1 u2 u3
end
end L2
namespace L2
open PySem PySem.Spec PyProof.Rows
end L2
namespace L2
open PySem PySem.Spec PySem.Calls PyProof.Rows PySem.W
end L2
namespace L2
open PySem PySem.Spec PyProof.Rows
structure cJ(K:W.Frag)(x:Str)(st:Stmt)(a:Addr)(fd:FuncData):Prop where
 g:W.nsIn K mainGlobals x=some (some (.ref a))
 f:Fun K x x st a fd
 e:W.keepIn K (.ref a)=true
theorem L1{K:W.Frag}{x:Str}{st:Stmt}{a:Addr}{oc:Value}{od an:Option Addr}{osl:Array (Option Value)}{kV doc pm cdv ct:Value}(g:W.nsIn K mainGlobals x=some (some (.ref a)))(l:K.lookup a=some ⟨oc,od,.func (W.fnOf x x (defArgs st) (defBody st) (defScope st) .none kV doc pm an cdv ct),osl⟩)(c:W.codeIn K cdv x=true)(e:W.keepIn K (.ref a)=true):cJ K x st a (W.fnOf x x (defArgs st) (defBody st) (defScope st) .none kV doc pm an cdv ct):=⟨g,jK l c e,e⟩
theorem fsc{N P:List Str}{sc:Scope}(a:sc.kind=.function)(b:sc.isCoroutine=false)(c:sc.isGenerator=false)(h:N.Nodup/\N.take P.length=P/\(∀x∈P,sc.names.lookup x=some .local\/sc.names.lookup x=some .cell)/\∀y∈sc.names,y.2≠.free):az N P sc:=⟨a,b,c,h.1,h.2.1,h.2.2.1,h.2.2.2⟩
end L2
namespace L2
open PySem PySem.Spec PyProof.Rows
open AutoSeq1 (wpAny_loadPart')
end L2
set_option maxHeartbeats 4000000
namespace My
open PySem PySem.Spec L2
noncomputable def top(i:Nat):Stmt:=PySem.Challenge.pw_unlikeplace_k50_whole_carried_along.main.body.getD i (.Pass ⟨0,0,0,0⟩)
noncomputable abbrev sI:Stmt:=top 1
noncomputable abbrev sh:Stmt:=top 2
noncomputable abbrev jw:Stmt:=top 5
noncomputable abbrev fi:Stmt:=top 6
noncomputable abbrev nR:Stmt:=top 7
noncomputable abbrev gI:Stmt:=top 8
noncomputable abbrev tR:Stmt:=top 9
noncomputable abbrev xw:Stmt:=top 10
noncomputable abbrev eR:Stmt:=top 13
noncomputable abbrev fI:Stmt:=top 14
noncomputable abbrev iZ:Stmt:=top 15
noncomputable abbrev bC:Stmt:=top 16
noncomputable abbrev jh:Stmt:=top 17
noncomputable abbrev bX:Stmt:=top 18
noncomputable abbrev dW:Stmt:=top 19
noncomputable abbrev gf:Stmt:=top 20
noncomputable abbrev gG:Stmt:=top 21
noncomputable abbrev bg:Stmt:=top 22
noncomputable abbrev bA:Stmt:=top 23
noncomputable abbrev jf:Stmt:=top 24
noncomputable abbrev bU:Stmt:=top 25
noncomputable abbrev kh:Stmt:=top 27
noncomputable abbrev pU:Stmt:=top 28
noncomputable abbrev mx:Stmt:=top 29
noncomputable abbrev jU:Stmt:=top 30
noncomputable abbrev Eg:Stmt:=top 31
noncomputable abbrev k6:Stmt:=top 37
noncomputable abbrev tN:Stmt:=top 39
noncomputable abbrev kH:Stmt:=top 40
noncomputable abbrev w4:Stmt:=top 41
noncomputable abbrev pO:Stmt:=top 42
noncomputable abbrev fe:Stmt:=top 45
noncomputable abbrev iR:Stmt:=top 46
noncomputable abbrev nP:Stmt:=top 47
noncomputable abbrev hJ:Stmt:=top 48
noncomputable abbrev m6:Stmt:=top 49
noncomputable abbrev mQ:Stmt:=top 50
noncomputable abbrev jr:Stmt:=top 51
noncomputable abbrev fy:Stmt:=top 53
noncomputable abbrev hX:Stmt:=top 54
noncomputable abbrev nW:Stmt:=top 56
noncomputable abbrev uc:Stmt:=top 57
noncomputable abbrev jC:Stmt:=top 58
noncomputable abbrev xj:Stmt:=top 59
noncomputable abbrev wv:Stmt:=top 60
noncomputable abbrev oD:Stmt:=top 61
noncomputable abbrev nZ:Stmt:=top 62
noncomputable abbrev fC:Stmt:=top 63
noncomputable abbrev lA:Stmt:=top 64
noncomputable abbrev jG:Stmt:=top 65
noncomputable abbrev mj:Stmt:=top 66
noncomputable abbrev gB:Stmt:=top 67
noncomputable abbrev gr:Stmt:=top 68
noncomputable abbrev nA:Stmt:=top 69
theorem mW:az ["tree","leaf","waiting","downward","part"] ["tree","leaf"] (defScope sI):=fsc rfl rfl rfl (by decide +kernel)
theorem ko:az ["tree","leaf","of_leaf","of_fork","done","part","second","first"] ["tree","leaf","of_leaf","of_fork"] (defScope sh):=fsc rfl rfl rfl (by decide +kernel)
theorem GI:az ["saying","word"] ["saying","word"] (defScope jw):=fsc rfl rfl rfl (by decide +kernel)
theorem Ac:az ["saying"] ["saying"] (defScope fi):=fsc rfl rfl rfl (by decide +kernel)
theorem ym:az ["part","one","other"] ["part","one","other"] (defScope nR):=fsc rfl rfl rfl (by decide +kernel)
theorem su:az ["saying"] ["saying"] (defScope gI):=fsc rfl rfl rfl (by decide +kernel)
theorem pX:az ["case","saying","word"] ["case","saying"] (defScope tR):=fsc rfl rfl rfl (by decide +kernel)
theorem Fn:az ["case","saying"] ["case","saying"] (defScope xw):=fsc rfl rfl rfl (by decide +kernel)
theorem qF:az ["words","some"] ["words","some"] (defScope eR):=fsc rfl rfl rfl (by decide +kernel)
theorem rh:az ["word","some"] ["word","some"] (defScope fI):=fsc rfl rfl rfl (by decide +kernel)
theorem rC:az ["case","some"] ["case","some"] (defScope iZ):=fsc rfl rfl rfl (by decide +kernel)
theorem pf:az ["saying","some"] ["saying","some"] (defScope bC):=fsc rfl rfl rfl (by decide +kernel)
theorem q8:az ["leaf","some"] ["leaf","some"] (defScope jh):=fsc rfl rfl rfl (by decide +kernel)
theorem rq:az ["talk","some"] ["talk","some"] (defScope bX):=fsc rfl rfl rfl (by decide +kernel)
theorem nN:az ["words","order"] ["words","order"] (defScope dW):=fsc rfl rfl rfl (by decide +kernel)
theorem dQ:az ["word","order","told","place","bit"] ["word","order"] (defScope gf):=fsc rfl rfl rfl (by decide +kernel)
theorem pi:az ["case","order"] ["case","order"] (defScope gG):=fsc rfl rfl rfl (by decide +kernel)
theorem nj:az ["saying","order"] ["saying","order"] (defScope bg):=fsc rfl rfl rfl (by decide +kernel)
theorem pB:az ["talk","order"] ["talk","order"] (defScope bA):=fsc rfl rfl rfl (by decide +kernel)
theorem re:az ["case"] ["case"] (defScope jf):=fsc rfl rfl rfl (by decide +kernel)
theorem rm:az ["talk"] ["talk"] (defScope bU):=fsc rfl rfl rfl (by decide +kernel)
theorem kO:az ["turn","yes","no","own","silent","loud"] ["turn","yes","no"] (defScope kh):=fsc rfl rfl rfl (by decide +kernel)
theorem dz:az ["case","talk","ends","waiting","bits","part","yes","no","at_first","at_second"] ["case","talk"] (defScope pU):=fsc rfl rfl rfl (by decide +kernel)
theorem xk:az ["words"] ["words"] (defScope mx):=fsc rfl rfl rfl (by decide +kernel)
theorem bV:az ["case","talk","downward","waiting","part","yes","no","at_first","at_second"] ["case","talk"] (defScope jU):=fsc rfl rfl rfl (by decide +kernel)
theorem tZ:az ["case","talk","done","part","second","first"] ["case","talk"] (defScope Eg):=fsc rfl rfl rfl (by decide +kernel)
theorem yi:az ["case"] ["case"] (defScope k6):=fsc rfl rfl rfl (by decide +kernel)
theorem io:az ["talk","yes","no","bits","part","own","bit"] ["talk","yes","no"] (defScope tN):=fsc rfl rfl rfl (by decide +kernel)
theorem uB:az ["rule","place","yes","no"] ["rule","place","yes","no"] (defScope kH):=fsc rfl rfl rfl (by decide +kernel)
theorem oV:az ["case","rule","talk","yes","no","place"] ["case","rule","talk"] (defScope w4):=fsc rfl rfl rfl (by decide +kernel)
theorem AD:az ["case","rule","talk"] ["case","rule","talk"] (defScope pO):=fsc rfl rfl rfl (by decide +kernel)
theorem sj:az ["case","saying","led"] ["case","saying"] (defScope fe):=fsc rfl rfl rfl (by decide +kernel)
theorem y9:az ["case","leaf"] ["case","leaf"] (defScope iR):=fsc rfl rfl rfl (by decide +kernel)
theorem lQ:az ["case","join","one","other","says"] ["case","join","one","other"] (defScope nP):=fsc rfl rfl rfl (by decide +kernel)
theorem uA:az ["words","values","bit"] ["words","values","bit"] (defScope hJ):=fsc rfl rfl rfl (by decide +kernel)
theorem As:az ["ones","others"] ["ones","others"] (defScope m6):=fsc rfl rfl rfl (by decide +kernel)
theorem Ap:az ["ones","others"] ["ones","others"] (defScope mQ):=fsc rfl rfl rfl (by decide +kernel)
theorem cP:az ["case","talk","kept","leaves","waiting","done","part","other","one"] ["case","talk"] (defScope jr):=fsc rfl rfl rfl (by decide +kernel)
theorem rA:az ["rule","yes","no"] ["rule","yes","no"] (defScope fy):=fsc rfl rfl rfl (by decide +kernel)
theorem ux:az ["case"] ["case"] (defScope hX):=fsc rfl rfl rfl (by decide +kernel)
theorem xM:az ["_law_script"] ["_law_script"] (defScope nW):=fsc rfl rfl rfl (by decide +kernel)
theorem fk:az ["_law_spring_here","_law_many","_law_flown","_law_used","_law_cell","_law_ground","_law_k"] ["_law_spring_here","_law_many"] (defScope uc):=fsc rfl rfl rfl (by decide +kernel)
theorem wS:az ["_law_places"] ["_law_places"] (defScope jC):=fsc rfl rfl rfl (by decide +kernel)
theorem tE:az ["_law_spring_here","_law_places","_law_many","_law_kinds","_law_left","_law_one_here"] ["_law_spring_here","_law_places","_law_many","_law_kinds"] (defScope xj):=fsc rfl rfl rfl (by decide +kernel)
theorem Es:az ["_law_saying","_law_word"] ["_law_saying","_law_word"] (defScope wv):=fsc rfl rfl rfl (by decide +kernel)
theorem mF:az ["_law_spring_here","_law_words","_law_way","_law_some"] ["_law_spring_here","_law_words"] (defScope oD):=fsc rfl rfl rfl (by decide +kernel)
theorem em:az ["_law_case","_law_talk","_law_yes","_law_no","_law_node","_law_word"] ["_law_case","_law_talk"] (defScope nZ):=fsc rfl rfl rfl (by decide +kernel)
theorem bz:az ["_law_one_here","_law_other","_law_case","_law_saying","_law_talk","_law_new_case","_law_new_saying","_law_new_talk"] ["_law_one_here","_law_other"] (defScope fC):=fsc rfl rfl rfl (by decide +kernel)
theorem hG:az ["_law_things","_law_some","_law_case","_law_saying","_law_talk"] ["_law_things","_law_some"] (defScope lA):=fsc rfl rfl rfl (by decide +kernel)
theorem fD:az ["_law_things","_law_order","_law_case","_law_saying","_law_talk"] ["_law_things","_law_order"] (defScope jG):=fsc rfl rfl rfl (by decide +kernel)
theorem wZ:az ["_law_things"] ["_law_things"] (defScope mj):=fsc rfl rfl rfl (by decide +kernel)
theorem cQ:az ["_law_things","_law_some","_law_order","_law_case","_law_saying","_law_talk","_law_told"] ["_law_things","_law_some","_law_order"] (defScope gB):=fsc rfl rfl rfl (by decide +kernel)
theorem ca:az ["_law_things","_law_order","_law_every","_law_case","_law_saying","_law_talk","_law_moved","_law_about"] ["_law_things","_law_order","_law_every"] (defScope gr):=fsc rfl rfl rfl (by decide +kernel)
theorem dg:az ["_law_script","_law_spring_here","_law_places","_law_kinds","_law_saying","_law_ones","_law_others","_law_case","_law_things","_law_some","_law_order","_law_place","_law_every","_law_flips","_law_moved","_law_about","_law_other"] ["_law_script"] (defScope nA):=fsc rfl rfl rfl (by decide +kernel)
set_option genInjectivity false in
structure Adr where
 iM:Addr
 sF:FuncData
 cD:Addr
 dZ:FuncData
 gK:Addr
 rN:FuncData
 dJ:Addr
 mN:FuncData
 cc:Addr
 og:FuncData
 cU:Addr
 jR:FuncData
 i8:Addr
 sQ:FuncData
 kS:Addr
 wT:FuncData
 bJ:Addr
 eT:FuncData
 cE:Addr
 i4:FuncData
 cF:Addr
 iV:FuncData
 bc:Addr
 eE:FuncData
 bW:Addr
 fJ:FuncData
 bv:Addr
 fM:FuncData
 br:Addr
 dR:FuncData
 bN:Addr
 gy:FuncData
 bR:Addr
 f6:FuncData
 aZ:Addr
 dm:FuncData
 bd:Addr
 eK:FuncData
 cG:Addr
 iF:FuncData
 bw:Addr
 fw:FuncData
 gi:Addr
 qG:FuncData
 ga:Addr
 qy:FuncData
 ee:Addr
 md:FuncData
 cS:Addr
 jH:FuncData
 t5:Addr
 ET:FuncData
 e9:Addr
 om:FuncData
 iS:Addr
 r8:FuncData
 dh:Addr
 k9:FuncData
 kY:Addr
 wW:FuncData
 gA:Addr
 qa:FuncData
 dI:Addr
 mH:FuncData
 ei:Addr
 kG:FuncData
 eu:Addr
 kR:FuncData
 dn:Addr
 kQ:FuncData
 gp:Addr
 pS:FuncData
 gb:Addr
 p9:FuncData
 ek:Addr
 lN:FuncData
 cB:Addr
 iI:FuncData
 dB:Addr
 lc:FuncData
 fb:Addr
 nS:FuncData
 iG:Addr
 sx:FuncData
 eh:Addr
 lK:FuncData
 hU:Addr
 ou:FuncData
 h8:Addr
 oJ:FuncData
 iN:Addr
 sk:FuncData
 eX:Addr
 nQ:FuncData
 bI:Addr
 fQ:FuncData
 dY:Addr
 l9:FuncData
 cT:Addr
 jS:FuncData
 d6:Addr
 lO:FuncData
 bS:Addr
 gw:FuncData
 bQ:Addr
 gC:FuncData
 nB:Addr
 yL:FuncData
 wo:World
 dw:Addr
 dr:Addr
 cz:Addr
 mZ:Addr
 mM:Addr
 ip:Addr
 mX:Addr
 cm:Addr
 eF:Addr
 da:Addr
 fF:Addr
 bP:Addr
 dj:Addr
 ck:Addr
 eL:Addr
 cY:Addr
 fz:Addr
 ir:Addr
 mV:Addr
structure Txt(K:W.Frag)(mg:Str->Option Value)(t:Adr):Prop where
 ub:mg "upward"=some (.ref t.iM)
 Ee:Fun K "upward" "upward" sI t.iM t.sF
 tQ:W.keepIn K (.ref t.iM)=true
 sq:aS K t.sF ["tree","leaf"] []
 gX:mg "folded"=some (.ref t.cD)
 Fg:Fun K "folded" "folded" sh t.cD t.dZ
 gW:W.keepIn K (.ref t.cD)=true
 gU:aS K t.dZ ["tree","leaf","of_leaf","of_fork"] []
 rV:mg "value"=some (.ref t.gK)
 MU:Fun K "value" "value" jw t.gK t.rN
 rX:W.keepIn K (.ref t.gK)=true
 mM:aS K t.rN ["saying","word"] []
 vF:mg "against"=some (.ref t.dJ)
 Lk:Fun K "against" "against" fi t.dJ t.mN
 vL:W.keepIn K (.ref t.dJ)=true
 mX:aS K t.mN ["saying"] []
 sW:mg "rejoined"=some (.ref t.cc)
 sn:Fun K "rejoined" "rejoined" nR t.cc t.og
 KY:W.keepIn K (.ref t.cc)=true
 zM:aS K t.og ["part","one","other"] []
 nH:mg "without_not"=some (.ref t.cU)
 uu:Fun K "without_not" "without_not" gI t.cU t.jR
 nz:W.keepIn K (.ref t.cU)=true
 nC:aS K t.jR ["saying"] []
 E2:mg "missed"=some (.ref t.i8)
 FN:Fun K "missed" "missed" tR t.i8 t.sQ
 D4:W.keepIn K (.ref t.i8)=true
 FL:aS K t.sQ ["case","saying"] []
 Cl:mg "parts"=some (.ref t.kS)
 Iq:Fun K "parts" "parts" xw t.kS t.wT
 Bw:W.keepIn K (.ref t.kS)=true
 B8:aS K t.wT ["case","saying"] []
 g7:mg "flipped_words"=some (.ref t.bJ)
 rB:Fun K "flipped_words" "flipped_words" eR t.bJ t.eT
 gZ:W.keepIn K (.ref t.bJ)=true
 gY:aS K t.eT ["words","some"] []
 t7:mg "flipped_word"=some (.ref t.cE)
 tB:Fun K "flipped_word" "flipped_word" fI t.cE t.i4
 t4:W.keepIn K (.ref t.cE)=true
 si:aS K t.i4 ["word","some"] []
 mr:mg "flipped_case"=some (.ref t.cF)
 tp:Fun K "flipped_case" "flipped_case" iZ t.cF t.iV
 lX:W.keepIn K (.ref t.cF)=true
 mD:aS K t.iV ["case","some"] []
 kb:mg "flipped_saying"=some (.ref t.bc)
 DH:Fun K "flipped_saying" "flipped_saying" bC t.bc t.eE
 km:W.keepIn K (.ref t.bc)=true
 eF:aS K t.eE ["saying","some"] []
 tG:mg "flipped_leaf"=some (.ref t.bW)
 tV:Fun K "flipped_leaf" "flipped_leaf" jh t.bW t.fJ
 tW:W.keepIn K (.ref t.bW)=true
 tJ:aS K t.fJ ["leaf","some"] []
 lE:mg "flipped_talk"=some (.ref t.bv)
 FM:Fun K "flipped_talk" "flipped_talk" bX t.bv t.fM
 lC:W.keepIn K (.ref t.bv)=true
 fF:aS K t.fM ["talk","some"] []
 fK:mg "exchanged_words"=some (.ref t.br)
 o9:Fun K "exchanged_words" "exchanged_words" dW t.br t.dR
 fu:W.keepIn K (.ref t.br)=true
 fS:aS K t.dR ["words","order"] []
 qr:mg "exchanged_word"=some (.ref t.bN)
 p4:Fun K "exchanged_word" "exchanged_word" gf t.bN t.gy
 pN:W.keepIn K (.ref t.bN)=true
 pJ:aS K t.gy ["word","order"] []
 kD:mg "exchanged_case"=some (.ref t.bR)
 pL:Fun K "exchanged_case" "exchanged_case" gG t.bR t.f6
 jY:W.keepIn K (.ref t.bR)=true
 jZ:aS K t.f6 ["case","order"] []
 iQ:mg "exchanged_saying"=some (.ref t.aZ)
 Af:Fun K "exchanged_saying" "exchanged_saying" bg t.aZ t.dm
 jg:W.keepIn K (.ref t.aZ)=true
 dj:aS K t.dm ["saying","order"] []
 kr:mg "exchanged_talk"=some (.ref t.bd)
 De:Fun K "exchanged_talk" "exchanged_talk" bA t.bd t.eK
 j6:W.keepIn K (.ref t.bd)=true
 eL:aS K t.eK ["talk","order"] []
 mC:mg "swapped_case"=some (.ref t.cG)
 sg:Fun K "swapped_case" "swapped_case" jf t.cG t.iF
 ml:W.keepIn K (.ref t.cG)=true
 mw:aS K t.iF ["case"] []
 lB:mg "swapped_talk"=some (.ref t.bw)
 Ea:Fun K "swapped_talk" "swapped_talk" bU t.bw t.fw
 mm:W.keepIn K (.ref t.bw)=true
 fz:aS K t.fw ["talk"] []
 vd:mg "went_on"=some (.ref t.gi)
 CZ:Fun K "went_on" "went_on" kh t.gi t.qG
 uQ:W.keepIn K (.ref t.gi)=true
 vw:aS K t.qG ["turn","yes","no"] []
 CU:mg "ends_of"=some (.ref t.ga)
 CY:Fun K "ends_of" "ends_of" pU t.ga t.qy
 C0:W.keepIn K (.ref t.ga)=true
 DE:aS K t.qy ["case","talk"] []
 qV:mg "has_pairs"=some (.ref t.ee)
 ye:Fun K "has_pairs" "has_pairs" mx t.ee t.md
 qO:W.keepIn K (.ref t.ee)=true
 qT:aS K t.md ["words"] []
 uv:mg "kept_upward"=some (.ref t.cS)
 uG:Fun K "kept_upward" "kept_upward" jU t.cS t.jH
 ut:W.keepIn K (.ref t.cS)=true
 uD:aS K t.jH ["case","talk"] []
 Lz:mg "cut"=some (.ref t.t5)
 Mt:Fun K "cut" "cut" Eg t.t5 t.ET
 LI:W.keepIn K (.ref t.t5)=true
 Mh:aS K t.ET ["case","talk"] []
 AN:mg "pairs_in"=some (.ref t.e9)
 zB:Fun K "pairs_in" "pairs_in" k6 t.e9 t.om
 zQ:W.keepIn K (.ref t.e9)=true
 zy:aS K t.om ["case"] []
 FB:mg "spoken"=some (.ref t.iS)
 Ez:Fun K "spoken" "spoken" tN t.iS t.r8
 Ge:W.keepIn K (.ref t.iS)=true
 EH:aS K t.r8 ["talk","yes","no"] []
 oI:mg "parts_pair"=some (.ref t.dh)
 xt:Fun K "parts_pair" "parts_pair" kH t.dh t.k9
 o7:W.keepIn K (.ref t.dh)=true
 pH:aS K t.k9 ["rule","place","yes","no"] []
 HN:mg "fault"=some (.ref t.kY)
 GW:Fun K "fault" "fault" w4 t.kY t.wW
 Hq:W.keepIn K (.ref t.kY)=true
 He:aS K t.wW ["case","rule","talk"] []
 im:mg "lets_by"=some (.ref t.gA)
 DB:Fun K "lets_by" "lets_by" pO t.gA t.qa
 iq:W.keepIn K (.ref t.gA)=true
 ig:aS K t.qa ["case","rule","talk"] []
 vj:mg "talk_of"=some (.ref t.dI)
 Ll:Fun K "talk_of" "talk_of" fe t.dI t.mH
 vM:W.keepIn K (.ref t.dI)=true
 mV:aS K t.mH ["case","saying"] []
 zY:mg "led_leaf"=some (.ref t.ei)
 zW:Fun K "led_leaf" "led_leaf" iR t.ei t.kG
 AH:W.keepIn K (.ref t.ei)=true
 Ai:aS K t.kG ["case","leaf"] []
 AZ:mg "led_join"=some (.ref t.eu)
 zt:Fun K "led_join" "led_join" nP t.eu t.kR
 Ae:W.keepIn K (.ref t.eu)=true
 AW:aS K t.kR ["case","join","one","other"] []
 oG:mg "words_with"=some (.ref t.dn)
 xo:Fun K "words_with" "words_with" hJ t.dn t.kQ
 oW:W.keepIn K (.ref t.dn)=true
 oZ:aS K t.kQ ["words","values","bit"] []
 vB:mg "greater"=some (.ref t.gp)
 DG:Fun K "greater" "greater" m6 t.gp t.pS
 vg:W.keepIn K (.ref t.gp)=true
 vp:aS K t.pS ["ones","others"] []
 uZ:mg "smaller"=some (.ref t.gb)
 CQ:Fun K "smaller" "smaller" mQ t.gb t.p9
 uX:W.keepIn K (.ref t.gb)=true
 u5:aS K t.p9 ["ones","others"] []
 jq:mg "saying_of"=some (.ref t.ek)
 yI:Fun K "saying_of" "saying_of" jr t.ek t.lN
 jo:W.keepIn K (.ref t.ek)=true
 ju:aS K t.lN ["case","talk"] []
 t9:mg "squares_with"=some (.ref t.cB)
 sA:Fun K "squares_with" "squares_with" fy t.cB t.iI
 tK:W.keepIn K (.ref t.cB)=true
 ud:aS K t.iI ["rule","yes","no"] []
 ox:mg "case_grows"=some (.ref t.dB)
 wA:Fun K "case_grows" "case_grows" hX t.dB t.lc
 pF:W.keepIn K (.ref t.dB)=true
 pz:aS K t.lc ["case"] []
 zU:mg "_law_spring"=some (.ref t.fb)
 zG:Fun K "_law_spring" "_law_spring" nW t.fb t.nS
 An:W.keepIn K (.ref t.fb)=true
 zT:aS K t.nS ["_law_script"] []
 dE:mg "_law_flow"=some (.ref t.iG)
 D8:Fun K "_law_flow" "_law_flow" uc t.iG t.sx
 dH:W.keepIn K (.ref t.iG)=true
 dG:aS K t.sx ["_law_spring_here","_law_many"] []
 lM:mg "_law_list_of"=some (.ref t.eh)
 yC:Fun K "_law_list_of" "_law_list_of" jC t.eh t.lK
 mB:W.keepIn K (.ref t.eh)=true
 lI:aS K t.lK ["_law_places"] []
 vY:mg "_law_any"=some (.ref t.hU)
 HW:Fun K "_law_any" "_law_any" xj t.hU t.ou
 wn:W.keepIn K (.ref t.hU)=true
 wO:aS K t.ou ["_law_spring_here","_law_places","_law_many","_law_kinds"] []
 ng:mg "_law_one"=some (.ref t.h8)
 HA:Fun K "_law_one" "_law_one" wv t.h8 t.oJ
 mR:W.keepIn K (.ref t.h8)=true
 nh:aS K t.oJ ["_law_saying","_law_word"] []
 xW:mg "_law_kept"=some (.ref t.iN)
 GD:Fun K "_law_kept" "_law_kept" oD t.iN t.sk
 yK:W.keepIn K (.ref t.iN)=true
 yD:aS K t.sk ["_law_spring_here","_law_words"] []
 sO:mg "_law_walked"=some (.ref t.eX)
 zz:Fun K "_law_walked" "_law_walked" nZ t.eX t.nQ
 tq:W.keepIn K (.ref t.eX)=true
 ua:aS K t.nQ ["_law_case","_law_talk"] []
 pc:mg "_law_carried_right"=some (.ref t.bI)
 oS:Fun K "_law_carried_right" "_law_carried_right" fC t.bI t.fQ
 pI:W.keepIn K (.ref t.bI)=true
 oP:aS K t.fQ ["_law_one_here","_law_other"] []
 jE:mg "_law_flipped"=some (.ref t.dY)
 zc:Fun K "_law_flipped" "_law_flipped" lA t.dY t.l9
 jx:W.keepIn K (.ref t.dY)=true
 jB:aS K t.l9 ["_law_things","_law_some"] []
 jV:mg "_law_exchanged"=some (.ref t.cT)
 uE:Fun K "_law_exchanged" "_law_exchanged" jG t.cT t.jS
 jW:W.keepIn K (.ref t.cT)=true
 jM:aS K t.jS ["_law_things","_law_order"] []
 gP:mg "_law_swapped"=some (.ref t.d6)
 yE:Fun K "_law_swapped" "_law_swapped" mj t.d6 t.lO
 gQ:W.keepIn K (.ref t.d6)=true
 gM:aS K t.lO ["_law_things"] []
 ql:mg "_law_back_carried"=some (.ref t.bS)
 pM:Fun K "_law_back_carried" "_law_back_carried" gB t.bS t.gw
 qj:W.keepIn K (.ref t.bS)=true
 qq:aS K t.gw ["_law_things","_law_some","_law_order"] []
 qh:mg "_law_rising_right"=some (.ref t.bQ)
 pP:Fun K "_law_rising_right" "_law_rising_right" gr t.bQ t.gC
 pR:W.keepIn K (.ref t.bQ)=true
 qD:aS K t.gC ["_law_things","_law_order","_law_every"] []
 LA:mg "law"=some (.ref t.nB)
 MN:Fun K "law" "law" nA t.nB t.yL
 Nj:W.keepIn K (.ref t.nB)=true
 Nk:aS K t.yL ["_law_script"] []
 Kh:∀(s:Shared)(v:Value),BindsTo s t.yL ⟨[v],[]⟩ [("_law_script",v)]
 El:mg "abs"=none
 IH:mg "all"=none
 qY:mg "enumerate"=none
 Eo:mg "int"=none
 r6:mg "len"=none
 Gc:mg "list"=none
 EQ:mg "max"=none
 Fk:mg "min"=none
 mP:mg "range"=none
 za:mg "sorted"=none
 dy:mg "tuple"=none
 Cw:mg "zip"=none
 wy:mg "OTHER_JOIN"=some (.ref t.dw)
 wt:StD t.wo K t.dw [("and",V.str "or"),("or",V.str "and")]
 wP:mg "OTHER_HAND"=some (.ref t.dr)
 vU:StD t.wo K t.dr [("yes",V.str "no"),("no",V.str "yes")]
 tS:mg "JOIN_OF_HAND"=some (.ref t.cz)
 sJ:StD t.wo K t.cz [("yes",V.str "or"),("no",V.str "and")]
 lU:qg K "value" "value" jw t.gK t.rN t.mZ t.mM
 jd:qg K "against" "against" fi t.dJ t.mN t.ip t.mX
 fL:qg K "flipped_saying" "flipped_saying" bC t.bc t.eE t.cm t.eF
 dD:qg K "flipped_talk" "flipped_talk" bX t.bv t.fM t.da t.fF
 eN:qg K "exchanged_saying" "exchanged_saying" bg t.aZ t.dm t.bP t.dj
 cO:qg K "exchanged_talk" "exchanged_talk" bA t.bd t.eK t.ck t.eL
 dC:qg K "swapped_talk" "swapped_talk" bU t.bw t.fw t.cY t.fz
 iX:qg K "talk_of" "talk_of" fe t.dI t.mH t.ir t.mV
set_option hygiene false
local macro_rules | `(tactic| walk_at "ab")=>`(tactic| simp only[sP,pA,yc,yR,Cq,CL,Cb,iy,yP,vm,CA,nY,kF,yS,Cm,yu,JB,FX,Co,yX,Ca,CJ,yV,yh,yY,vb,xZ,yO,xF,u9,t6,tm,vK,x8,By,DR,BK,FO,B9,E6,Iv,Ba,Fp,ES,CO,CD,Bb,BO,EI,Gr,Bt,uO,vJ,uK,yT,x5,uV,vo,Bz,tI,xV,qM,kJ,sB,sZ,CG,yd,yN,ve,xO,yy,zo,F4,DW,Jl,zi,zn,A8,Bd,Ci,BT,B0,Bf,B7,Bn,Bh,BI,yg,y6,EK,Bi,GQ,DP,DQ,zL,FJ,Er,A0,zJ,FU,Ev,D9,A4,ya,BQ,a8,Gz,Fd,Ec,FF,l4,zd,Om.Nr,Om.Nv,sz1,sz2,sz3,sz4,sz6,Int.toNat_natCast,IT,IW,Iy,Js,gJ,rJ,F8,EV,Cj,rQ,BM,Nat.zero_le,AV.d.injEq,AV.r.injEq,D.int.injEq,D.bl.injEq,D.str.injEq,D.tup.injEq,D.lst.injEq,OC.own.injEq,V.ref.injEq,List.map_cons,List.map_nil,List.cons_append,List.nil_append,List.length_cons,List.length_nil,List.length_map,List.length_append,List.replicate,List.getElem?_cons_zero,List.getElem?_cons_succ,List.set_cons_zero,List.set_cons_succ,Option.some.injEq,Option.map_some,Option.join_some,exists_eq',exists_eq_left',List.cons.injEq,and_true,true_and,and_assoc,exists_and_left,Nat.sub_self,Nat.reduceAdd,Nat.reduceSub,Nat.reduceLeDiff,Int.reduceLT,Int.reduceAdd,Int.reduceToNat,Nat.reduceLT,decide_eq_true_eq,Bool.not_eq_true,Bool.not_true,Bool.not_false,if_true,if_false,Bool.false_eq_true,reduceCtorEq,false_and,and_false,or_false,false_or,exists_false,beq_iff_eq,bne_iff_ne,ne_eq,Bool.true_eq_false])
local macro_rules | `(tactic| walk_at "a1")=>`(tactic| simp only[sP,yc,yR,Cq,CL,Cb,iy,yP,vm,CA,nY,kF,yS,Cm,yu,JB,FX,Co,yX,Ca,CJ,yV,yh,yY,vb,xZ,yO,xF,u9,t6,tm,vK,x8,By,DR,BK,FO,B9,E6,Iv,Ba,Fp,ES,CO,CD,Bb,BO,EI,Gr,Bt,uO,vJ,uK,yT,x5,uV,vo,Bz,tI,xV,qM,kJ,sB,sZ,CG,yd,yN,ve,xO,yy,zo,F4,DW,Jl,zi,zn,A8,Bd,Ci,BT,B0,Bf,B7,Bn,Bh,BI,yg,y6,EK,Bi,GQ,DP,DQ,zL,FJ,Er,A0,zJ,FU,Ev,D9,A4,ya,BQ,a8,Gz,Fd,Ec,FF,l4,zd,Om.Nr,Om.Nv,sz1,sz2,sz3,sz4,sz6,Int.toNat_natCast,IT,IW,Iy,Js,gJ,rJ,F8,EV,Cj,rQ,BM,Nat.zero_le,AV.d.injEq,AV.r.injEq,D.int.injEq,D.bl.injEq,D.str.injEq,D.tup.injEq,D.lst.injEq,OC.own.injEq,V.ref.injEq,List.map_cons,List.map_nil,List.cons_append,List.nil_append,List.length_cons,List.length_nil,List.length_map,List.length_append,List.replicate,List.getElem?_cons_zero,List.getElem?_cons_succ,List.set_cons_zero,List.set_cons_succ,Option.some.injEq,Option.map_some,Option.join_some,exists_eq',exists_eq_left',List.cons.injEq,and_true,true_and,and_assoc,exists_and_left,Nat.sub_self,Nat.reduceAdd,Nat.reduceSub,Nat.reduceLeDiff,Int.reduceLT,Int.reduceAdd,Int.reduceToNat,Nat.reduceLT,decide_eq_true_eq,Bool.not_eq_true,Bool.not_true,Bool.not_false,if_true,if_false,Bool.false_eq_true,reduceCtorEq,false_and,and_false,or_false,false_or,exists_false,beq_iff_eq,bne_iff_ne,ne_eq,Bool.true_eq_false])
local macro_rules | `(tactic| walk_at "s1")=>`(tactic| (try walk_at "a1");(first|rw[pA]|rw[DM]);walk_at "a1")
set_option hygiene true
section
variable{P:Program}{w:World}{K:W.Frag}{mg:Str->Option Value}{base:Heap}{t:Adr}
structure Pl where
 ns:List Int
 i:Int
 f:Int
 h0:0<=i
 hf:0<=f
 hn:ns.length<=63
noncomputable def pdO(c:Pl):OC:=.dic [(("all":Str),.d (.lst (c.ns.map D.int))),(("used":Str),.d (.int c.i)),(("over":Str),.d (.int c.f))]
noncomputable def zD(ω:Om)(p:Addr):Prop:=∃c,ω p=some (pdO c)
theorem c0{ω:Om}{p:Addr}{c:Pl}:zD (ω.put p (pdO c)) p:=⟨c,Om.Nr⟩
noncomputable def KN(K:W.Frag):ASp:=fun xs ω Q=>∃(a:Addr)(ns:List Int),xs=[q9 K a ns]/\ns.length<=63/\∀p c,ω p=none->Q (.r (.ref p)) (ω.put p (pdO c))
theorem Kc(T:Txt K mg t):aA P w K mg base CX0 1 t.fb t.nS ["_law_script"] (bo (KN K)):=by
 refine T.zG.okA xM (fun xs ω Q h=>by obtain⟨a,ns,rfl,_⟩:=h;rfl) (fun cdv A outer s H E hr=>⟨_,_,(am (aB (Hn (sf aK (bn (nI K rfl) (by rfl) T.Gc (by kernel_rfl) (aa (pv 0) ae)) (sf aK af (sf aK af HC))) rfl rfl (by simp) (by decide)))),(aO (JO (nw.cons (du HX (ab ac ag)) (nw.cons ak (nw.cons ak nw.nil))))),fun xs ω Q h=>?_⟩)
 obtain⟨a,ns,rfl,hn,k⟩:=h;walk_at "a1";exact⟨by decide +kernel,fun p hp=>⟨a,ns,rfl,k p ⟨ns,0,0,Int.le_refl _,Int.le_refl _,hn⟩ hp⟩⟩
theorem zD.some{ω:Om}{p:Addr}(h:zD ω p):(ω p).isSome=true:=by obtain⟨c,e⟩:=h;rw[e];rfl
theorem rW{ω:Om}{p:Addr}{c:Pl}(h:zD ω p):(ω.put p (pdO c)).only ω=ω.put p (pdO c):=EB (Ex.refl _) h.some
noncomputable abbrev pd3(a b c:AV):List (Str×AV):=[(("all":Str),a),(("used":Str),b),(("over":Str),c)]
theorem Eh{a b c:AV}:ndK (pd3 a b c):=by unfold ndK;show [("all":Str),"used","over"].Nodup;decide +kernel
theorem FK{a b c x:AV}:rj (pd3 a b c) "over"=some c/\uy (pd3 a b c) "over" x=pd3 a b x:=by
 refine⟨?_,?_⟩
 ·simp only[rj,List.find?_cons,show decide (("all":Str)="over")=false from by decide +kernel,show decide (("used":Str)="over")=false from by decide +kernel,decide_true];rfl
 ·simp only[uy,if_neg (show ¬ ("all":Str)="over" from by decide +kernel),if_neg (show ¬ ("used":Str)="over" from by decide +kernel),if_true]
theorem Mz{a b c x:AV}:rj (pd3 a b c) "used"=some b/\uy (pd3 a b c) "used" x=pd3 a x c:=by
 refine⟨?_,?_⟩
 ·simp only[rj,List.find?_cons,show decide (("all":Str)="used")=false from by decide +kernel,decide_true];rfl
 ·simp only[uy,if_neg (show ¬ ("all":Str)="used" from by decide +kernel),if_true]
theorem GX{a b c:AV}:rj (pd3 a b c) "all"=some a:=by
 simp only[rj,List.find?_cons,decide_true];rfl
theorem AQ{a b c:AV}:((pd3 a b c).any fun p=>decide (p.1=("over":Str)))=true/\((pd3 a b c).any fun p=>decide (p.1=("used":Str)))=true:=by
 simp
noncomputable def HF:ASp:=fun xs ω Q=>∃(p:Addr)(m:Int),xs=[.r (.ref p),.d (.int m)]/\zD ω p/\0<m/\m<1073741824/\∀(r:Int)(c:Pl),0<=r->r<m->Q (.d (.int r)) (ω.put p (pdO c))
theorem xz(T:Txt K mg t):aA P w K mg base CX0 1 t.iG t.sx ["_law_spring_here","_law_many"] (bo HF):=by
 refine T.D8.okA fk (fun xs ω Q h=>by obtain⟨p,m,rfl,_⟩:=h;rfl) (fun cdv A outer s H E hr=>⟨_,_,(ah (bT (aH zf (jy (l5 hr) (pv 0) aK (fun _ _=>rfl)) af (aL _)) (ah (aJ (i:=2) fk.nd rfl (Or.inl rfl) (be lL (jy (l5 hr) (pv 0) aK (fun _ _=>rfl)) (pv 1)))
   (ah (xy (l5 hr) (pv 0) aK (be rG (jy (l5 hr) (pv 0) aK (fun _ _=>rfl)) (pv 1)) rfl)
   (am (aB (pv 2))))) bb)
   (ah (aJ (i:=3) fk.nd rfl (Or.inl rfl) (jy (l5 hr) (pv 0) aK (fun _ _=>rfl)))
   (ah (xy (l5 hr) (pv 0) aK (be (ba d8 (ba cR d7)) (pv 3) af) rfl)
   (ah (aJ (i:=4) fk.nd rfl (Or.inl rfl) (be (ba d8 (ba cR d7)) (be (ba wb xA) af (pv 3)) af))
   (ah (bT (aH (i9 hr.Nw) (jy (l5 hr) (pv 0) aK (fun _ _=>rfl)) (cW ae) (aL _)) (am (aJ (i:=4) fk.nd rfl (Or.inl rfl) (ar (ai K rfl) (jy (l5 hr) (pv 0) aK (fun _ _=>rfl)) (be lL (pv 3) (bD (gc K rfl) (by rfl) T.r6 (by kernel_rfl) (aa (jy (l5 hr) (pv 0) aK (fun _ _=>rfl)) ae))) (fun _ _=>rfl)))) bb)
   (ah (bT (PW.pt (J1 (aH LZ (pv 3) (bD (gc K rfl) (by rfl) T.r6 (by kernel_rfl) (aa (jy (l5 hr) (pv 0) aK (fun _ _=>rfl)) ae)) (aL _)) (HR (aH Mj (bD tu (by rfl) T.El (by kernel_rfl) (aa (pv 4) ae)) (be Li af af) (aL _))))) (ah (xy (l5 hr) (pv 0) aK (be rG (bD tu (by rfl) T.El (by kernel_rfl) (aa (pv 4) ae)) (pv 1)) rfl)
   (am (aB (be lL (bD tu (by rfl) T.El (by kernel_rfl) (aa (pv 4) ae)) (pv 1))))) bb)
   (ah (aJ (i:=5) fk.nd rfl (Or.inl rfl) (be lL (be (ba wb xA) (be (ba d8 (ba cR d7)) (be (ba d8 (ba cR d7)) (be lL (pv 4) af) (be (ba wb xA) af (pv 3))) af) af) af))
   (ah (g6 PassesOwn.never rfl (kn rfl T.mP (aE af ae)) (au (i:=6) fk.nd rfl (Or.inl rfl)) (am (aJ (i:=5) fk.nd rfl (Or.inl rfl) (be lL (be (ba d8 (ba cR d7)) (be (ba wb xA) (pv 5) (be (ba d8 (ba cR d7)) (be (ba d8 (ba cR d7)) (be lL (pv 5) af) af) (pv 6))) (pv 3)) af))))
   (am (aB (be lL (be rG (pv 5) af) (pv 1)))))))))))),(av (dX (aP (ap sU (me ac aX) ak)) (av (aN (ap nn (me ac aX) ac) ao)
   (av (Ab ac aX (ap nn (me ac aX) ac))
   (aO ac))) bE)
   (av (aN (me ac aX) ao)
   (av (Ab ac aX (ap gT ac ak))
   (av (aN (ap gT (ap CF ak ac) ak) ao)
   (av (dX (aP (ap bq (me ac aX) (pw ag))) (aN (ap aG (me ac aX) (ap nn ac (du tD (ab (me ac aX) ag)))) ao) bE)
   (av (dX (MA (aP (ap sU ac (du tD (ab (me ac aX) ag)))) (aP (ap sU (du K6 (ab ac ag)) (ap nn ak ak)))) (av (Ab ac aX (ap nn (du K6 (ab ac ag)) ac))
   (aO (ap nn (du K6 (ab ac ag)) ac))) bE)
   (av (aN (ap nn (ap CF (ap gT (ap gT (ap nn ac ak) (ap CF ak ac)) ak) ak) ak) ao)
   (av (lp (sH (ab ak ag)) ao (aN (ap nn (ap gT (ap CF ac (ap gT (ap gT (ap nn ac ak) ak) ac)) ac) ak) ao))
   (aO (ap nn (ap nn ac ak) ac)))))))))),fun xs ω Q h=>?_⟩)
 obtain⟨p,m,rfl,⟨c,hp⟩,hm,hm2,k⟩:=h;have fin:∀(r:Int)(c:Pl),Q (.d (.int (r%m))) (ω.put p (pdO c)):=fun r c=>k _ c (Int.emod_nonneg _ (by omega)) (Int.emod_lt_of_pos _ hm)
 unfold pdO at hp;walk_at "s1";refine⟨_,hp,_,(FK (x:=.d .non)).1,_,rfl,ur (fun h1=>?_) (fun h1=>?_)⟩
 ·walk_at "s1"
  refine⟨_,hp,_,(FK (x:=.d .non)).1,_,rfl,hm,?_⟩;walk_at "s1";refine⟨_,hp,_,(FK (x:=.d .non)).1,_,rfl,⟨hm,hm2⟩,_,hp,Eh,AQ.1,by simp[sizeLine],?_⟩
  rw[FK.2];exact fin _ ⟨c.ns,c.i,c.f / m,c.h0,Int.ediv_nonneg c.hf (by omega),c.hn⟩
 ·walk_at "s1"
  refine⟨_,hp,_,(Mz (x:=.d .non)).1,?_⟩;walk_at "s1";refine⟨_,hp,Eh,AQ.2,by simp[sizeLine],?_⟩
  rw[Mz.2];walk_at "s1";refine⟨Ei (by decide),?_⟩
  have absn:∀z:Int,0<=(if z<0 then -z else z):=fun z=>by split<;>omega
  refine pG (fun ρ' ω'=>ω'=ω.put p (.dic (pd3 (.d (.lst (c.ns.map D.int))) (.d (.int (c.i+1))) (.d (.int c.f))))/\∃x:Int,ρ'=[some (AV.r (V.ref p)),some (AV.d (D.int m)),none,some (AV.d (D.int c.i)),some (AV.d (D.int x)),none,none]) (fun M kM=>?_) ?_
  ·walk_at "a1"
   refine⟨_,rfl,_,GX,_,rfl,by simp only[dep,m8];decide,ur (fun h2=>?_) (fun h2=>kM _ _ ⟨rfl,_,rfl⟩)⟩
   have h2':0<(c.ns.length:Int):=by cases hc:c.ns with
    |nil=>simp[hc,eqD,gN] at h2
    |cons y ys=>simp only[List.length_cons];omega
   have hx1:0<=c.i%(c.ns.length:Int):=Int.emod_nonneg _ (by omega)
   have hx2:c.i%(c.ns.length:Int)<(c.ns.length:Int):=Int.emod_lt_of_pos _ h2';obtain⟨x,_,_,ey⟩:=mS (f:=AV.d ∘ D.int) (xs:=c.ns) hx1 hx2;rw[←List.map_map] at ey
   refine⟨_,rfl,_,GX,_,rfl,_,GX,_,rfl,?_⟩;simp only[List.length_map];exact⟨h2',_,.inl rfl,_,ey,kM _ _ ⟨rfl,_,rfl⟩⟩
  rintro ρ ω' ⟨rfl,x,rfl⟩;refine pG (fun ρ' ω'=>ω'=ω.put p (.dic (pd3 (.d (.lst (c.ns.map D.int))) (.d (.int (c.i+1))) (.d (.int c.f))))/\ρ'=[some (AV.r (V.ref p)),some (AV.d (D.int m)),none,some (AV.d (D.int c.i)),some (AV.d (D.int x)),none,none]) (fun M kM=>?_) ?_
  ·walk_at "a1"
   refine⟨_,rfl,_,GX,_,rfl,ur (fun h2=>⟨⟨by decide,by decide,by decide⟩,ur (fun h3=>?_) (fun h3=>kM _ _ ⟨rfl,rfl⟩)⟩) (fun h2=>kM _ _ ⟨rfl,rfl⟩)⟩
   walk_at "s1";refine⟨⟨hm,hm2⟩,_,rfl,Eh,AQ.1,by simp[sizeLine],hm,?_⟩
   rw[FK.2];exact fin _ ⟨c.ns,c.i+1,(if x<0 then -x else x) / m,by have:=c.h0;omega,Int.ediv_nonneg (absn x) (by omega),c.hn⟩
  rintro ρ ω' ⟨rfl,rfl⟩;walk_at "s1";refine⟨Ei (by decide),FA (by decide),?_⟩
  walk_at "s1";refine⟨by decide,by decide,Cn (fun i ρ ω'=>ω'=ω.put p (.dic (pd3 (.d (.lst (c.ns.map D.int))) (.d (.int (c.i+1))) (.d (.int c.f))))/\∃(g:Int)(v6:Option AV),ρ=[some (AV.r (V.ref p)),some (AV.d (D.int m)),none,some (AV.d (D.int c.i)),some (AV.d (D.int x)),some (AV.d (D.int g)),v6]) ⟨rfl,_,_,rfl⟩ ?_ ?_⟩
  ·rintro i ρ ω1 N hi ⟨rfl,g,v6,rfl⟩ kN
   walk_at "a1";exact⟨FA ⟨by omega,by omega⟩,kN _ _ ⟨rfl,_,_,rfl⟩⟩
  ·rintro ρ ω1 ⟨rfl,g,v6,rfl⟩
   dsimp only;walk_at "a1";exact⟨⟨by decide,by decide⟩,hm,fin _ ⟨c.ns,c.i+1,c.f,by have:=c.h0;omega,c.hf,c.hn⟩⟩
noncomputable def GU(K:W.Frag):ASp:=fun xs ω Q=>∃(a:Addr)(ns:List Int),xs=[q9 K a ns]/\ns.length<=63/\ω=(fun _=>none)/\∀ω',Q (.d (.bl true)) ω'
noncomputable def xb(K:W.Frag):Sp:=bo (GU K)
theorem Dh{K:W.Frag}{H:Hp}{a:Addr}{ns:List Int}(hl:ns.length<=63)(hO:LR H)(hS:SqL K H a (ns.map V.int)):xb K [.ref a] H (fun v _=>v=.bl true) fun _ _ _=>False:=
 ⟨fun _=>false,[q9 K a ns],fun _=>none,fun a _=>a=.d (.bl true),HJ,⟨_,_,rfl,zu hS,rfl⟩,⟨a,ns,rfl,hl,rfl,fun _=>rfl⟩,fun a ω' v H' _ _ rv q=>by subst q;exact Ck rv⟩
noncomputable def Ih(n m:Nat):List Int:=(List.range n).map fun k:Nat=>Builtin.bitAnd ((0+(m:Int)) / 2^((n:Int)-1-(0+(k:Int))).toNat) 1
theorem MC:∀n:Fin 6,wl n.val=(List.range (2^n.val)).map (Ih n.val):=by decide +kernel
theorem pw5(q:Nat):(1*2^q:Int)=((2^q:Nat):Int):=by rw[Int.one_mul,Int.natCast_pow];rfl
theorem Nd{q:Nat}(h:q<=5):2^q<=32:=Nat.pow_le_pow_right (by decide) h
noncomputable def Fl:ASp:=fun xs ω Q=>∃n:Nat,xs=[.d (.int n)]/\n<=5/\Q (.d (.lst ((wl n).map wdD))) ω
theorem EA(T:Txt K mg t):aA P w K mg base CX0 1 t.eh t.lK ["_law_places"] (bo Fl):=by
 refine T.yC.okD wS (fun xs ω Q h=>by obtain⟨n,rfl,_⟩:=h;rfl) (fun cdv A outer s H E hr=>⟨_,_,(am (aB (ci (N:=(["_law_number","_law_places"]:List Str)) (src:=[none,some 0]) rfl (by show cX _ (defScope jC) _ _ (["_law_places"]:List Str)=true;decide +kernel) (by intro g' h;cases h) (kn rfl T.mP (aa (be Ff af (pv 0)) ae)) (fun _ _ _ _ _ _=>(au (i:=0) (show (["_law_number","_law_places"]:List Str).Nodup by decide +kernel) rfl (Or.inr rfl))) (fun _ _ _ _ _ _=>dU) (fun _ _ _ _ _ _=>(bM rfl rfl (bn (aY K rfl) (by rfl) T.dy (by kernel_rfl) (aa (ci (N:=(["_law_k","_law_number","_law_places"]:List Str)) (src:=[none,some 0,some 1]) rfl (by with_unfolding_all rfl) (by intro g' h;cases h) (kn rfl T.mP (aa (pv 1) ae)) (fun _ _ _ _ _ _=>(au (i:=0) (show (["_law_k","_law_number","_law_places"]:List Str).Nodup by decide +kernel) rfl (Or.inl rfl))) (fun _ _ _ _ _ _=>dU) (fun _ _ _ _ _ _=>(bM rfl rfl (be Ef (be Kv (pv 1) (be kU (be kU (pv 2) af) (pv 0))) af)))) ae))))))),(aO (cL (sH (ab (ap nn ak ac) ag)) ao oR (cM (du dS (ab (cL (sH (ab ac ag)) ao oR (cM (ap lm (ap nn ac (ap lm (ap lm ac ak) ac)) ak))) ag))))),fun xs ω Q h=>?_⟩)
 obtain⟨n,rfl,hn,k⟩:=h;have h32:=Nd hn;have hwa:=MC ⟨n,by omega⟩
 dsimp only at hwa;walk_at "a1";rw[pw5];generalize hz:2^n=z at h32 hwa ⊢;refine⟨⟨by omega,by omega,by decide⟩,by omega,by omega,?_⟩
 rw[Int.toNat_natCast];refine mU (rs:=(wl n).map wdD) (by rw[hwa];simp[nl]) (Nat.le_of_lt (bu (by simp[nl];omega))) (fun i a r ha hr' Q q=>?_) (fun ρ=>⟨_,a8 _,?_⟩)
 ·rw[hwa] at hr'
  simp only[nl,List.getElem?_map,Option.map_eq_some_iff] at ha hr';obtain⟨i',h1,rfl⟩:=ha;obtain⟨v,⟨i2,h2,rfl⟩,rfl⟩:=hr';rw[h1] at h2;cases h2;walk_at "a1";refine⟨by omega,by omega,?_⟩
  refine mU (rs:=(Ih n i').map D.int) (by simp[nl,Ih]) (Nat.le_of_lt (bu (by simp[nl];omega))) (fun j a r ha hr' Q q=>?_) (fun ρ=>⟨_,a8 _,?_⟩)
  ·simp only[nl,Ih,List.getElem?_map,Option.map_eq_some_iff] at ha hr'
   obtain⟨k',h1,rfl⟩:=ha;obtain⟨v,⟨k2,h2,rfl⟩,rfl⟩:=hr';rw[h1] at h2;cases h2;have hk:k'<n:=by have:=(List.getElem?_eq_some_iff.mp h1);obtain⟨h3,h4⟩:=this;simp at h3 h4;omega
   walk_at "a1";exact⟨by omega,q⟩
  ·exact q
 ·rw[ay]
  exact k
noncomputable def cap(r:Nat):Nat:=[1,2,3,4,5,7,11,19,31].getD r 0
noncomputable def lft(m:Nat)(f:Int):Int:=max 1 (min ((m:Int)-1) (((m:Int)+f-2) / 2))
theorem DY:∀r:Fin 8,∀m:Fin 32,2<=m.val->m.val<=cap (r.val+1)->∀f:Fin 5,1<=(lft m.val f.val).toNat/\(lft m.val f.val).toNat<m.val/\(lft m.val f.val).toNat<=cap r.val/\m.val-(lft m.val f.val).toNat<=cap r.val:=by decide +kernel
theorem K1:∀r:Fin 9,cap r.val<=31:=by decide +kernel
noncomputable def zF(r:Nat):ASp:=fun xs ω Q=>∃(p:Addr)(n m:Nat)(b:Bool),xs=[.r (.ref p),.d (.int n),.d (.int m),.d (.int (1+b01 b))]/\zD ω p/\1<=n/\n<=5/\1<=m/\m<=cap r/\r<=8/\∀(x:Sy)(c:Pl),x.ok n->x.dp<=r->x.lvs=m->(b=false->x.up)->Q (.d x.d) (ω.put p (pdO c))
theorem zk(T:Txt K mg t)(r:Nat)(kk:Nat)(sp:ASp)(hk:1<=kk)(G_l_any:aA P w K mg base CX0 kk t.hU t.ou ["_law_spring_here","_law_places","_law_many","_law_kinds"] (bo sp))(hs:∀r',r=r'+1->sp=zF r'):aA P w K mg base CX0 (kk+1) t.hU t.ou ["_law_spring_here","_law_places","_law_many","_law_kinds"] (bo (zF r)):=by
 have G_l_flow:aA P w K mg base _ _ _ _ _ _:=xz T
 refine T.HW.okD tE (fun xs ω Q h=>by obtain ⟨p,n,m,b,rfl,_⟩:=h;rfl) (fun cdv A outer s H E hr=>⟨_,_,(ah (bT (aH (bh hr.Nw) (pv 2) af (aL _)) (am (aB (aQ (aE aK (aa (aj G_l_flow (hr.mono (by omega)) (by rfl) T.dE T.dH T.dG .nil ax (aa (pv 0) (aa (pv 1) ae))) (aa (be kU af (aj G_l_flow (hr.mono (by omega)) (by rfl) T.dE T.dH T.dG .nil ax (aa (pv 0) (aa (pv 3) ae)))) ae)))))) bb)
   (ah (aJ (i:=4) tE.nd rfl (Or.inl rfl) (bD (qc rfl) (by rfl) T.EQ (by kernel_rfl) (aE af (aa (bD (p8 rfl) (by rfl) T.Fk (by kernel_rfl) (aa (be kU (pv 2) af) (aa (be rG (be kU (be (ba d8 (ba cR d7)) (pv 2) (aj G_l_flow (hr.mono (by omega)) (by rfl) T.dE T.dH T.dG .nil ax (aa (pv 0) (aE af ae)))) af) af) ae))) ae))))
   (ah (aJ (i:=5) tE.nd rfl (Or.inl rfl) (aj G_l_any (hr.mono (by omega)) (by rfl) T.vY T.wn T.wO .nil ax (aa (pv 0) (aa (pv 1) (aa (pv 4) (aa (pv 3) ae))))))
   (am (aB (aQ (aa (ar (ai K rfl) (cW (aE aK (aE aK ae))) (aj G_l_flow (hr.mono (by omega)) (by rfl) T.dE T.dH T.dG .nil ax (aa (pv 0) (aE af ae))) (fun _ _=>rfl)) (aa (pv 5) (aa (aj G_l_any (hr.mono (by omega)) (by rfl) T.vY T.wn T.wO .nil ax (aa (pv 0) (aa (pv 1) (aa (be kU (pv 2) (pv 4)) (aa (pv 3) ae))))) ae))))))))),(av (dX (aP (ap bq ac ak)) (aO (a9 (ab aX (ab (aq (ab ac (ab ac ag))) (ab (ap lm ak (aq (ab ac (ab ac ag)))) ag))))) bE)
   (av (aN (du DF (ab ak (ab (du DF (ab (ap lm ac ak) (ab (ap nn (ap lm (ap gT ac (aq (ab ac (ab ak ag)))) ak) ak) ag))) ag))) ao)
   (av (aN (aq (ab ac (ab ac (ab ac (ab ac ag))))) ao)
   (aO (a9 (ab (ap aG (pw (ab aX (ab aX ag))) (aq (ab ac (ab ak ag)))) (ab ac (ab (aq (ab ac (ab ac (ab (ap lm ac ac) (ab ac ag))))) ag)))))))),fun xs ω Q h=>?_⟩)
 obtain⟨p,n,m,b,rfl,hp,hn1,hn,hm1,hm,hr8,k⟩:=h;have hb:(1:Int)<=1+b01 b/\(1:Int)+b01 b<=2:=by cases b<;>decide
 walk_at "s1";refine ur (fun h=>?_) (fun h=>?_)
 ·refine⟨p,n,rfl,hp,by omega,by omega,fun x c x0 x1=>⟨p,1+b01 b,rfl,c0,by omega,by omega,fun y c2 y0 y1=>?_⟩⟩
  rw[Om.Nv];refine⟨_,rfl,_,rfl,?_⟩;rw[rW hp];exact k (.is x (1-y)) c2 ⟨x0,x1,by omega⟩ (Nat.zero_le _) (by simp only[Sy.lvs];omega) (fun e=>by subst e;have:y<1:=y1;simp only[Sy.up];omega)
 ·obtain⟨r',rfl⟩:∃r',r=r'+1:=⟨r-1,by
   cases r with
   |zero=>simp[cap] at hm;omega
   |succ r=>rfl⟩
  cases hs r' rfl;have hm31:=K1 ⟨r'+1,by omega⟩
  walk_at "s1";refine⟨p,5,rfl,hp,by decide,by decide,fun f c f0 f1=>?_⟩
  obtain⟨f,rfl⟩:=Int.eq_ofNat_of_zero_le f0;obtain⟨g1,g2,g3,g4⟩:=DY ⟨r',by omega⟩ ⟨m,by simp at hm31;omega⟩ (by simp;omega) hm ⟨f,by omega⟩
  simp only at g1 g2 g3 g4;obtain⟨g,hg⟩:∃g:Nat,lft m f=(g:Int):=⟨(lft m f).toNat,by simp only[lft];omega⟩
  rw[hg,Int.toNat_natCast] at g1 g2 g3 g4;refine⟨_,rfl,⟨by decide,by decide⟩,?_⟩
  have eif:(if (if ((m:Int)+f-2) / 2<(m:Int)-1 then ((m:Int)+f-2) / 2 else (m:Int)-1)>1 then if ((m:Int)+f-2) / 2<(m:Int)-1 then ((m:Int)+f-2) / 2 else (m:Int)-1 else 1)=(g:Int):=by
   rw[←hg]
   simp only[lft];split<;>split<;>omega
  rw[eif];have eg:(m:Int)-(g:Int)=((m-g:Nat):Int):=by omega
  walk_at "s1";refine⟨p,n,g,b,rfl,c0,hn1,hn,g1,g3,by omega,fun x c hx hxd hxl hxu=>?_⟩
  rw[Om.Nv];refine⟨p,2,rfl,c0,by decide,by decide,fun v c2 v0 v1=>?_⟩
  rw[Om.Nv]
  obtain⟨a,ea⟩:∃a:Bool,atI [AV.d (D.str (Str.ofString "or")),AV.d (D.str (Str.ofString "and"))] v=some (.d (.str (if a then ("and":Str) else ("or":Str)))):=by
   rcases(by omega:v=0\/v=1) with rfl|rfl
   ·exact⟨false,rfl⟩
   ·exact⟨true,rfl⟩
  refine⟨_,rfl,_,ea,?_⟩;rw[eg];refine⟨p,n,m-g,b,rfl,c0,hn1,hn,by omega,g4,by omega,fun y c hy hyd hyl hyu=>?_⟩
  rw[Om.Nv];refine⟨_,rfl,?_⟩;rw[rW hp];exact k (.jn a x y) c ⟨hx,hy⟩ (by simp only[Sy.dp];omega) (by simp only[Sy.lvs];omega) fun e=>⟨hxu e,hyu e⟩
theorem Gk(T:Txt K mg t):∀r,aA P w K mg base CX0 (r+2) t.hU t.ou ["_law_spring_here","_law_places","_law_many","_law_kinds"] (bo (zF r))
 |0=>zk T 0 1 JU (Nat.le_refl _) Jt (fun r' h=>by omega)
 |r+1=>zk T (r+1) (r+2) _ (by omega) (Gk T r) (fun r' h=>by cases h;rfl)
noncomputable def wU(r:Nat):ASp:=fun xs ω Q=>∃(x:Sy)(wd:List Int),xs=[.d x.d,.d (wdD wd)]/\x.ok wd.length/\x.dp<=r/\Q (.d (.int (b01 (x.val wd)))) ω
theorem yJ(T:Txt K mg t)(r:Nat)(kk:Nat)(sp:ASp)(G_l_one:aA P w K mg base CX0 kk t.h8 t.oJ ["_law_saying","_law_word"] (bo sp))(hs:∀r',r=r'+1->sp=wU r'):aA P w K mg base CX0 (kk+1) t.h8 t.oJ ["_law_saying","_law_word"] (bo (wU r)):=by
 refine T.HA.okD Es (fun xs ω Q h=>by obtain ⟨x,wd,rfl,_⟩:=h;rfl) (fun cdv A outer s H E hr=>⟨_,_,(ah (bT (aH (bh hr.Nw) (ar (ai K rfl) (pv 0) af (fun _ _=>rfl)) aK (aL _)) (am (aB (bn qu (by rfl) T.Eo (by kernel_rfl) (aa (cV (bh hr.Nw) (ar (ai K rfl) (pv 1) (ar (ai K rfl) (pv 0) af (fun _ _=>rfl)) (fun _ _=>rfl)) (ar (ai K rfl) (pv 0) af (fun _ _=>rfl)) (aL _)) ae)))) bb)
   (ah (bT (aH (bh hr.Nw) (ar (ai K rfl) (pv 0) af (fun _ _=>rfl)) aK (aL _)) (am (aB (be LO (aj G_l_one (hr.mono (by omega)) (by rfl) T.ng T.mR T.nh .nil ax (aa (ar (ai K rfl) (pv 0) af (fun _ _=>rfl)) (aa (pv 1) ae))) (aj G_l_one (hr.mono (by omega)) (by rfl) T.ng T.mR T.nh .nil ax (aa (ar (ai K rfl) (pv 0) af (fun _ _=>rfl)) (aa (pv 1) ae)))))) bb)
   (am (aB (be Ef (aj G_l_one (hr.mono (by omega)) (by rfl) T.ng T.mR T.nh .nil ax (aa (ar (ai K rfl) (pv 0) af (fun _ _=>rfl)) (aa (pv 1) ae))) (aj G_l_one (hr.mono (by omega)) (by rfl) T.ng T.mR T.nh .nil ax (aa (ar (ai K rfl) (pv 0) af (fun _ _=>rfl)) (aa (pv 1) ae)))))))),(av (dX (aP (ap bq (ap aG ac ak) aX)) (aO (du FS (ab (ap bq (ap aG ac (ap aG ac ak)) (ap aG ac ak)) ag))) bE)
   (av (dX (aP (ap bq (ap aG ac ak) aX)) (aO (ap lm (aq (ab (ap aG ac ak) (ab ac ag))) (aq (ab (ap aG ac ak) (ab ac ag))))) bE)
   (aO (ap lm (aq (ab (ap aG ac ak) (ab ac ag))) (aq (ab (ap aG ac ak) (ab ac ag))))))),fun xs ω Q h=>?_⟩)
 obtain⟨x,wd,rfl,hx,hd,k⟩:=h
 cases x with
 |is i e=>
  obtain⟨i0,i1,he⟩:=hx;simp only[Sy.d];walk_at "s1";obtain⟨y,my,hy,ey⟩:=mS (f:=AV.d ∘ D.int) (xs:=wd) i0 i1;rw[←List.map_map] at ey
  refine⟨_,ey,_,rfl,by simp[dep],?_⟩
  rw[ay,gJ];have ev:wd.getD i.toNat 0=y:=by rw[List.getD_eq_getElem?_getD,hy];rfl
  simp only[Sy.val,ev] at k;rw[show (if (y == e)=true then (1:Int) else 0)=b01 (decide (y=e)) from by by_cases h:y=e<;>simp[h,b01]]
  exact k
 |jn a l rr=>
  obtain⟨hl1,hl2⟩:=hx;simp only[Sy.dp] at hd;obtain⟨r',rfl⟩:∃r',r=r'+1:=⟨r-1,by omega⟩
  cases hs r' rfl;cases a<;>simp only[Sy.d,Sy.val,if_true,if_false,Bool.false_eq_true] at k ⊢
  ·walk_at "s1"
   walk_at "s1";refine⟨l,wd,rfl,hl1,by omega,rr,wd,rfl,hl2,by omega,?_⟩
   refine⟨_,rfl,_,rfl,?_⟩;rw[ay];cases h1:l.val wd<;>cases h2:rr.val wd<;>rw[h1,h2] at k<;>exact k
  ·walk_at "s1"
   walk_at "s1";refine⟨l,wd,rfl,hl1,by omega,rr,wd,rfl,hl2,by omega,?_⟩
   refine⟨_,rfl,_,rfl,?_⟩;rw[ay];cases h1:l.val wd<;>cases h2:rr.val wd<;>rw[h1,h2] at k<;>exact k
theorem DJ(T:Txt K mg t):∀r,aA P w K mg base CX0 (r+1) t.h8 t.oJ ["_law_saying","_law_word"] (bo (wU r))
 |0=>yJ T 0 0 JU Jt (fun r' h=>by omega)
 |r+1=>yJ T (r+1) (r+1) _ (DJ T r) (fun r' h=>by cases h;rfl)
noncomputable def Ic:ASp:=fun xs ω Q=>∃(p:Addr) (ws:List (List Int)),xs=[.r (.ref p),.d (.lst (ws.map wdD))]/\zD ω p/\ws.length<=32/\ws≠[]/\∀(vs:List (List Int)) (c:Pl),vs.Sublist ws->vs≠[]->Q (.d (.tup (vs.map wdD))) (ω.put p (pdO c))
theorem HG(T:Txt K mg t):aA P w K mg base CX0 2 t.iN t.sk ["_law_spring_here","_law_words"] (bo Ic):=by
 have G_l_flow:aA P w K mg base _ _ _ _ _ _:=xz T
 refine T.GD.okD mF (fun xs ω Q h=>by obtain ⟨p,ws,rfl,_⟩:=h;rfl) (fun cdv A outer s H E hr=>⟨_,_,(ah (aJ (i:=2) mF.nd rfl (Or.inr rfl) (aj G_l_flow (hr.mono (by omega)) (by rfl) T.dE T.dH T.dG .nil ax (aa (pv 0) (aE af ae))))
   (ah (wY (i:=3) mF.nd rfl (Or.inl rfl) (N:=(["_law_word","_law_spring_here","_law_way"] : List Str)) (src:=[none,some 0,some 2]) rfl (by show cX _ (defScope oD) _ _ (["_law_spring_here","_law_words","_law_way","_law_some"] : List Str) = true;decide +kernel) (by intro g' h;cases h) (cf K rfl (pv 1)) (fun _ _ _ _ _ _=>(au (i:=0) (show (["_law_word","_law_spring_here","_law_way"] : List Str).Nodup by decide +kernel) rfl (Or.inl rfl))) (fun _ _ _ _ _ _=>(gH (PW.pt (qR (aH (bh hr.Nw) (pv 2) af (aL _)) (n6 (aH zf (aj G_l_flow (hr.mono (by omega)) (by rfl) T.dE T.dH T.dG .nil ax (aa (pv 1) (aa (be (ba d8 (ba cR d7)) af (pv 2)) ae))) af (aL _))))))) (fun _ _ _ _ _ _=>(bM rfl rfl (pv 0))))
   (ah (bT (aH (bh hr.Nw) (pv 3) (cW ae) (aL _)) (am (aJ (i:=3) mF.nd rfl (Or.inl rfl) (Et (JV K rfl) (pv 1) (HL (uY p7 af)) Ie))) bb)
   (am (aB (bn (aY K rfl) (by rfl) T.dy (by kernel_rfl) (aa (pv 3) ae))))))),(av (aN (aq (ab ac (ab ak ag))) ao)
   (av (aN (cL (dF ac) ao (xD (aP (ap bq ac ak)) (aP (ap sU (aq (ab ac (ab (ap gT ak ac) ag))) ak))) (cM ac)) ao)
   (av (dX (aP (ap bq ac (pw ag))) (aN (M7 ac (JY (Kw u_i ak)) J4) ao) bE)
   (aO (du dS (ab ac ag)))))),fun xs ω Q h=>?_⟩)
 obtain⟨p,ws,rfl,hp,hl,hw,k⟩:=h;walk_at "s1";refine⟨p,3,rfl,hp,by decide,by decide,fun v c v0 v1=>?_⟩
 walk_at "s1";refine sM (fun ω'=>∃c,ω'=ω.put p (pdO c)) ⟨c,rfl⟩ (fun d hd ω' hS Q' q=>?_) (fun d hd ω' hS Q' q=>?_) (Nat.le_of_lt (bu (by simp;omega))) (fun es ρ ω' hs hS=>⟨es,a8 _,?_⟩)
 ·obtain⟨c',rfl⟩:=hS
  walk_at "a1";refine ur (fun h1=>q _ _ ⟨c',rfl⟩) (fun h1=>?_);refine⟨p,2+v,rfl,c0,by omega,by omega,fun v2 c2 v20 v21=>⟨_,rfl,?_⟩⟩
  rw[Om.Nv];exact q _ _ ⟨c2,rfl⟩
 ·walk_at "a1"
  exact q
 obtain⟨c',rfl⟩:=hS;obtain⟨vs,hvs,rfl⟩:=List.sublist_map_iff.mp hs;have hvl:=hvs.length_le
 have ed:dep (D.lst (vs.map wdD))<=100:=by
  simp only[dep];have:=fv vs;omega
 walk_at "s1";refine⟨ed,?_⟩
 cases vs with
 |nil=>
  rw[if_pos (show eqD (D.lst (List.map wdD [])) (D.lst [])=true from rfl),EZ,rW hp]
  refine k _ c' (FR _ _ _) fun e=>?_;have hw0:=List.length_pos_iff.mpr hw;have:=congrArg List.length e;simp only[l0,HT.sIx,List.length_take,List.length_drop,List.length_nil,if_pos (show (-1:Int)<0 from by decide)] at this
  omega
 |cons y ys=>
  rw[if_neg (by simp[eqD,gN]),rW hp]
  exact k (y::ys) c' hvs (by simp)
noncomputable def lfB:Tr->Bool
 |.lf _=>true
 |.nd _ _ _=>false
theorem B1{u:Tr}{lw:Str}(ho:u.ok lw):∃(ds:List D)(z:Str),u.d=.tup ds/\atI (ds.map AV.d) 0=some (.d (.str z))/\(z=lw↔lfB u=true):=by
 cases u with
 |lf x=>
  refine⟨x,lw,rfl,lj 0 rfl (by rw[List.getElem?_map,ho.1];rfl),by simp[lfB]⟩
 |nd x l r=>
  obtain⟨⟨w0,hw0,hw0n⟩,_⟩:=ho;refine⟨x++[l.d,r.d],w0,rfl,lj 0 rfl ?_,by simp[lfB,hw0n]⟩
  rw[List.getElem?_map,List.getElem?_append_left (List.getElem?_eq_some_iff.mp hw0).1,hw0];rfl
theorem K3{α:Type}{xs:List α}{a b:α}:atI (xs++[a,b]) (-1)=some b/\atI (xs++[a,b]) (-2)=some a:=by
 constructor
 ·have e:xs++[a,b]=(xs++[a])++[b]:=by simp
  rw[e];exact Du
 ·unfold atI ixN
  rw[if_neg (by decide),if_pos (by simp;omega)]
  show (xs++[a,b])[((-2:Int)+((xs++[a,b]).length:Nat)).toNat]?=some a;have:((-2:Int)+((xs++[a,b]).length:Nat)).toNat=xs.length:=by simp;omega
  rw[this];simp
noncomputable def trs:List Tr->Nat
 | []=>0
 |e::r=>e.size+trs r
theorem ja:∀a b:List Tr,trs (a++b)=trs a+trs b
 | [],b=>by simp[trs]
 |e::a,b=>by simp only[List.cons_append,trs,ja a b];omega
theorem Ce:∀a:List Tr,a.length<=trs a
 | []=>by simp[trs]
 |e::a=>by
  have:=Ce a;have:=Tr.yt e;simp only[trs,List.length_cons];omega
theorem mh{n:Nat}(h:n<=200000):n<sizeLine:=Nat.lt_of_le_of_lt h (by decide)
theorem Mq{a b:Prop}(h:a):if true=true then a else b:=by rw[if_pos rfl];exact h
theorem ME{a b:Prop}(h:b):if false=true then a else b:=by rw[if_neg (by decide)];exact h
theorem Mi{i:Nat}{ρ:SA}{ω:Om}{Q:Bool->Om->Prop}{l:Addr}{xs:List AV}(h1:ρ[i]?=some (some (.r (.ref l))))(h2:ω l=some (.own xs))(q:Q (!xs.isEmpty) ω):KO (ia i) ρ ω Q:=
 ⟨_,h1,_,by rw[A4,A0,h2];rfl,q⟩
theorem xC{i j:Nat}{R:AS}{D:cy}{ρ:SA}{ω:Om}{l:Addr}{xs:List AV}{y:AV}(h1:ρ[i]?=some (some (.r (.ref l))))(h2:ω l=some (.own (xs++[y])))(q:R D (ρ.set j (some y)) (ω.put l (.own xs))):yG (JM (Hx (ia i)) (gq j)) R D ρ ω:=
 ⟨_,h1,l,xs++[y],y,rfl,h2,by simp,by rw[kJ];exact q⟩
theorem JN{i j:Nat}{D:cy}{ρ:SA}{ω:Om}{l:Addr}{xs:List AV}{y:AV}(h1:ρ[i]?=some (some (.r (.ref l))))(h2:ω l=some (.own xs))(h3:xs.length<sizeLine)(h4:ρ[j]?=some (some y))(q:D.nx ρ (ω.put l (.own (xs++[y])))):u7 (m9 (ia i) (ln (ia j) wF)) D ρ ω:=
 ⟨_,h1,l,rfl,⟨_,h2⟩,_,h4,xs,y,rfl,h2,h3,q⟩
theorem DV{i j:Nat}{m:Int}{D:cy}{ρ:SA}{ω:Om}{l:Addr}{xs ys:List AV}{x y:AV}(h1:ρ[i]?=some (some (.r (.ref l))))(h2:ω l=some (.own xs))(h3:xs.length<sizeLine)(h4:ρ[j]?=some (some x))(h5:j9 x=some ys)(h6:atI ys (-m)=some y)(q:D.nx ρ (ω.put l (.own (xs++[y])))):u7 (m9 (ia i) (ln (aOp aIx (ia j) (aUn (aU fun i=>L2.D.int (-i)) (aC (L2.D.int m)))) wF)) D ρ ω:=
 ⟨_,h1,l,rfl,⟨_,h2⟩,_,h4,m,rfl,ys,-m,y,.inr h5,rfl,h6,xs,y,rfl,h2,h3,q⟩
theorem Kk{i j:Nat}{T U:AS}{D:cy}{ρ:SA}{ω:Om}{x:AV}{ys:List AV}{z lw:Str}(h1:ρ[j]?=some (some x))(h2:j9 x=some ys)(h3:atI ys 0=some (.d (.str z)))(h4:ρ[i]?=some (some (.d (.str lw))))(q:if z=lw then U D ρ ω else T D ρ ω):Hm (vk (aOp (DT true) (aOp aIx (ia j) (aC (L2.D.int 0))) (ia i))) T U D ρ ω:=
 ⟨_,h1,ys,0,_,.inr h2,rfl,h3,_,h4,_,_,rfl,rfl,by rw[rQ];omega,_,rfl,by
  rw[rJ];by_cases h:z=lw
  ·rw[if_pos h] at q;rw[if_neg (by simp[h])];exact q
  ·rw[if_neg h] at q;rw[if_pos (by simp[h])];exact q⟩
noncomputable def Ad:ASp:=fun xs ω Q=>∃(u:Tr)(lw:Str),xs=[.d u.d,.d (.str lw)]/\u.ok lw/\u.size<=100000/\Q (.d (.lst (u.post.map Tr.d))) ω
theorem nU(T:Txt K mg t):aA P w K mg base CX0 1 t.iM t.sF ["tree","leaf"] (bo Ad):=by
 refine T.Ee.okD mW (fun xs ω Q h=>by obtain⟨u,lw,rfl,_⟩:=h;rfl) (fun cdv A outer s H E hr=>⟨_,_,(ah (aJ (i:=2) mW.nd rfl (Or.inl rfl) (cW (aa (pv 0) ae)))
   (ah (aJ (i:=3) mW.nd rfl (Or.inl rfl) (cW ae))
   (ah (lF PassesOwn.never (bO K rfl (pv 2) (fun _=>rfl)) (ah (aJ (i:=4) mW.nd rfl (Or.inl rfl) (jL PySem.F.plainAttrs_list PySem.F.slot_list_pop PySem.F.type_list_pop jI (pv 2)))
   (ah (b0 (ff PySem.F.plainAttrs_list PySem.F.slot_list_append PySem.F.type_list_append bf (pv 3) (aa (pv 4) ae)))
   (am (bT (aH (i9 hr.Nw) (ar (ai K rfl) (pv 4) af (fun _ _=>rfl)) (pv 1) (aL _)) (ah (b0 (ff PySem.F.plainAttrs_list PySem.F.slot_list_append PySem.F.type_list_append bf (pv 2) (aa (ar (ai K rfl) (pv 4) (uY p7 af) (fun _ _=>rfl)) ae)))
   (am (b0 (ff PySem.F.plainAttrs_list PySem.F.slot_list_append PySem.F.type_list_append bf (pv 2) (aa (ar (ai K rfl) (pv 4) (uY p7 af) (fun _ _=>rfl)) ae))))) bb)))))
   (am (aB (zv K rfl (pv 3) (uY p7 af))))))),(av (aN (jc (ab ac ag)) ao)
   (av (aN (jc ag) ao)
   (av (oH (iW ac) (av (aN (ny ac) ao)
   (av (c9 (bH ac (ab ac ag)))
   (dX (aP (ap bq (ap aG ac ak) ac)) (av (c9 (bH ac (ab (ap aG ac (Kw u_i ak)) ag)))
   (c9 (bH ac (ab (ap aG ac (Kw u_i ak)) ag)))) bE))))
   (aO (Jf ac))))),fun xs ω Q h=>?_⟩)
 obtain⟨u,lw,rfl,hok,hsz,k⟩:=h;walk_at "s1";intro l1 hl1;walk_at "s1";intro l2 hl2;obtain⟨n21,hl2⟩:=pj hl2;have n12:=Ne.symm n21;rw[pA];obtain⟨Pv,iP⟩:=EM fun j ρ ω'=>∃(W es:List Tr)(v4:Option AV),ρ=[some (.d u.d),some (.d (.str lw)),some (.r (.ref l1)),some (.r (.ref l2)),v4]/\ω'=om2 ω l1 l2 (.own ((W.map Tr.d).map AV.d)) (.own ((es.map Tr.d).map AV.d))/\(∀e∈W,e.ok lw)/\es++(W.reverse.flatMap Tr.pre)=u.pre/\es.length+trs W<=u.size/\j=trs W
 refine⟨Pv,⟨_,(iP _ _ _).mpr ⟨[u],[],_,rfl,rfl,by simpa using hok,by simp,by simp[trs],rfl⟩⟩,fun j ρ ω' h=>?_⟩
 obtain⟨W,es,v4,rfl,rfl,hW,hE,hS,rfl⟩:=(iP _ _ _).mp h;clear h;have eo:∀A B,(om2 ω l1 l2 A B).only ω=ω:=fun A B=>jF (((Ex.refl ω).over hl1).over hl2);refine Mi rfl (nG n12) ?_;rcases List.eq_nil_or_concat W with rfl|⟨W',e,rfl⟩
 ·simp only[List.reverse_nil,List.flatMap_nil,List.append_nil] at hE
  subst hE;refine ME ⟨_,rfl,_,FC df,_,rfl,?_⟩;rw[eo,←List.map_reverse,Tr.xx]
  exact k
 ·rw[List.concat_eq_append] at hW hE hS ⊢
  have hWl:=Ce W';rw[ja] at hS;simp only[trs,Nat.add_zero] at hS;have hoe:=hW e (List.mem_append_right _ (List.mem_singleton.mpr rfl));have hW':∀e∈W',e.ok lw:=fun e he=>hW e (List.mem_append_left _ he);simp only[List.reverse_append,List.reverse_cons,List.reverse_nil,List.nil_append,List.flatMap_append,List.flatMap_cons,List.flatMap_nil,List.append_nil,List.cons_append] at hE;simp only[List.map_append,List.map_cons,List.map_nil]
  obtain⟨ds,z,ed,ez,hz⟩:=B1 hoe;have se:=Tr.yt e;have hs1:es.length<sizeLine:=mh (by omega)
  have elt:∀W2:List Tr,trs W2<e.size->trs (W'++W2)<trs (W'++[e]):=fun W2 h=>by rw[ja,ja];simp only[trs];omega
  have pq:∀(W2:List Tr) v4,trs W2<e.size->(∀x∈W2,x.ok lw)->W2.reverse.flatMap Tr.pre=e.pre.tail->e.pre=e::e.pre.tail->∃m',m'<trs (W'++[e])/\Pv m' [some (.d u.d),some (.d (.str lw)),some (.r (.ref l1)),some (.r (.ref l2)),v4] (om2 ω l1 l2 (.own (((W'++W2).map Tr.d).map AV.d)) (.own ((es.map Tr.d).map AV.d++[.d e.d]))):=fun W2 v4 h1 h2 h3 h4=>
   ⟨_,elt W2 h1,(iP _ _ _).mpr ⟨W'++W2,es++[e],_,rfl,by simp,fun x hx=>(List.mem_append.mp hx).elim (hW' x) (h2 x),by rw[←hE,h4];simp[h3],by rw[ja];simp;omega,rfl⟩⟩
  rw[AU];refine Mq ⟨fun ρ' ω'=>∃m',m'<trs (W'++[e])/\Pv m' ρ' ω',fun ρ' ω' h=>h,xC rfl (nG n12) ?_⟩;rw[mE n12,pA];refine JN rfl df (by simpa using hs1) rfl (Kk rfl (by rw[ed];rfl) ez rfl ?_)
  rw[dq]
  cases e with
  |lf x=>
   rw[if_pos (hz.mpr rfl),sP];have p0:=pq [] (some (.d (Tr.lf x).d)) (by simp[trs,Tr.size]) (by simp) rfl rfl
   simpa using p0
  |nd x a b=>
   obtain⟨_,_,oa,ob⟩:=hoe;have hz':¬ z=lw:=fun h=>by have:=hz.mp h;simp[lfB] at this
   have p0:=pq [a,b] (some (.d (Tr.nd x a b).d)) (by simp only[trs,Tr.size];omega) (by simp[oa,ob]) (by simp[Tr.pre]) rfl
   obtain⟨q1,q2⟩:=K3 (xs:=x.map AV.d) (a:=AV.d a.d) (b:=AV.d b.d);have eds:ds=x++[a.d,b.d]:=by cases ed;rfl
   have l2':W'.length+1<sizeLine:=mh (by omega)
   have tup:j9 (.d (Tr.nd x a b).d)=some (x.map AV.d++[AV.d a.d,AV.d b.d]):=by rw[ed,eds,zJ];simp
   rw[if_neg hz',pA];refine DV rfl (nG n12) (mh (by simp;omega)) rfl tup q2 ?_
   rw[mE n12];refine DV rfl (nG n12) (by simpa using l2') rfl tup q1 ?_
   rw[mE n12];simpa using p0
theorem HP{i j:Nat}{T U:AS}{D:cy}{ρ:SA}{ω:Om}{x:AV}{ys:List AV}{z lw:Str}(h1:ρ[j]?=some (some x))(h2:j9 x=some ys)(h3:atI ys 0=some (.d (.str z)))(h4:ρ[i]?=some (some (.d (.str lw))))(q:if z=lw then T D ρ ω else U D ρ ω):Hm (vk (aOp (DT false) (aOp aIx (ia j) (aC (L2.D.int 0))) (ia i))) T U D ρ ω:=
 ⟨_,h1,ys,0,_,.inr h2,rfl,h3,_,h4,_,_,rfl,rfl,by rw[rQ];omega,_,rfl,by
  rw[rJ];by_cases h:z=lw
  ·rw[if_pos h] at q;rw[if_pos (by simp[h])];exact q
  ·rw[if_neg h] at q;rw[if_neg (by simp[h])];exact q⟩
theorem JH{i j m:Nat}{f:Addr}{caps:List V}{cA:List AV}{sp:ASp}{D:cy}{ρ:SA}{ω:Om}{l:Addr}{xs:List AV}{x y:AV}(h1:ρ[i]?=some (some (.r (.ref l))))(h2:ω l=some (.own xs))(h3:xs.length<sizeLine)(h4:ρ[m]?=some (some (zC f caps cA)))(h5:ρ[j]?=some (some x))(h6:∀Q1:AV->Om->Prop,Q1 y ω->sp [x] ω Q1)(q:D.nx ρ (ω.put l (.own (xs++[y])))):u7 (m9 (ia i) (ln (Au m f caps cA sp (ln (ia j) wF)) wF)) D ρ ω:=
 ⟨_,h1,l,rfl,⟨_,h2⟩,h4,_,h5,h6 _ ⟨xs,y,rfl,h2,h3,q⟩⟩
theorem Hv{i j j1 j2 m:Nat}{f:Addr}{caps:List V}{cA:List AV}{sp:ASp}{D:cy}{ρ:SA}{ω:Om}{l:Addr}{xs:List AV}{x x1 x2 y:AV}(h1:ρ[i]?=some (some (.r (.ref l))))(h2:ω l=some (.own xs))(h3:xs.length<sizeLine)(h4:ρ[m]?=some (some (zC f caps cA)))(h5:ρ[j]?=some (some x))(h51:ρ[j1]?=some (some x1))(h52:ρ[j2]?=some (some x2))(h6:∀Q1:AV->Om->Prop,Q1 y ω->sp [x,x1,x2] ω Q1)(q:D.nx ρ (ω.put l (.own (xs++[y])))):u7 (m9 (ia i) (ln (Au m f caps cA sp (ln (ia j) (ln (ia j1) (ln (ia j2) wF)))) wF)) D ρ ω:=
 ⟨_,h1,l,rfl,⟨_,h2⟩,h4,_,h5,_,h51,_,h52,h6 _ ⟨xs,y,rfl,h2,h3,q⟩⟩
theorem jp(kc:Nat)(T:Txt K mg t):aA P w K mg base CX0 (kc+3) t.cD t.dZ ["tree","leaf","of_leaf","of_fork"] (fP kc P w K mg base):=by
 have G_upward:aA P w K mg base _ _ _ _ _ _:=nU T;refine T.Fg.ok ko (fun vs H Q E h=>?_) (fun cdv A outer s H vs Q E hr h=>?_)
 ·obtain⟨F,ω,Q',v,lw,u,f1,f2,c1,c2,a1,a2,s1,s2,g,rfl,_⟩:=h;rfl
 obtain⟨F,ω,Q',v,lw,u,f1,f2,c1,c2,a1,a2,s1,s2,g,rfl,rp,hv,hok,hsz,C_of_leaf,C_of_fork,r1,r2,k1,k2,q,kq⟩:=h
 have rvs:RVs (cut F H ω) [.d u.d,.d (.str lw),zC f1 c1 a1,zC f2 c2 a2] [v,.str lw,.ref f1,.ref f2]:=
  ⟨_,_,rfl,hv,_,_,rfl,by simp[RV,Dat],_,_,rfl,⟨rfl,fun G' s=>r1.same s⟩,_,_,rfl,⟨rfl,fun G' s=>r2.same s⟩,rfl⟩
 refine⟨_,(ah (aJ (i:=4) ko.nd rfl (Or.inl rfl) (cW ae))
   (ah (g6 PassesOwn.never rfl (cf K rfl (aj G_upward (hr.mono (by omega)) (by rfl) T.ub T.tQ T.sq .nil ax (aa (pv 0) (aa (pv 1) ae)))) (au (i:=5) ko.nd rfl (Or.inl rfl)) (am (bT (aH (bh hr.Nw) (ar (ai K rfl) (pv 5) af (fun _ _=>rfl)) (pv 1) (aL _)) (am (b0 (ff PySem.F.plainAttrs_list PySem.F.slot_list_append PySem.F.type_list_append bf (pv 4) (aa (xN (k:=kc) (n:=1) (i:=2) (hr.mono (by omega)) rfl (Or.inl rfl) (aa (pv 5) ae)) ae)))) (ah (aJ (i:=6) ko.nd rfl (Or.inl rfl) (jL PySem.F.plainAttrs_list PySem.F.slot_list_pop PySem.F.type_list_pop jI (pv 4)))
   (ah (aJ (i:=7) ko.nd rfl (Or.inl rfl) (jL PySem.F.plainAttrs_list PySem.F.slot_list_pop PySem.F.type_list_pop jI (pv 4)))
   (am (b0 (ff PySem.F.plainAttrs_list PySem.F.slot_list_append PySem.F.type_list_append bf (pv 4) (aa (xN (k:=kc) (n:=3) (i:=3) (hr.mono (by omega)) rfl (Or.inl rfl) (aa (pv 5) (aa (pv 7) (aa (pv 6) ae)))) ae)))))))))
   (am (aB (ar (ai K rfl) (pv 4) af (fun _ _=>rfl)))))),jT.run ((av (aN (jc ag) ao)
   (av (lp (dF (aq (ab ac (ab ac ag)))) ao (dX (aP (ap bq (ap aG ac ak) ac)) (c9 (bH ac (ab (Bo C_of_leaf (ab ac ag)) ag))) (av (aN (ny ac) ao)
   (av (aN (ny ac) ao)
   (c9 (bH ac (ab (Bo C_of_fork (ab ac (ab ac (ab ac ag)))) ag)))))))
   (aO (ap aG ac ak))))) F H ω _ _ _ { nx:=fun _ ω'=>Q' (.d .non) (ω'.only ω),rt:=fun a ω'=>∃d,a=.d d/\Q' (.d d) (ω'.only ω) } rp (RS.start rvs) ?_ ⟨?_,?_,fun _ _ _ _ _ _ _ z=>z.elim,fun _ _ _ _ _ _ _ z=>z.elim⟩⟩
 ·walk_at "s1"
  intro l hl;walk_at "s1";refine⟨u,lw,rfl,hok,hsz,?_⟩;walk_at "a1";refine pd (fun i ρ ω'=>∃(st:List Tr)(v5 v6 v7:Option AV),ρ=[some (.d u.d),some (.d (.str lw)),some (zC f1 c1 a1),some (zC f2 c2 a2),some (.r (.ref l)),v5,v6,v7]/\ω'=ω.put l (.own ((st.map g).map AV.d))/\Tr.chk u (u.post.drop i) st/\st.length<=i) ⟨[],_,_,_,rfl,rfl,by simpa using Tr.HV u,Nat.le_refl _⟩ ?_ ?_
  ·rintro i d ρ ω' N hd ⟨st,v5,v6,v7,rfl,rfl,hc,hsl⟩ kN
   obtain⟨e,he,rfl⟩:=L2.dA hd
   have hil:i<100000:=by
    have:=(List.getElem?_eq_some_iff.mp he).1;rw[Tr.o8] at this;omega
   obtain⟨hil2,ev⟩:=List.getElem?_eq_some_iff.mp he;rw[List.drop_eq_getElem_cons hil2,ev] at hc;have hme:=List.mem_of_getElem? he;obtain⟨ds,z,ed,ez,hz⟩:=B1 (hok.post e hme);have hs1:st.length<sizeLine:=mh (by omega)
   refine HP rfl (by rw[ed];rfl) ez rfl ?_
   cases e with
   |lf x=>
    rw[if_pos (hz.mpr rfl)];simp only[Tr.chk] at hc;exact JH rfl Om.Nr (by simpa using hs1) rfl rfl (k1 x hme _) (kN _ _ ⟨st++[.lf x],_,_,_,rfl,by rw[Om.Nv];simp,hc,by simp;omega⟩)
   |nd x a b=>
    have hz':¬ z=lw:=fun h=>by have:=hz.mp h;simp[lfB] at this
    simp only[Tr.chk] at hc;obtain⟨st',rfl,hc⟩:=hc;rw[if_neg hz'];have e3:List.map AV.d (List.map g (st'++[a,b]))=(List.map AV.d (List.map g st')++[AV.d (g a)])++[AV.d (g b)]:=by simp
    rw[e3];rw[List.length_append] at hsl hs1;refine xC rfl Om.Nr ?_;rw[Om.Nv];refine xC rfl Om.Nr ?_;rw[Om.Nv];refine Hv rfl Om.Nr (mh (by simp;omega)) rfl rfl rfl rfl (k2 x a b hme _) ?_
    rw[Om.Nv];exact kN _ _ ⟨st'++[.nd x a b],_,_,_,rfl,by simp,hc,by simp at hsl ⊢;omega⟩
  ·rintro ρ ω' ⟨st,v5,v6,v7,rfl,rfl,hc,hsl⟩
   rw[List.length_map,List.drop_length] at hc;simp only[Tr.chk] at hc;subst hc;walk_at "a1";rw[jF ((Ex.refl ω).new hl)];exact q
 ·exact fun ρ' ω' σ' H' e1 e2 e3 q=>kq (.d .non) (ω'.only ω) .non H' e1.only.1 e2.only (by simp[RV,Dat]) q
 ·rintro a ω' v H' e1 e2 e3 ⟨d,rfl,q⟩
  exact kq (.d d) (ω'.only ω) v H' e1.only.1 e2.only (e3.same e1.only.2) q
noncomputable def bL:Sy->Tr
 |.is i b=>.lf [.str "is",.int i,.int b]
 |.jn a l r=>.nd [.str (if a then "and" else "or")] (bL l) (bL r)
theorem lb:∀x:Sy,(bL x).d=x.d
 |.is i b=>rfl
 |.jn a l r=>by simp[bL,Tr.d,Sy.d,lb l,lb r]
theorem jt:∀x:Sy,(bL x).ok "is"
 |.is i b=>⟨rfl,by simp[Nx,noL]⟩
 |.jn a l r=>⟨⟨_,rfl,by cases a<;>decide +kernel⟩,by simp[Nx,noL],jt l,jt r⟩
theorem pQ:∀x:Sy,(bL x).size+1<=2^(x.dp+1)
 |.is i b=>by simp[bL,Tr.size,Sy.dp]
 |.jn a l r=>by
  have h1:=pQ l;have h2:=pQ r;simp only[bL,Tr.size,Sy.dp];have m1:2^(l.dp+1)<=2^(max l.dp r.dp+1):=Nat.pow_le_pow_right (by decide) (by omega)
  have m2:2^(r.dp+1)<=2^(max l.dp r.dp+1):=Nat.pow_le_pow_right (by decide) (by omega)
  have e:2^(1+max l.dp r.dp+1)=2^(max l.dp r.dp+1)+2^(max l.dp r.dp+1):=by rw[Nat.add_comm 1,Nat.pow_succ _ (max l.dp r.dp+1)];omega
  omega
theorem gn{x:Sy}(h:x.dp<=15):(bL x).size<=100000:=by
 have h1:=pQ x;have h2:2^(x.dp+1)<=2^16:=Nat.pow_le_pow_right (by decide) (by omega)
 have h3:2^16=65536:=by decide
 omega
noncomputable def fT:Tr->Sy
 |.lf [_,.int i,.int b]=>.is i b
 |.lf _=>.is 0 0
 |.nd x l r=>.jn (match x with | [.str z]=>z == "and"|_=>false) (fT l) (fT r)
theorem eM:∀x:Sy,fT (bL x)=x
 |.is i b=>rfl
 |.jn a l r=>by
  simp only[bL,fT,eM l,eM r];cases a<;>simp<;>decide +kernel
theorem rF{n:Nat}:∀ {x:Sy} {e:Tr},x.ok n->e∈(bL x).post->∃y:Sy,e=bL y/\y.ok n
 |.is i b,e,h,he=>by simp[bL,Tr.post] at he;exact⟨.is i b,he,h⟩
 |.jn a l r,e,h,he=>by
  simp only[bL,Tr.post,List.mem_append,List.mem_singleton] at he;rcases he with(he|he)|he
  ·exact rF h.1 he
  ·exact rF h.2 he
  ·exact⟨.jn a l r,he,h⟩
theorem xT{n:Nat}{x:Sy}{q:List D}(h:x.ok n)(he:Tr.lf q∈(bL x).post):∃i b,q=[.str "is",.int i,.int b]/\(Sy.is i b).ok n:=by
 obtain⟨y,e,hy⟩:=rF h he
 cases y with
 |is i b=>simp only[bL,Tr.lf.injEq] at e;exact⟨i,b,e,hy⟩
 |jn a l r=>cases e
theorem yb{n:Nat}{x:Sy}{q:List D}{l r:Tr}(h:x.ok n)(he:Tr.nd q l r∈(bL x).post):∃(a:Bool)(l' r':Sy),q=[.str (if a then "and" else "or")]/\l=bL l'/\r=bL r':=by
 obtain⟨y,e,hy⟩:=rF h he
 cases y with
 |is i b=>cases e
 |jn a l' r'=>simp only[bL,Tr.nd.injEq] at e;exact⟨a,l',r',e⟩
noncomputable def cu:Ta->Tr
 |.en i=>.lf [.str "end",.int i]
 |.nd h ws a b=>.nd [.str (if h then "yes" else "no"),.tup (ws.map wdD)] (cu a) (cu b)
theorem nM:∀u:Ta,(cu u).d=u.d
 |.en i=>rfl
 |.nd h ws a b=>by simp[cu,Tr.d,Ta.d,nM a,nM b]
theorem m5:∀u:Ta,(cu u).ok "end"
 |.en i=>⟨rfl,by simp[Nx,noL]⟩
 |.nd h ws a b=>⟨⟨_,rfl,by cases h<;>decide +kernel⟩,by simp[Nx,noL,sT],m5 a,m5 b⟩
theorem pY:∀u:Ta,(cu u).size=u.size/\(cu u).dp=u.dp/\(cu u).lvs=u.lvs
 |.en i=>⟨rfl,rfl,rfl⟩
 |.nd h ws a b=>by
  obtain⟨a1,a2,a3⟩:=pY a;obtain⟨b1,b2,b3⟩:=pY b;simp only[cu,Tr.size,Tr.dp,Tr.lvs,Ta.size,Ta.dp,Ta.lvs,a1,a2,a3,b1,b2,b3,and_self]
structure jQ(n:Nat)(x:Sy)(ys zs:List (List Int)):Prop where
 y:Wds n ys
 z:Wds n zs
 vy:∀v∈ys,x.val v=true
 vz:∀v∈zs,x.val v=false
 y1:ys≠[]
 z1:zs≠[]
noncomputable def aR(ys zs:List (List Int)):Sy->Ta
 |.is i _=>.en i
 |.jn an l r=>if an then .nd false (zs.filter fun v=>l.val v) (aR ys zs l) (aR ys zs r) else .nd true (ys.filter fun v=>!l.val v) (aR ys zs l) (aR ys zs r)
theorem qE{n:Nat}{ys zs:List (List Int)}(hy:Wds n ys)(hz:Wds n zs):∀ {x:Sy},x.ok n->(aR ys zs x).ok n/\(aR ys zs x).dp=x.dp/\(aR ys zs x).size+1=2*x.lvs
 |.is i b,h=>⟨⟨h.1,h.2.1⟩,rfl,rfl⟩
 |.jn an l r,h=>by
  obtain⟨a1,a2,a3⟩:=qE hy hz h.1;obtain⟨b1,b2,b3⟩:=qE hy hz h.2;cases an<;>simp only[aR,if_true,if_false,Bool.false_eq_true,Ta.ok,Ta.dp,Ta.size,Sy.dp,Sy.lvs,a2,b2,and_true,true_and]
  ·exact⟨⟨⟨List.filter_sublist.nodup hy.1,fun w hw=>hy.2 w (List.mem_filter.mp hw).1⟩,a1,b1⟩,by omega⟩
  ·exact⟨⟨⟨List.filter_sublist.nodup hz.1,fun w hw=>hz.2 w (List.mem_filter.mp hw).1⟩,a1,b1⟩,by omega⟩
theorem gm{n:Nat}{ys zs:List (List Int)}{y z:List Int}(hy:y∈ys)(hz:z∈zs)(hz1:z∈wl n):∀ {x:Sy},x.ok n->x.val y=true->x.val z=false ->
  (y.getD (Ta.fin y z (aR ys zs x)).toNat 0≠z.getD (Ta.fin y z (aR ys zs x)).toNat 0)/\(x.up->y.getD (Ta.fin y z (aR ys zs x)).toNat 0=1/\z.getD (Ta.fin y z (aR ys zs x)).toNat 0=0)
 |.is i b,h,v1,v2=>by
  simp only[Sy.val,decide_eq_true_eq,decide_eq_false_iff_not] at v1 v2;simp only[aR,Ta.fin];refine⟨fun e=>v2 (e.symm.trans v1),fun hu=>?_⟩;simp only[Sy.up] at hu;subst hu;exact⟨v1,(mf hz1 i.toNat).resolve_right v2⟩
 |.jn an l r,h,v1,v2=>by
  cases an with
  |false=>
   simp only[Sy.val,if_false,Bool.false_eq_true,Bool.or_eq_true,Bool.or_eq_false_iff] at v1 v2;simp only[aR,if_false,Bool.false_eq_true,Ta.fin,Ta.bit,if_true,List.mem_filter,hy,true_and]
   cases hl:l.val y with
   |true=>
    obtain⟨e1,e2⟩:=gm hy hz hz1 h.1 hl v2.1;simpa using⟨e1,fun hu=>e2 hu.1⟩
   |false=>
    have hr:r.val y=true:=v1.resolve_left (by rw[hl];simp)
    obtain⟨e1,e2⟩:=gm hy hz hz1 h.2 hr v2.2;simpa using⟨e1,fun hu=>e2 hu.2⟩
  |true=>
   simp only[Sy.val,if_true,Bool.and_eq_true,Bool.and_eq_false_iff] at v1 v2;simp only[aR,if_true,Ta.fin,Ta.bit,if_false,Bool.false_eq_true,List.mem_filter,hz,true_and]
   cases hl:l.val z with
   |false=>
    obtain⟨e1,e2⟩:=gm hy hz hz1 h.1 v1.1 hl;simpa using⟨e1,fun hu=>e2 hu.1⟩
   |true=>
    have hr:r.val z=false:=v2.resolve_left (by rw[hl];simp)
    obtain⟨e1,e2⟩:=gm hy hz hz1 h.2 v1.2 hr;simpa using⟨e1,fun hu=>e2 hu.2⟩
noncomputable def Kl:ASp:=fun xs ω Q=>∃(x:Sy)(wd:List Int),xs=[.d x.d,.d (wdD wd)]/\x.ok wd.length/\x.dp<=15/\Q (.d (.int (b01 (x.val wd)))) ω
noncomputable def xE(cA:List AV):ASp:=fun xs ω Q=>∃(i b:Int)(wd:List Int),cA=[.d (wdD wd)]/\xs=[.d (Sy.is i b).d]/\(Sy.is i b).ok wd.length/\Q (.d (.int (b01 ((Sy.is i b).val wd)))) ω
noncomputable def qN(_:List AV):ASp:=fun xs ω Q=>∃(a:Bool)(l r:D)(x y:Bool),xs=[.d (.tup [.str (if a then "and" else "or"),l,r]),.d (.int (b01 x)),.d (.int (b01 y))]/\Q (.d (.int (b01 (if a then x && y else x || y)))) ω
theorem EL(T:Txt K mg t):aA P w K mg base CX0 6 t.gK t.rN ["saying","word"] (bo Kl):=by
 have G_folded:∀b',aA P w K mg b' CX0 4 t.cD t.dZ ["tree","leaf","of_leaf","of_fork"] (fP 1 P w K mg b'):=fun b'=>jp 1 T;refine T.lU.okD GI (fun xs ω Q h=>by obtain⟨x,wd,rfl,_⟩:=h;rfl) (fun A outer s H E hr=>?_)
 refine⟨_,_,(am (aB (gR G_folded (hr.mono (by omega)) (by rfl) T.gX T.gW T.gU (aa (pv 0) (aE aK (aa (fx (x:="value") rfl rfl T.lU.tab T.lU.hd rfl) (aa (fx (x:="value") rfl rfl T.lU.tab T.lU.hd rfl) ae))))))),(aO (qv (j1:=[1]) (j2:=[]) (s1:=xE) (s2:=qN) ?F0 ?F1 ac aX)),fun xs ω Q h=>?main⟩
 case F0=>
  intro b' H f σ caps cA L cb hc hl;obtain⟨v,rfl⟩:∃v,caps=[v]:=List.length_eq_one_iff.mp hc.1;obtain⟨wc,wu,hwc,hcell,hrel⟩:=cb 1 "word" v rfl (hc.2 0 1 v rfl rfl) rfl rfl;obtain rfl:s.heap.objs.size+1=wc:=Option.some.inj hwc;refine dP (ps:=["leaf"]) (cs:=["word"]) L ⟨rfl,rfl,rfl,by decide +kernel,by decide +kernel,by decide +kernel,by decide +kernel⟩ (lG hcell hrel) (fun pm c ctv us hl=>match us,hl with | [_],_=>rfl) (fun xs ω Q h=>by obtain⟨i,b,m,_,rfl,_⟩:=h;rfl) (fun cd A outer s H hr=>⟨_,_,(iL (aH (bh hr.Nw) (ar (ai K rfl) (pv 1) (ar (ai K rfl) (pv 0) af (fun _ _=>rfl)) (fun _ _=>rfl)) (ar (ai K rfl) (pv 0) af (fun _ _=>rfl)) (aL _)) af af),(Ao (aP (ap bq (ap aG ac (ap aG ac ak)) (ap aG ac ak))) ak ak),fun xs ω Q h=>?_⟩)
  obtain⟨i,b,wd,rfl,rfl,⟨i0,i1,hb⟩,q⟩:=h;simp only[Sy.d];walk_at "ab";obtain⟨y,my,hy,ey⟩:=mS (f:=AV.d ∘ D.int) (xs:=wd) i0 i1;rw[←List.map_map] at ey
  refine⟨_,ey,_,rfl,by simp[dep],?_⟩
  have ev:wd.getD i.toNat 0=y:=by rw[List.getD_eq_getElem?_getD,hy];rfl
  simp only[Sy.val,ev] at q;by_cases h:y=b
  ·simpa[h,b01,gJ] using q
  ·simpa[h,b01,gJ] using q
 case F1=>
  intro b' H f σ caps cA L cb hc hl;obtain rfl:caps=[]:=List.length_eq_zero_iff.mp (hc.1);refine dP (ps:=["part","one","other"]) (cs:=[]) L ⟨rfl,rfl,rfl,by decide +kernel,by decide +kernel,by decide +kernel,by decide +kernel⟩ (Db b') (fun pm c ctv us hl=>match us,hl with | [_,_,_],_=>rfl) (fun xs ω Q h=>by obtain⟨a,l,r,x,y,rfl,_⟩:=h;rfl) (fun cd A outer s H hr=>⟨_,_,(iL (aH (bh hr.Nw) (ar (ai K rfl) (pv 0) af (fun _ _=>rfl)) aK (aL _)) (bD (p8 rfl) (by rfl) T.Fk (by kernel_rfl) (aa (pv 1) (aa (pv 2) ae))) (bD (qc rfl) (by rfl) T.EQ (by kernel_rfl) (aa (pv 1) (aa (pv 2) ae)))),(Ao (aP (ap bq (ap aG ac ak) aX)) (du DF (ab ac (ab ac ag))) (du DF (ab ac (ab ac ag)))),fun xs ω Q h=>?_⟩)
  obtain⟨a,l,r,x,y,rfl,q⟩:=h;cases a
  ·simp only[if_false,Bool.false_eq_true] at q ⊢
   walk_at "ab";rw[show (if b01 y>b01 x then b01 y else b01 x)=b01 (x || y) from by cases x<;>cases y<;>rfl]
   exact q
  ·simp only[if_true] at q ⊢
   walk_at "ab";rw[show (if b01 y<b01 x then b01 y else b01 x)=b01 (x && y) from by cases x<;>cases y<;>rfl]
   exact q
 case main=>
  obtain⟨x,wd,rfl,hx,hd,k⟩:=h;walk_at "ab";refine⟨bL x,(lb x).symm,jt x,gn hd,fun e=>.int (b01 ((fT e).val wd)),_,rfl,[],rfl,fun q he ω1 Q1 h=>?_,fun q l r he ω1 Q1 h=>?_,?_⟩
  ·obtain⟨i,b,rfl,ho⟩:=xT hx he
   exact⟨i,b,wd,rfl,rfl,ho,h⟩
  ·obtain⟨a,l',r',rfl,rfl,rfl⟩:=yb hx he
   have h:Q1 (.d (.int (b01 ((fT (bL (.jn a l' r'))).val wd)))) ω1:=h;rw[eM] at h;show qN [] [_,.d (.int (b01 ((fT (bL l')).val wd))),.d (.int (b01 ((fT (bL r')).val wd)))] ω1 Q1;rw[eM,eM];exact⟨a,(bL l').d,(bL r').d,_,_,rfl,h⟩
  ·rw[ay]
   show Q (.d (.int (b01 ((fT (bL x)).val wd)))) ω;rw[eM];exact k
noncomputable def Di:ASp:=fun xs ω Q=>∃(n:Nat) (ys zs:List (List Int)) (x:Sy),xs=[.d (csD n ys zs),.d x.d]/\jQ n x ys zs/\x.ok n/\x.dp<=15/\Q (.d .non) ω
theorem Dm(T:Txt K mg t):aA P w K mg base CX0 7 t.i8 t.sQ ["case","saying"] (bo Di):=by
 have G_value:aA P w K mg base _ _ _ _ _ _:=EL T
 refine T.FN.okD pX (fun xs ω Q h=>by obtain ⟨n,ys,zs,x,rfl,_⟩:=h;rfl) (fun cdv A outer s H E hr=>⟨_,_,(ah (g6 PassesOwn.never rfl (cf K rfl (ar (ai K rfl) (pv 0) af (fun _ _=>rfl))) (au (i:=2) pX.nd rfl (Or.inl rfl)) (am (bT (aH (bh hr.Nw) (aj G_value (hr.mono (by omega)) (by rfl) T.rV T.rX T.mM .nil ax (aa (pv 1) (aa (pv 2) ae))) af (aL _)) (am (aB (aQ (aE aK (aa (pv 2) ae))))) bb)))
   (ah (g6 PassesOwn.never rfl (cf K rfl (ar (ai K rfl) (pv 0) af (fun _ _=>rfl))) (au (i:=2) pX.nd rfl (Or.inl rfl)) (am (bT (aH (bh hr.Nw) (aj G_value (hr.mono (by omega)) (by rfl) T.rV T.rX T.mM .nil ax (aa (pv 1) (aa (pv 2) ae))) af (aL _)) (am (aB (aQ (aE aK (aa (pv 2) ae))))) bb)))
   (am (aB xl)))),(av (lp (dF (ap aG ac ak)) ao (dX (aP (ap bq (aq (ab ac (ab ac ag))) ak)) (aO (a9 (ab aX (ab ac ag)))) bE))
   (av (lp (dF (ap aG ac ak)) ao (dX (aP (ap bq (aq (ab ac (ab ac ag))) ak)) (aO (a9 (ab aX (ab ac ag)))) bE))
   (aO CB))),fun xs ω Q h=>?_⟩)
 obtain⟨n,ys,zs,x,rfl,hp,hx,hd,k⟩:=h;have okv:∀ws,Wds n ws->∀v∈ws,x.ok v.length:=fun ws h v hv=>by rw[(cK (h.2 v hv)).1];exact hx
 simp only[csD];walk_at "s1";refine pd (fun i ρ ω'=>ω'=ω/\∃v2,ρ=[some (.d (csD n ys zs)),some (.d x.d),v2]) ⟨rfl,_,rfl⟩ ?_ ?_
 ·rintro i d ρ ω' N hd' ⟨rfl,v2,rfl⟩ kN
  obtain⟨v,hv,rfl⟩:=L2.dA hd';have hvm:=List.mem_of_getElem? hv;walk_at "a1";refine⟨x,v,rfl,okv ys hp.y v hvm,hd,?_⟩;rw[hp.vy v hvm];walk_at "a1";rw[if_neg (by decide)]
  exact kN _ _ ⟨rfl,_,rfl⟩
 rintro ρ ω' ⟨rfl,v2,rfl⟩;simp only[csD];walk_at "s1";refine pd (fun i ρ ω2=>ω2=ω'/\∃v2,ρ=[some (.d (csD n ys zs)),some (.d x.d),v2]) ⟨rfl,_,rfl⟩ ?_ ?_
 ·rintro i d ρ ω' N hd' ⟨rfl,v2,rfl⟩ kN
  obtain⟨v,hv,rfl⟩:=L2.dA hd';have hvm:=List.mem_of_getElem? hv;walk_at "a1";refine⟨x,v,rfl,okv zs hp.z v hvm,hd,?_⟩;rw[hp.vz v hvm];walk_at "a1";rw[if_neg (by decide)]
  exact kN _ _ ⟨rfl,_,rfl⟩
 rintro ρ ω' ⟨rfl,v2,rfl⟩;walk_at "a1";rw[ay];exact k
noncomputable def F2:ASp:=fun xs ω Q=>∃(n:Nat) (ys zs:List (List Int)) (x:Sy),xs=[.d (csD n ys zs),.d x.d]/\jQ n x ys zs/\x.ok n/\x.dp<=15/\Q (.d (.bl true)) ω
theorem xS(T:Txt K mg t):aA P w K mg base CX0 8 t.kS t.wT ["case","saying"] (bo F2):=by
 have G_missed:aA P w K mg base _ _ _ _ _ _:=Dm T;refine T.Iq.okD Fn (fun xs ω Q h=>by obtain⟨n,ys,zs,x,rfl,_⟩:=h;rfl) (fun cdv A outer s H E hr=>⟨_,_,(am (aB (cV E3 (aj G_missed (hr.mono (by omega)) (by rfl) T.E2 T.D4 T.FL .nil ax (aa (pv 0) (aa (pv 1) ae))) xl (aL _)))),(aO (ap IQ (aq (ab ac (ab ac ag))) CB)),fun xs ω Q h=>?_⟩)
 obtain⟨n,ys,zs,x,rfl,hp,hx,hd,k⟩:=h;walk_at "a1";refine⟨n,ys,zs,x,rfl,hp,hx,hd,?_⟩;walk_at "a1";rw[ay];exact k
noncomputable def HD:ASp:=fun xs ω Q=>∃(ws:List (List Int)) (f:List Int->Bool) (b:Bool),xs=[.d (.tup (ws.map wdD)),.d (.lst ((ws.map fun v=>b01 (f v)).map D.int)),.d (.int (b01 b))]/\ws.length<=32/\Q (.d (.tup ((ws.filter fun v=>f v == b).map wdD))) ω
theorem sS{f:List Int->Bool}{b:Bool}:∀ {ws:List (List Int)},((ws.zip (ws.map fun v=>b01 (f v))).filter fun q=>decide (q.2=b01 b)).map (fun q=>wdD q.1)=(ws.filter fun v=>f v == b).map wdD
 | []=>rfl
 |v::ws=>by
  rw[List.map_cons,List.zip_cons_cons,List.filter_cons,List.filter_cons];have e:decide (b01 (f v)=b01 b)=(f v == b):=by cases f v<;>cases b<;>rfl
  simp only[e];split
  ·rw[List.map_cons,List.map_cons,sS]
  ·exact sS
theorem HI(T:Txt K mg t):aA P w K mg base CX0 1 t.dn t.kQ ["words","values","bit"] (bo HD):=by
 refine T.xo.okD uA (fun xs ω Q h=>by obtain⟨ws,f,b,rfl,_⟩:=h;rfl) (fun cdv A outer s H E hr=>⟨_,_,(am (aB (bn (aY K rfl) (by rfl) T.dy (by kernel_rfl) (aa (ci (N:=(["word","found","bit"]:List Str)) (src:=[none,none,some 2]) rfl (by show cX _ (defScope hJ) _ _ (["words","values","bit"]:List Str)=true;decide +kernel) (by intro g' h;cases h) (rS K rfl (by rfl) T.Cw (aa (pv 0) (aa (pv 1) ae))) (fun _ _ _ _ _ _=>(cI K rfl (n:=2) rfl (aF (au (i:=0) (show (["word","found","bit"]:List Str).Nodup by decide +kernel) rfl (Or.inl rfl)) (aF (au (i:=1) (show (["word","found","bit"]:List Str).Nodup by decide +kernel) rfl (Or.inl rfl)) cH)))) (fun _ _ _ _ _ _=>(gH (aH (bh hr.Nw) (pv 1) (pv 2) (aL _)))) (fun _ _ _ _ _ _=>(bM rfl rfl (pv 0)))) ae)))),(aO (du dS (ab (cL (Cr (ab ac (ab ac ag))) (fW (aV ao (aV ao fV))) (aP (ap bq ac ac)) (cM ac)) ag))),fun xs ω Q h=>?_⟩)
 obtain⟨ws,f,b,rfl,hl,k⟩:=h;walk_at "a1";refine HB wdD D.int (fun q=>decide (q.2=b01 b)) (fun q=>wdD q.1) (Nat.le_of_lt (bu (by omega))) (fun q hq Q r=>?_) (fun q hq _ Q r=>?_) (fun ρ=>⟨_,a8 _,?_⟩)
 ·walk_at "a1"
  rw[show (q.2 == b01 b)=decide (q.2=b01 b) from rfl]
  exact r
 ·walk_at "a1"
  exact r
 rw[ay,sS (ws:=ws)];exact k
noncomputable def vls(x:Sy)(ws:List (List Int)):D:=.lst ((ws.map fun v=>b01 (x.val v)).map D.int)
noncomputable def D5:ASp:=fun xs ω Q=>∃(ws:List (List Int)) (x y:Sy),xs=[.d (vls x ws),.d (vls y ws)]/\ws.length<=32/\Q (.d (vls (.jn false x y) ws)) ω
theorem DX(T:Txt K mg t):aA P w K mg base CX0 1 t.gp t.pS ["ones","others"] (bo D5):=by
 refine T.DG.okD As (fun xs ω Q h=>by obtain⟨ws,x,y,rfl,_⟩:=h;rfl) (fun cdv A outer s H E hr=>⟨_,_,(am (aB (ci (N:=(["one","other"]:List Str)) (src:=[none,none]) rfl (by show cX _ (defScope m6) _ _ (["ones","others"]:List Str)=true;decide +kernel) (by intro g' h;cases h) (rS K rfl (by rfl) T.Cw (aa (pv 0) (aa (pv 1) ae))) (fun _ _ _ _ _ _=>(cI K rfl (n:=2) rfl (aF (au (i:=0) (show (["one","other"]:List Str).Nodup by decide +kernel) rfl (Or.inl rfl)) (aF (au (i:=1) (show (["one","other"]:List Str).Nodup by decide +kernel) rfl (Or.inl rfl)) cH)))) (fun _ _ _ _ _ _=>dU) (fun _ _ _ _ _ _=>(bM rfl rfl (bD (qc rfl) (by rfl) T.EQ (by kernel_rfl) (aa (pv 0) (aa (pv 1) ae)))))))),(aO (cL (Cr (ab ac (ab ac ag))) (fW (aV ao (aV ao fV))) oR (cM (du DF (ab ac (ab ac ag)))))),fun xs ω Q h=>?_⟩)
 obtain⟨ws,x,y,rfl,hl,k⟩:=h;unfold vls at k ⊢;walk_at "a1";refine yp (rs:=(ws.map fun v=>b01 ((Sy.jn false x y).val v)).map D.int) (by simp) (by simp) (Nat.le_of_lt (bu (by simp;omega))) (fun i d e r h1 h2 h3 Q q=>?_) (fun ρ=>⟨_,a8 _,?_⟩)
 ·simp only[List.map_map,List.getElem?_map,Option.map_eq_some_iff] at h1 h2 h3
  obtain⟨v,hv,rfl⟩:=h1;obtain⟨v',hv',rfl⟩:=h2;obtain⟨v'',hv'',rfl⟩:=h3;rw[hv] at hv' hv'';cases hv';cases hv'';simp only[Function.comp_apply] at q ⊢;walk_at "a1";rw[show (if b01 (y.val v)>b01 (x.val v) then b01 (y.val v) else b01 (x.val v))=b01 ((Sy.jn false x y).val v) from by simp only[Sy.val];cases x.val v<;>cases y.val v<;>rfl]
  exact q
 rw[ay];exact k
noncomputable def Gp:ASp:=fun xs ω Q=>∃(ws:List (List Int)) (x y:Sy),xs=[.d (vls x ws),.d (vls y ws)]/\ws.length<=32/\Q (.d (vls (.jn true x y) ws)) ω
theorem Gf(T:Txt K mg t):aA P w K mg base CX0 1 t.gb t.p9 ["ones","others"] (bo Gp):=by
 refine T.CQ.okD Ap (fun xs ω Q h=>by obtain⟨ws,x,y,rfl,_⟩:=h;rfl) (fun cdv A outer s H E hr=>⟨_,_,(am (aB (ci (N:=(["one","other"]:List Str)) (src:=[none,none]) rfl (by show cX _ (defScope mQ) _ _ (["ones","others"]:List Str)=true;decide +kernel) (by intro g' h;cases h) (rS K rfl (by rfl) T.Cw (aa (pv 0) (aa (pv 1) ae))) (fun _ _ _ _ _ _=>(cI K rfl (n:=2) rfl (aF (au (i:=0) (show (["one","other"]:List Str).Nodup by decide +kernel) rfl (Or.inl rfl)) (aF (au (i:=1) (show (["one","other"]:List Str).Nodup by decide +kernel) rfl (Or.inl rfl)) cH)))) (fun _ _ _ _ _ _=>dU) (fun _ _ _ _ _ _=>(bM rfl rfl (bD (p8 rfl) (by rfl) T.Fk (by kernel_rfl) (aa (pv 0) (aa (pv 1) ae)))))))),(aO (cL (Cr (ab ac (ab ac ag))) (fW (aV ao (aV ao fV))) oR (cM (du DF (ab ac (ab ac ag)))))),fun xs ω Q h=>?_⟩)
 obtain⟨ws,x,y,rfl,hl,k⟩:=h;unfold vls at k ⊢;walk_at "a1";refine yp (rs:=(ws.map fun v=>b01 ((Sy.jn true x y).val v)).map D.int) (by simp) (by simp) (Nat.le_of_lt (bu (by simp;omega))) (fun i d e r h1 h2 h3 Q q=>?_) (fun ρ=>⟨_,a8 _,?_⟩)
 ·simp only[List.map_map,List.getElem?_map,Option.map_eq_some_iff] at h1 h2 h3
  obtain⟨v,hv,rfl⟩:=h1;obtain⟨v',hv',rfl⟩:=h2;obtain⟨v'',hv'',rfl⟩:=h3;rw[hv] at hv' hv'';cases hv';cases hv'';simp only[Function.comp_apply] at q ⊢;walk_at "a1";rw[show (if b01 (y.val v)<b01 (x.val v) then b01 (y.val v) else b01 (x.val v))=b01 ((Sy.jn true x y).val v) from by simp only[Sy.val];cases x.val v<;>cases y.val v<;>rfl]
  exact q
 rw[ay];exact k
noncomputable def led(ys zs:List (List Int))(x:Sy):D:=.tup [(aR ys zs x).d,vls x ys,vls x zs]
noncomputable def Be:ASp:=fun xs ω Q=>∃(n:Nat) (ys zs:List (List Int)) (i b:Int),xs=[.d (csD n ys zs),.d (Sy.is i b).d]/\n<=5/\Wds n ys/\Wds n zs/\(Sy.is i b).ok n/\Q (.d (led ys zs (.is i b))) ω
theorem HQ(T:Txt K mg t):aA P w K mg base CX0 7 t.ei t.kG ["case","leaf"] (bo Be):=by
 have G_value:aA P w K mg base _ _ _ _ _ _:=EL T;refine T.zW.okD y9 (fun xs ω Q h=>by obtain⟨n,ys,zs,i,b,rfl,_⟩:=h;rfl) (fun cdv A outer s H E hr=>⟨_,_,(am (aB (aQ (bG (aQ (aE aK (aa (ar (ai K rfl) (pv 1) af (fun _ _=>rfl)) ae))) (aa (ci (N:=(["word","leaf"]:List Str)) (src:=[none,some 1]) rfl (by show cX _ (defScope iR) _ _ (["case","leaf"]:List Str)=true;decide +kernel) (by intro g' h;cases h) (cf K rfl (ar (ai K rfl) (pv 0) af (fun _ _=>rfl))) (fun _ _ _ _ _ _=>(au (i:=0) (show (["word","leaf"]:List Str).Nodup by decide +kernel) rfl (Or.inl rfl))) (fun _ _ _ _ _ _=>dU) (fun _ _ _ _ _ _=>(bM rfl rfl (aj G_value (hr.mono (by omega)) (by rfl) T.rV T.rX T.mM .nil ax (aa (pv 1) (aa (pv 0) ae)))))) (aa (ci (N:=(["word","leaf"]:List Str)) (src:=[none,some 1]) rfl (by show cX _ (defScope iR) _ _ (["case","leaf"]:List Str)=true;decide +kernel) (by intro g' h;cases h) (cf K rfl (ar (ai K rfl) (pv 0) af (fun _ _=>rfl))) (fun _ _ _ _ _ _=>(au (i:=0) (show (["word","leaf"]:List Str).Nodup by decide +kernel) rfl (Or.inl rfl))) (fun _ _ _ _ _ _=>dU) (fun _ _ _ _ _ _=>(bM rfl rfl (aj G_value (hr.mono (by omega)) (by rfl) T.rV T.rX T.mM .nil ax (aa (pv 1) (aa (pv 0) ae)))))) ae)))))),(aO (a9 (ab (a9 (ab aX (ab (ap aG ac ak) ag))) (ab (cL (dF (ap aG ac ak)) ao oR (cM (aq (ab ac (ab ac ag))))) (ab (cL (dF (ap aG ac ak)) ao oR (cM (aq (ab ac (ab ac ag))))) ag))))),fun xs ω Q h=>?_⟩)
 obtain⟨n,ys,zs,i,b,rfl,hn,hy,hz,hx,k⟩:=h;have hyl:=hy.le hn;have hzl:=hz.le hn;have okv:∀ws,Wds n ws->∀v∈ws,(Sy.is i b).ok v.length:=fun ws h v hv=>by rw[(cK (h.2 v hv)).1];exact hx
 simp only[csD,Sy.d];walk_at "a1";refine mU (rs:=(ys.map fun v=>b01 ((Sy.is i b).val v)).map D.int) (by simp) (Nat.le_of_lt (bu (by simp;omega))) (fun j a r h1 h2 Q q=>?_) (fun ρ=>⟨_,a8 _,?_⟩)
 ·simp only[List.map_map,List.getElem?_map,Option.map_eq_some_iff] at h1 h2
  obtain⟨v,hv,rfl⟩:=h1;obtain⟨v',hv',rfl⟩:=h2;rw[hv] at hv';cases hv';simp only[Function.comp_apply] at q ⊢;walk_at "a1";exact⟨.is i b,v,rfl,okv ys hy v (List.mem_of_getElem? hv),by simp[Sy.dp],q⟩
 refine mU (rs:=(zs.map fun v=>b01 ((Sy.is i b).val v)).map D.int) (by simp) (Nat.le_of_lt (bu (by simp;omega))) (fun j a r h1 h2 Q q=>?_) (fun ρ=>⟨_,a8 _,?_⟩)
 ·simp only[List.map_map,List.getElem?_map,Option.map_eq_some_iff] at h1 h2
  obtain⟨v,hv,rfl⟩:=h1;obtain⟨v',hv',rfl⟩:=h2;rw[hv] at hv';cases hv';simp only[Function.comp_apply] at q ⊢;walk_at "a1";exact⟨.is i b,v,rfl,okv zs hz v (List.mem_of_getElem? hv),by simp[Sy.dp],q⟩
 rw[ay];exact k
noncomputable def Cu:ASp:=fun xs ω Q=>∃(n:Nat) (ys zs:List (List Int)) (a:Bool) (x y:Sy),xs=[.d (csD n ys zs),.d (.str (if a then "and" else "or")),.d (led ys zs x),.d (led ys zs y)]/\n<=5/\Wds n ys/\Wds n zs/\Q (.d (led ys zs (.jn a x y))) ω
theorem G1(T:Txt K mg t):aA P w K mg base CX0 2 t.eu t.kR ["case","join","one","other"] (bo Cu):=by
 have G_words_with:aA P w K mg base _ _ _ _ _ _:=HI T;have G_greater:aA P w K mg base _ _ _ _ _ _:=DX T;have G_smaller:aA P w K mg base _ _ _ _ _ _:=Gf T
 refine T.zt.okD lQ (fun xs ω Q h=>by obtain ⟨n,ys,zs,a,x,y,rfl,_⟩:=h;rfl) (fun cdv A outer s H E hr=>⟨_,_,(ah (bT (aH (bh hr.Nw) (pv 1) aK (aL _)) (ah (aJ (i:=4) lQ.nd rfl (Or.inl rfl) (aj G_words_with (hr.mono (by omega)) (by rfl) T.oG T.oW T.oZ .nil ax (aa (ar (ai K rfl) (pv 0) af (fun _ _=>rfl)) (aa (ar (ai K rfl) (pv 2) af (fun _ _=>rfl)) (aE af ae)))))
   (am (aB (aQ (bG (aQ (aE aK (aa (pv 4) (aa (ar (ai K rfl) (pv 2) af (fun _ _=>rfl)) (aa (ar (ai K rfl) (pv 3) af (fun _ _=>rfl)) ae))))) (aa (aj G_greater (hr.mono (by omega)) (by rfl) T.vB T.vg T.vp .nil ax (aa (ar (ai K rfl) (pv 2) af (fun _ _=>rfl)) (aa (ar (ai K rfl) (pv 3) af (fun _ _=>rfl)) ae))) (aa (aj G_greater (hr.mono (by omega)) (by rfl) T.vB T.vg T.vp .nil ax (aa (ar (ai K rfl) (pv 2) af (fun _ _=>rfl)) (aa (ar (ai K rfl) (pv 3) af (fun _ _=>rfl)) ae))) ae))))))) bb)
   (ah (aJ (i:=4) lQ.nd rfl (Or.inl rfl) (aj G_words_with (hr.mono (by omega)) (by rfl) T.oG T.oW T.oZ .nil ax (aa (ar (ai K rfl) (pv 0) af (fun _ _=>rfl)) (aa (ar (ai K rfl) (pv 2) af (fun _ _=>rfl)) (aE af ae)))))
   (am (aB (aQ (bG (aQ (aE aK (aa (pv 4) (aa (ar (ai K rfl) (pv 2) af (fun _ _=>rfl)) (aa (ar (ai K rfl) (pv 3) af (fun _ _=>rfl)) ae))))) (aa (aj G_smaller (hr.mono (by omega)) (by rfl) T.uZ T.uX T.u5 .nil ax (aa (ar (ai K rfl) (pv 2) af (fun _ _=>rfl)) (aa (ar (ai K rfl) (pv 3) af (fun _ _=>rfl)) ae))) (aa (aj G_smaller (hr.mono (by omega)) (by rfl) T.uZ T.uX T.u5 .nil ax (aa (ar (ai K rfl) (pv 2) af (fun _ _=>rfl)) (aa (ar (ai K rfl) (pv 3) af (fun _ _=>rfl)) ae))) ae)))))))),(av (dX (aP (ap bq ac aX)) (av (aN (aq (ab (ap aG ac ak) (ab (ap aG ac ak) (ab ak ag)))) ao)
   (aO (a9 (ab (a9 (ab aX (ab ac (ab (ap aG ac ak) (ab (ap aG ac ak) ag))))) (ab (aq (ab (ap aG ac ak) (ab (ap aG ac ak) ag))) (ab (aq (ab (ap aG ac ak) (ab (ap aG ac ak) ag))) ag)))))) bE)
   (av (aN (aq (ab (ap aG ac ak) (ab (ap aG ac ak) (ab ak ag)))) ao)
   (aO (a9 (ab (a9 (ab aX (ab ac (ab (ap aG ac ak) (ab (ap aG ac ak) ag))))) (ab (aq (ab (ap aG ac ak) (ab (ap aG ac ak) ag))) (ab (aq (ab (ap aG ac ak) (ab (ap aG ac ak) ag))) ag))))))),fun xs ω Q h=>?_⟩)
 obtain⟨n,ys,zs,a,x,y,rfl,hn,hy,hz,k⟩:=h;have hyl:=hy.le hn;have hzl:=hz.le hn;cases a
 ·simp only[csD,led,aR,if_true,if_false,Bool.false_eq_true] at k ⊢
  walk_at "s1";walk_at "s1";refine⟨ys,fun v=>x.val v,false,rfl,hyl,?_⟩;walk_at "a1";refine⟨ys,x,y,rfl,hyl,zs,x,y,rfl,hzl,?_⟩;walk_at "a1";rw[ay,show (fun v=>x.val v == false)=fun v=>!x.val v from by funext v;cases x.val v<;>rfl]
  exact k
 ·simp only[csD,led,aR,if_true,if_false,Bool.false_eq_true] at k ⊢
  walk_at "s1";walk_at "s1";refine⟨zs,fun v=>x.val v,true,rfl,hzl,?_⟩;walk_at "a1";refine⟨ys,x,y,rfl,hyl,zs,x,y,rfl,hzl,?_⟩;walk_at "a1";rw[ay,show (fun v=>x.val v == true)=fun v=>x.val v from by funext v;cases x.val v<;>rfl]
  exact k
noncomputable def KA:ASp:=fun xs ω Q=>∃(n:Nat) (ys zs:List (List Int)) (x:Sy),xs=[.d (csD n ys zs),.d x.d]/\n<=5/\jQ n x ys zs/\x.ok n/\x.dp<=15/\Q (.d (aR ys zs x).d) ω
noncomputable def uh(cA:List AV):ASp:=fun xs ω Q=>∃(n:Nat) (ys zs:List (List Int)) (i b:Int),cA=[.d (csD n ys zs)]/\xs=[.d (Sy.is i b).d]/\n<=5/\Wds n ys/\Wds n zs/\(Sy.is i b).ok n/\Q (.d (led ys zs (.is i b))) ω
noncomputable def nF(cA:List AV):ASp:=fun xs ω Q=>∃(n:Nat) (ys zs:List (List Int)) (a:Bool) (l r:D) (x y:Sy),cA=[.d (csD n ys zs)]/\xs=[.d (.tup [.str (if a then "and" else "or"),l,r]),.d (led ys zs x),.d (led ys zs y)]/\n<=5/\Wds n ys/\Wds n zs/\Q (.d (led ys zs (.jn a x y))) ω
theorem Gm(T:Txt K mg t):aA P w K mg base CX0 13 t.dI t.mH ["case","saying"] (bo KA):=by
 have G_folded:∀b',aA P w K mg b' CX0 11 t.cD t.dZ ["tree","leaf","of_leaf","of_fork"] (fP 8 P w K mg b'):=fun b'=>jp 8 T;have G_parts:aA P w K mg base _ _ _ _ _ _:=xS T;refine T.iX.okD sj (fun xs ω Q h=>by obtain⟨n,ys,zs,x,rfl,_⟩:=h;rfl) (fun A outer s H E hr=>?_)
 refine ⟨_,_,(ah (bT (jj (bO K rfl (aj G_parts (hr.mono (by omega)) (by rfl) T.Cl T.Bw T.B8 .nil ax (aa (pv 0) (aa (pv 1) ae))) (fun _=>rfl))) (am y4) bb)
   (ah (aJ (i:=2) sj.nd rfl (Or.inl rfl) (gR G_folded (hr.mono (by omega)) (by rfl) T.gX T.gW T.gU (aa (pv 1) (aE aK (aa (fx (x:="talk_of") rfl rfl T.iX.tab T.iX.hd rfl) (aa (fx (x:="talk_of") rfl rfl T.iX.tab T.iX.hd rfl) ae))))))
   (am (aB (ar (ai K rfl) (pv 2) af (fun _ _=>rfl)))))),(av (dX (lP (iW (aq (ab ac (ab ac ag))))) Ct bE)
   (av (aN (qv (j1:=[0]) (j2:=[0]) (s1:=uh) (s2:=nF) ?F0 ?F1 ac aX) ao)
   (aO (ap aG ac ak)))),fun xs ω Q h=>?main⟩
 case F0=>
  intro b' H f σ caps cA L cb hc hl;have G_led_leaf:aA P w K mg b' CX0 7 t.ei t.kG ["case","leaf"] (bo Be):=HQ T;obtain⟨v,rfl⟩:∃v,caps=[v]:=List.length_eq_one_iff.mp hc.1;obtain⟨wc,wu,hwc,hcell,hrel⟩:=cb 0 "case" v rfl (hc.2 0 0 v rfl rfl) rfl rfl;obtain rfl:s.heap.objs.size+1=wc:=Option.some.inj hwc;refine dP (ps:=["leaf"]) (cs:=["case"]) L ⟨rfl,rfl,rfl,by decide +kernel,by decide +kernel,by decide +kernel,by decide +kernel⟩ (lG hcell hrel) (fun pm c ctv us hl=>match us,hl with | [_],_=>rfl) (fun xs ω Q h=>by obtain⟨n,ys,zs,i,b,_,rfl,_⟩:=h;rfl) (fun cd A outer s H hr=>⟨_,_,(aj G_led_leaf (hr.mono (by omega)) (by rfl) T.zY T.AH T.Ai .nil ax (aa (pv 1) (aa (pv 0) ae))),(aq (ab ac (ab ac ag))),fun xs ω Q h=>?_⟩)
  obtain⟨n,ys,zs,i,b,rfl,rfl,h1,h2,h3,h4,q⟩:=h;walk_at "a1";exact⟨n,ys,zs,i,b,rfl,h1,h2,h3,h4,q⟩
 case F1=>
  intro b' H f σ caps cA L cb hc hl;have G_led_join:aA P w K mg b' CX0 2 t.eu t.kR ["case","join","one","other"] (bo Cu):=G1 T;obtain⟨v,rfl⟩:∃v,caps=[v]:=List.length_eq_one_iff.mp hc.1;obtain⟨wc,wu,hwc,hcell,hrel⟩:=cb 0 "case" v rfl (hc.2 0 0 v rfl rfl) rfl rfl;obtain rfl:s.heap.objs.size+1=wc:=Option.some.inj hwc;refine dP (ps:=["part","one","other"]) (cs:=["case"]) L ⟨rfl,rfl,rfl,by decide +kernel,by decide +kernel,by decide +kernel,by decide +kernel⟩ (lG hcell hrel) (fun pm c ctv us hl=>match us,hl with | [_,_,_],_=>rfl) (fun xs ω Q h=>by obtain⟨n,ys,zs,a,l,r,x,y,_,rfl,_⟩:=h;rfl) (fun cd A outer s H hr=>⟨_,_,(aj G_led_join (hr.mono (by omega)) (by rfl) T.AZ T.Ae T.AW .nil ax (aa (pv 3) (aa (ar (ai K rfl) (pv 0) af (fun _ _=>rfl)) (aa (pv 1) (aa (pv 2) ae))))),(aq (ab ac (ab (ap aG ac ak) (ab ac (ab ac ag))))),fun xs ω Q h=>?_⟩)
  obtain⟨n,ys,zs,a,l,r,x,y,rfl,rfl,h1,h2,h3,q⟩:=h;walk_at "a1";exact⟨n,ys,zs,a,x,y,rfl,h1,h2,h3,q⟩
 case main=>
  obtain⟨n,ys,zs,x,rfl,hn,hp,hx,hd,k⟩:=h;walk_at "s1";refine⟨n,ys,zs,x,rfl,hp,hx,hd,?_⟩;walk_at "a1";walk_at "s1";refine⟨bL x,(lb x).symm,jt x,gn hd,fun e=>led ys zs (fT e),_,rfl,_,rfl,fun q he ω1 Q1 h=>?_,fun q l r he ω1 Q1 h=>?_,?_⟩
  ·obtain⟨i,b,rfl,ho⟩:=xT hx he
   exact⟨n,ys,zs,i,b,rfl,rfl,hn,hp.y,hp.z,ho,h⟩
  ·obtain⟨a,l',r',rfl,rfl,rfl⟩:=yb hx he
   have h:Q1 (.d (led ys zs (fT (bL (.jn a l' r'))))) ω1:=h;rw[eM] at h;show nF _ [_,.d (led ys zs (fT (bL l'))),.d (led ys zs (fT (bL r')))] ω1 Q1;rw[eM,eM];exact⟨n,ys,zs,a,(bL l').d,(bL r').d,_,_,rfl,rfl,hn,hp.y,hp.z,h⟩
  ·simp only[eM,led]
   walk_at "a1";rw[ay];exact k
noncomputable def JQ(y n:List Int)(u:Ta):D:=.tup [.lst ((Ta.way y n u).map D.int),.int (Ta.fin y n u)]
noncomputable def Dk:ASp:=fun xs ω Q=>∃(u:Ta)(y n:List Int)(m:Nat),xs=[.d u.d,.d (wdD y),.d (wdD n)]/\u.ok m/\u.dp<=900/\Q (.d (JQ y n u)) ω
theorem CW(T:Txt K mg t):aA P w K mg base CX0 1 t.iS t.r8 ["talk","yes","no"] (bo Dk):=by
 refine T.Ez.okD io (fun xs ω Q h=>by obtain⟨u,y,n,m,rfl,_⟩:=h;rfl) (fun cdv A outer s H E hr=>⟨_,_,(ah (aJ (i:=3) io.nd rfl (Or.inl rfl) (cW ae))
   (ah (aJ (i:=4) io.nd rfl (Or.inl rfl) (pv 0))
   (ah (lF PassesOwn.never (aH (i9 hr.Nw) (ar (ai K rfl) (pv 4) af (fun _ _=>rfl)) aK (aL _)) (ah (aJ (i:=5) io.nd rfl (Or.inl rfl) (iL (aH (bh hr.Nw) (ar (ai K rfl) (pv 4) af (fun _ _=>rfl)) aK (aL _)) (pv 1) (pv 2)))
   (ah (aJ (i:=6) io.nd rfl (Or.inl rfl) (iL (aH (qb hr.Nw) (pv 5) (ar (ai K rfl) (pv 4) af (fun _ _=>rfl)) (by with_unfolding_all rfl)) af af))
   (ah (b0 (ff PySem.F.plainAttrs_list PySem.F.slot_list_append PySem.F.type_list_append bf (pv 3) (aa (pv 6) ae)))
   (am (aJ (i:=4) io.nd rfl (Or.inl rfl) (ar (ai K rfl) (pv 4) (be (ba d8 (ba cR d7)) af (pv 6)) (fun _ _=>rfl))))))))
   (am (aB (aQ (aa (pv 3) (aa (ar (ai K rfl) (pv 4) af (fun _ _=>rfl)) ae)))))))),(av (aN (jc ag) ao)
   (av (aN ac ao)
   (av (oH (aP (ap bq (ap aG ac ak) aX)) (av (aN (Ao (aP (ap bq (ap aG ac ak) aX)) ac ac) ao)
   (av (aN (Ao (aP (ap ze ac (ap aG ac ak))) ak ak) ao)
   (av (c9 (bH ac (ab ac ag)))
   (aN (ap aG ac (ap gT ak ac)) ao)))))
   (aO (a9 (ab Ew (ab (ap aG ac ak) ag))))))),fun xs ω Q h=>?_⟩)
 obtain⟨u,y,n,m,rfl,hu,hd,k⟩:=h;walk_at "ab";intro l hl;obtain⟨Pv,iP⟩:=EM fun j ρ ω'=>∃(u2:Ta)(bs:List Int)(v5 v6:Option AV),ρ=[some (.d u.d),some (.d (wdD y)),some (.d (wdD n)),some (.r (.ref l)),some (.d u2.d),v5,v6]/\ω'=ω.put l (.own ((bs.map D.int).map AV.d))/\u2.ok m/\bs++Ta.way y n u2=Ta.way y n u/\Ta.fin y n u2=Ta.fin y n u/\j=u2.dp;refine⟨Pv,⟨_,(iP _ _ _).mpr ⟨u,[],_,_,rfl,rfl,hu,rfl,rfl,rfl⟩⟩,fun j ρ ω' h=>?_⟩
 obtain⟨u2,bs,v5,v6,rfl,rfl,hu2,hw,hf,rfl⟩:=(iP _ _ _).mp h;clear h
 have hbl:bs.length<=900:=by
  have:=Ta.vS y n u;rw[←hw,List.length_append] at this
  omega
 cases u2 with
 |en i=>
  simp only[Ta.d];walk_at "ab";rw[jF ((Ex.refl ω).new hl)];simp only[Ta.fin,Ta.way,List.append_nil] at hf hw;unfold JQ at k;rw[←hf,←hw] at k
  exact k
 |nd b ws a c=>
  obtain⟨hws,ha,hc⟩:=hu2;have hwd:=fv ws
  have next:∀(v:Bool),Ta.bit y n b ws=v->∀v5 v6,Pv (if v then c else a).dp [some (.d u.d),some (.d (wdD y)),some (.d (wdD n)),some (.r (.ref l)),some (.d (if v then c else a).d),v5,v6] (ω.put l (.own ((bs.map D.int).map AV.d++[.d (.int (if v then 1 else 0))]))):=fun v hv v5 v6=>by
   refine(iP _ _ _).mpr ⟨if v then c else a,bs++[if v then 1 else 0],_,_,rfl,by simp,by cases v<;>assumption,?_,?_,rfl⟩
   ·rw[←hw];simp only[Ta.way,hv];cases v<;>simp
   ·rw[←hf];simp only[Ta.fin,hv];cases v<;>simp
  have lt:∀v:Bool,(if v then c else a).dp<(Ta.nd b ws a c).dp:=fun v=>by cases v<;>simp only[Ta.dp]<;>simp<;>omega
  have hsz:bs.length<sizeLine:=jJ (m:=0) (by omega)
  cases b<;>simp only[Ta.d]<;>walk_at "ab"
  ·refine⟨fun ρ' ω'=>∃m',m'<(Ta.nd false ws a c).dp/\Pv m' ρ' ω',fun ρ' ω' h=>h,by omega,?_⟩
   rw[p5];refine ur (fun hb=>⟨hsz,_,lt true,next true (by simpa[Ta.bit] using hb) _ _⟩) (fun hb=>⟨hsz,_,lt false,next false (by simpa[Ta.bit] using hb) _ _⟩)
  ·refine⟨fun ρ' ω'=>∃m',m'<(Ta.nd true ws a c).dp/\Pv m' ρ' ω',fun ρ' ω' h=>h,by omega,?_⟩
   rw[p5];refine ur (fun hb=>⟨hsz,_,lt true,next true (by simpa[Ta.bit] using hb) _ _⟩) (fun hb=>⟨hsz,_,lt false,next false (by simpa[Ta.bit] using hb) _ _⟩)
noncomputable def rl(b:Bool):Str:=if b then "rising" else "any"
noncomputable def ppB(b:Bool)(y n:List Int)(i:Nat):Bool:=if b then decide (y.getD i 0=1) && decide (n.getD i 0=0) else !decide (y.getD i 0=n.getD i 0)
noncomputable def LN:ASp:=fun xs ω Q=>∃(b:Bool)(i:Int)(y n:List Int),xs=[.d (.str (rl b)),.d (.int i),.d (wdD y),.d (wdD n)]/\0<=i/\i<y.length/\i<n.length/\Q (.d (.bl (ppB b y n i.toNat))) ω
theorem I9(T:Txt K mg t):aA P w K mg base CX0 1 t.dh t.k9 ["rule","place","yes","no"] (bo LN):=by
 refine T.xt.okD uB (fun xs ω Q h=>by obtain⟨b,i,y,n,rfl,_⟩:=h;rfl) (fun cdv A outer s H E hr=>⟨_,_,(ah (bT (aH (bh hr.Nw) (pv 0) aK (aL _)) (am (aB (Ch K rfl (cV (bh hr.Nw) (ar (ai K rfl) (pv 2) (pv 1) (fun _ _=>rfl)) af (aL _)) (zV (cV (bh hr.Nw) (ar (ai K rfl) (pv 3) (pv 1) (fun _ _=>rfl)) af (aL _)))))) bb)
   (am (aB (cV (i9 hr.Nw) (ar (ai K rfl) (pv 2) (pv 1) (fun _ _=>rfl)) (ar (ai K rfl) (pv 3) (pv 1) (fun _ _=>rfl)) (aL _))))),(av (dX (aP (ap bq ac aX)) (aO (Fy (ap bq (ap aG ac ac) ak) (ap bq (ap aG ac ac) ak))) bE)
   (aO (ap bq (ap aG ac ac) (ap aG ac ac)))),fun xs ω Q h=>?_⟩)
 obtain⟨b,i,y,n,rfl,h0,h1,h2,k⟩:=h;have e1:=Ix h0 h1;have e2:=Ix h0 h2;cases b<;>simp only[rl,ppB,if_true,if_false,Bool.false_eq_true] at k ⊢<;>walk_at "ab"<;>simp only[e1,e2]<;>walk_at "ab"
 ·rw[ay];exact k
 ·rw[ay]
  by_cases hy:y.getD i.toNat 0=1
  ·rw[if_pos hy];rw[decide_eq_true hy,Bool.true_and] at k;exact k
  ·rw[if_neg hy];rw[decide_eq_false hy,Bool.false_and] at k;rw[beq_eq_false_iff_ne.mpr hy];exact k
noncomputable def prl(ys zs:List (List Int)):List (List Int×List Int):=ys.flatMap fun y=>zs.map fun z=>(y,z)
noncomputable def prD(p:List Int×List Int):D:=.tup [wdD p.1,wdD p.2]
theorem Bp(ys zs:List (List Int)):(prl ys zs).length=ys.length*zs.length:=by
 induction ys with
 |nil=>simp[prl]
 |cons y ys ih=>
  simp only[prl,List.flatMap_cons,List.length_append,List.length_map] at ih ⊢;rw[ih,List.length_cons,Nat.succ_mul];omega
theorem yQ{ys zs:List (List Int)}{i:Nat}{y:List Int}(h:ys[i]?=some y):prl (ys.take (i+1)) zs=prl (ys.take i) zs++zs.map fun z=>(y,z):=by
 unfold prl;rw[List.take_succ,h];simp
theorem oB{ys zs:List (List Int)}{p:List Int×List Int}(h:p∈prl ys zs):p.1∈ys/\p.2∈zs:=by
 unfold prl at h;simp only[List.mem_flatMap,List.mem_map] at h;obtain⟨y,hy,z,hz,rfl⟩:=h;exact⟨hy,hz⟩
noncomputable def DN:ASp:=fun xs ω Q=>∃(pl:Nat) (ys zs:List (List Int)),xs=[.d (csD pl ys zs)]/\ys.length<=32/\zs.length<=32/\Q (.d (.lst ((prl ys zs).map prD))) ω
theorem GG(T:Txt K mg t):aA P w K mg base CX0 1 t.e9 t.om ["case"] (bo DN):=by
 refine T.zB.okD yi (fun xs ω Q h=>by obtain⟨pl,ys,zs,rfl,_⟩:=h;rfl) (fun cdv A outer s H E hr=>⟨_,_,(am (aB (ci (N:=(["yes","no","case"]:List Str)) (src:=[none,none,some 0]) rfl (by show cX _ (defScope k6) _ _ (["case"]:List Str)=true;decide +kernel) (by intro g' h;cases h;rfl) (cf K rfl (ar (ai K rfl) (pv 0) af (fun _ _=>rfl))) (fun _ _ _ _ _ _=>(au (i:=0) (show (["yes","no","case"]:List Str).Nodup by decide +kernel) rfl (Or.inl rfl))) (fun _ _ _ _ _ _=>dU) (fun _ _ _ _ _ _=>(EG rfl rfl rfl (by intro g' h;cases h) (cf K rfl (ar (ai K rfl) (pv 2) af (fun _ _=>rfl))) (au (i:=1) (show (["yes","no","case"]:List Str).Nodup by decide +kernel) rfl (Or.inl rfl)) dU (bM rfl rfl (aQ (aa (pv 0) (aa (pv 1) ae))))))))),(aO (cL (dF (ap aG ac ak)) ao oR (Jv (dF (ap aG ac ak)) ao oR (cM (a9 (ab ac (ab ac ag))))))),fun xs ω Q h=>?_⟩)
 obtain⟨pl,ys,zs,rfl,hy,hz,k⟩:=h;simp only[csD];walk_at "ab";refine qC (fun i xs ρ ω'=>ω'=ω/\(∃v0 v1,ρ=[v0,v1,some (.d (csD pl ys zs))])/\xs=((prl (ys.take i) zs).map prD).map AV.d) ⟨rfl,⟨_,_,rfl⟩,rfl⟩ ?_ ?_
 ·rintro i d xs ρ ω' N hd ⟨rfl,⟨v0,v1,rfl⟩,rfl⟩ kN
  obtain⟨y,hyi,rfl⟩:=dA hd;have hil:=(List.getElem?_eq_some_iff.mp hyi).1;simp only[csD];walk_at "ab";refine qC (fun j xs ρ ω''=>ω''=ω'/\(∃v1,ρ=[some (.d (wdD y)),v1,some (.d (csD pl ys zs))])/\xs=((prl (ys.take i) zs++(zs.take j).map fun z=>(y,z)).map prD).map AV.d) ⟨rfl,⟨_,rfl⟩,by simp⟩ ?_ ?_
  ·rintro j d2 xs ρ ω'' M hd2 ⟨rfl,⟨v1,rfl⟩,rfl⟩ kM
   obtain⟨z,hzj,rfl⟩:=dA hd2;have hjl:=(List.getElem?_eq_some_iff.mp hzj).1
   have hlen:(prl (ys.take i) zs).length<=32*32:=by
    rw[Bp,List.length_take];exact Nat.mul_le_mul (by omega) hz
   walk_at "ab";refine⟨Nat.lt_of_le_of_lt (m:=2000) (by rw[List.length_take];omega) (by decide),kM _ _ _ ⟨rfl,⟨_,rfl⟩,?_⟩⟩
   rw[List.take_succ,hzj];simp[prD]
  ·rintro xs ρ ω'' ⟨rfl,⟨v1,rfl⟩,rfl⟩
   rw[List.length_map,List.take_length];exact kN _ _ _ ⟨rfl,⟨_,_,rfl⟩,by rw[yQ hyi]⟩
 ·rintro xs ρ ω' ⟨rfl,⟨v0,v1,rfl⟩,rfl⟩
  rw[List.length_map,List.take_length,a8];refine⟨_,rfl,?_⟩;rw[ay];exact k
noncomputable def fau(b:Bool)(u:Ta)(p:List Int×List Int):Bool:=!ppB b p.1 p.2 (Ta.fin p.1 p.2 u).toNat
noncomputable def Ks(u:Ta):Option (List Int×List Int)->D
 |some p=>.tup [wdD p.1,wdD p.2,.int (Ta.fin p.1 p.2 u)]
 |none=>.non
noncomputable def wk(b:Bool)(ys zs:List (List Int))(u:Ta):D:=Ks u ((prl ys zs).find? (fau b u))
noncomputable def GT(pl:Nat)(ys zs:List (List Int))(u:Ta):Prop:=pl<=5/\u.ok pl/\u.dp<=900/\Wds pl ys/\Wds pl zs
noncomputable def GE:ASp:=fun xs ω Q=>∃(b:Bool)(pl:Nat) (ys zs:List (List Int)) (u:Ta),xs=[.d (csD pl ys zs),.d (.str (rl b)),.d u.d]/\GT pl ys zs u/\Q (.d (wk b ys zs u)) ω
theorem DU(T:Txt K mg t):aA P w K mg base CX0 2 t.kY t.wW ["case","rule","talk"] (bo GE):=by
 have G_pairs_in:aA P w K mg base _ _ _ _ _ _:=GG T;have G_spoken:aA P w K mg base _ _ _ _ _ _:=CW T;have G_parts_pair:aA P w K mg base _ _ _ _ _ _:=I9 T
 refine T.GW.okD oV (fun xs ω Q h=>by obtain ⟨b,pl,ys,zs,u,rfl,_⟩:=h;rfl) (fun cdv A outer s H E hr=>⟨_,_,(ah (g6 PassesOwn.never rfl (cf K rfl (aj G_pairs_in (hr.mono (by omega)) (by rfl) T.AN T.zQ T.zy .nil ax (aa (pv 0) ae))) (cI K rfl (n:=2) rfl (aF (au (i:=3) oV.nd rfl (Or.inl rfl)) (aF (au (i:=4) oV.nd rfl (Or.inl rfl)) cH))) (ah (aJ (i:=5) oV.nd rfl (Or.inl rfl) (ar (ai K rfl) (aj G_spoken (hr.mono (by omega)) (by rfl) T.FB T.Ge T.EH .nil ax (aa (pv 2) (aa (pv 3) (aa (pv 4) ae)))) af (fun _ _=>rfl)))
   (am (bT (jj (bO K rfl (aj G_parts_pair (hr.mono (by omega)) (by rfl) T.oI T.o7 T.pH .nil ax (aa (pv 1) (aa (pv 5) (aa (pv 3) (aa (pv 4) ae))))) (fun _=>rfl))) (am (aB (aQ (aa (pv 3) (aa (pv 4) (aa (pv 5) ae)))))) bb))))
   (am (aB xl))),(av (lp (dF (aq (ab ac ag))) (fW (aV ao (aV ao fV))) (av (aN (ap aG (aq (ab ac (ab ac (ab ac ag)))) ak) ao)
   (dX (lP (iW (aq (ab ac (ab ac (ab ac (ab ac ag))))))) (aO (a9 (ab ac (ab ac (ab ac ag))))) bE)))
   (aO CB)),fun xs ω Q h=>?_⟩)
 obtain⟨b,pl,ys,zs,u,rfl,⟨hpl,hu,hd,hy,hz⟩,k⟩:=h;walk_at "ab";refine⟨pl,ys,zs,rfl,hy.le hpl,hz.le hpl,?_⟩;walk_at "ab";refine pd (fun i ρ ω'=>ω'=ω/\(∃v3 v4 v5,ρ=[some (.d (csD pl ys zs)),some (.d (.str (rl b))),some (.d u.d),v3,v4,v5])/\∀p∈(prl ys zs).take i,fau b u p=false) ⟨rfl,⟨_,_,_,rfl⟩,by simp⟩ ?_ ?_
 ·rintro i d ρ ω' N hd' ⟨rfl,⟨v3,v4,v5,rfl⟩,hf⟩ kN
  obtain⟨⟨y,z⟩,hp,rfl⟩:=dA hd';obtain⟨my,mz⟩:=oB (List.mem_of_getElem? hp);have ly:=(cK (hy.2 y my)).1;have lz:=(cK (hz.2 z mz)).1;obtain⟨f0,f1⟩:=Ta.s9 (y:=y) (n:=z) hu;simp only[prD];walk_at "ab";refine⟨u,y,z,pl,rfl,hu,hd,?_⟩;simp only[JQ];walk_at "ab";refine⟨b,_,y,z,rfl,f0,by omega,by omega,?_⟩
  walk_at "ab"
  cases hb:ppB b y z (Ta.fin y z u).toNat with
  |true=>
   walk_at "ab";refine kN _ _ ⟨rfl,⟨_,_,_,rfl⟩,fun p hp'=>?_⟩;rw[List.take_succ,hp] at hp';rcases List.mem_append.mp hp' with h|h
   ·exact hf p h
   ·simp at h;subst h;simp[fau,hb]
  |false=>
   walk_at "ab"
   have:(prl ys zs).find? (fau b u)=some (y,z):=by
    rw[List.find?_eq_some_iff_append];obtain⟨hi,e⟩:=List.getElem?_eq_some_iff.mp hp;refine⟨by simp[fau,hb],(prl ys zs).take i,(prl ys zs).drop (i+1),?_,fun p h=>by simp[hf p h]⟩
    rw[←e,←List.drop_eq_getElem_cons hi,List.take_append_drop]
   rw[ay];unfold wk at k;rw[this] at k;exact k
 ·rintro ρ ω' ⟨rfl,⟨v3,v4,v5,rfl⟩,hf⟩
  rw[List.length_map,List.take_length] at hf
  have:(prl ys zs).find? (fau b u)=none:=by
   rw[List.find?_eq_none];intro p h;simp[hf p h]
  walk_at "ab";rw[ay];unfold wk at k;rw[this] at k;exact k
noncomputable def BS:ASp:=fun xs ω Q=>∃(b:Bool)(pl:Nat) (ys zs:List (List Int)) (u:Ta),xs=[.d (csD pl ys zs),.d (.str (rl b)),.d u.d]/\GT pl ys zs u/\Q (.d (.bl ((prl ys zs).find? (fau b u)).isNone)) ω
theorem we(T:Txt K mg t):aA P w K mg base CX0 3 t.gA t.qa ["case","rule","talk"] (bo BS):=by
 have G_fault:aA P w K mg base _ _ _ _ _ _:=DU T;refine T.DB.okD AD (fun xs ω Q h=>by obtain⟨b,pl,ys,zs,u,rfl,_⟩:=h;rfl) (fun cdv A outer s H E hr=>⟨_,_,(am (aB (cV E3 (aj G_fault (hr.mono (by omega)) (by rfl) T.HN T.Hq T.He .nil ax (aa (pv 0) (aa (pv 1) (aa (pv 2) ae)))) xl (aL _)))),(aO (ap IQ (aq (ab ac (ab ac (ab ac ag)))) CB)),fun xs ω Q h=>?_⟩)
 obtain⟨b,pl,ys,zs,u,rfl,hp,k⟩:=h;walk_at "ab";refine⟨b,pl,ys,zs,u,rfl,hp,?_⟩;unfold wk
 cases e:(prl ys zs).find? (fau b u) with
 |none=>simp only[Ks];walk_at "ab";rw[ay];rw[e] at k;exact k
 |some p=>simp only[Ks];walk_at "ab";rw[ay];rw[e] at k;exact k
noncomputable abbrev WW:=List (List Int)×List (List Int)
noncomputable def goF(h:Bool)(ws:List (List Int))(q:WW):WW:=if h then (q.1.filter fun v=>!decide (v∈ws),q.2) else (q.1,q.2.filter fun v=>!decide (v∈ws))
noncomputable def goS(h:Bool)(ws:List (List Int))(q:WW):WW:=if h then (q.1.filter fun v=>decide (v∈ws),q.2) else (q.1,q.2.filter fun v=>decide (v∈ws))
noncomputable def wwD(q:WW):D:=.tup [.tup (q.1.map wdD),.tup (q.2.map wdD)]
noncomputable def Ww(n:Nat)(q:WW):Prop:=Wds n q.1/\Wds n q.2
theorem Ww.f{n:Nat}{q:WW}{h:Bool}{ws:List (List Int)}(x:Ww n q):Ww n (goF h ws q):=by
 unfold goF;cases h<;>simp only[if_true,if_false,Bool.false_eq_true]
 ·exact⟨x.1,kK x.2 _⟩
 ·exact⟨kK x.1 _,x.2⟩
theorem Ww.s{n:Nat}{q:WW}{h:Bool}{ws:List (List Int)}(x:Ww n q):Ww n (goS h ws q):=by
 unfold goS;cases h<;>simp only[if_true,if_false,Bool.false_eq_true]
 ·exact⟨x.1,kK x.2 _⟩
 ·exact⟨kK x.1 _,x.2⟩
noncomputable def Hl:ASp:=fun xs ω Q=>∃(h:Bool) (ws:List (List Int)) (a b:D) (q:WW) (n:Nat),xs=[.d (.tup [.str (if h then "yes" else "no"),.tup (ws.map wdD),a,b]),.d (.tup (q.1.map wdD)),.d (.tup (q.2.map wdD))]/\n<=5/\Ww n q/\Q (.d (.tup [wwD (goF h ws q),wwD (goS h ws q)])) ω
theorem BH(T:Txt K mg t):aA P w K mg base CX0 1 t.gi t.qG ["turn","yes","no"] (bo Hl):=by
 refine T.CZ.okD kO (fun xs ω Q h=>by obtain⟨h,ws,a,b,q,n,rfl,_⟩:=h;rfl) (fun cdv A outer s H E hr=>⟨_,_,(ah (aJ (i:=3) kO.nd rfl (Or.inl rfl) (iL (aH (bh hr.Nw) (ar (ai K rfl) (pv 0) af (fun _ _=>rfl)) aK (aL _)) (pv 1) (pv 2)))
   (ah (aJ (i:=4) kO.nd rfl (Or.inl rfl) (bn (aY K rfl) (by rfl) T.dy (by kernel_rfl) (aa (ci (N:=(["word","turn"] : List Str)) (src:=[none,some 0]) rfl (by show cX _ (defScope kh) _ _ (["turn","yes","no","own","silent","loud"] : List Str) = true;decide +kernel) (by intro g' h;cases h) (cf K rfl (pv 3)) (fun _ _ _ _ _ _=>(au (i:=0) (show (["word","turn"] : List Str).Nodup by decide +kernel) rfl (Or.inl rfl))) (fun _ _ _ _ _ _=>(gH (aH (uU hr.Nw) (pv 0) (ar (ai K rfl) (pv 1) af (fun _ _=>rfl)) (by with_unfolding_all rfl)))) (fun _ _ _ _ _ _=>(bM rfl rfl (pv 0)))) ae)))
   (ah (aJ (i:=5) kO.nd rfl (Or.inl rfl) (bn (aY K rfl) (by rfl) T.dy (by kernel_rfl) (aa (ci (N:=(["word","turn"] : List Str)) (src:=[none,some 0]) rfl (by show cX _ (defScope kh) _ _ (["turn","yes","no","own","silent","loud"] : List Str) = true;decide +kernel) (by intro g' h;cases h) (cf K rfl (pv 3)) (fun _ _ _ _ _ _=>(au (i:=0) (show (["word","turn"] : List Str).Nodup by decide +kernel) rfl (Or.inl rfl))) (fun _ _ _ _ _ _=>(gH (aH (qb hr.Nw) (pv 0) (ar (ai K rfl) (pv 1) af (fun _ _=>rfl)) (by with_unfolding_all rfl)))) (fun _ _ _ _ _ _=>(bM rfl rfl (pv 0)))) ae)))
   (ah (bT (aH (bh hr.Nw) (ar (ai K rfl) (pv 0) af (fun _ _=>rfl)) aK (aL _)) (am (aB (aQ (bG (aQ (aa (pv 4) (aa (pv 2) ae))) (bG (aQ (aa (pv 5) (aa (pv 2) ae))) ae))))) bb)
   (am (aB (aQ (bG (aQ (aa (pv 1) (aa (pv 4) ae))) (bG (aQ (aa (pv 1) (aa (pv 5) ae))) ae))))))))),(av (aN (Ao (aP (ap bq (ap aG ac ak) aX)) ac ac) ao)
   (av (aN (du dS (ab (cL (dF ac) ao (aP (ap ze ac (ap aG ac ak))) (cM ac)) ag)) ao)
   (av (aN (du dS (ab (cL (dF ac) ao (aP (ap ze ac (ap aG ac ak))) (cM ac)) ag)) ao)
   (av (dX (aP (ap bq (ap aG ac ak) aX)) (aO (a9 (ab (a9 (ab ac (ab ac ag))) (ab (a9 (ab ac (ab ac ag))) ag)))) bE)
   (aO (a9 (ab (a9 (ab ac (ab ac ag))) (ab (a9 (ab ac (ab ac ag))) ag)))))))),fun xs ω Q h=>?_⟩)
 obtain⟨h,ws,a,b,q,n,rfl,hn,hq,k⟩:=h;have h1:=hq.1.le hn;have h2:=hq.2.le hn;have hd:=fv ws
 have cmp:∀(ys:List (List Int)) (neg:Bool) (K':List AV->SA->Om->Prop) (v0:Option AV) (sd:D),ys.length<=32->(∀ρ,K' (((ys.filter fun v=>if neg then !decide (v∈ws) else decide (v∈ws)).map wdD).map AV.d) ρ ω) ->
   d9 (gq 0) (vk (aOp (aIn neg) (ia 0) (aOp aIx (ia 1) (aC (D.int 1))))) (ll (ia 0)) ((ys.map wdD).map AV.d) [] [v0,some (.d (.tup [sd,.tup (ws.map wdD),a,b]))] ω K':=fun ys neg K' v0 sd hl hk=>by
  refine HY (fun d=>if neg then !inD d (ws.map wdD) else inD d (ws.map wdD)) id (fun d hd' Q q=>?_) (fun d hd' _ Q q=>?_) (zR (m:=0) (by rw[List.length_map];omega)) (fun ρ=>?_)
  ·walk_at "ab"
   exact⟨by omega,q⟩
  ·walk_at "ab"
   exact q
  ·have:((ys.map wdD).filter fun d=>if neg then !inD d (ws.map wdD) else inD d (ws.map wdD)).map id=(ys.filter fun v=>if neg then !decide (v∈ws) else decide (v∈ws)).map wdD:=by
    rw[List.map_id,List.filter_map]
    congr 2
    funext v
    simp[p5]
   rw[this];exact hk ρ
 cases h<;>simp only[goF,goS,if_true,if_false,Bool.false_eq_true,wwD] at k ⊢<;>walk_at "ab"
 ·refine cmp q.2 true _ _ _ h2 fun ρ=>⟨_,a8 _,?_⟩
  walk_at "ab";refine cmp q.2 false _ _ _ h2 fun ρ=>⟨_,a8 _,?_⟩;walk_at "ab";rw[ay];exact k
 ·refine cmp q.1 true _ _ _ h1 fun ρ=>⟨_,a8 _,?_⟩
  walk_at "ab";refine cmp q.1 false _ _ _ h1 fun ρ=>⟨_,a8 _,?_⟩;walk_at "ab";rw[ay];exact k
structure En where
 bits:List Int
 at_:Int
 q:WW
noncomputable def En.d(e:En):D:=.tup [.lst (e.bits.map D.int),.int e.at_,.tup (e.q.1.map wdD),.tup (e.q.2.map wdD)]
noncomputable def bK(bs:List Int)(q:WW):Ta->List En
 |.en i=>[⟨bs,i,q⟩]
 |.nd h ws a b=>bK (bs++[0]) (goF h ws q) a++bK (bs++[1]) (goS h ws q) b
structure Wt where
 bits:List Int
 u:Ta
 q:WW
noncomputable def Wt.d(e:Wt):D:=.tup [.lst (e.bits.map D.int),e.u.d,.tup (e.q.1.map wdD),.tup (e.q.2.map wdD)]
noncomputable def Wt.ends(e:Wt):List En:=bK e.bits e.q e.u
noncomputable def wsz:List Wt->Nat
 | []=>0
 |e::r=>e.u.size+wsz r
theorem f9:∀a b:List Wt,wsz (a++b)=wsz a+wsz b
 | [],b=>by simp[wsz]
 |e::a,b=>by simp only[List.cons_append,wsz,f9 a b];omega
theorem BJ:∀a:List Wt,a.length<=wsz a
 | []=>by simp[wsz]
 |e::a=>by
  have:=BJ a;have:1<=e.u.size:=by cases e.u<;>simp only[Ta.size]<;>omega
  simp only[wsz,List.length_cons];omega
theorem qA:∀(u:Ta)(bs:List Int)(q:WW),(bK bs q u).length=u.lvs
 |.en i,_,_=>rfl
 |.nd h ws a b,bs,q=>by simp only[bK,List.length_append,qA a,qA b,Ta.lvs]
noncomputable def okW(n:Nat)(m:Nat)(e:Wt):Prop:=e.u.ok n/\Ww n e.q/\e.bits.length+e.u.dp<=m
noncomputable def Hf:ASp:=fun xs ω Q=>∃(n:Nat)(q:WW)(u:Ta),xs=[.d (csD n q.1 q.2),.d u.d]/\n<=5/\Ww n q/\u.ok n/\u.dp<=400/\u.size<=400/\Q (.d (.lst ((bK [] q u).map En.d))) ω
theorem iE{t u:AS}{D:cy}{ρ:SA}{ω:Om}(h:∀N:SA->Om->Prop,(∀ρ' ω',u D ρ' ω'->N ρ' ω')->t { D with nx:=N } ρ ω):yG t u D ρ ω:=h (u D) fun _ _ h=>h
theorem Hz(T:Txt K mg t):aA P w K mg base CX0 2 t.ga t.qy ["case","talk"] (bo Hf):=by
 have G_went_on:aA P w K mg base _ _ _ _ _ _:=BH T
 refine T.CY.okD dz (fun xs ω Q h=>by obtain⟨n,q,u,rfl,_⟩:=h;rfl) (fun cdv A outer s H E hr=>⟨_,_,(ah (aJ (i:=2) dz.nd rfl (Or.inl rfl) (cW ae))
   (ah (aJ (i:=3) dz.nd rfl (Or.inl rfl) (cW (bG (aQ (D3 (cW ae) (aa (pv 1) (aa (ar (ai K rfl) (pv 0) af (fun _ _=>rfl)) (aa (ar (ai K rfl) (pv 0) af (fun _ _=>rfl)) ae))))) ae)))
   (ah (lF PassesOwn.never (bO K rfl (pv 3) (fun _=>rfl)) (ah (iO (jL PySem.F.plainAttrs_list PySem.F.slot_list_pop PySem.F.type_list_pop jI (pv 3)) (cI K rfl (n:=4) rfl (aF (au (i:=4) dz.nd rfl (Or.inl rfl)) (aF (au (i:=5) dz.nd rfl (Or.inl rfl)) (aF (au (i:=6) dz.nd rfl (Or.inl rfl)) (aF (au (i:=7) dz.nd rfl (Or.inl rfl)) cH))))))
   (am (bT (aH (bh hr.Nw) (ar (ai K rfl) (pv 5) af (fun _ _=>rfl)) aK (aL _)) (am (b0 (ff PySem.F.plainAttrs_list PySem.F.slot_list_append PySem.F.type_list_append bf (pv 2) (bG (aQ (aa (pv 4) (aa (ar (ai K rfl) (pv 5) af (fun _ _=>rfl)) (aa (pv 6) (aa (pv 7) ae))))) ae)))) (ah (iO (aj G_went_on (hr.mono (by omega)) (by rfl) T.vd T.uQ T.vw .nil ax (aa (pv 5) (aa (pv 6) (aa (pv 7) ae)))) (cI K rfl (n:=2) rfl (aF (au (i:=8) dz.nd rfl (Or.inl rfl)) (aF (au (i:=9) dz.nd rfl (Or.inl rfl)) cH))))
   (ah (b0 (ff PySem.F.plainAttrs_list PySem.F.slot_list_append PySem.F.type_list_append bf (pv 3) (bG (aQ (aa (be (ba d8 (ba cR d7)) (pv 4) (cW (aE af ae))) (aa (ar (ai K rfl) (pv 5) af (fun _ _=>rfl)) (aa (ar (ai K rfl) (pv 9) af (fun _ _=>rfl)) (aa (ar (ai K rfl) (pv 9) af (fun _ _=>rfl)) ae))))) ae)))
   (am (b0 (ff PySem.F.plainAttrs_list PySem.F.slot_list_append PySem.F.type_list_append bf (pv 3) (bG (aQ (aa (be (ba d8 (ba cR d7)) (pv 4) (cW (aE af ae))) (aa (ar (ai K rfl) (pv 5) af (fun _ _=>rfl)) (aa (ar (ai K rfl) (pv 8) af (fun _ _=>rfl)) (aa (ar (ai K rfl) (pv 8) af (fun _ _=>rfl)) ae))))) ae))))))))))
   (am (aB (pv 2)))))),(av (aN (jc ag) ao)
   (av (aN (jc (ab (a9 (ab (pw ag) (ab ac (ab (ap aG ac ak) (ab (ap aG ac ak) ag))))) ag)) ao)
   (av (oH (iW ac) (av (aN (ny ac) (fW (aV ao (aV ao (aV ao (aV ao fV))))))
   (dX (aP (ap bq (ap aG ac ak) aX)) (c9 (bH ac (ab (a9 (ab ac (ab (ap aG ac ak) (ab ac (ab ac ag))))) ag))) (av (aN (aq (ab ac (ab ac (ab ac ag)))) (fW (aV ao (aV ao fV))))
   (av (c9 (bH ac (ab (a9 (ab (ap gT ac (pw (ab ak ag))) (ab (ap aG ac ak) (ab (ap aG ac ak) (ab (ap aG ac ak) ag))))) ag)))
   (c9 (bH ac (ab (a9 (ab (ap gT ac (pw (ab ak ag))) (ab (ap aG ac ak) (ab (ap aG ac ak) (ab (ap aG ac ak) ag))))) ag))))))))
   (aO Ew)))),fun xs ω Q h=>?_⟩)
 obtain⟨n,q,u,rfl,hn,hq,hu,hdp,hsz,k⟩:=h;simp only[csD];walk_at "s1";intro l1 hl1;walk_at "s1";intro l2 hl2;walk_at "s1";obtain⟨n21,hl2⟩:=pj hl2;have n12:=Ne.symm n21
 obtain⟨Pv,iP⟩:=EM fun j ρ ω'=>∃(W:List Wt)(es:List En)(v4 v5 v6 v7 v8 v9:Option AV),ρ=[some (.d (csD n q.1 q.2)),some (.d u.d),some (.r (.ref l1)),some (.r (.ref l2)),v4,v5,v6,v7,v8,v9]/\ω'=om2 ω l1 l2 (.own ((es.map En.d).map AV.d)) (.own ((W.map Wt.d).map AV.d))/\(∀e∈W,okW n u.dp e) /\
  es++(W.reverse.flatMap Wt.ends)=bK [] q u/\es.length+wsz W<=u.size/\j=wsz W
 refine⟨Pv,⟨_,(iP _ _ _).mpr ⟨[⟨[],u,q⟩],[],_,_,_,_,_,_,rfl,rfl,by simpa[okW] using⟨hu,hq⟩,by simp[Wt.ends],by simp[wsz],rfl⟩⟩,fun j ρ ω' h=>?_⟩
 obtain⟨W,es,v4,v5,v6,v7,v8,v9,rfl,rfl,hW,hE,hS,rfl⟩:=(iP _ _ _).mp h;clear h;rcases List.eq_nil_or_concat W with rfl|⟨W',e,rfl⟩
 ·simp only[List.map_nil]
  walk_at "a1";simp only[df];refine⟨false,rfl,?_⟩;rw[if_neg (by decide)]
  try walk_at "a1"
  simp only[nG n12];walk_at "ab";simp only[List.reverse_nil,List.flatMap_nil,List.append_nil] at hE;subst hE;rw[jF]
  ·exact k
  ·exact((Ex.refl ω).over hl1).over hl2 |>.over hl1
 ·rw[List.concat_eq_append] at hW hE hS ⊢
  have hWl:=BJ W';rw[f9] at hS;simp only[List.map_append,List.map_cons,List.map_nil];obtain⟨bs,u2,q2⟩:=e;obtain⟨hu2,hq2,hb2⟩:=hW _ (List.mem_append_right _ (List.mem_singleton.mpr rfl));have hW':∀e∈W',okW n u.dp e:=fun e he=>hW e (List.mem_append_left _ he);simp only[List.reverse_append,List.reverse_cons,List.reverse_nil,List.nil_append,List.flatMap_append,List.flatMap_cons,List.flatMap_nil,List.append_nil,Wt.ends,List.cons_append] at hE
  simp only[Wt.d]
  cases u2 with
  |en i=>
   simp only[Ta.d];walk_at "a1";simp only[df,dq];refine⟨true,by simp,?_⟩
   rw[if_pos rfl];refine⟨Pv (wsz W'),fun ρ' ω' h=>⟨_,by rw[f9];simp[wsz,Ta.size],h⟩,?_⟩
   refine iE fun N hN=>?_;walk_at "a1";simp only[df,dq];walk_at "a1";refine hN _ _ ?_;clear hN;walk_at "a1";simp only[nG n12,mE n12];walk_at "a1";refine⟨jJ (m:=0) (by omega),?_⟩
   refine(iP _ _ _).mpr ⟨W',es++[⟨bs,i,q2⟩],_,_,_,_,_,_,rfl,by simp[En.d],hW',?_,?_,rfl⟩
   ·rw[←hE];simp[bK]
   ·simp[wsz,Ta.size] at hS ⊢;omega
  |nd hh ws a b=>
   simp only[Ta.d];have hE2:¬ (if hh then ("yes":Str) else ("no":Str))="end":=by cases hh<;>decide +kernel
   walk_at "a1";simp only[df,dq];refine⟨true,by simp,?_⟩
   rw[if_pos rfl];refine⟨Pv (wsz (W'++[⟨bs++[1],b,goS hh ws q2⟩,⟨bs++[0],a,goF hh ws q2⟩])),fun ρ' ω' h=>⟨_,by rw[f9,f9];simp only[wsz,Ta.size];omega,h⟩,?_⟩
   refine iE fun N hN=>?_;walk_at "a1";simp only[df,dq];walk_at "a1";refine hN _ _ ?_;clear hN;walk_at "a1";simp only[hE2,if_false];refine iE fun N hN=>?_;walk_at "a1";refine⟨hh,ws,a.d,b.d,q2,n,rfl,hn,hq2,?_⟩;have hb3:bs.length+(Ta.nd hh ws a b).dp<=u.dp:=hb2;simp only[Ta.dp] at hb3;have hbl:bs.length<=400:=by omega
   walk_at "a1";refine hN _ _ ?_;clear hN;simp only[wwD];refine iE fun N hN=>?_;walk_at "a1";simp only[df,dq];walk_at "a1";have hsz2:W'.length+1<sizeLine:=jJ (m:=0) (by omega)
   refine⟨zR (m:=0) (by omega),jJ (m:=0) (by omega),hN _ _ ?_⟩
   clear hN;walk_at "a1";simp only[df,dq];walk_at "a1";refine⟨zR (m:=0) (by omega),hsz2,?_⟩
   refine(iP _ _ _).mpr ⟨W'++[⟨bs++[1],b,goS hh ws q2⟩,⟨bs++[0],a,goF hh ws q2⟩],es,_,_,_,_,_,_,rfl,by simp[Wt.d],?_,?_,?_,rfl⟩
   ·intro e he
    rcases List.mem_append.mp he with h|h
    ·exact hW' e h
    ·rcases List.mem_cons.mp h with rfl|h
     ·exact⟨hu2.2.2,hq2.s,by simp only[List.length_append,List.length_cons,List.length_nil];omega⟩
     ·rw[List.mem_singleton.mp h]
      exact⟨hu2.2.1,hq2.f,by simp only[List.length_append,List.length_cons,List.length_nil];omega⟩
   ·rw[←hE];simp[bK,Wt.ends]
   ·rw[f9];simp only[wsz,Ta.size] at hS ⊢;omega
noncomputable def has(q:WW):Bool:=!q.1.isEmpty && !q.2.isEmpty
noncomputable def K2:ASp:=fun xs ω Q=>∃q:WW,xs=[.d (wwD q)]/\Q (.d (.bl (has q))) ω
theorem JZ(T:Txt K mg t):aA P w K mg base CX0 1 t.ee t.md ["words"] (bo K2):=by
 refine T.ye.okD xk (fun xs ω Q h=>by obtain⟨q,rfl,_⟩:=h;rfl) (fun cdv A outer s H E hr=>⟨_,_,(am (aB (Ch K rfl (cV zf (bD (gc K rfl) (by rfl) T.r6 (by kernel_rfl) (aa (ar (ai K rfl) (pv 0) af (fun _ _=>rfl)) ae)) af (aL _)) (zV (cV zf (bD (gc K rfl) (by rfl) T.r6 (by kernel_rfl) (aa (ar (ai K rfl) (pv 0) af (fun _ _=>rfl)) ae)) af (aL _)))))),(aO (Fy (ap sU (du tD (ab (ap aG ac ak) ag)) ak) (ap sU (du tD (ab (ap aG ac ak) ag)) ak))),fun xs ω Q h=>?_⟩)
 obtain⟨q,rfl,k⟩:=h;simp only[wwD];walk_at "ab";rw[ay];have e1:∀ws:List (List Int),(decide (0<(ws.length:Int)))=!ws.isEmpty:=fun ws=>by cases ws<;>simp<;>omega
 by_cases h:0<(q.1.length:Int)
 ·rw[if_pos h]
  have e:(!q.1.isEmpty)=true:=by rw[←e1];exact decide_eq_true h
  unfold has at k;rw[e,Bool.true_and,←e1] at k
  exact k
 ·rw[if_neg h]
  have e:(!q.1.isEmpty)=false:=by rw[←e1];exact decide_eq_false h
  unfold has at k;rw[e,Bool.false_and] at k;rw[decide_eq_false h];exact k
noncomputable def dO:Ta->WW->Ta
 |.en i,_=>.en i
 |.nd h ws a b,q=>if has (goF h ws q) then (if has (goS h ws q) then .nd h ws (dO a (goF h ws q)) (dO b (goS h ws q)) else dO a q) else dO b q
noncomputable def fN:Ta->WW->List Ta
 |.en i,_=>[.en i]
 |.nd h ws a b,q=>if has (goF h ws q) then (if has (goS h ws q) then .nd h ws a b::(fN b (goS h ws q)++fN a (goF h ws q)) else fN a q) else fN b q
theorem kC:∀(u:Ta)(q:WW),(fN u q).length<=u.size
 |.en i,_=>Nat.le_refl _
 |.nd h ws a b,q=>by
  have h1:=kC a q;have h2:=kC b q;have h3:=kC a (goF h ws q);have h4:=kC b (goS h ws q);simp only[fN,Ta.size];split
  ·split
   ·simp;omega
   ·omega
  ·omega
theorem jv{n:Nat}:∀ {u:Ta} (q:WW),u.ok n->(dO u q).ok n/\(dO u q).dp<=u.dp/\(dO u q).size<=u.size
 |.en i,_,h=>⟨h,Nat.le_refl _,Nat.le_refl _⟩
 |.nd hh ws a b,q,h=>by
  obtain⟨a1,a2,a3⟩:=jv (goF hh ws q) h.2.1;obtain⟨b1,b2,b3⟩:=jv (goS hh ws q) h.2.2;obtain⟨c1,c2,c3⟩:=jv q h.2.1;obtain⟨d1,d2,d3⟩:=jv q h.2.2;simp only[dO,Ta.dp,Ta.size];split
  ·split
   ·exact⟨⟨h.1,a1,b1⟩,by simp only[Ta.dp];omega,by simp only[Ta.size];omega⟩
   ·exact⟨c1,by omega,by omega⟩
  ·exact⟨d1,by omega,by omega⟩
noncomputable def oQ:List Ta->List Ta->List Ta
 | [],st=>st
 |.en i::r,st=>oQ r (st++[.en i])
 |.nd h ws _ _::r,st=>match st.reverse with
  |y::x::bB=>oQ r (bB.reverse++[.nd h ws x y])
  |_=>[]
theorem kj:∀(u:Ta)(q:WW)(r st:List Ta),oQ ((fN u q).reverse++r) st=oQ r (st++[dO u q])
 |.en i,_,r,st=>by simp[fN,oQ,dO]
 |.nd h ws a b,q,r,st=>by
  simp only[fN,dO];split
  ·split
   ·simp only[List.reverse_cons,List.reverse_append,List.append_assoc,List.singleton_append,List.cons_append,List.nil_append]
    rw[kj a,kj b];simp[oQ]
   ·exact kj a q r st
  ·exact kj b q r st
structure Wc where
 u:Ta
 q:WW
noncomputable def Wc.d(e:Wc):D:=.tup [e.u.d,.tup (e.q.1.map wdD),.tup (e.q.2.map wdD)]
noncomputable def wcs:List Wc->Nat
 | []=>0
 |e::r=>e.u.size+wcs r
theorem gD:∀a b:List Wc,wcs (a++b)=wcs a+wcs b
 | [],b=>by simp[wcs]
 |e::a,b=>by simp only[List.cons_append,wcs,gD a b];omega
theorem Cz:∀a:List Wc,a.length<=wcs a
 | []=>by simp[wcs]
 |e::a=>by
  have:=Cz a;have:1<=e.u.size:=by cases e.u<;>simp only[Ta.size]<;>omega
  simp only[wcs,List.length_cons];omega
noncomputable def Ho:ASp:=fun xs ω Q=>∃(n:Nat)(q:WW)(u:Ta),xs=[.d (csD n q.1 q.2),.d u.d]/\n<=5/\Ww n q/\u.ok n/\u.size<=400/\Q (.d (.lst ((fN u q).reverse.map Ta.d))) ω
theorem Ha(T:Txt K mg t):aA P w K mg base CX0 2 t.cS t.jH ["case","talk"] (bo Ho):=by
 have G_went_on:aA P w K mg base _ _ _ _ _ _:=BH T;have G_has_pairs:aA P w K mg base _ _ _ _ _ _:=JZ T
 refine T.uG.okD bV (fun xs ω Q h=>by obtain⟨n,q,u,rfl,_⟩:=h;rfl) (fun cdv A outer s H E hr=>⟨_,_,(ah (aJ (i:=2) bV.nd rfl (Or.inl rfl) (cW ae))
   (ah (aJ (i:=3) bV.nd rfl (Or.inl rfl) (cW (bG (aQ (aa (pv 1) (aa (ar (ai K rfl) (pv 0) af (fun _ _=>rfl)) (aa (ar (ai K rfl) (pv 0) af (fun _ _=>rfl)) ae)))) ae)))
   (ah (lF PassesOwn.never (bO K rfl (pv 3) (fun _=>rfl)) (ah (iO (jL PySem.F.plainAttrs_list PySem.F.slot_list_pop PySem.F.type_list_pop jI (pv 3)) (cI K rfl (n:=3) rfl (aF (au (i:=4) bV.nd rfl (Or.inl rfl)) (aF (au (i:=5) bV.nd rfl (Or.inl rfl)) (aF (au (i:=6) bV.nd rfl (Or.inl rfl)) cH)))))
   (ah (bT (aH (bh hr.Nw) (ar (ai K rfl) (pv 4) af (fun _ _=>rfl)) aK (aL _)) (ah (b0 (ff PySem.F.plainAttrs_list PySem.F.slot_list_append PySem.F.type_list_append bf (pv 2) (aa (pv 4) ae)))
   (am xQ)) bb)
   (ah (iO (aj G_went_on (hr.mono (by omega)) (by rfl) T.vd T.uQ T.vw .nil ax (aa (pv 4) (aa (pv 5) (aa (pv 6) ae)))) (cI K rfl (n:=2) rfl (aF (au (i:=7) bV.nd rfl (Or.inl rfl)) (aF (au (i:=8) bV.nd rfl (Or.inl rfl)) cH))))
   (am (bT (jj (bO K rfl (aj G_has_pairs (hr.mono (by omega)) (by rfl) T.qV T.qO T.qT .nil ax (aa (pv 7) ae)) (fun _=>rfl))) (am (b0 (ff PySem.F.plainAttrs_list PySem.F.slot_list_append PySem.F.type_list_append bf (pv 3) (bG (aQ (aa (ar (ai K rfl) (pv 4) af (fun _ _=>rfl)) (aa (pv 5) (aa (pv 6) ae)))) ae)))) (am (bT (jj (bO K rfl (aj G_has_pairs (hr.mono (by omega)) (by rfl) T.qV T.qO T.qT .nil ax (aa (pv 8) ae)) (fun _=>rfl))) (am (b0 (ff PySem.F.plainAttrs_list PySem.F.slot_list_append PySem.F.type_list_append bf (pv 3) (bG (aQ (aa (ar (ai K rfl) (pv 4) af (fun _ _=>rfl)) (aa (pv 5) (aa (pv 6) ae)))) ae)))) (ah (b0 (ff PySem.F.plainAttrs_list PySem.F.slot_list_append PySem.F.type_list_append bf (pv 2) (aa (pv 4) ae)))
   (ah (b0 (ff PySem.F.plainAttrs_list PySem.F.slot_list_append PySem.F.type_list_append bf (pv 3) (bG (aQ (aa (ar (ai K rfl) (pv 4) af (fun _ _=>rfl)) (aa (ar (ai K rfl) (pv 7) af (fun _ _=>rfl)) (aa (ar (ai K rfl) (pv 7) af (fun _ _=>rfl)) ae)))) ae)))
   (am (b0 (ff PySem.F.plainAttrs_list PySem.F.slot_list_append PySem.F.type_list_append bf (pv 3) (bG (aQ (aa (ar (ai K rfl) (pv 4) af (fun _ _=>rfl)) (aa (ar (ai K rfl) (pv 8) af (fun _ _=>rfl)) (aa (ar (ai K rfl) (pv 8) af (fun _ _=>rfl)) ae)))) ae))))))))))))))
   (am (aB (zv K rfl (pv 2) (uY p7 af))))))),(av (aN (jc ag) ao)
   (av (aN (jc (ab (a9 (ab ac (ab (ap aG ac ak) (ab (ap aG ac ak) ag)))) ag)) ao)
   (av (oH (iW ac) (av (aN (ny ac) (fW (aV ao (aV ao (aV ao fV)))))
   (av (dX (aP (ap bq (ap aG ac ak) aX)) (av (c9 (bH ac (ab ac ag)))
   KR) bE)
   (av (aN (aq (ab ac (ab ac (ab ac ag)))) (fW (aV ao (aV ao fV))))
   (dX (lP (iW (aq (ab ac ag)))) (c9 (bH ac (ab (a9 (ab (ap aG ac ak) (ab ac (ab ac ag)))) ag))) (dX (lP (iW (aq (ab ac ag)))) (c9 (bH ac (ab (a9 (ab (ap aG ac ak) (ab ac (ab ac ag)))) ag))) (av (c9 (bH ac (ab ac ag)))
   (av (c9 (bH ac (ab (a9 (ab (ap aG ac ak) (ab (ap aG ac ak) (ab (ap aG ac ak) ag)))) ag)))
   (c9 (bH ac (ab (a9 (ab (ap aG ac ak) (ab (ap aG ac ak) (ab (ap aG ac ak) ag)))) ag)))))))))))
   (aO (Jf ac))))),fun xs ω Q h=>?_⟩)
 obtain⟨n,q,u,rfl,hn,hq,hu,hsz,k⟩:=h;simp only[csD];walk_at "s1";intro l1 hl1;walk_at "s1";intro l2 hl2;walk_at "s1";obtain⟨n21,hl2⟩:=pj hl2;have n12:=Ne.symm n21
 obtain⟨Pv,iP⟩:=EM fun j ρ ω'=>∃(W:List Wc)(es:List Ta)(v4 v5 v6 v7 v8:Option AV),ρ=[some (.d (csD n q.1 q.2)),some (.d u.d),some (.r (.ref l1)),some (.r (.ref l2)),v4,v5,v6,v7,v8]/\ω'=om2 ω l1 l2 (.own ((es.map Ta.d).map AV.d)) (.own ((W.map Wc.d).map AV.d))/\(∀e∈W,e.u.ok n/\Ww n e.q) /\
  es++(W.reverse.flatMap fun e=>fN e.u e.q)=fN u q/\es.length+wcs W<=u.size/\j=wcs W
 refine⟨Pv,⟨_,(iP _ _ _).mpr ⟨[⟨u,q⟩],[],_,_,_,_,_,rfl,rfl,by simpa using⟨hu,hq⟩,by simp,by simp[wcs],rfl⟩⟩,fun j ρ ω' h=>?_⟩
 obtain⟨W,es,v4,v5,v6,v7,v8,rfl,rfl,hW,hE,hS,rfl⟩:=(iP _ _ _).mp h;clear h;rcases List.eq_nil_or_concat W with rfl|⟨W',e,rfl⟩
 ·simp only[List.map_nil]
  walk_at "a1";simp only[df];refine⟨false,rfl,?_⟩;rw[if_neg (by decide)]
  try walk_at "a1"
  simp only[nG n12];walk_at "ab";simp only[List.reverse_nil,List.flatMap_nil,List.append_nil] at hE;subst hE;have eo:∀A B,(om2 ω l1 l2 A B).only ω=ω:=fun A B=>jF (((Ex.refl ω).over hl1).over hl2);rw[eo,←List.map_reverse]
  exact k
 ·rw[List.concat_eq_append] at hW hE hS ⊢
  have hWl:=Cz W';rw[gD] at hS;simp only[List.map_append,List.map_cons,List.map_nil];obtain⟨u2,q2⟩:=e;obtain⟨hu2,hq2⟩:=hW _ (List.mem_append_right _ (List.mem_singleton.mpr rfl));have hW':∀e∈W',e.u.ok n/\Ww n e.q:=fun e he=>hW e (List.mem_append_left _ he);simp only[List.reverse_append,List.reverse_cons,List.reverse_nil,List.nil_append,List.flatMap_append,List.flatMap_cons,List.flatMap_nil,List.append_nil,List.cons_append] at hE
  simp only[Wc.d]
  cases u2 with
  |en i=>
   simp only[Ta.d];walk_at "a1";simp only[df,dq];refine⟨true,by simp,?_⟩
   rw[if_pos rfl];refine⟨Pv (wcs W'),fun ρ' ω' h=>⟨_,by rw[gD];simp[wcs,Ta.size],h⟩,?_⟩
   walk_at "s1";simp only[df,dq];walk_at "a1";walk_at "s1";walk_at "s1";simp only[nG n12,mE n12];walk_at "a1";refine⟨jJ (m:=0) (by omega),?_⟩
   refine(iP _ _ _).mpr ⟨W',es++[.en i],_,_,_,_,_,rfl,by simp[Ta.d],hW',?_,?_,rfl⟩
   ·rw[←hE];simp[fN]
   ·simp[wcs,Ta.size] at hS ⊢;omega
  |nd hh ws a b=>
   simp only[Ta.d];have hE2:¬ (if hh then ("yes":Str) else ("no":Str))="end":=by cases hh<;>decide +kernel
   walk_at "a1";simp only[df,dq];refine⟨true,by simp,?_⟩
   rw[if_pos rfl];have lt:∀W2:List Wc,wcs W2<=a.size+b.size->∀ρ' ω',Pv (wcs (W'++W2)) ρ' ω'->∃m',m'<wcs (W'++[⟨.nd hh ws a b,q2⟩])/\Pv m' ρ' ω':=fun W2 h2 ρ' ω' h=>⟨_,by rw[gD,gD];simp only[wcs,Ta.size];omega,h⟩
   refine⟨fun ρ' ω'=>∃m',m'<wcs (W'++[⟨.nd hh ws a b,q2⟩])/\Pv m' ρ' ω',fun ρ' ω' h=>h,?_⟩;simp only[fN] at hE;refine iE fun N hN=>?_;walk_at "a1";simp only[df,dq];walk_at "a1";refine hN _ _ ?_;clear hN;refine iE fun N hN=>?_;walk_at "a1";simp only[hE2,if_false];refine hN _ _ ?_;clear hN;refine iE fun N hN=>?_;walk_at "a1";refine⟨hh,ws,a.d,b.d,q2,n,rfl,hn,hq2,?_⟩;walk_at "a1";refine hN _ _ ?_
   clear hN;walk_at "a1";refine⟨_,rfl,?_⟩
   have up:∀(W2:List Wc)(es2:List Ta)(v4 v5 v6 v7 v8:Option AV),wcs W2<=a.size+b.size->es2.length<=es.length+1->(∀e∈W2,e.u.ok n/\Ww n e.q)->es2++(W2.reverse.flatMap fun e=>fN e.u e.q)++(W'.reverse.flatMap fun e=>fN e.u e.q)=fN u q ->
     ∃m',m'<wcs (W'++[⟨.nd hh ws a b,q2⟩])/\Pv m' [some (.d (csD n q.1 q.2)),some (.d u.d),some (.r (.ref l1)),some (.r (.ref l2)),v4,v5,v6,v7,v8] (om2 ω l1 l2 (.own ((es2.map Ta.d).map AV.d)) (.own (((W'++W2).map Wc.d).map AV.d))):=fun W2 es2 v4 v5 v6 v7 v8 h1 h2 h3 h4=>
    lt W2 h1 _ _ ((iP _ _ _).mpr ⟨W'++W2,es2,_,_,_,_,_,rfl,rfl,fun e he=>(List.mem_append.mp he).elim (hW' e) (h3 e),by simpa using h4,by rw[gD];simp only[wcs,Ta.size] at hS;omega,rfl⟩)
   have s1:W'.length<sizeLine:=jJ (m:=0) (by omega)
   have s2:W'.length+1<sizeLine:=jJ (m:=0) (by simp only[wcs,Ta.size] at hS;have:=Ta.gO a;have:=Ta.gO b;omega)
   have s3:es.length<sizeLine:=jJ (m:=0) (by omega)
   cases hf:has (goF hh ws q2) with
   |false=>
    simp only[hf,if_false,Bool.false_eq_true] at hE;walk_at "ab";simp only[df,dq];walk_at "ab";refine⟨s1,?_⟩;have:=up [⟨b,q2⟩] es (some (AV.d (Ta.nd hh ws a b).d)) (some (.d (.tup (q2.1.map wdD)))) (some (.d (.tup (q2.2.map wdD)))) (some (.d (wwD (goF hh ws q2)))) (some (.d (wwD (goS hh ws q2)))) (by simp[wcs]) (by omega) (by simpa using⟨hu2.2.2,hq2⟩) (by rw[←hE];simp)
    simpa[Wc.d,Ta.d] using this
   |true=>
    simp only[hf,if_true] at hE;walk_at "ab";refine⟨_,rfl,?_⟩;walk_at "ab"
    cases hg:has (goS hh ws q2) with
    |false=>
     simp only[hg,if_false,Bool.false_eq_true] at hE;walk_at "ab";simp only[df,dq];walk_at "ab";refine⟨s1,?_⟩;have:=up [⟨a,q2⟩] es (some (AV.d (Ta.nd hh ws a b).d)) (some (.d (.tup (q2.1.map wdD)))) (some (.d (.tup (q2.2.map wdD)))) (some (.d (wwD (goF hh ws q2)))) (some (.d (wwD (goS hh ws q2)))) (by simp[wcs]) (by omega) (by simpa using⟨hu2.2.1,hq2⟩) (by rw[←hE];simp)
     simpa[Wc.d,Ta.d] using this
    |true=>
     simp only[hg,if_true] at hE;walk_at "ab";simp only[nG n12,mE n12];simp only[wwD];walk_at "ab";simp only[df,dq];walk_at "ab";refine⟨s3,s1,s2,?_⟩
     have:=up [⟨a,goF hh ws q2⟩,⟨b,goS hh ws q2⟩] (es ++ [.nd hh ws a b]) (some (AV.d (Ta.nd hh ws a b).d)) (some (.d (.tup (q2.1.map wdD)))) (some (.d (.tup (q2.2.map wdD)))) (some (.d (wwD (goF hh ws q2)))) (some (.d (wwD (goS hh ws q2)))) (by simp [wcs]) (by simp) (by
      intro e he;rcases List.mem_cons.mp he with rfl|h
      ·exact⟨hu2.2.1,hq2.f⟩
      ·rw[List.mem_singleton.mp h];exact⟨hu2.2.2,hq2.s⟩) (by rw[←hE];simp)
     simpa[Wc.d,Ta.d,wwD] using this
noncomputable def J2:ASp:=fun xs ω Q=>∃(n:Nat)(q:WW)(u:Ta),xs=[.d (csD n q.1 q.2),.d u.d]/\n<=5/\Ww n q/\u.ok n/\u.size<=400/\Q (.d (dO u q).d) ω
theorem J7(T:Txt K mg t):aA P w K mg base CX0 3 t.t5 t.ET ["case","talk"] (bo J2):=by
 have G_kept_upward:aA P w K mg base _ _ _ _ _ _:=Ha T
 refine T.Mt.okD tZ (fun xs ω Q h=>by obtain⟨n,q,u,rfl,_⟩:=h;rfl) (fun cdv A outer s H E hr=>⟨_,_,(ah (aJ (i:=2) tZ.nd rfl (Or.inl rfl) (cW ae))
   (ah (g6 PassesOwn.never rfl (cf K rfl (aj G_kept_upward (hr.mono (by omega)) (by rfl) T.uv T.ut T.uD .nil ax (aa (pv 0) (aa (pv 1) ae)))) (au (i:=3) tZ.nd rfl (Or.inl rfl)) (am (bT (aH (bh hr.Nw) (ar (ai K rfl) (pv 3) af (fun _ _=>rfl)) aK (aL _)) (am (b0 (ff PySem.F.plainAttrs_list PySem.F.slot_list_append PySem.F.type_list_append bf (pv 2) (aa (pv 3) ae)))) (ah (aJ (i:=4) tZ.nd rfl (Or.inl rfl) (jL PySem.F.plainAttrs_list PySem.F.slot_list_pop PySem.F.type_list_pop jI (pv 2)))
   (ah (aJ (i:=5) tZ.nd rfl (Or.inl rfl) (jL PySem.F.plainAttrs_list PySem.F.slot_list_pop PySem.F.type_list_pop jI (pv 2)))
   (am (b0 (ff PySem.F.plainAttrs_list PySem.F.slot_list_append PySem.F.type_list_append bf (pv 2) (bG (aQ (aa (ar (ai K rfl) (pv 3) af (fun _ _=>rfl)) (aa (ar (ai K rfl) (pv 3) af (fun _ _=>rfl)) (aa (pv 5) (aa (pv 4) ae))))) ae)))))))))
   (am (aB (ar (ai K rfl) (pv 2) af (fun _ _=>rfl)))))),(av (aN (jc ag) ao)
   (av (lp (dF (aq (ab ac (ab ac ag)))) ao (dX (aP (ap bq (ap aG ac ak) aX)) (c9 (bH ac (ab ac ag))) (av (aN (ny ac) ao)
   (av (aN (ny ac) ao)
   (c9 (bH ac (ab (a9 (ab (ap aG ac ak) (ab (ap aG ac ak) (ab ac (ab ac ag))))) ag)))))))
   (aO (ap aG ac ak)))),fun xs ω Q h=>?_⟩)
 obtain⟨n,q,u,rfl,hn,hq,hu,hsz,k⟩:=h;have hlen:=kC u q;have hw0:oQ (fN u q).reverse []=[dO u q]:=by have:=kj u q [] [];simpa[oQ] using this
 generalize hR:(fN u q).reverse=R at hw0;have hRl:R.length<=400:=by rw[←hR,List.length_reverse];omega
 walk_at "ab";intro l hl;refine⟨n,q,u,rfl,hn,hq,hu,hsz,?_⟩;rw[hR];walk_at "ab";refine pd (fun i ρ ω'=>∃(st:List Ta)(v3 v4 v5:Option AV),ρ=[some (.d (csD n q.1 q.2)),some (.d u.d),some (.r (.ref l)),v3,v4,v5]/\ω'=ω.put l (.own ((st.map Ta.d).map AV.d))/\st.length<=i/\oQ (R.drop i) st=[dO u q]) ⟨[],_,_,_,rfl,rfl,Nat.le_refl _,by simpa using hw0⟩ ?_ ?_
 ·rintro i d ρ ω' N hd ⟨st,v3,v4,v5,rfl,rfl,hst,hwk⟩ kN
  obtain⟨v,hv,rfl⟩:=dA hd;obtain⟨hi,ev⟩:=List.getElem?_eq_some_iff.mp hv;rw[List.drop_eq_getElem_cons hi,ev] at hwk;have hs1:st.length<sizeLine:=jJ (m:=0) (by omega)
  cases v with
  |en j=>
   simp only[Ta.d];walk_at "ab";exact⟨hs1,kN _ _ ⟨st++[.en j],_,_,_,rfl,by simp[Ta.d],by simp;omega,by simpa[oQ] using hwk⟩⟩
  |nd hh ws a b=>
   have hE2:¬ (if hh then ("yes":Str) else ("no":Str))="end":=by cases hh<;>decide +kernel
   rcases List.eq_nil_or_concat st with rfl|⟨st1,y,rfl⟩
   ·simp[oQ] at hwk
   rw[List.concat_eq_append] at *;rcases List.eq_nil_or_concat st1 with rfl|⟨st2,x,rfl⟩
   ·simp[oQ] at hwk
   rw[List.concat_eq_append] at *;simp only[Ta.d,List.map_append,List.map_cons,List.map_nil];walk_at "ab";simp only[hE2,if_false];simp only[List.length_append,List.length_cons,List.length_nil] at hst;refine⟨jJ (m:=0) (by omega),kN _ _ ⟨st2++[.nd hh ws x y],_,_,_,rfl,by simp[Ta.d],by simp;omega,by simpa[oQ] using hwk⟩⟩
 ·rintro ρ ω' ⟨st,v3,v4,v5,rfl,rfl,hst,hwk⟩
  rw[List.length_map,List.drop_length] at hwk;simp only[oQ] at hwk;subst hwk;walk_at "ab";rw[jF ((Ex.refl ω).new hl)];exact k
theorem fH{q:WW}:has q=true↔q.1≠[]/\q.2≠[]:=by
 unfold has;rw[Bool.and_eq_true];constructor
 ·rintro⟨a,b⟩
  exact⟨fun e=>by rw[e] at a;simp at a,fun e=>by rw[e] at b;simp at b⟩
 ·rintro⟨a,b⟩
  exact⟨by cases h:q.1<;>simp_all,by cases h:q.2<;>simp_all⟩
theorem j7:∀(u:Ta)(bs:List Int)(q:WW),has q=true->∀e∈bK bs q (dO u q),has e.q=true
 |.en i,bs,q,h,e,he=>by simp only[dO,bK,List.mem_singleton] at he;rw[he];exact h
 |.nd hh ws a b,bs,q,h,e,he=>by
  cases hF:has (goF hh ws q) with
  |false=>simp only[dO,hF,if_false,Bool.false_eq_true] at he;exact j7 b bs q h e he
  |true=>
   cases hS:has (goS hh ws q) with
   |false=>simp only[dO,hF,hS,if_true,if_false,Bool.false_eq_true] at he;exact j7 a bs q h e he
   |true=>
    simp only[dO,hF,hS,if_true,bK] at he;rcases List.mem_append.mp he with he|he
    ·exact j7 a _ _ hF e he
    ·exact j7 b _ _ hS e he
theorem Gw{h:Bool}{ws:List (List Int)}{q:WW}{y z:List Int}(hy:y∈q.1)(hz:z∈q.2):
  (Ta.bit y z h ws=true->y∈(goS h ws q).1/\z∈(goS h ws q).2)/\(Ta.bit y z h ws=false->y∈(goF h ws q).1/\z∈(goF h ws q).2):=by
 cases h<;>simp only[Ta.bit,goF,goS,if_true,if_false,Bool.false_eq_true,decide_eq_true_eq,decide_eq_false_iff_not,List.mem_filter,hy,hz,true_and,and_true,Bool.not_eq_true',imp_self,and_self]
theorem oq{y z:List Int}:∀(u:Ta)(q:WW),y∈q.1->z∈q.2->Ta.fin y z (dO u q)=Ta.fin y z u
 |.en i,q,hy,hz=>by simp[dO]
 |.nd hh ws a b,q,hy,hz=>by
  have h:has q=true:=fH.mpr ⟨List.ne_nil_of_mem hy,List.ne_nil_of_mem hz⟩;obtain⟨b1,b2⟩:=Gw (h:=hh) (ws:=ws) hy hz
  cases hF:has (goF hh ws q) with
  |false=>
   have hb:Ta.bit y z hh ws=true:=by
    cases e:Ta.bit y z hh ws with
    |true=>rfl
    |false=>
     have:=b2 e;have:has (goF hh ws q)=true:=fH.mpr ⟨List.ne_nil_of_mem this.1,List.ne_nil_of_mem this.2⟩;rw[hF] at this;cases this
   simp only[dO,hF,Ta.fin,hb,if_true,if_false,Bool.false_eq_true];exact oq b q hy hz
  |true=>
   cases hS:has (goS hh ws q) with
   |false=>
    have hb:Ta.bit y z hh ws=false:=by
     cases e:Ta.bit y z hh ws with
     |false=>rfl
     |true=>
      have:=b1 e;have:has (goS hh ws q)=true:=fH.mpr ⟨List.ne_nil_of_mem this.1,List.ne_nil_of_mem this.2⟩;rw[hS] at this;cases this
    simp only[dO,hF,hS,Ta.fin,hb,if_true,if_false,Bool.false_eq_true];exact oq a q hy hz
   |true=>
    simp only[dO,hF,hS,if_true,Ta.fin]
    cases e:Ta.bit y z hh ws with
    |true=>simp only[if_true];exact oq b _ (b1 e).1 (b1 e).2
    |false=>simp only[if_false,Bool.false_eq_true];exact oq a _ (b2 e).1 (b2 e).2
noncomputable def Hd(b:Bool)(q:WW)(i:Nat):Bool:=(prl q.1 q.2).all fun p=>ppB b p.1 p.2 i
theorem Ki{h:Bool}{ws:List (List Int)}{q:WW}{y z:List Int}:
  (Ta.bit y z h ws=true->¬ (y∈(goF h ws q).1/\z∈(goF h ws q).2))/\(Ta.bit y z h ws=false->¬ (y∈(goS h ws q).1/\z∈(goS h ws q).2)):=by
 cases h<;>simp only[Ta.bit,goF,goS,if_true,if_false,Bool.false_eq_true,decide_eq_true_eq,decide_eq_false_iff_not,List.mem_filter,Bool.not_eq_true']
 ·exact⟨fun h1 h2=>h2.2.2 h1,fun h1 h2=>h1 h2.2.2⟩
 ·exact⟨fun h1 h2=>h2.1.2 h1,fun h1 h2=>h1 h2.1.2⟩
theorem Kb{h:Bool}{ws:List (List Int)}{q:WW}:((∀v∈(goF h ws q).1,v∈q.1)/\∀v∈(goF h ws q).2,v∈q.2)/\((∀v∈(goS h ws q).1,v∈q.1)/\∀v∈(goS h ws q).2,v∈q.2):=by
 cases h<;>simp only[goF,goS,if_true,if_false,Bool.false_eq_true,List.mem_filter]<;>exact⟨⟨fun v hv=>by first|exact hv|exact hv.1,fun v hv=>by first|exact hv|exact hv.1⟩,fun v hv=>by first|exact hv|exact hv.1,fun v hv=>by first|exact hv|exact hv.1⟩
theorem oN:∀ {u:Ta} {bs:List Int} {q:WW} {e:En},e∈bK bs q u->(∀v∈e.q.1,v∈q.1)/\∀v∈e.q.2,v∈q.2
 |.en i,bs,q,e,h=>by simp only[bK,List.mem_singleton] at h;subst h;exact⟨fun _ h=>h,fun _ h=>h⟩
 |.nd hh ws a b,bs,q,e,h=>by
  obtain⟨⟨f1,f2⟩,s1,s2⟩:=Kb (h:=hh) (ws:=ws) (q:=q);rcases List.mem_append.mp h with h|h
  ·obtain⟨h1,h2⟩:=oN h
   exact⟨fun v hv=>f1 v (h1 v hv),fun v hv=>f2 v (h2 v hv)⟩
  ·obtain⟨h1,h2⟩:=oN h
   exact⟨fun v hv=>s1 v (h1 v hv),fun v hv=>s2 v (h2 v hv)⟩
theorem xc{n:Nat}:∀ {u:Ta} {bs:List Int} {q:WW} {e:En},u.ok n->Ww n q->e∈bK bs q u->(0<=e.at_/\e.at_<n)/\Ww n e.q
 |.en i,bs,q,e,hu,hq,h=>by simp only[bK,List.mem_singleton] at h;subst h;exact⟨hu,hq⟩
 |.nd hh ws a b,bs,q,e,hu,hq,h=>by
  rcases List.mem_append.mp h with h|h
  ·exact xc hu.2.1 hq.f h
  ·exact xc hu.2.2 hq.s h
noncomputable def inE(y z:List Int)(e:En):Bool:=decide (y∈e.q.1) && decide (z∈e.q.2)
theorem oK{y z:List Int}:∀(u:Ta)(bs:List Int)(q:WW),y∈q.1->z∈q.2->∃e:En,(bK bs q u).filter (inE y z)=[e]/\e.bits=bs++Ta.way y z u/\e.at_=Ta.fin y z u/\inE y z e=true
 |.en i,bs,q,hy,hz=>by
  have:inE y z ⟨bs,i,q⟩=true:=by simp[inE,hy,hz]
  exact⟨⟨bs,i,q⟩,by simp[bK,this],by simp[Ta.way],rfl,this⟩
 |.nd hh ws a b,bs,q,hy,hz=>by
  obtain⟨b1,b2⟩:=Gw (h:=hh) (ws:=ws) hy hz;obtain⟨c1,c2⟩:=Ki (h:=hh) (ws:=ws) (q:=q) (y:=y) (z:=z)
  have nil:∀(v:Ta)(cs:List Int)(q':WW),¬ (y∈q'.1/\z∈q'.2)->(bK cs q' v).filter (inE y z)=[]:=fun v cs q' hn=>List.filter_eq_nil_iff.mpr fun e he=>by
   obtain⟨h1,h2⟩:=oN he;simp only[inE,Bool.and_eq_true,decide_eq_true_eq];exact fun⟨g1,g2⟩=>hn ⟨h1 y g1,h2 z g2⟩
  simp only[bK,List.filter_append]
  cases hb:Ta.bit y z hh ws with
  |true=>
   obtain⟨m1,m2⟩:=b1 hb;obtain⟨e,h1,h2,h3,h4⟩:=oK b (bs++[1]) _ m1 m2;refine⟨e,by rw[nil a _ _ (c1 hb),h1];rfl,?_,?_,h4⟩
   ·rw[h2];simp[Ta.way,hb]
   ·rw[h3];simp[Ta.fin,hb]
  |false=>
   obtain⟨m1,m2⟩:=b2 hb;obtain⟨e,h1,h2,h3,h4⟩:=oK a (bs++[0]) _ m1 m2;refine⟨e,by rw[nil b _ _ (c2 hb),h1];rfl,?_,?_,h4⟩
   ·rw[h2];simp[Ta.way,hb]
   ·rw[h3];simp[Ta.fin,hb]
theorem o0{ys zs:List (List Int)}{y z:List Int}:(y,z)∈prl ys zs↔y∈ys/\z∈zs:=by
 constructor
 ·intro h;exact oB h
 ·rintro⟨hy,hz⟩
  unfold prl;exact List.mem_flatMap.mpr ⟨y,hy,List.mem_map.mpr ⟨z,hz,rfl⟩⟩
theorem C8(b:Bool)(u:Ta)(q:WW):((prl q.1 q.2).find? (fau b u)).isNone=((bK [] q u).filter fun e=>has e.q).all fun e=>Hd b e.q e.at_.toNat:=by
 rw[Bool.eq_iff_iff,Option.isNone_iff_eq_none,List.find?_eq_none,List.all_eq_true];constructor
 ·intro h e he
  obtain⟨he,hh⟩:=List.mem_filter.mp he;unfold Hd;rw[List.all_eq_true];rintro⟨y,z⟩ hp;obtain⟨hy,hz⟩:=o0.mp hp;obtain⟨s1,s2⟩:=oN he;obtain⟨e',h1,_,h3,_⟩:=oK u [] q (s1 y hy) (s2 z hz);have:e∈(bK [] q u).filter (inE y z):=List.mem_filter.mpr ⟨he,by simp[inE,hy,hz]⟩
  rw[h1,List.mem_singleton] at this;subst this;have:=h (y,z) (o0.mpr ⟨s1 y hy,s2 z hz⟩);rw[h3];simpa[fau] using this
 ·rintro h ⟨y,z⟩ hp
  obtain⟨hy,hz⟩:=o0.mp hp;obtain⟨e,h1,_,h3,h4⟩:=oK u [] q hy hz;have he:e∈(bK [] q u).filter (inE y z):=by rw[h1];simp
  simp only[inE,Bool.and_eq_true,decide_eq_true_eq] at h4;have:=h e (List.mem_filter.mpr ⟨(List.mem_filter.mp he).1,fH.mpr ⟨List.ne_nil_of_mem h4.1,List.ne_nil_of_mem h4.2⟩⟩);unfold Hd at this;rw[List.all_eq_true] at this;have:=this (y,z) (o0.mpr h4);rw[h3] at this;simp[fau,this]
theorem FD(b:Bool)(u:Ta)(q:WW):((prl q.1 q.2).find? (fau b (dO u q))).isNone=((prl q.1 q.2).find? (fau b u)).isNone:=by
 rw[Bool.eq_iff_iff,Option.isNone_iff_eq_none,Option.isNone_iff_eq_none,List.find?_eq_none,List.find?_eq_none]
 have:∀p∈prl q.1 q.2,fau b (dO u q) p=fau b u p:=fun p hp=>by
  obtain⟨hy,hz⟩:=oB hp;simp only[fau,oq u q hy hz]
 exact⟨fun h p hp=>by rw[←this p hp];exact h p hp,fun h p hp=>by rw[this p hp];exact h p hp⟩
noncomputable def de:WW->Ta->Sy
 |q,.en i=>.is i ((q.1.headD []).getD i.toNat 0)
 |q,.nd h ws l r=>.jn (!h) (de (goF h ws q) l) (de (goS h ws q) r)
noncomputable def Bs(e:En):Sy:=.is e.at_ ((e.q.1.headD []).getD e.at_.toNat 0)
noncomputable def tU:List Ta->List Sy->List Sy->Option (List Sy)
 | [],st,_=>some st
 |.en _::r,st,x::W=>tU r (x::st) W
 |.nd h _ _ _::r,b::a::st,W=>tU r (.jn (!h) a b::st) W
 |_,_,_=>none
noncomputable def Ta.post:Ta->List Ta
 |.en i=>[.en i]
 |.nd h ws l r=>Ta.post l++Ta.post r++[.nd h ws l r]
theorem w9:∀u:Ta,(cu u).post.map Tr.d=(Ta.post u).map Ta.d
 |.en i=>rfl
 |.nd h ws l r=>by
  have e:(cu (.nd h ws l r)).d=(Ta.nd h ws l r).d:=nM _;simp only[cu,Tr.post,Ta.post,List.map_append,w9 l,w9 r,List.map_cons,List.map_nil];simp only[cu] at e;rw[e]
theorem l8:∀u:Ta,(Ta.post u).length=u.size
 |.en i=>rfl
 |.nd h ws l r=>by simp[Ta.post,Ta.size,l8 l,l8 r];omega
theorem tz:∀(u:Ta)(bs:List Int)(q:WW)(r:List Ta)(st W:List Sy),tU (Ta.post u++r) st ((bK bs q u).map Bs++W)=tU r (de q u::st) W
 |.en i,bs,q,r,st,W=>rfl
 |.nd h ws a b,bs,q,r,st,W=>by
  simp only[Ta.post,bK,List.map_append,List.append_assoc];rw[tz a,tz b];rfl
theorem BE:∀u:Ta,u.dp<=u.size
 |.en i=>Nat.zero_le _
 |.nd h ws l r=>by
  have:=BE l;have:=BE r;simp only[Ta.dp,Ta.size];omega
theorem Hi{n:Nat}{e:En}(hw:Ww n e.q)(h0:0<=e.at_)(h1:e.at_<n)(hh:has e.q=true):∃y ys,e.q.1=y::ys/\atI (((y.map D.int)).map AV.d) e.at_=some (.d (.int (y.getD e.at_.toNat 0))):=by
 obtain⟨h2,_⟩:=fH.mp hh;obtain⟨y,ys,ey⟩:=List.exists_cons_of_ne_nil h2;have hl:y.length=n:=(cK (hw.1.2 y (by rw[ey];exact List.mem_cons_self ..))).1
 obtain⟨z,mz,hz,ez⟩:=mS (f:=AV.d ∘ D.int) (xs:=y) h0 (by omega)
 refine⟨y,ys,ey,?_⟩;rw[List.map_map,ez,List.getD_eq_getElem?_getD,hz];rfl
noncomputable def Bc:ASp:=fun xs ω Q=>∃(n:Nat)(q:WW)(u:Ta),xs=[.d (csD n q.1 q.2),.d u.d]/\n<=5/\Ww n q/\has q=true/\u.ok n/\u.size<=400/\((prl q.1 q.2).find? (fau false u)).isNone=true/\Q (.d (de q (dO u q)).d) ω
theorem Hh(T:Txt K mg t):aA P t.wo K mg base CX0 4 t.ek t.lN ["case","talk"] (bo Bc):=by
 have G_lets_by:aA P t.wo K mg base _ _ _ _ _ _:=we T;have G_cut:aA P t.wo K mg base _ _ _ _ _ _:=J7 T;have G_ends_of:aA P t.wo K mg base _ _ _ _ _ _:=Hz T;have G_upward:aA P t.wo K mg base _ _ _ _ _ _:=nU T
 refine T.yI.okD cP (fun xs ω Q h=>by obtain ⟨n,q,u,rfl,_⟩:=h;rfl) (fun cdv A outer s H E hr=>⟨_,_,(ah (bT (jj (bO K rfl (aj G_lets_by (hr.mono (by omega)) (by rfl) T.im T.iq T.ig .nil ax (aa (pv 0) (aE aK (aa (pv 1) ae)))) (fun _=>rfl))) (am y4) bb)
   (ah (aJ (i:=2) cP.nd rfl (Or.inl rfl) (aj G_cut (hr.mono (by omega)) (by rfl) T.Lz T.LI T.Mh .nil ax (aa (pv 0) (aa (pv 1) ae))))
   (ah (wY (i:=3) cP.nd rfl (Or.inl rfl) (N:=(["bits","place","yes","no"] : List Str)) (src:=[none,none,none,none]) rfl (by show cX _ (defScope jr) _ _ (["case","talk","kept","leaves","waiting","done","part","other","one"] : List Str) = true;decide +kernel) (by intro g' h;cases h) (cf K rfl (aj G_ends_of (hr.mono (by omega)) (by rfl) T.CU T.C0 T.DE .nil ax (aa (pv 0) (aa (pv 2) ae)))) (fun _ _ _ _ _ _=>(cI K rfl (n:=4) rfl (aF (au (i:=0) (show (["bits","place","yes","no"] : List Str).Nodup by decide +kernel) rfl (Or.inl rfl)) (aF (au (i:=1) (show (["bits","place","yes","no"] : List Str).Nodup by decide +kernel) rfl (Or.inl rfl)) (aF (au (i:=2) (show (["bits","place","yes","no"] : List Str).Nodup by decide +kernel) rfl (Or.inl rfl)) (aF (au (i:=3) (show (["bits","place","yes","no"] : List Str).Nodup by decide +kernel) rfl (Or.inl rfl)) cH)))))) (fun _ _ _ _ _ _=>dU) (fun _ _ _ _ _ _=>(bM rfl rfl (aQ (aE aK (aa (pv 1) (aa (ar (ai K rfl) (ar (ai K rfl) (pv 2) af (fun _ _=>rfl)) (pv 1) (fun _ _=>rfl)) ae)))))))
   (ah (aJ (i:=4) cP.nd rfl (Or.inl rfl) (zv K rfl (pv 3) (uY p7 af)))
   (ah (aJ (i:=5) cP.nd rfl (Or.inl rfl) (cW ae))
   (ah (g6 PassesOwn.never rfl (cf K rfl (aj G_upward (hr.mono (by omega)) (by rfl) T.ub T.tQ T.sq .nil ax (aa (pv 2) (aE aK ae)))) (au (i:=6) cP.nd rfl (Or.inl rfl)) (am (bT (aH (bh hr.Nw) (ar (ai K rfl) (pv 6) af (fun _ _=>rfl)) aK (aL _)) (am (b0 (ff PySem.F.plainAttrs_list PySem.F.slot_list_append PySem.F.type_list_append bf (pv 5) (aa (jL PySem.F.plainAttrs_list PySem.F.slot_list_pop PySem.F.type_list_pop jI (pv 4)) ae)))) (ah (aJ (i:=7) cP.nd rfl (Or.inl rfl) (jL PySem.F.plainAttrs_list PySem.F.slot_list_pop PySem.F.type_list_pop jI (pv 5)))
   (ah (aJ (i:=8) cP.nd rfl (Or.inl rfl) (jL PySem.F.plainAttrs_list PySem.F.slot_list_pop PySem.F.type_list_pop jI (pv 5)))
   (am (b0 (ff PySem.F.plainAttrs_list PySem.F.slot_list_append PySem.F.type_list_append bf (pv 5) (bG (aQ (aa (wr T.sJ (oy (v:=.ref t.cz) rfl T.tS rfl) (ar (ai K rfl) (pv 6) af (fun _ _=>rfl)) (fun _ _=>rfl)) (aa (pv 8) (aa (pv 7) ae)))) ae)))))))))
   (am (aB (ar (ai K rfl) (pv 5) af (fun _ _=>rfl)))))))))),(av (dX (lP (iW (aq (ab ac (ab aX (ab ac ag)))))) Ct bE)
   (av (aN (aq (ab ac (ab ac ag))) ao)
   (av (aN (cL (dF (aq (ab ac (ab ac ag)))) (fW (aV ao (aV ao (aV ao (aV ao fV))))) oR (cM (a9 (ab aX (ab ac (ab (ap aG (ap aG ac ak) ac) ag)))))) ao)
   (av (aN (Ko ac) ao)
   (av (aN (jc ag) ao)
   (av (lp (dF (aq (ab ac (ab aX ag)))) ao (dX (aP (ap bq (ap aG ac ak) aX)) (c9 (bH ac (ab (ny ac) ag))) (av (aN (ny ac) ao)
   (av (aN (ny ac) ao)
   (c9 (bH ac (ab (a9 (ab (Ay (ap aG ac ak)) (ab ac (ab ac ag)))) ag)))))))
   (aO (ap aG ac ak)))))))),fun xs ω Q h=>?_⟩)
 obtain⟨n,q,u,rfl,hn,hq,hh,hu,hsz,hlet,k⟩:=h;have hudp:=BE u;walk_at "s1";refine⟨false,n,q.1,q.2,u,rfl,⟨hn,hu,by omega,hq.1,hq.2⟩,?_⟩
 rw[hlet];walk_at "s1";refine⟨n,q,u,rfl,hn,hq,hu,hsz,?_⟩;obtain⟨co,cd,cs⟩:=jv q hu;have ce:=j7 u [] q hh;generalize dO u q=v at *;have hvd:=BE v;walk_at "s1";refine⟨n,q,v,rfl,hn,hq,co,by omega,by omega,?_⟩
 have hel:=qA v [] q;have hvl:=Ta.gO v;walk_at "a1";refine px (rs:=((bK [] q v).map Bs).map Sy.d) (fun ρ=>∃v0 v1 v2 v3,ρ=[v0,v1,v2,v3]) ⟨_,_,_,_,rfl⟩ (by simp) (Nat.le_of_lt (bu (by simp;omega))) (fun i a r ρ N h1 h2 hR hN=>?_) (fun ρ hR=>⟨_,a8 _,?_⟩)
 ·obtain⟨v0,v1,v2,v3,rfl⟩:=hR
  simp only[List.map_map,List.getElem?_map,Option.map_eq_some_iff] at h1 h2;obtain⟨e,he,rfl⟩:=h1;obtain⟨e',he',rfl⟩:=h2;rw[he] at he';cases he';have hm:=List.mem_of_getElem? he;obtain⟨⟨a0,a1⟩,aw⟩:=xc co hq hm;obtain⟨y,ys,ey,ea⟩:=Hi aw a0 a1 (ce e hm);simp only[Function.comp_apply,En.d];walk_at "a1";refine hN _ ⟨_,_,_,_,rfl⟩ fun Q1 q1=>?_;simp only[Bs,Function.comp_apply] at q1;rw[ey] at q1 ⊢
  simp only[List.map_cons,wdD];walk_at "a1";exact⟨_,ea,_,rfl,q1⟩
 walk_at "s1";have hE:=tz v [] q [] [] [];rw[List.append_nil,List.append_nil] at hE;generalize hL:(bK [] q v).map Bs=L at hE;have hLl:L.length=v.lvs:=by rw[←hL,List.length_map,hel]
 have hpo:=l8 v;intro lw hlw;walk_at "s1";intro ld hld;obtain⟨hne,hld0⟩:=pj hld;walk_at "s1";refine⟨cu v,"end",by rw[nM],m5 v,by rw[(pY v).1];omega,?_⟩
 rw[w9];generalize hR:Ta.post v=R at *;walk_at "a1";have ow0:((ω.put lw (OC.own (List.map AV.d (List.map Sy.d L).reverse))).put ld (OC.own []))=om2 ω lw ld (.own ((L.reverse.map Sy.d).map AV.d)) (.own ((([]:List Sy).reverse.map Sy.d).map AV.d)):=by rw[om2,←List.map_reverse];rfl
 rw[ow0];refine pd (fun i ρ ω'=>∃(st W:List Sy)(v6 v7 v8:Option AV),ρ=[some (AV.d (csD n q.fst q.snd)),some (AV.d u.d),some (AV.d v.d),some (AV.d (D.lst (List.map Sy.d L))),some (AV.r (V.ref lw)),some (AV.r (V.ref ld)),v6,v7,v8]/\ω'=om2 ω lw ld (.own ((W.reverse.map Sy.d).map AV.d)) (.own ((st.reverse.map Sy.d).map AV.d))/\st.length<=i/\tU (R.drop i) st W=some [de q v]) ⟨[],L,_,_,_,rfl,rfl,Nat.le_refl _,by rw[List.drop_zero,hE];rfl⟩ ?_ ?_
 ·rintro i d ρ ω' N hd ⟨st,W,v6,v7,v8,rfl,rfl,hst,hwk⟩ kN
  obtain⟨e,hv,rfl⟩:=dA hd;obtain⟨hi,ev⟩:=List.getElem?_eq_some_iff.mp hv;rw[List.drop_eq_getElem_cons hi,ev] at hwk;have hs1:st.length<sizeLine:=mh (by omega)
  cases e with
  |en j=>
   cases W with
   |nil=>simp[tU] at hwk
   |cons x W=>
    simp only[Ta.d];walk_at "a1";rw[nG hne.symm];have eW:((x::W).reverse.map Sy.d).map AV.d=(W.reverse.map Sy.d).map AV.d++[.d x.d]:=by simp
    refine⟨⟨_,df⟩,_,rfl,.d x.d,by rw[eW];simp,(st.reverse.map Sy.d).map AV.d,by rw[mE hne.symm,df],by simp;omega,?_⟩
    rw[eW,List.dropLast_concat,mE hne.symm,dq];exact kN _ _ ⟨x::st,W,_,_,_,rfl,by simp,by simp;omega,by simpa[tU] using hwk⟩
  |nd hh ws a b=>
   have hE2:¬ (if hh then ("yes":Str) else ("no":Str))="end":=by cases hh<;>decide +kernel
   rcases st with _|⟨y,_|⟨x,st⟩⟩
   ·simp[tU] at hwk
   ·simp[tU] at hwk
   have eS:((y::x::st).reverse.map Sy.d).map AV.d=((st.reverse.map Sy.d).map AV.d++[.d x.d])++[.d y.d]:=by simp
   have eS2:((y::x::st).reverse.map Sy.d).map AV.d=((st.reverse.map Sy.d).map AV.d++[.d x.d])++[.d y.d]:=eS;simp only[Ta.d];rw[eS];walk_at "a1";simp only[hE2,if_false];refine xC rfl df ?_;rw[dq];refine xC rfl df ?_;rw[dq];simp only[List.set_cons_zero,List.set_cons_succ];have hl:((st.reverse.map Sy.d).map AV.d).length<sizeLine:=mh (by simp at hst ⊢;omega)
   have fin:=kN [some (AV.d (csD n q.fst q.snd)),some (AV.d u.d),some (AV.d v.d),some (AV.d (D.lst (List.map Sy.d L))),some (AV.r (V.ref lw)),some (AV.r (V.ref ld)),some (AV.d (Ta.nd hh ws a b).d),some (.d y.d),some (.d x.d)] _ ⟨.jn (!hh) x y::st,W,_,_,_,rfl,rfl,by simp at hst ⊢;omega,by simpa[tU] using hwk⟩
   cases hh
   ·walk_at "a1"
    refine⟨⟨_,df⟩,V.str (Str.ofString "and"),by kernel_rfl,D.str (Str.ofString "and"),rfl,_,df,hl,?_⟩
    rw[dq];simpa[Sy.d,Ta.d] using fin
   ·walk_at "a1"
    refine⟨⟨_,df⟩,V.str (Str.ofString "or"),by kernel_rfl,D.str (Str.ofString "or"),rfl,_,df,hl,?_⟩
    rw[dq];simpa[Sy.d,Ta.d] using fin
 ·rintro ρ ω' ⟨st,W,v6,v7,v8,rfl,rfl,hst,hwk⟩
  rw[List.length_map,List.drop_length] at hwk;simp only[tU,Option.some.injEq] at hwk;subst hwk;dsimp only;walk_at "a1";rw[df];refine⟨_,rfl,_,rfl,_,rfl,?_⟩;rw[om2,jF (((Ex.refl ω).new hlw).new (by rw[Om.Nt hne];exact hld0))]
  exact k
theorem ka:∀(u:Ta)(bs bs':List Int)(q:WW),∀e∈bK bs q u,∃e'∈bK bs' q u,e'.q=e.q/\e'.at_=e.at_
 |.en i,bs,bs',q,e,he=>by
  simp only[bK,List.mem_singleton] at he;subst he;exact⟨⟨bs',i,q⟩,by simp[bK],rfl,rfl⟩
 |.nd h ws a b,bs,bs',q,e,he=>by
  simp only[bK] at he ⊢;rcases List.mem_append.mp he with he|he
  ·obtain⟨e',h1,h2⟩:=ka a _ (bs'++[0]) _ e he
   exact⟨e',List.mem_append_left _ h1,h2⟩
  ·obtain⟨e',h1,h2⟩:=ka b _ (bs'++[1]) _ e he
   exact⟨e',List.mem_append_right _ h1,h2⟩
noncomputable def kT(b:Bool)(q:WW)(v:Ta):Prop:=∀bs,∀e∈bK bs q v,has e.q=true/\∀y∈e.q.1,∀z∈e.q.2,ppB b y z e.at_.toNat=true
theorem kT.nd{b:Bool}{q:WW}{h:Bool}{ws:List (List Int)}{l r:Ta}(x:kT b q (.nd h ws l r)):kT b (goF h ws q) l/\kT b (goS h ws q) r:=by
 constructor
 ·intro bs e he
  have:=ka l bs ([]++[0]) (goF h ws q) e he;obtain⟨e',he',e1,e2⟩:=this;obtain⟨z1,z2⟩:=x [] e' (by simp only[bK];exact List.mem_append_left _ he')
  rw[e1] at z1 z2;rw[e2] at z2;exact⟨z1,z2⟩
 ·intro bs e he
  have:=ka r bs ([]++[1]) (goS h ws q) e he;obtain⟨e',he',e1,e2⟩:=this;obtain⟨z1,z2⟩:=x [] e' (by simp only[bK];exact List.mem_append_right _ he')
  rw[e1] at z1 z2;rw[e2] at z2;exact⟨z1,z2⟩
theorem oA{n:Nat}:∀(v:Ta)(q:WW),Ww n q->kT false q v->(∀y∈q.1,(de q v).val y=true)/\∀z∈q.2,(de q v).val z=false
 |.en i,q,hw,ho=>by
  obtain⟨h1,h2⟩:=ho [] ⟨[],i,q⟩ (by simp[bK])
  obtain⟨h3,h4⟩:=fH.mp h1;obtain⟨y0,ys,ey⟩:=List.exists_cons_of_ne_nil h3;have ey:q.1=y0::ys:=ey;obtain⟨z0,zs,ez⟩:=List.exists_cons_of_ne_nil h4;have m0:y0∈q.1:=by rw[ey];exact List.mem_cons_self ..
  have k0:z0∈q.2:=by rw[ez];exact List.mem_cons_self ..
  have pp:∀y∈q.1,∀z∈q.2,y.getD i.toNat 0≠z.getD i.toNat 0:=fun y hy z hz=>by
   have:=h2 y hy z hz;simpa[ppB] using this
  simp only[de,Sy.val,ey,List.headD_cons];refine⟨fun y hy=>?_,fun z hz=>?_⟩
  ·rw[←ey] at hy
   have a1:=pp y hy z0 k0;have a2:=pp y0 m0 z0 k0;rcases mf (hw.1.2 y hy) i.toNat with b1|b1<;>rcases mf (hw.1.2 y0 m0) i.toNat with b2|b2<;>rcases mf (hw.2.2 z0 k0) i.toNat with b3|b3<;>simp_all
  ·have a1:=pp y0 m0 z hz
   simpa using Ne.symm a1
 |.nd h ws l r,q,hw,ho=>by
  obtain⟨o1,o2⟩:=ho.nd;obtain⟨a1,a2⟩:=oA l _ hw.f o1;obtain⟨b1,b2⟩:=oA r _ hw.s o2
  cases h with
  |true=>
   simp only[goF,goS,if_true] at a1 a2 b1 b2;simp only[de,Bool.not_true,Sy.val,Bool.false_eq_true,if_false];simp only[goF,goS,if_true];refine⟨fun y hy=>?_,fun z hz=>by rw[a2 z hz,b2 z hz];rfl⟩
   by_cases hm:y∈ws
   ·rw[b1 y (List.mem_filter.mpr ⟨hy,by simpa using hm⟩),Bool.or_true]
   ·rw[a1 y (List.mem_filter.mpr ⟨hy,by simpa using hm⟩),Bool.true_or]
  |false=>
   simp only[goF,goS,if_false,Bool.false_eq_true] at a1 a2 b1 b2;simp only[de,Bool.not_false,Sy.val,if_true];simp only[goF,goS,if_false,Bool.false_eq_true];refine⟨fun y hy=>by rw[a1 y hy,b1 y hy];rfl,fun z hz=>?_⟩
   by_cases hm:z∈ws
   ·rw[b2 z (List.mem_filter.mpr ⟨hz,by simpa using hm⟩),Bool.and_false]
   ·rw[a2 z (List.mem_filter.mpr ⟨hz,by simpa using hm⟩),Bool.false_and]
theorem wx{n:Nat}:∀(v:Ta)(q:WW),Ww n q->v.ok n->(de q v).ok n/\(de q v).dp=v.dp/\(de q v).lvs=v.lvs
 |.en i,q,hw,ho=>by
  refine⟨⟨ho.1,ho.2,?_⟩,rfl,rfl⟩
  cases e:q.1 with
  |nil=>left;simp
  |cons y ys=>exact mf (hw.1.2 y (by rw[e];exact List.mem_cons_self ..)) i.toNat
 |.nd h ws l r,q,hw,ho=>by
  obtain⟨a1,a2,a3⟩:=wx l _ hw.f ho.2.1;obtain⟨b1,b2,b3⟩:=wx r _ hw.s ho.2.2;exact⟨⟨a1,b1⟩,by simp only[de,Sy.dp,Ta.dp,a2,b2],by simp only[de,Sy.lvs,Ta.lvs,a3,b3]⟩
theorem zN{b:Bool}{u:Ta}{q:WW}(hh:has q=true)(hl:((prl q.1 q.2).find? (fau b u)).isNone=true):kT b q (dO u q):=by
 intro bs e he;obtain⟨e',he',e1,e2⟩:=ka _ bs [] q e he;have h1:=j7 u [] q hh e' he';rw[←FD,C8,List.all_eq_true] at hl
 have h2:=hl e' (List.mem_filter.mpr ⟨he',h1⟩);rw[e1] at h1;refine⟨h1,fun y hy z hz=>?_⟩;rw[e1,e2] at h2;unfold Hd at h2;exact List.all_eq_true.mp h2 (y,z) (o0.mpr ⟨hy,hz⟩)
theorem AY:¬ Str.ofString "and"=Str.ofString "or":=by decide +kernel
noncomputable def agS:Sy->Sy
 |.is i b=>.is i (1-b)
 |.jn a l r=>.jn (!a) (agS l) (agS r)
noncomputable def Aq:ASp:=fun xs ω Q=>∃(x:Sy)(n:Nat),xs=[.d x.d]/\x.ok n/\x.dp<=15/\Q (.d (agS x).d) ω
noncomputable def ue(_:List AV):ASp:=fun xs ω Q=>∃(i b:Int),xs=[.d (Sy.is i b).d]/\Q (.d (Sy.is i (1-b)).d) ω
noncomputable def nK(_:List AV):ASp:=fun xs ω Q=>∃(a:Bool)(l r x y:D),xs=[.d (.tup [.str (if a then "and" else "or"),l,r]),.d x,.d y]/\Q (.d (.tup [.str (if !a then "and" else "or"),x,y])) ω
theorem tM(T:Txt K mg t):aA P t.wo K mg base CX0 6 t.dJ t.mN ["saying"] (bo Aq):=by
 have G_folded:∀b',aA P t.wo K mg b' CX0 4 t.cD t.dZ ["tree","leaf","of_leaf","of_fork"] (fP 1 P t.wo K mg b'):=fun b'=>jp 1 T;refine T.jd.okD Ac (fun xs ω Q h=>by obtain⟨x,n,rfl,_⟩:=h;rfl) (fun A outer s H E hr=>?_)
 refine⟨_,_,(am (aB (gR G_folded (hr.mono (by omega)) (by rfl) T.gX T.gW T.gU (aa (pv 0) (aE aK (aa (fx (x:="against") rfl rfl T.jd.tab T.jd.hd rfl) (aa (fx (x:="against") rfl rfl T.jd.tab T.jd.hd rfl) ae))))))),(aO (qv (j1:=[]) (j2:=[]) (s1:=ue) (s2:=nK) ?F0 ?F1 ac aX)),fun xs ω Q h=>?main⟩
 case F0=>
  intro b' H f σ caps cA L cb hc hl;obtain rfl:caps=[]:=List.length_eq_zero_iff.mp (hc.1);refine dP (ps:=["leaf"]) (cs:=[]) L ⟨rfl,rfl,rfl,by decide +kernel,by decide +kernel,by decide +kernel,by decide +kernel⟩ (Db b') (fun pm c ctv us hl=>match us,hl with | [_],_=>rfl) (fun xs ω Q h=>by obtain⟨i,b,rfl,_⟩:=h;rfl) (fun cd A outer s H hr=>⟨_,_,(aQ (aE aK (aa (ar (ai K rfl) (pv 0) af (fun _ _=>rfl)) (aa (be kU af (ar (ai K rfl) (pv 0) af (fun _ _=>rfl))) ae)))),(a9 (ab aX (ab (ap aG ac ak) (ab (ap lm ak (ap aG ac ak)) ag)))),fun xs ω Q h=>?_⟩)
  obtain⟨i,b,rfl,q⟩:=h;simp only[Sy.d] at q ⊢;walk_at "ab";exact q
 case F1=>
  intro b' H f σ caps cA L cb hc hl;obtain rfl:caps=[]:=List.length_eq_zero_iff.mp (hc.1);refine dP (ps:=["part","one","other"]) (cs:=[]) L ⟨rfl,rfl,rfl,by decide +kernel,by decide +kernel,by decide +kernel,by decide +kernel⟩ (Db b') (fun pm c ctv us hl=>match us,hl with | [_,_,_],_=>rfl) (fun xs ω Q h=>by obtain⟨a,l,r,x,y,rfl,_⟩:=h;rfl) (fun cd A outer s H hr=>⟨_,_,(aQ (aa (wr T.wt (oy (v:=.ref t.dw) rfl T.wy rfl) (ar (ai K rfl) (pv 0) af (fun _ _=>rfl)) (fun _ _=>rfl)) (aa (pv 1) (aa (pv 2) ae)))),(a9 (ab (Ay (ap aG ac ak)) (ab ac (ab ac ag)))),fun xs ω Q h=>?_⟩)
  obtain⟨a,l,r,x,y,rfl,q⟩:=h;walk_at "ab";cases a
  ·exact⟨.str "and",by rw[if_neg (by decide)];simp[so,AY],_,rfl,q⟩
  ·exact⟨.str "or",by rw[if_pos rfl];simp[so],_,rfl,q⟩
 case main=>
  obtain⟨x,n,rfl,hx,hd,k⟩:=h;walk_at "ab";refine⟨bL x,(lb x).symm,jt x,gn hd,fun e=>(agS (fT e)).d,[],rfl,[],rfl,fun q he ω1 Q1 h=>?_,fun q l r he ω1 Q1 h=>?_,?_⟩
  ·obtain⟨i,b,rfl,_⟩:=xT hx he
   exact⟨i,b,rfl,h⟩
  ·obtain⟨a,l',r',rfl,rfl,rfl⟩:=yb hx he
   have h:Q1 (.d (agS (fT (bL (.jn a l' r')))).d) ω1:=h;rw[eM] at h;show nK [] [_,.d (agS (fT (bL l'))).d,.d (agS (fT (bL r'))).d] ω1 Q1;rw[eM,eM];exact⟨a,(bL l').d,(bL r').d,_,_,rfl,h⟩
  ·rw[ay]
   show Q (.d (agS (fT (bL x))).d) ω;rw[eM];exact k
noncomputable def fg:ASp:=fun xs ω Q=>∃(h:D)(r:List D)(a b:D),xs=[.d (.tup (h::r)),.d a,.d b]/\Q (.d (.tup [h,a,b])) ω
theorem zg(T:Txt K mg t):aA P w K mg base CX0 1 t.cc t.og ["part","one","other"] (bo fg):=by
 refine T.sn.okD ym (fun xs ω Q h=>by obtain⟨h,r,a,b,rfl,_⟩:=h;rfl) (fun cdv A outer s H E hr=>⟨_,_,(am (aB (aQ (aa (ar (ai K rfl) (pv 0) af (fun _ _=>rfl)) (aa (pv 1) (aa (pv 2) ae)))))),(aO (a9 (ab (ap aG ac ak) (ab ac (ab ac ag))))),fun xs ω Q h=>?_⟩)
 obtain⟨h,r,a,b,rfl,k⟩:=h;walk_at "ab";rw[ay];exact k
theorem La:∀n:Fin 6,Ris (wl n.val):=by unfold Ris;decide +kernel
noncomputable def sb(n:Nat):Ta->Prop
 |.en i=>0<=i/\i<n
 |.nd _ ws l r=>ws.Sublist (wl n)/\sb n l/\sb n r
noncomputable def flW(S:List Int)(v:List Int):List Int:=v.mapIdx fun i b=>if (i:Int)∈S then 1-b else b
theorem hZ{S v:List Int}:(flW S v).length=v.length:=by simp[flW]
theorem oX{S v:List Int}{i:Nat}(h:i<v.length):(flW S v)[i]'(by rw[hZ];exact h)=if (i:Int)∈S then 1-v[i] else v[i]:=by simp[flW]
theorem vV{S v:List Int}:flW S (flW S v)=v:=by
 refine List.ext_getElem (by simp[hZ]) fun i h1 h2=>?_
 rw[oX (by rw[hZ];exact h2),oX h2]
 split<;>omega
theorem E1:∀n:Nat,∀v:List Int,v.length=n->(∀x∈v,x=0\/x=1)->v∈wl n:=fun n=>by
 induction n with
 |zero=>intro v hv _;rw[List.length_eq_zero_iff.mp hv];simp[wl]
 |succ n ih=>
  intro v hv hx;have hne:v≠[]:=fun e=>by rw[e] at hv;simp at hv
  have e:=List.dropLast_concat_getLast hne;have h1:=ih v.dropLast (by simp[hv]) fun x h=>hx x (List.dropLast_subset v h)
  rw[wl,List.mem_flatMap];refine⟨v.dropLast,h1,?_⟩;rcases hx _ (List.getLast_mem hne) with q|q
  ·rw[q] at e;rw[e];simp
  ·rw[q] at e;rw[e];simp
theorem HZ{n:Nat}(hn:n<=5){S v:List Int}(h:v∈wl n):flW S v∈wl n:=by
 obtain⟨h1,h2⟩:=cK h;refine E1 n _ (by rw[hZ];exact h1) fun x hx=>?_
 obtain⟨i,hi,rfl⟩:=List.getElem_of_mem hx;have hi':i<v.length:=by rw[hZ] at hi;exact hi
 rw[oX hi'];have:=h2 _ (List.getElem_mem hi');split<;>omega
noncomputable def flV(S:List Int)(ws:List (List Int)):List (List Int):=lr (ws.map (flW S))
theorem BL{n:Nat}(hn:n<=5){S:List Int}{ws:List (List Int)}(h:ws.Sublist (wl n)):flV S (flV S ws)=ws:=by
 refine wX ?_ ((La ⟨n,by omega⟩).sublist h)
 have p:=(gg (ws.map (flW S))).map (flW S);rw[List.map_map] at p;have e:(flW S ∘ flW S)=id:=funext fun v=>vV;rw[e,List.map_id] at p;exact p
noncomputable def flS(S:List Int):Sy->Sy
 |.is i b=>.is i (if i∈S then 1-b else b)
 |.jn a l r=>.jn a (flS S l) (flS S r)
theorem Ag{n:Nat}{S:List Int}:∀ {x:Sy},x.ok n->(flS S x).ok n
 |.is i b,⟨h1,h2,h3⟩=>⟨h1,h2,by split<;>omega⟩
 |.jn a l r,⟨h1,h2⟩=>⟨Ag h1,Ag h2⟩
theorem BA{S:List Int}:∀x:Sy,(flS S x).dp=x.dp/\(flS S x).lvs=x.lvs
 |.is i b=>⟨rfl,rfl⟩
 |.jn a l r=>by simp[flS,Sy.dp,Sy.lvs,BA l,BA r]
theorem xi{S:List Int}:∀x:Sy,flS S (flS S x)=x
 |.is i b=>by
  simp only[flS];by_cases h:i∈S
  ·simp only[h,if_true,Sy.is.injEq,true_and];omega
  ·simp only[h,if_false]
 |.jn a l r=>by simp[flS,xi l,xi r]
theorem zj(i:Int)(S:List Int):inD (.int i) (S.map D.int)=decide (i∈S):=by
 rw[Bool.eq_iff_iff,decide_eq_true_eq];constructor
 ·intro h
  simp only[inD,List.any_map,List.any_eq_true,Function.comp_apply,gJ,beq_iff_eq] at h;obtain⟨x,hx,rfl⟩:=h;exact hx
 ·intro h
  simp only[inD,List.any_map,List.any_eq_true,Function.comp_apply,gJ,beq_iff_eq];exact⟨i,h,rfl⟩
noncomputable def flT(S:List Int):Ta->Ta
 |.en i=>.en i
 |.nd y ws l r=>.nd y (flV S ws) (flT S l) (flT S r)
structure Pm(n:Nat)(o:List Int):Prop where
 len:o.length=n
 nd:o.Nodup
 rg:∀x∈o,0<=x/\x<n
theorem Pm.has{n:Nat}{o:List Int}(h:Pm n o){q:Nat}(hq:q<n):(q:Int)∈o:=by
 by_cases hm:(q:Int)∈o
 ·exact hm
 ·have hnd:((q:Int)::o).Nodup:=List.nodup_cons.mpr ⟨hm,h.nd⟩
  have:=hnd.length_le_of_subset (l₂:=(List.range n).map fun i:Nat=>(i:Int)) (fun i hi=>by
   rcases List.mem_cons.mp hi with rfl|hi
   ·exact List.mem_map.mpr ⟨q,List.mem_range.mpr hq,rfl⟩
   ·exact List.mem_map.mpr ⟨i.toNat,List.mem_range.mpr (by have:=h.rg i hi;omega),by have:=h.rg i hi;simp;omega⟩)
  simp[h.len] at this;omega
theorem Pm.ix{n:Nat}{o:List Int}(h:Pm n o){q:Nat}(hq:q<n):∃p,p<n/\o[p]?=some (q:Int):=by
 obtain⟨p,hp,e⟩:=List.getElem_of_mem (h.has hq);exact⟨p,by rw[←h.len];exact hp,by rw[List.getElem?_eq_getElem hp,e]⟩
theorem Pm.at'{n:Nat}{o:List Int}(h:Pm n o){p:Nat}(hp:p<n):∃a:Nat,o[p]?=some (a:Int)/\a<n:=by
 have hp':p<o.length:=by rw[h.len];exact hp
 obtain⟨h0,h1⟩:=h.rg _ (List.getElem_mem hp');obtain⟨a,ea⟩:=Int.eq_ofNat_of_zero_le h0;exact⟨a,by rw[List.getElem?_eq_getElem hp',ea],by omega⟩
noncomputable def mvW(o v:List Int):List Int:=(List.range v.length).map fun q:Nat=>v.getD (o.idxOf (q:Int)) 0
theorem w5{o v:List Int}:(mvW o v).length=v.length:=by simp[mvW]
theorem B2{n:Nat}{o v:List Int}(h:Pm n o)(hv:v.length=n){p a:Nat}(hp:o[p]?=some (a:Int)):(mvW o v)[a]?=v[p]?:=by
 have hpl:=(List.getElem?_eq_some_iff.mp hp).1;have hpn:p<n:=by rw[←h.len];exact hpl
 have ea:o[p]=(a:Int):=(List.getElem?_eq_some_iff.mp hp).2
 have han:a<v.length:=by
  have:=h.rg _ (List.getElem_mem hpl);rw[ea] at this;omega
 have hm:(a:Int)∈o:=by rw[←ea];exact List.getElem_mem hpl
 have hi:o.idxOf (a:Int)<o.length:=List.idxOf_lt_length_of_mem hm;have e1:o[o.idxOf (a:Int)]?=some (a:Int):=by rw[List.getElem?_eq_getElem hi,List.getElem_idxOf hi]
 have e2:o.idxOf (a:Int)=p:=IZ h.nd e1 hp;have hpv:p<v.length:=by omega
 rw[mvW,List.getElem?_map,List.getElem?_range han,Option.map_some,e2,List.getD_eq_getElem?_getD,List.getElem?_eq_getElem hpv];rfl
theorem Ml{n:Nat}{o v T:List Int}(h:Pm n o)(hv:v.length=n)(hT:T.length=n)(hh:∀p a:Nat,o[p]?=some (a:Int)->T[a]?=v[p]?):T=mvW o v:=by
 refine List.ext_getElem? fun q=>?_;by_cases hq:q<n
 ·obtain⟨p,hp,e⟩:=h.ix hq
  rw[hh p q e,B2 h hv e]
 ·rw[List.getElem?_eq_none (by omega),List.getElem?_eq_none (by rw[w5];omega)]
theorem JG{n:Nat}{o v v':List Int}(h:Pm n o)(hv:v.length=n)(hv':v'.length=n)(e:mvW o v=mvW o v'):v=v':=by
 refine List.ext_getElem? fun p=>?_;by_cases hp:p<n
 ·obtain⟨a,ea,_⟩:=h.at' hp
  rw[←B2 h hv ea,←B2 h hv' ea,e]
 ·rw[List.getElem?_eq_none (by omega),List.getElem?_eq_none (by omega)]
theorem G8{n:Nat}{o v T:List Int}(h:Pm n o)(hv:v.length=n)(hT:T.length=n){i a:Nat}(hi:o[i]?=some (a:Int)){x:Int}(hx:v[i]?=some x)(hh:∀p a:Nat,p<i->o[p]?=some (a:Int)->T[a]?=v[p]?):
  ∀p b:Nat,p<i+1->o[p]?=some (b:Int)->(T.set a x)[b]?=v[p]?:=fun p b hp e=>by
 have hil:=(List.getElem?_eq_some_iff.mp hi).1
 have han:a<n:=by
  have:=h.rg _ (List.getElem_mem hil);rw[(List.getElem?_eq_some_iff.mp hi).2] at this;omega
 by_cases hpi:p=i
 ·subst hpi
  rw[hi] at e;obtain rfl:a=b:=by have:=Option.some.inj e;omega
  rw[List.getElem?_set_self (by omega),hx]
 ·have hab:a≠b:=fun z=>by subst z;exact hpi (IZ h.nd e hi)
  rw[List.getElem?_set_ne hab];exact hh p b (by omega) e
theorem Id{n:Nat}{o v:List Int}(h:v∈wl n):mvW o v∈wl n:=by
 obtain⟨h1,h2⟩:=cK h;refine E1 n _ (by rw[w5];exact h1) fun x hx=>?_
 simp only[mvW,List.mem_map] at hx;obtain⟨q,hq,rfl⟩:=hx;rw[List.getD_eq_getElem?_getD]
 cases e:v[o.idxOf (q:Int)]? with
 |none=>exact .inl rfl
 |some y=>exact h2 y (List.mem_of_getElem? e)
noncomputable def mvV(o:List Int)(ws:List (List Int)):List (List Int):=lr (ws.map (mvW o))
noncomputable def mvS(o:List Int):Sy->Sy
 |.is i b=>.is (o.getD i.toNat 0) b
 |.jn a l r=>.jn a (mvS o l) (mvS o r)
noncomputable def mvT(o:List Int):Ta->Ta
 |.en i=>.en (o.getD i.toNat 0)
 |.nd y ws l r=>.nd y (mvV o ws) (mvT o l) (mvT o r)
theorem gd{o:List Int}{p a:Nat}(e:o[p]?=some (a:Int)):o.getD p 0=(a:Int):=by rw[List.getD_eq_getElem?_getD,e];rfl
theorem Pm.getD{n:Nat}{o:List Int}(h:Pm n o){i:Int}(h0:0<=i)(h1:i<n):∃p a:Nat,i=(p:Int)/\a<n/\o[p]?=some (a:Int)/\o.getD i.toNat 0=(a:Int):=by
 obtain⟨p,rfl⟩:=Int.eq_ofNat_of_zero_le h0;obtain⟨a,ea,ha⟩:=h.at' (p:=p) (by omega)
 exact⟨p,a,rfl,ha,ea,by rw[Int.toNat_natCast,List.getD_eq_getElem?_getD,ea];rfl⟩
theorem Aj{n:Nat}{o:List Int}(ho:Pm n o):∀ {x:Sy},x.ok n->(mvS o x).ok n
 |.is i b,⟨h1,h2,h3⟩=>by
  obtain⟨p,a,_,ha,_,e⟩:=ho.getD h1 h2;exact⟨by rw[e];omega,by rw[e];omega,h3⟩
 |.jn a l r,⟨h1,h2⟩=>⟨Aj ho h1,Aj ho h2⟩
theorem Cv{o:List Int}:∀x:Sy,(mvS o x).dp=x.dp/\(mvS o x).lvs=x.lvs
 |.is i b=>⟨rfl,rfl⟩
 |.jn a l r=>by simp[mvS,Sy.dp,Sy.lvs,Cv l,Cv r]
theorem Kx{i r:Nat}{o:List Int}(h:Pm i o):Pm (i+1) (o.take r++(i:Int)::o.drop r):=by
 have hp:(o.take r++(i:Int)::o.drop r).Perm ((i:Int)::o):=List.perm_middle.trans (by rw[List.take_append_drop])
 refine⟨by rw[hp.length_eq,List.length_cons,h.len],hp.nodup_iff.mpr (List.nodup_cons.mpr ⟨fun hm=>?_,h.nd⟩),fun x hx=>?_⟩
 ·have:=(h.rg _ hm).2
  omega
 ·rcases List.mem_cons.mp (hp.mem_iff.mp hx) with rfl|hx
  ·omega
  ·have:=h.rg x hx
   omega
theorem Jp{n:Nat}{o:List Int}(ho:Pm n o){i:Int}(h0:0<=i)(h1:i<n):atI ((o.map D.int).map AV.d) i=some (.d (.int (o.getD i.toNat 0))):=by
 obtain⟨p,a,rfl,ha,e1,e2⟩:=ho.getD h0 h1;rw[e2];exact lj p rfl (by simp[e1])
noncomputable def swT:Ta->Ta
 |.en i=>.en i
 |.nd y ws l r=>.nd (!y) ws (swT l) (swT r)
structure Cy(n:Nat)(f:List Int->List Int)(pl:Int->Int)(bt:Int->Int->Int):Prop where
 mem:∀v∈wl n,f v∈wl n
 inj:∀v∈wl n,∀u∈wl n,f v=f u->v=u
 get:∀v∈wl n,∀i:Int,0<=i->i<n->(f v).getD (pl i).toNat 0=bt i (v.getD i.toNat 0)
 bi:∀i b c,bt i b=bt i c->b=c
noncomputable def crV(f:List Int->List Int)(ws:List (List Int)):List (List Int):=lr (ws.map f)
noncomputable def crS(pl:Int->Int)(bt:Int->Int->Int):Sy->Sy
 |.is i b=>.is (pl i) (bt i b)
 |.jn a l r=>.jn a (crS pl bt l) (crS pl bt r)
noncomputable def crT(f:List Int->List Int)(pl:Int->Int):Ta->Ta
 |.en i=>.en (pl i)
 |.nd y ws l r=>.nd y (crV f ws) (crT f pl l) (crT f pl r)
section
variable{n:Nat}{f:List Int->List Int}{pl:Int->Int}{bt:Int->Int->Int}
theorem rH{ws:List (List Int)}{v:List Int}:v∈crV f ws↔∃u∈ws,f u=v:=by
 rw[crV,(gg _).mem_iff,List.mem_map]
theorem Cy.in(c:Cy n f pl bt){ws:List (List Int)}(h:∀w∈ws,w∈wl n){v:List Int}(hv:v∈wl n):f v∈crV f ws↔v∈ws:=by
 rw[rH];exact⟨fun⟨u,hu,e⟩=>c.inj u (h u hu) v hv e ▸ hu,fun h=>⟨v,h,rfl⟩⟩
theorem wf{ws:List (List Int)}:crV f ws=[]↔ws=[]:=by
 constructor
 ·intro e
  have:=(gg (ws.map f)).length_eq;rw[show lr (ws.map f)=[] from e] at this
  simpa using this.symm
 ·rintro rfl
  exact wX (List.Perm.refl _) List.Pairwise.nil
theorem kX{ws:List (List Int)}{p p':List Int->Bool}(h:∀v∈ws,p' (f v)=p v):crV f (ws.filter p)=(crV f ws).filter p':=by
 refine wX ?_ ((x3 _).filter _);have q:=(gg (ws.map f)).filter p';rw[List.filter_map,show ws.filter (p' ∘ f)=ws.filter p from List.filter_congr fun v hv=>h v hv] at q
 exact q.symm
theorem Cy.wds(c:Cy n f pl bt){ws:List (List Int)}(h:Wds n ws):Wds n (crV f ws):=by
 refine Wds.perm ?_ (gg _);refine⟨List.pairwise_map.mpr (h.1.imp_of_mem fun {a b} ha hb hne e=>hne (c.inj a (h.2 a ha) b (h.2 b hb) e)),fun v hv=>?_⟩;obtain⟨u,hu,rfl⟩:=List.mem_map.mp hv;exact c.mem u (h.2 u hu)
theorem Cy.val(c:Cy n f pl bt){v:List Int}(hv:v∈wl n):∀ {x:Sy},x.ok n->(crS pl bt x).val (f v)=x.val v
 |.is i b,⟨h0,h1,_⟩=>by
  simp only[crS,Sy.val,c.get v hv i h0 h1];exact decide_eq_decide.mpr ⟨c.bi _ _ _,fun e=>by rw[e]⟩
 |.jn a l r,⟨h0,h1⟩=>by simp only[crS,Sy.val,c.val hv h0,c.val hv h1]
theorem Cy.talk(c:Cy n f pl bt){ys zs:List (List Int)}(hy:Wds n ys)(hz:Wds n zs):∀ {x:Sy},x.ok n->crT f pl (aR ys zs x)=aR (crV f ys) (crV f zs) (crS pl bt x)
 |.is i b,_=>rfl
 |.jn a l r,⟨h0,h1⟩=>by
  cases a
  ·simp only[aR,crS,crT,Bool.false_eq_true,if_false,c.talk hy hz h0,c.talk hy hz h1]
   rw[kX (p':=fun v=>!(crS pl bt l).val v) fun v hv=>by rw[c.val (hy.2 v hv) h0]]
  ·simp only[aR,crS,crT,if_true,c.talk hy hz h0,c.talk hy hz h1]
   rw[kX (p':=fun v=>(crS pl bt l).val v) fun v hv=>by rw[c.val (hz.2 v hv) h0]]
theorem Cy.parted(c:Cy n f pl bt){ys zs:List (List Int)}{x:Sy}(hx:x.ok n)(h:jQ n x ys zs):jQ n (crS pl bt x) (crV f ys) (crV f zs):=by
 refine⟨c.wds h.y,c.wds h.z,fun v hv=>?_,fun v hv=>?_,fun e=>h.y1 (wf.mp e),fun e=>h.z1 (wf.mp e)⟩
 ·obtain⟨u,hu,rfl⟩:=rH.mp hv
  rw[c.val (h.y.2 u hu) hx];exact h.vy u hu
 ·obtain⟨u,hu,rfl⟩:=rH.mp hv
  rw[c.val (h.z.2 u hu) hx];exact h.vz u hu
noncomputable def crQ(f:List Int->List Int)(q:WW):WW:=(crV f q.1,crV f q.2)
theorem FW{q:WW}:has (crQ f q)=has q:=by
 rw[Bool.eq_iff_iff,fH,fH];simp only[crQ,ne_eq,wf]
theorem Cy.go(c:Cy n f pl bt){q:WW}(hq:Ww n q){ws:List (List Int)}(hw:Wds n ws)(h:Bool):goF h (crV f ws) (crQ f q)=crQ f (goF h ws q)/\goS h (crV f ws) (crQ f q)=crQ f (goS h ws q):=by
 have e:∀vs:List (List Int),Wds n vs->(crV f (vs.filter fun v=>!decide (v∈ws))=(crV f vs).filter fun v=>!decide (v∈crV f ws))/\crV f (vs.filter fun v=>decide (v∈ws))=(crV f vs).filter fun v=>decide (v∈crV f ws):=fun vs hv=>
  ⟨kX fun v h=>by rw[decide_eq_decide.mpr (c.in hw.2 (hv.2 v h))],kX fun v h=>by rw[decide_eq_decide.mpr (c.in hw.2 (hv.2 v h))]⟩
 cases h
 ·simp only[goF,goS,crQ,Bool.false_eq_true,if_false,e q.2 hq.2,and_self]
 ·simp only[goF,goS,crQ,if_true,e q.1 hq.1,and_self]
theorem Cy.cut(c:Cy n f pl bt):∀(u:Ta)(q:WW),Ww n q->u.ok n->dO (crT f pl u) (crQ f q)=crT f pl (dO u q)
 |.en i,q,_,_=>rfl
 |.nd h ws a b,q,hq,hu=>by
  obtain⟨e1,e2⟩:=c.go hq hu.1 h;simp only[crT,dO,e1,e2,FW];rw[c.cut a _ hq.f hu.2.1,c.cut b _ hq.s hu.2.2,c.cut a q hq hu.2.1,c.cut b q hq hu.2.2];split
  ·split<;>rfl
  ·rfl
theorem Cy.mean(c:Cy n f pl bt):∀(v:Ta)(q:WW),Ww n q->v.ok n->kT false q v->de (crQ f q) (crT f pl v)=crS pl bt (de q v)
 |.en i,q,hq,hv,ho=>by
  obtain⟨h1,h2⟩:=oA (.en i) q hq ho;have hh:=(ho [] ⟨[],i,q⟩ (by simp[bK])).1
  obtain⟨hy,_⟩:=fH.mp (show has (crQ f q)=true by rw[FW];exact hh)
  obtain⟨y0,yr,ey⟩:=List.exists_cons_of_ne_nil hy;have ey:crV f q.1=y0::yr:=ey;obtain⟨u,hu,rfl⟩:=rH.mp (show y0∈crV f q.1 by rw[ey];exact List.mem_cons_self ..)
  have hm:=h1 u hu;simp only[de,Sy.val,decide_eq_true_eq] at hm;simp only[crT,crS,de,crQ,ey,List.headD_cons,c.get u (hq.1.2 u hu) i hv.1 hv.2,hm]
 |.nd h ws a b,q,hq,hv,ho=>by
  obtain⟨e1,e2⟩:=c.go hq hv.1 h;obtain⟨o1,o2⟩:=ho.nd;simp only[crT,crS,de,e1,e2,c.mean a _ hq.f hv.2.1 o1,c.mean b _ hq.s hv.2.2 o2]
end
theorem GC{n:Nat}(hn:n<=5)(S:List Int):Cy n (flW S) (fun i=>i) (fun i b=>if i∈S then 1-b else b) where
 mem:=fun v hv=>HZ hn hv
 inj:=fun v _ u _ e=>by have:=congrArg (flW S) e;rwa [vV,vV] at this
 get:=fun v hv i h0 h1=>by
  obtain⟨j,rfl⟩:=Int.eq_ofNat_of_zero_le h0;have hj:j<v.length:=by rw[(cK hv).1];omega
  simp only[Int.toNat_natCast];rw[List.getD_eq_getElem?_getD,List.getD_eq_getElem?_getD,List.getElem?_eq_getElem (by rw[hZ];exact hj),List.getElem?_eq_getElem hj,oX hj]
  rfl
 bi:=fun i b c e=>by
  split at e<;>omega
theorem F5{n:Nat}{o:List Int}(ho:Pm n o):Cy n (mvW o) (fun i=>o.getD i.toNat 0) (fun _ b=>b) where
 mem:=fun v hv=>Id hv
 inj:=fun v hv u hu e=>JG ho (cK hv).1 (cK hu).1 e
 get:=fun v hv i h0 h1=>by
  obtain⟨p,a,rfl,ha,e1,e2⟩:=ho.getD h0 h1;show (mvW o v).getD (o.getD (p:Int).toNat 0).toNat 0=v.getD (p:Int).toNat 0;rw[e2,Int.toNat_natCast,Int.toNat_natCast,List.getD_eq_getElem?_getD,List.getD_eq_getElem?_getD,B2 ho (cK hv).1 e1]
 bi:=fun _ _ _ e=>e
theorem sY{S:List Int}:∀x:Sy,flS S x=crS (fun i=>i) (fun i b=>if i∈S then 1-b else b) x
 |.is i b=>rfl
 |.jn a l r=>by simp only[flS,crS,sY l,sY r]
theorem wN{S:List Int}:∀u:Ta,flT S u=crT (flW S) (fun i=>i) u
 |.en i=>rfl
 |.nd y ws l r=>by simp only[flT,crT,wN l,wN r];rfl
theorem t0{o:List Int}:∀x:Sy,mvS o x=crS (fun i=>o.getD i.toNat 0) (fun _ b=>b) x
 |.is i b=>rfl
 |.jn a l r=>by simp only[mvS,crS,t0 l,t0 r]
theorem vR{o:List Int}:∀u:Ta,mvT o u=crT (mvW o) (fun i=>o.getD i.toNat 0) u
 |.en i=>rfl
 |.nd y ws l r=>by simp only[mvT,crT,vR l,vR r];rfl
theorem p6{n:Nat}{v:List Int}(hv:v∈wl n):∀ {x:Sy},x.ok n->(agS x).val v=!x.val v
 |.is i b,⟨h0,h1,hb⟩=>by
  simp only[agS,Sy.val];rw[←decide_not]
  refine decide_eq_decide.mpr ?_;rcases mf hv i.toNat with e|e<;>rw[e]<;>omega
 |.jn a l r,⟨h0,h1⟩=>by cases a<;>simp[agS,Sy.val,p6 hv h0,p6 hv h1]
theorem Ar{n:Nat}:∀ {x:Sy},x.ok n->(agS x).ok n
 |.is i b,⟨h0,h1,hb⟩=>⟨h0,h1,by omega⟩
 |.jn a l r,⟨h0,h1⟩=>⟨Ar h0,Ar h1⟩
theorem BR:∀x:Sy,(agS x).dp=x.dp/\(agS x).lvs=x.lvs
 |.is i b=>⟨rfl,rfl⟩
 |.jn a l r=>by simp[agS,Sy.dp,Sy.lvs,BR l,BR r]
theorem xp:∀x:Sy,agS (agS x)=x
 |.is i b=>by simp only[agS,Sy.is.injEq,true_and];omega
 |.jn a l r=>by simp[agS,xp l,xp r]
theorem F9{S:List Int}:∀x:Sy,agS (flS S x)=flS S (agS x)
 |.is i b=>by
  simp only[agS,flS];by_cases h:i∈S
  ·simp only[h,if_true]
  ·simp only[h,if_false]
 |.jn a l r=>by simp only[agS,flS,F9 l,F9 r]
theorem oO{n:Nat}{ys zs:List (List Int)}(hy:Wds n ys)(hz:Wds n zs):∀ {x:Sy},x.ok n->swT (aR ys zs x)=aR zs ys (agS x)
 |.is i b,_=>rfl
 |.jn a l r,⟨h0,h1⟩=>by
  cases a
  ·simp only[aR,agS,swT,Bool.false_eq_true,if_false,Bool.not_false,if_true,oO hy hz h0,oO hy hz h1,Bool.not_true]
   congr 1
   exact List.filter_congr fun v hv=>by rw[p6 (hy.2 v hv) h0]
  ·simp only[aR,agS,swT,Bool.false_eq_true,if_false,Bool.not_false,if_true,oO hy hz h0,oO hy hz h1,Bool.not_true]
   congr 1
   exact List.filter_congr fun v hv=>by rw[p6 (hz.2 v hv) h0,Bool.not_not]
theorem Dc{n:Nat}{ys zs:List (List Int)}{x:Sy}(hx:x.ok n)(h:jQ n x ys zs):jQ n (agS x) zs ys:=
 ⟨h.z,h.y,fun v hv=>by rw[p6 (h.z.2 v hv) hx,h.vz v hv];rfl,fun v hv=>by rw[p6 (h.y.2 v hv) hx,h.vy v hv];rfl,h.z1,h.y1⟩
theorem Ka{q:WW}:has (q.2,q.1)=has q:=by simp only[has,Bool.and_comm]
theorem IM{q:WW}{ws:List (List Int)}(h:Bool):goF (!h) ws (q.2,q.1)=((goF h ws q).2,(goF h ws q).1)/\goS (!h) ws (q.2,q.1)=((goS h ws q).2,(goS h ws q).1):=by
 cases h<;>simp[goF,goS]
theorem tH:∀(u:Ta)(q:WW),dO (swT u) (q.2,q.1)=swT (dO u q)
 |.en i,q=>rfl
 |.nd h ws a b,q=>by
  obtain⟨e1,e2⟩:=IM (q:=q) (ws:=ws) h;simp only[swT,dO,e1,e2,Ka];rw[tH a (goF h ws q),tH b (goS h ws q),tH a q,tH b q];split
  ·split<;>rfl
  ·rfl
theorem wI{n:Nat}:∀(v:Ta)(q:WW),Ww n q->kT false q v->de (q.2,q.1) (swT v)=agS (de q v)
 |.en i,q,hq,ho=>by
  obtain⟨h1,h2⟩:=oA (.en i) q hq ho;obtain⟨hy,hz⟩:=fH.mp (ho [] ⟨[],i,q⟩ (by simp[bK])).1
  obtain⟨y0,yr,ey⟩:=List.exists_cons_of_ne_nil hy;obtain⟨z0,zr,ez⟩:=List.exists_cons_of_ne_nil hz;have ey:q.1=y0::yr:=ey;have ez:q.2=z0::zr:=ez;have m0:y0∈q.1:=by rw[ey];exact List.mem_cons_self ..
  have k0:z0∈q.2:=by rw[ez];exact List.mem_cons_self ..
  have hm:=h2 z0 k0;simp only[de,Sy.val,decide_eq_false_iff_not,ey,List.headD_cons] at hm;simp only[swT,de,agS,ey,ez,List.headD_cons,Sy.is.injEq,true_and];rcases mf (hq.1.2 y0 m0) i.toNat with b1|b1<;>rcases mf (hq.2.2 z0 k0) i.toNat with b2|b2<;>rw[b1,b2] at hm ⊢<;>omega
 |.nd h ws a b,q,hq,ho=>by
  obtain⟨e1,e2⟩:=IM (q:=q) (ws:=ws) h;obtain⟨o1,o2⟩:=ho.nd;simp only[swT,agS,de,e1,e2,wI a _ hq.f o1,wI b _ hq.s o2]
theorem GB{o:List Int}:∀ {x:Sy},x.up->(mvS o x).up
 |.is i b,h=>h
 |.jn a l r,⟨h0,h1⟩=>⟨GB h0,GB h1⟩
theorem xh{n:Nat}{S:List Int}(hS:∀i:Int,0<=i->i<n->i∈S):∀ {x:Sy},x.ok n->x.up->(agS (flS S x)).up
 |.is i b,⟨h0,h1,_⟩,h=>by
  simp only[Sy.up] at h;simp only[flS,agS,Sy.up,if_pos (hS i h0 h1),h]
  decide
 |.jn a l r,⟨h0,h1⟩,⟨g0,g1⟩=>⟨xh hS h0 g0,xh hS h1 g1⟩
theorem xR{n:Nat}{ys zs:List (List Int)}(hy:ys.Sublist (wl n))(hz:zs.Sublist (wl n)):∀ {x:Sy},x.ok n->sb n (aR ys zs x)
 |.is i b,h=>⟨h.1,h.2.1⟩
 |.jn a l r,h=>by
  cases a<;>simp only[aR,if_true,if_false,Bool.false_eq_true,sb]
  ·exact⟨List.filter_sublist.trans hy,xR hy hz h.1,xR hy hz h.2⟩
  ·exact⟨List.filter_sublist.trans hz,xR hy hz h.1,xR hy hz h.2⟩
theorem Dq{n:Nat}{x:Sy}{ys zs:List (List Int)}(b:Bool)(hp:jQ n x ys zs)(hx:x.ok n)(hb:b=true->x.up):((prl ys zs).find? (fau b (aR ys zs x))).isNone=true:=by
 rw[Option.isNone_iff_eq_none,List.find?_eq_none];rintro⟨y,z⟩ hm;obtain⟨hy,hz⟩:=oB hm;obtain⟨e1,e2⟩:=gm hy hz (hp.z.2 z hz) hx (hp.vy y hy) (hp.vz z hz);simp only[fau,ppB];cases b
 ·simpa using e1
 ·simpa using e2 (hb rfl)
noncomputable def GK:ASp:=fun xs ω Q=>∃(v S:List Int),xs=[.d (wdD v),.d (wdD S)]/\v.length<=5/\Q (.d (wdD (flW S v))) ω
theorem EO(T:Txt K mg t):aA P w K mg base CX0 1 t.cE t.i4 ["word","some"] (bo GK):=by
 refine T.tB.okD rh (fun xs ω Q h=>by obtain⟨v,S,rfl,_⟩:=h;rfl) (fun cdv A outer s H E hr=>⟨_,_,(am (aB (bn (aY K rfl) (by rfl) T.dy (by kernel_rfl) (aa (ci (N:=(["place","bit","some"]:List Str)) (src:=[none,none,some 1]) rfl (by show cX _ (defScope fI) _ _ (["word","some"]:List Str)=true;decide +kernel) (by intro g' h;cases h) (BD K rfl (by rfl) T.qY (aa (pv 0) ae)) (fun _ _ _ _ _ _=>(cI K rfl (n:=2) rfl (aF (au (i:=0) (show (["place","bit","some"]:List Str).Nodup by decide +kernel) rfl (Or.inl rfl)) (aF (au (i:=1) (show (["place","bit","some"]:List Str).Nodup by decide +kernel) rfl (Or.inl rfl)) cH)))) (fun _ _ _ _ _ _=>dU) (fun _ _ _ _ _ _=>(bM rfl rfl (iL (aH (qb hr.Nw) (pv 0) (pv 2) (by with_unfolding_all rfl)) (be kU af (pv 1)) (pv 1))))) ae)))),(aO (du dS (ab (cL (Fb (ab ac ag)) (fW (aV ao (aV ao fV))) oR (cM (Ao (aP (ap ze ac ac)) (ap lm ak ac) ac))) ag))),fun xs ω Q h=>?_⟩)
 obtain⟨v,S,rfl,hv,k⟩:=h;simp only[wdD] at k ⊢;walk_at "a1";have el:(nJ (v.map D.int)).length=v.length:=by simp[nJ]
 refine px (rs:=(flW S v).map D.int) (fun ρ=>∃a b,ρ=[a,b,some (.d (.tup (S.map D.int)))]) ⟨_,_,rfl⟩ (by rw[List.length_map,hZ,el]) (Nat.le_of_lt (bu (by omega))) (fun i a r ρ N h1 h2 hR kN=>?_) (fun ρ hR=>⟨_,a8 _,?_⟩)
 ·obtain⟨x,y,rfl⟩:=hR
  obtain⟨d,hd,rfl⟩:=qp h1;obtain⟨z,hz,rfl⟩:=L2.dA hd;have hi:=(List.getElem?_eq_some_iff.mp hz).1;have ez:z=v[i]:=by rw[List.getElem?_eq_getElem hi] at hz;exact(Option.some.inj hz).symm
  have er:r=.int (if (i:Int)∈S then 1-v[i] else v[i]):=by
   rw[List.getElem?_map,List.getElem?_eq_getElem (by rw[hZ];exact hi),oX hi] at h2
   exact(Option.some.inj h2).symm
  subst ez er;walk_at "a1";refine kN _ ⟨_,_,rfl⟩ fun Q q=>?_;walk_at "a1";refine⟨by rw[m8];decide,?_⟩
  rw[zj];by_cases h:(i:Int)∈S
  ·rw[if_pos (by simpa using h)];rw[if_pos h] at q;exact q
  ·rw[if_neg (by simpa using h)];rw[if_neg h] at q;exact q
 ·rw[ay]
  exact k
noncomputable def u6:ASp:=fun xs ω Q=>∃(n:Nat) (ws:List (List Int)) (S:List Int),xs=[.d (.tup (ws.map wdD)),.d (wdD S)]/\1<=n/\n<=5/\Wds n ws/\Q (.d (.tup ((flV S ws).map wdD))) ω
theorem uR(T:Txt K mg t):aA P w K mg base CX0 2 t.bJ t.eT ["words","some"] (bo u6):=by
 have G_flipped_word:aA P w K mg base _ _ _ _ _ _:=EO T;refine T.rB.okD qF (fun xs ω Q h=>by obtain⟨n,ws,S,rfl,_⟩:=h;rfl) (fun cdv A outer s H E hr=>⟨_,_,(am (aB (bn (aY K rfl) (by rfl) T.dy (by kernel_rfl) (aa (bD qQ (by rfl) T.za (by kernel_rfl) (aa (ci (N:=(["word","some"]:List Str)) (src:=[none,some 1]) rfl (by show cX _ (defScope eR) _ _ (["words","some"]:List Str)=true;decide +kernel) (by intro g' h;cases h) (cf K rfl (pv 0)) (fun _ _ _ _ _ _=>(au (i:=0) (show (["word","some"]:List Str).Nodup by decide +kernel) rfl (Or.inl rfl))) (fun _ _ _ _ _ _=>dU) (fun _ _ _ _ _ _=>(bM rfl rfl (aj G_flipped_word (hr.mono (by omega)) (by rfl) T.t7 T.t4 T.si .nil ax (aa (pv 0) (aa (pv 1) ae)))))) ae)) ae)))),(aO (du dS (ab (du xL (ab (cL (dF ac) ao oR (cM (aq (ab ac (ab ac ag))))) ag)) ag))),fun xs ω Q h=>?_⟩)
 obtain⟨n,ws,S,rfl,hn1,hn,hw,k⟩:=h;have hwl:=hw.le hn;walk_at "a1";refine mU (rs:=(ws.map (flW S)).map wdD) (by simp) (Nat.le_of_lt (bu (by simp;omega))) (fun j a r h1 h2 Q q=>?_) (fun ρ=>⟨_,a8 _,?_⟩)
 ·simp only[List.map_map,List.getElem?_map,Option.map_eq_some_iff] at h1 h2
  obtain⟨y,hy,rfl⟩:=h1;obtain⟨y',hy',rfl⟩:=h2;rw[hy] at hy';cases hy';simp only[Function.comp_apply] at q ⊢;walk_at "a1";exact⟨y,S,rfl,by rw[(cK (hw.2 y (List.mem_of_getElem? hy))).1];exact hn,q⟩
 refine⟨ws.map (flW S),rfl,fun y hy e=>?_,by simp;omega,?_⟩
 ·obtain⟨v,hv,rfl⟩:=List.mem_map.mp hy
  have:=congrArg List.length e;rw[hZ,(cK (hw.2 v hv)).1] at this;simp at this;omega
 rw[ay];exact k
noncomputable def GO:ASp:=fun xs ω Q=>∃(n:Nat) (ys zs:List (List Int)) (S:List Int),xs=[.d (csD n ys zs),.d (wdD S)]/\1<=n/\n<=5/\Wds n ys/\Wds n zs/\Q (.d (csD n (flV S ys) (flV S zs))) ω
theorem xJ(T:Txt K mg t):aA P w K mg base CX0 3 t.cF t.iV ["case","some"] (bo GO):=by
 have G_flipped_words:aA P w K mg base _ _ _ _ _ _:=uR T;refine T.tp.okD rC (fun xs ω Q h=>by obtain⟨n,ys,zs,S,rfl,_⟩:=h;rfl) (fun cdv A outer s H E hr=>⟨_,_,(am (aB (aQ (aa (ar (ai K rfl) (pv 0) af (fun _ _=>rfl)) (aa (aj G_flipped_words (hr.mono (by omega)) (by rfl) T.g7 T.gZ T.gY .nil ax (aa (ar (ai K rfl) (pv 0) af (fun _ _=>rfl)) (aa (pv 1) ae))) (aa (aj G_flipped_words (hr.mono (by omega)) (by rfl) T.g7 T.gZ T.gY .nil ax (aa (ar (ai K rfl) (pv 0) af (fun _ _=>rfl)) (aa (pv 1) ae))) ae)))))),(aO (a9 (ab (ap aG ac ak) (ab (aq (ab (ap aG ac ak) (ab ac ag))) (ab (aq (ab (ap aG ac ak) (ab ac ag))) ag))))),fun xs ω Q h=>?_⟩)
 obtain⟨n,ys,zs,S,rfl,hn1,hn,hy,hz,k⟩:=h;simp only[csD] at k ⊢;walk_at "a1";refine⟨n,ys,S,rfl,hn1,hn,hy,n,zs,S,rfl,hn1,hn,hz,?_⟩;walk_at "a1";rw[ay];exact k
noncomputable def yk:ASp:=fun xs ω Q=>∃(i b:Int)(S:List Int),xs=[.d (Sy.is i b).d,.d (wdD S)]/\Q (.d (flS S (.is i b)).d) ω
theorem Ed(T:Txt K mg t):aA P w K mg base CX0 1 t.bW t.fJ ["leaf","some"] (bo yk):=by
 refine T.tV.okD q8 (fun xs ω Q h=>by obtain⟨i,b,S,rfl,_⟩:=h;rfl) (fun cdv A outer s H E hr=>⟨_,_,(am (aB (aQ (aE aK (aa (ar (ai K rfl) (pv 0) af (fun _ _=>rfl)) (aa (iL (aH (qb hr.Nw) (ar (ai K rfl) (pv 0) af (fun _ _=>rfl)) (pv 1) (by with_unfolding_all rfl)) (be kU af (ar (ai K rfl) (pv 0) af (fun _ _=>rfl))) (ar (ai K rfl) (pv 0) af (fun _ _=>rfl))) ae)))))),(aO (a9 (ab aX (ab (ap aG ac ak) (ab (Ao (aP (ap ze (ap aG ac ak) ac)) (ap lm ak (ap aG ac ak)) (ap aG ac ak)) ag))))),fun xs ω Q h=>?_⟩)
 obtain⟨i,b,S,rfl,k⟩:=h;simp only[Sy.d,wdD,flS] at k ⊢;walk_at "a1";refine⟨by rw[m8];decide,?_⟩
 rw[zj,ay];by_cases h:i∈S
 ·rw[if_pos (by simpa using h)];rw[if_pos h] at k;exact k
 ·rw[if_neg (by simpa using h)];rw[if_neg h] at k;exact k
theorem fZ(T:Txt K mg t):∀(b':Heap)(H:Hp),Clo P w K mg b' H 1 t.cc 3 (lD [] [] fg):=fun b' H=>Ig T.sn (zg T) T.zM
noncomputable def G3:ASp:=fun xs ω Q=>∃(x:Sy)(n:Nat)(S:List Int),xs=[.d x.d,.d (wdD S)]/\x.ok n/\x.dp<=15/\Q (.d (flS S x).d) ω
noncomputable def l6(cA:List AV):ASp:=fun xs ω Q=>∃(i b:Int)(S:List Int),cA=[.d (wdD S)]/\xs=[.d (Sy.is i b).d]/\Q (.d (flS S (.is i b)).d) ω
theorem B3(T:Txt K mg t):aA P w K mg base CX0 7 t.bc t.eE ["saying","some"] (bo G3):=by
 have G_folded:∀b',aA P w K mg b' CX0 5 t.cD t.dZ ["tree","leaf","of_leaf","of_fork"] (fP 2 P w K mg b'):=fun b'=>jp 2 T;have fZ:∀(b':Heap)(H:Hp),Clo P w K mg b' H 2 t.cc 3 (lD [] [] fg):=fun b' H=>(fZ T b' H).mono (Frz.refl _) (by decide)
 refine T.fL.okD pf (fun xs ω Q h=>by obtain⟨x,n,S,rfl,_⟩:=h;rfl) (fun A outer s H E hr=>?_)
 refine⟨_,_,(am (aB (gR G_folded (hr.mono (by omega)) (by rfl) T.gX T.gW T.gU (aa (pv 0) (aE aK (aa (fx (x:="flipped_saying") rfl rfl T.fL.tab T.fL.hd rfl) (aa (oy (v:=.ref t.cc) rfl T.sW rfl) ae))))))),(aO (CH (j1:=[1]) (s1:=l6) ?F0 fZ ac aX)),fun xs ω Q h=>?main⟩
 case F0=>
  intro b' H f σ caps cA L cb hc hl;have G_flipped_leaf:aA P w K mg b' CX0 1 t.bW t.fJ ["leaf","some"] (bo yk):=Ed T;obtain⟨v,rfl⟩:∃v,caps=[v]:=List.length_eq_one_iff.mp hc.1;obtain⟨wc,wu,hwc,hcell,hrel⟩:=cb 1 "some" v rfl (hc.2 0 1 v rfl rfl) rfl rfl;obtain rfl:s.heap.objs.size+1=wc:=Option.some.inj hwc;refine dP (ps:=["leaf"]) (cs:=["some"]) L ⟨rfl,rfl,rfl,by decide +kernel,by decide +kernel,by decide +kernel,by decide +kernel⟩ (lG hcell hrel) (fun pm c ctv us hl=>match us,hl with | [_],_=>rfl) (fun xs ω Q h=>by obtain⟨i,b,m,_,rfl,_⟩:=h;rfl) (fun cd A outer s H hr=>⟨_,_,(aj G_flipped_leaf (hr.mono (by omega)) (by rfl) T.tG T.tW T.tJ .nil ax (aa (pv 0) (aa (pv 1) ae))),(aq (ab ac (ab ac ag))),fun xs ω Q h=>?_⟩)
  obtain⟨i,b,S,rfl,rfl,q⟩:=h;walk_at "a1";exact⟨i,b,S,rfl,q⟩
 case main=>
  obtain⟨x,n,S,rfl,hx,hd,k⟩:=h;walk_at "a1";refine⟨bL x,(lb x).symm,jt x,gn hd,fun e=>(flS S (fT e)).d,_,rfl,fun q he ω1 Q1 h=>?_,fun q l r he ω1 Q1 h=>?_,?_⟩
  ·obtain⟨i,e,rfl,_⟩:=xT hx he
   exact⟨i,e,S,rfl,rfl,h⟩
  ·obtain⟨a,l',r',rfl,rfl,rfl⟩:=yb hx he
   have h:Q1 (.d (flS S (fT (bL (.jn a l' r')))).d) ω1:=h;rw[eM] at h;show fg [_,.d (flS S (fT (bL l'))).d,.d (flS S (fT (bL r'))).d] ω1 Q1;rw[eM,eM];exact⟨_,_,_,_,rfl,h⟩
  ·rw[ay]
   show Q (.d (flS S (fT (bL x))).d) ω;rw[eM];exact k
noncomputable def unI:D->Int
 |.int i=>i
 |_=>0
noncomputable def unW:D->List Int
 |.tup es=>es.map unI
 |_=>[]
noncomputable def jP:Tr->Ta
 |.lf [_,.int i]=>.en i
 |.lf _=>.en 0
 |.nd [.str z,.tup ds] l r=>.nd (z == "yes") (ds.map unW) (jP l) (jP r)
 |.nd _ l r=>.nd true [] (jP l) (jP r)
theorem jA:∀u:Ta,jP (cu u)=u
 |.en i=>rfl
 |.nd y ws l r=>by
  simp only[cu,jP,jA l,jA r,Ta.nd.injEq,and_true,List.map_map];refine⟨?_,?_⟩
  ·cases y<;>simp<;>decide +kernel
  ·conv=>rhs;rw[←List.map_id ws]
   refine List.map_congr_left fun v _=>?_;simp[wdD,unW,unI,Function.comp_def]
theorem qf{n:Nat}:∀ {u:Ta} {e:Tr},u.ok n->e∈(cu u).post->∃v:Ta,e=cu v/\v.ok n
 |.en i,e,h,he=>by simp[cu,Tr.post] at he;exact⟨.en i,he,h⟩
 |.nd y ws l r,e,h,he=>by
  simp only[cu,Tr.post,List.mem_append,List.mem_singleton] at he;rcases he with(he|he)|he
  ·exact qf h.2.1 he
  ·exact qf h.2.2 he
  ·exact⟨.nd y ws l r,he,h⟩
noncomputable def Ey:ASp:=fun xs ω Q=>∃(u:Ta)(n:Nat)(S:List Int),xs=[.d u.d,.d (wdD S)]/\1<=n/\n<=5/\u.ok n/\u.size<=100000/\Q (.d (flT S u).d) ω
noncomputable def oh(_:List AV):ASp:=fun xs ω Q=>∃d,xs=[.d d]/\Q (.d d) ω
noncomputable def i6(cA:List AV):ASp:=fun xs ω Q=>∃(n:Nat)(y:Bool) (ws:List (List Int)) (S:List Int) (l r x z:D),cA=[.d (wdD S)]/\xs=[.d (.tup [.str (if y then "yes" else "no"),.tup (ws.map wdD),l,r]),.d x,.d z]/\1<=n/\n<=5/\Wds n ws/\Q (.d (.tup [.str (if y then "yes" else "no"),.tup ((flV S ws).map wdD),x,z])) ω
theorem yn(T:Txt K mg t):aA P w K mg base CX0 8 t.bv t.fM ["talk","some"] (bo Ey):=by
 have G_folded:∀b',aA P w K mg b' CX0 6 t.cD t.dZ ["tree","leaf","of_leaf","of_fork"] (fP 3 P w K mg b'):=fun b'=>jp 3 T;refine T.dD.okD rq (fun xs ω Q h=>by obtain⟨x,n,S,rfl,_⟩:=h;rfl) (fun A outer s H E hr=>?_)
 refine⟨_,_,(am (aB (gR G_folded (hr.mono (by omega)) (by rfl) T.gX T.gW T.gU (aa (pv 0) (aE aK (aa (fx (x:="flipped_talk") rfl rfl T.dD.tab T.dD.hd rfl) (aa (fx (x:="flipped_talk") rfl rfl T.dD.tab T.dD.hd rfl) ae))))))),(aO (qv (j1:=[]) (j2:=[1]) (s1:=oh) (s2:=i6) ?F0 ?F1 ac aX)),fun xs ω Q h=>?main⟩
 case F0=>
  intro b' H f σ caps cA L cb hc hl;obtain rfl:caps=[]:=List.length_eq_zero_iff.mp (hc.1);refine dP (ps:=["end"]) (cs:=[]) L ⟨rfl,rfl,rfl,by decide +kernel,by decide +kernel,by decide +kernel,by decide +kernel⟩ (Db b') (fun pm c ctv us hl=>match us,hl with | [_],_=>rfl) (fun xs ω Q h=>by obtain⟨d,rfl,_⟩:=h;rfl) (fun cd A outer s H hr=>⟨_,_,(pv 0),ac,fun xs ω Q h=>?_⟩)
  obtain⟨d,rfl,q⟩:=h;walk_at "a1";exact q
 case F1=>
  intro b' H f σ caps cA L cb hc hl;have G_flipped_words:aA P w K mg b' CX0 2 t.bJ t.eT ["words","some"] (bo u6):=uR T;obtain⟨v,rfl⟩:∃v,caps=[v]:=List.length_eq_one_iff.mp hc.1;obtain⟨wc,wu,hwc,hcell,hrel⟩:=cb 1 "some" v rfl (hc.2 0 1 v rfl rfl) rfl rfl;obtain rfl:s.heap.objs.size+1=wc:=Option.some.inj hwc;refine dP (ps:=["turn","first","second"]) (cs:=["some"]) L ⟨rfl,rfl,rfl,by decide +kernel,by decide +kernel,by decide +kernel,by decide +kernel⟩ (lG hcell hrel) (fun pm c ctv us hl=>match us,hl with | [_,_,_],_=>rfl) (fun xs ω Q h=>by obtain⟨n,y,ws,S,l,r,x,z,_,rfl,_⟩:=h;rfl) (fun cd A outer s H hr=>⟨_,_,(aQ (aa (ar (ai K rfl) (pv 0) af (fun _ _=>rfl)) (aa (aj G_flipped_words (hr.mono (by omega)) (by rfl) T.g7 T.gZ T.gY .nil ax (aa (ar (ai K rfl) (pv 0) af (fun _ _=>rfl)) (aa (pv 3) ae))) (aa (pv 1) (aa (pv 2) ae))))),(a9 (ab (ap aG ac ak) (ab (aq (ab (ap aG ac ak) (ab ac ag))) (ab ac (ab ac ag))))),fun xs ω Q h=>?_⟩)
  obtain⟨n,y,ws,S,l,r,x,z,rfl,rfl,h1,h2,h3,q⟩:=h;walk_at "a1";refine⟨n,ws,S,rfl,h1,h2,h3,?_⟩;walk_at "a1";exact q
 case main=>
  obtain⟨u,n,S,rfl,hn1,hn,hu,hd,k⟩:=h;obtain⟨e1,_,_⟩:=pY u;walk_at "a1";refine⟨cu u,(nM u).symm,m5 u,by omega,fun e=>(flT S (jP e)).d,_,rfl,_,rfl,fun q he ω1 Q1 h=>?_,fun q l r he ω1 Q1 h=>?_,?_⟩
  ·obtain⟨v,e,hv⟩:=qf hu he
   cases v with
   |en i=>cases e;exact⟨_,rfl,h⟩
   |nd y ws l r=>cases e
  ·obtain⟨v,e,hv⟩:=qf hu he
   cases v with
   |en i=>cases e
   |nd y ws l' r'=>
    simp only[cu,Tr.nd.injEq] at e;obtain⟨rfl,rfl,rfl⟩:=e;have h:Q1 (.d (flT S (jP (cu (.nd y ws l' r')))).d) ω1:=h;rw[jA] at h;show i6 _ [_,.d (flT S (jP (cu l'))).d,.d (flT S (jP (cu r'))).d] ω1 Q1;rw[jA,jA];exact⟨n,y,ws,S,(cu l').d,(cu r').d,_,_,rfl,rfl,hn1,hn,hv.1,h⟩
  ·rw[ay]
   show Q (.d (flT S (jP (cu u))).d) ω;rw[jA];exact k
noncomputable def FZ:ASp:=fun xs ω Q=>∃(n:Nat)(v o:List Int),xs=[.d (wdD v),.d (wdD o)]/\n<=5/\v.length=n/\Pm n o/\Q (.d (wdD (mvW o v))) ω
theorem Ky(T:Txt K mg t):aA P w K mg base CX0 1 t.bN t.gy ["word","order"] (bo FZ):=by
 refine T.p4.okD dQ (fun xs ω Q h=>by obtain ⟨n,v,o,rfl,_⟩:=h;rfl) (fun cdv A outer s H E hr=>⟨_,_,(ah (aJ (i:=2) dQ.nd rfl (Or.inl rfl) (bn (nI K rfl) (by rfl) T.Gc (by kernel_rfl) (aa (pv 0) ae)))
   (ah (g6 PassesOwn.never rfl (rS K rfl (by rfl) T.Cw (aa (pv 1) (aa (pv 0) ae))) (cI K rfl (n:=2) rfl (aF (au (i:=3) dQ.nd rfl (Or.inl rfl)) (aF (au (i:=4) dQ.nd rfl (Or.inl rfl)) cH))) (am (iO (pv 4) (JS (pv 2) (pv 3) EN))))
   (am (aB (bn (aY K rfl) (by rfl) T.dy (by kernel_rfl) (aa (pv 2) ae)))))),(av (aN (du GZ (ab ac ag)) ao)
   (av (lp (Cr (ab ac (ab ac ag))) (fW (aV ao (aV ao fV))) (aN ac (Mo ac ac)))
   (aO (du dS (ab ac ag))))),fun xs ω Q h=>?_⟩)
 obtain⟨n,v,o,rfl,hn,hv,ho,k⟩:=h;simp only[wdD] at k ⊢;walk_at "s1";intro l hl;walk_at "s1";refine G6 (fun i ρ ω'=>∃(T:List Int)(v3 v4:Option AV),ω'=ω.put l (.own ((T.map D.int).map AV.d))/\T.length=n/\(∀p a:Nat,p<i->o[p]?=some (a:Int)->T[a]?=v[p]?)/\ρ=[some (AV.d (D.tup (v.map D.int))),some (AV.d (D.tup (o.map D.int))),some (AV.r (V.ref l)),v3,v4]) ⟨v,_,_,rfl,hv,fun p a h=>absurd h (by omega),rfl⟩ ?_ ?_
 ·rintro i d e ρ ω1 N hd he ⟨T,v3,v4,rfl,hT,hh,rfl⟩ kN
  obtain⟨z,hz,rfl⟩:=L2.dA hd;obtain⟨x,ex,rfl⟩:=L2.dA he;have hi:i<n:=by have:=(List.getElem?_eq_some_iff.mp ex).1;omega
  obtain⟨a,ea,ha⟩:=ho.at' hi;rw[hz] at ea;cases ea;walk_at "a1";exact⟨a,by simp[ixN,hT,ha],kN _ _ ⟨T.set a x,_,_,by simp[List.map_set],by rw[List.length_set];exact hT,G8 ho hv hT hz ex hh,rfl⟩⟩
 ·rintro ρ ω1 ⟨T,v3,v4,rfl,hT,hh,rfl⟩
  rw[List.length_map,List.length_map,ho.len,hv,Nat.min_self] at hh;have:=Ml ho hv hT fun p a e=>hh p a (by have:=(List.getElem?_eq_some_iff.mp e).1;have:=ho.len;omega) e
  subst this;walk_at "a1";rw[jF ((Ex.refl ω).new hl)];exact k
noncomputable def vI:ASp:=fun xs ω Q=>∃(n:Nat) (ws:List (List Int)) (S:List Int),xs=[.d (.tup (ws.map wdD)),.d (wdD S)]/\1<=n/\n<=5/\Wds n ws/\Pm n S/\Q (.d (.tup ((mvV S ws).map wdD))) ω
theorem uP(T:Txt K mg t):aA P w K mg base CX0 2 t.br t.dR ["words","order"] (bo vI):=by
 have G_exchanged_word:aA P w K mg base _ _ _ _ _ _:=Ky T;refine T.o9.okD nN (fun xs ω Q h=>by obtain⟨n,ws,S,rfl,_⟩:=h;rfl) (fun cdv A outer s H E hr=>⟨_,_,(am (aB (bn (aY K rfl) (by rfl) T.dy (by kernel_rfl) (aa (bD qQ (by rfl) T.za (by kernel_rfl) (aa (ci (N:=(["word","order"]:List Str)) (src:=[none,some 1]) rfl (by show cX _ (defScope dW) _ _ (["words","order"]:List Str)=true;decide +kernel) (by intro g' h;cases h) (cf K rfl (pv 0)) (fun _ _ _ _ _ _=>(au (i:=0) (show (["word","order"]:List Str).Nodup by decide +kernel) rfl (Or.inl rfl))) (fun _ _ _ _ _ _=>dU) (fun _ _ _ _ _ _=>(bM rfl rfl (aj G_exchanged_word (hr.mono (by omega)) (by rfl) T.qr T.pN T.pJ .nil ax (aa (pv 0) (aa (pv 1) ae)))))) ae)) ae)))),(aO (du dS (ab (du xL (ab (cL (dF ac) ao oR (cM (aq (ab ac (ab ac ag))))) ag)) ag))),fun xs ω Q h=>?_⟩)
 obtain⟨n,ws,S,rfl,hn1,hn,hw,hS,k⟩:=h;have hwl:=hw.le hn;walk_at "a1";refine mU (rs:=(ws.map (mvW S)).map wdD) (by simp) (Nat.le_of_lt (bu (by simp;omega))) (fun j a r h1 h2 Q q=>?_) (fun ρ=>⟨_,a8 _,?_⟩)
 ·simp only[List.map_map,List.getElem?_map,Option.map_eq_some_iff] at h1 h2
  obtain⟨y,hy,rfl⟩:=h1;obtain⟨y',hy',rfl⟩:=h2;rw[hy] at hy';cases hy';simp only[Function.comp_apply] at q ⊢;walk_at "a1";exact⟨n,y,S,rfl,hn,(cK (hw.2 y (List.mem_of_getElem? hy))).1,hS,q⟩
 refine⟨ws.map (mvW S),rfl,fun y hy e=>?_,by simp;omega,?_⟩
 ·obtain⟨v,hv,rfl⟩:=List.mem_map.mp hy
  have:=congrArg List.length e;rw[w5,(cK (hw.2 v hv)).1] at this;simp at this;omega
 rw[ay];exact k
noncomputable def GP:ASp:=fun xs ω Q=>∃(n:Nat) (ys zs:List (List Int)) (S:List Int),xs=[.d (csD n ys zs),.d (wdD S)]/\1<=n/\n<=5/\Wds n ys/\Wds n zs/\Pm n S/\Q (.d (csD n (mvV S ys) (mvV S zs))) ω
theorem yz(T:Txt K mg t):aA P w K mg base CX0 3 t.bR t.f6 ["case","order"] (bo GP):=by
 have G_exchanged_words:aA P w K mg base _ _ _ _ _ _:=uP T;refine T.pL.okD pi (fun xs ω Q h=>by obtain⟨n,ys,zs,S,rfl,_⟩:=h;rfl) (fun cdv A outer s H E hr=>⟨_,_,(am (aB (aQ (aa (ar (ai K rfl) (pv 0) af (fun _ _=>rfl)) (aa (aj G_exchanged_words (hr.mono (by omega)) (by rfl) T.fK T.fu T.fS .nil ax (aa (ar (ai K rfl) (pv 0) af (fun _ _=>rfl)) (aa (pv 1) ae))) (aa (aj G_exchanged_words (hr.mono (by omega)) (by rfl) T.fK T.fu T.fS .nil ax (aa (ar (ai K rfl) (pv 0) af (fun _ _=>rfl)) (aa (pv 1) ae))) ae)))))),(aO (a9 (ab (ap aG ac ak) (ab (aq (ab (ap aG ac ak) (ab ac ag))) (ab (aq (ab (ap aG ac ak) (ab ac ag))) ag))))),fun xs ω Q h=>?_⟩)
 obtain⟨n,ys,zs,S,rfl,hn1,hn,hy,hz,hS,k⟩:=h;simp only[csD] at k ⊢;walk_at "a1";refine⟨n,ys,S,rfl,hn1,hn,hy,hS,n,zs,S,rfl,hn1,hn,hz,hS,?_⟩;walk_at "a1";rw[ay];exact k
noncomputable def HU:ASp:=fun xs ω Q=>∃(x:Sy)(n:Nat)(S:List Int),xs=[.d x.d,.d (wdD S)]/\x.ok n/\Pm n S/\x.dp<=15/\Q (.d (mvS S x).d) ω
noncomputable def kZ(cA:List AV):ASp:=fun xs ω Q=>∃(n:Nat)(i b:Int)(S:List Int),cA=[.d (wdD S)]/\xs=[.d (Sy.is i b).d]/\0<=i/\i<n/\Pm n S/\Q (.d (mvS S (.is i b)).d) ω
theorem Cg(T:Txt K mg t):aA P w K mg base CX0 7 t.aZ t.dm ["saying","order"] (bo HU):=by
 have G_folded:∀b',aA P w K mg b' CX0 5 t.cD t.dZ ["tree","leaf","of_leaf","of_fork"] (fP 2 P w K mg b'):=fun b'=>jp 2 T;have fZ:∀(b':Heap)(H:Hp),Clo P w K mg b' H 2 t.cc 3 (lD [] [] fg):=fun b' H=>(fZ T b' H).mono (Frz.refl _) (by decide)
 refine T.eN.okD nj (fun xs ω Q h=>by obtain⟨x,n,S,rfl,_⟩:=h;rfl) (fun A outer s H E hr=>?_)
 refine⟨_,_,(am (aB (gR G_folded (hr.mono (by omega)) (by rfl) T.gX T.gW T.gU (aa (pv 0) (aE aK (aa (fx (x:="exchanged_saying") rfl rfl T.eN.tab T.eN.hd rfl) (aa (oy (v:=.ref t.cc) rfl T.sW rfl) ae))))))),(aO (CH (j1:=[1]) (s1:=kZ) ?F0 fZ ac aX)),fun xs ω Q h=>?main⟩
 case F0=>
  intro b' H f σ caps cA L cb hc hl;obtain⟨v,rfl⟩:∃v,caps=[v]:=List.length_eq_one_iff.mp hc.1;obtain⟨wc,wu,hwc,hcell,hrel⟩:=cb 1 "order" v rfl (hc.2 0 1 v rfl rfl) rfl rfl;obtain rfl:s.heap.objs.size+1=wc:=Option.some.inj hwc;refine dP (ps:=["leaf"]) (cs:=["order"]) L ⟨rfl,rfl,rfl,by decide +kernel,by decide +kernel,by decide +kernel,by decide +kernel⟩ (lG hcell hrel) (fun pm c ctv us hl=>match us,hl with | [_],_=>rfl) (fun xs ω Q h=>by obtain⟨n,i,b,m,_,rfl,_⟩:=h;rfl) (fun cd A outer s H hr=>⟨_,_,(aQ (aE aK (aa (ar (ai K rfl) (pv 1) (ar (ai K rfl) (pv 0) af (fun _ _=>rfl)) (fun _ _=>rfl)) (aa (ar (ai K rfl) (pv 0) af (fun _ _=>rfl)) ae)))),(a9 (ab aX (ab (ap aG ac (ap aG ac ak)) (ab (ap aG ac ak) ag)))),fun xs ω Q h=>?_⟩)
  obtain⟨n,i,b,S,rfl,rfl,h0,h1,hS,q⟩:=h;have hi:=Jp hS h0 h1;simp only[Sy.d,wdD,mvS] at q ⊢;walk_at "a1";exact⟨_,hi,_,rfl,q⟩
 case main=>
  obtain⟨x,n,S,rfl,hx,hS,hd,k⟩:=h;walk_at "a1";refine⟨bL x,(lb x).symm,jt x,gn hd,fun e=>(mvS S (fT e)).d,_,rfl,fun q he ω1 Q1 h=>?_,fun q l r he ω1 Q1 h=>?_,?_⟩
  ·obtain⟨i,e,rfl,h5⟩:=xT hx he
   exact⟨n,i,e,S,rfl,rfl,h5.1,h5.2.1,hS,h⟩
  ·obtain⟨a,l',r',rfl,rfl,rfl⟩:=yb hx he
   have h:Q1 (.d (mvS S (fT (bL (.jn a l' r')))).d) ω1:=h;rw[eM] at h;show fg [_,.d (mvS S (fT (bL l'))).d,.d (mvS S (fT (bL r'))).d] ω1 Q1;rw[eM,eM];exact⟨_,_,_,_,rfl,h⟩
  ·rw[ay]
   show Q (.d (mvS S (fT (bL x))).d) ω;rw[eM];exact k
noncomputable def Fm:ASp:=fun xs ω Q=>∃(u:Ta)(n:Nat)(S:List Int),xs=[.d u.d,.d (wdD S)]/\1<=n/\n<=5/\u.ok n/\Pm n S/\u.size<=100000/\Q (.d (mvT S u).d) ω
noncomputable def lW(cA:List AV):ASp:=fun xs ω Q=>∃(n:Nat)(i:Int)(S:List Int),cA=[.d (wdD S)]/\xs=[.d (Ta.en i).d]/\0<=i/\i<n/\Pm n S/\Q (.d (mvT S (.en i)).d) ω
noncomputable def gS(cA:List AV):ASp:=fun xs ω Q=>∃(n:Nat)(y:Bool) (ws:List (List Int)) (S:List Int) (l r x z:D),cA=[.d (wdD S)]/\xs=[.d (.tup [.str (if y then "yes" else "no"),.tup (ws.map wdD),l,r]),.d x,.d z]/\1<=n/\n<=5/\Wds n ws/\Pm n S/\Q (.d (.tup [.str (if y then "yes" else "no"),.tup ((mvV S ws).map wdD),x,z])) ω
theorem yM(T:Txt K mg t):aA P w K mg base CX0 8 t.bd t.eK ["talk","order"] (bo Fm):=by
 have G_folded:∀b',aA P w K mg b' CX0 6 t.cD t.dZ ["tree","leaf","of_leaf","of_fork"] (fP 3 P w K mg b'):=fun b'=>jp 3 T;refine T.cO.okD pB (fun xs ω Q h=>by obtain⟨x,n,S,rfl,_⟩:=h;rfl) (fun A outer s H E hr=>?_)
 refine⟨_,_,(am (aB (gR G_folded (hr.mono (by omega)) (by rfl) T.gX T.gW T.gU (aa (pv 0) (aE aK (aa (fx (x:="exchanged_talk") rfl rfl T.cO.tab T.cO.hd rfl) (aa (fx (x:="exchanged_talk") rfl rfl T.cO.tab T.cO.hd rfl) ae))))))),(aO (qv (j1:=[1]) (j2:=[1]) (s1:=lW) (s2:=gS) ?F0 ?F1 ac aX)),fun xs ω Q h=>?main⟩
 case F0=>
  intro b' H f σ caps cA L cb hc hl;obtain⟨v,rfl⟩:∃v,caps=[v]:=List.length_eq_one_iff.mp hc.1;obtain⟨wc,wu,hwc,hcell,hrel⟩:=cb 1 "order" v rfl (hc.2 0 1 v rfl rfl) rfl rfl;obtain rfl:s.heap.objs.size+1=wc:=Option.some.inj hwc;refine dP (ps:=["end"]) (cs:=["order"]) L ⟨rfl,rfl,rfl,by decide +kernel,by decide +kernel,by decide +kernel,by decide +kernel⟩ (lG hcell hrel) (fun pm c ctv us hl=>match us,hl with | [_],_=>rfl) (fun xs ω Q h=>by obtain⟨n,i,S,_,rfl,_⟩:=h;rfl) (fun cd A outer s H hr=>⟨_,_,(aQ (aE aK (aa (ar (ai K rfl) (pv 1) (ar (ai K rfl) (pv 0) af (fun _ _=>rfl)) (fun _ _=>rfl)) ae))),(a9 (ab aX (ab (ap aG ac (ap aG ac ak)) ag))),fun xs ω Q h=>?_⟩)
  obtain⟨n,i,S,rfl,rfl,h0,h1,hS,q⟩:=h;have hi:=Jp hS h0 h1;simp only[Ta.d,wdD,mvT] at q ⊢;walk_at "a1";exact⟨_,hi,_,rfl,q⟩
 case F1=>
  intro b' H f σ caps cA L cb hc hl;have G_exchanged_words:aA P w K mg b' CX0 2 t.br t.dR ["words","order"] (bo vI):=uP T;obtain⟨v,rfl⟩:∃v,caps=[v]:=List.length_eq_one_iff.mp hc.1;obtain⟨wc,wu,hwc,hcell,hrel⟩:=cb 1 "order" v rfl (hc.2 0 1 v rfl rfl) rfl rfl;obtain rfl:s.heap.objs.size+1=wc:=Option.some.inj hwc;refine dP (ps:=["turn","first","second"]) (cs:=["order"]) L ⟨rfl,rfl,rfl,by decide +kernel,by decide +kernel,by decide +kernel,by decide +kernel⟩ (lG hcell hrel) (fun pm c ctv us hl=>match us,hl with | [_,_,_],_=>rfl) (fun xs ω Q h=>by obtain⟨n,y,ws,S,l,r,x,z,_,rfl,_⟩:=h;rfl) (fun cd A outer s H hr=>⟨_,_,(aQ (aa (ar (ai K rfl) (pv 0) af (fun _ _=>rfl)) (aa (aj G_exchanged_words (hr.mono (by omega)) (by rfl) T.fK T.fu T.fS .nil ax (aa (ar (ai K rfl) (pv 0) af (fun _ _=>rfl)) (aa (pv 3) ae))) (aa (pv 1) (aa (pv 2) ae))))),(a9 (ab (ap aG ac ak) (ab (aq (ab (ap aG ac ak) (ab ac ag))) (ab ac (ab ac ag))))),fun xs ω Q h=>?_⟩)
  obtain⟨n,y,ws,S,l,r,x,z,rfl,rfl,h1,h2,h3,hS,q⟩:=h;walk_at "a1";refine⟨n,ws,S,rfl,h1,h2,h3,hS,?_⟩;walk_at "a1";exact q
 case main=>
  obtain⟨u,n,S,rfl,hn1,hn,hu,hS,hd,k⟩:=h;obtain⟨e1,_,_⟩:=pY u;walk_at "a1";refine⟨cu u,(nM u).symm,m5 u,by omega,fun e=>(mvT S (jP e)).d,_,rfl,_,rfl,fun q he ω1 Q1 h=>?_,fun q l r he ω1 Q1 h=>?_,?_⟩
  ·obtain⟨v,e,hv⟩:=qf hu he
   cases v with
   |en i=>cases e;exact⟨n,i,S,rfl,rfl,hv.1,hv.2,hS,h⟩
   |nd y ws l r=>cases e
  ·obtain⟨v,e,hv⟩:=qf hu he
   cases v with
   |en i=>cases e
   |nd y ws l' r'=>
    simp only[cu,Tr.nd.injEq] at e;obtain⟨rfl,rfl,rfl⟩:=e;have h:Q1 (.d (mvT S (jP (cu (.nd y ws l' r')))).d) ω1:=h;rw[jA] at h;show gS _ [_,.d (mvT S (jP (cu l'))).d,.d (mvT S (jP (cu r'))).d] ω1 Q1;rw[jA,jA];exact⟨n,y,ws,S,(cu l').d,(cu r').d,_,_,rfl,rfl,hn1,hn,hv.1,hS,h⟩
  ·rw[ay]
   show Q (.d (mvT S (jP (cu u))).d) ω;rw[jA];exact k
theorem rL:∀ {u:Ta} {e:Tr},e∈(cu u).post->∃v:Ta,e=cu v
 |.en i,e,he=>by simp[cu,Tr.post] at he;exact⟨.en i,he⟩
 |.nd y ws l r,e,he=>by
  simp only[cu,Tr.post,List.mem_append,List.mem_singleton] at he;rcases he with(he|he)|he
  ·exact rL he
  ·exact rL he
  ·exact⟨.nd y ws l r,he⟩
noncomputable def GJ:ASp:=fun xs ω Q=>∃(n:Nat) (ys zs:List (List Int)),xs=[.d (csD n ys zs)]/\Q (.d (csD n zs ys)) ω
theorem yA(T:Txt K mg t):aA P w K mg base CX0 1 t.cG t.iF ["case"] (bo GJ):=by
 refine T.sg.okD re (fun xs ω Q h=>by obtain⟨n,ys,zs,rfl,_⟩:=h;rfl) (fun cdv A outer s H E hr=>⟨_,_,(am (aB (aQ (aa (ar (ai K rfl) (pv 0) af (fun _ _=>rfl)) (aa (ar (ai K rfl) (pv 0) af (fun _ _=>rfl)) (aa (ar (ai K rfl) (pv 0) af (fun _ _=>rfl)) ae)))))),(aO (a9 (ab (ap aG ac ak) (ab (ap aG ac ak) (ab (ap aG ac ak) ag))))),fun xs ω Q h=>?_⟩)
 obtain⟨n,ys,zs,rfl,k⟩:=h;simp only[csD] at k ⊢;walk_at "a1";rw[ay];exact k
noncomputable def D1:ASp:=fun xs ω Q=>∃(u:Ta),xs=[.d u.d]/\u.size<=100000/\Q (.d (swT u).d) ω
noncomputable def nX(_:List AV):ASp:=fun xs ω Q=>∃d,xs=[.d d]/\Q (.d d) ω
noncomputable def i7(_:List AV):ASp:=fun xs ω Q=>∃(y:Bool)(ws l r x z:D),xs=[.d (.tup [.str (if y then "yes" else "no"),ws,l,r]),.d x,.d z]/\Q (.d (.tup [.str (if !y then "yes" else "no"),ws,x,z])) ω
theorem Az:¬ Str.ofString "yes"=Str.ofString "no":=by decide +kernel
theorem yf(T:Txt K mg t):aA P t.wo K mg base CX0 6 t.bw t.fw ["talk"] (bo D1):=by
 have G_folded:∀b',aA P t.wo K mg b' CX0 4 t.cD t.dZ ["tree","leaf","of_leaf","of_fork"] (fP 1 P t.wo K mg b'):=fun b'=>jp 1 T;refine T.dC.okD rm (fun xs ω Q h=>by obtain⟨u,rfl,_⟩:=h;rfl) (fun A outer s H E hr=>?_)
 refine⟨_,_,(am (aB (gR G_folded (hr.mono (by omega)) (by rfl) T.gX T.gW T.gU (aa (pv 0) (aE aK (aa (fx (x:="swapped_talk") rfl rfl T.dC.tab T.dC.hd rfl) (aa (fx (x:="swapped_talk") rfl rfl T.dC.tab T.dC.hd rfl) ae))))))),(aO (qv (j1:=[]) (j2:=[]) (s1:=nX) (s2:=i7) ?F0 ?F1 ac aX)),fun xs ω Q h=>?main⟩
 case F0=>
  intro b' H f σ caps cA L cb hc hl;obtain rfl:caps=[]:=List.length_eq_zero_iff.mp (hc.1);refine dP (ps:=["end"]) (cs:=[]) L ⟨rfl,rfl,rfl,by decide +kernel,by decide +kernel,by decide +kernel,by decide +kernel⟩ (Db b') (fun pm c ctv us hl=>match us,hl with | [_],_=>rfl) (fun xs ω Q h=>by obtain⟨d,rfl,_⟩:=h;rfl) (fun cd A outer s H hr=>⟨_,_,(pv 0),ac,fun xs ω Q h=>?_⟩)
  obtain⟨d,rfl,q⟩:=h;walk_at "a1";exact q
 case F1=>
  intro b' H f σ caps cA L cb hc hl;obtain rfl:caps=[]:=List.length_eq_zero_iff.mp (hc.1);refine dP (ps:=["turn","first","second"]) (cs:=[]) L ⟨rfl,rfl,rfl,by decide +kernel,by decide +kernel,by decide +kernel,by decide +kernel⟩ (Db b') (fun pm c ctv us hl=>match us,hl with | [_,_,_],_=>rfl) (fun xs ω Q h=>by obtain⟨y,ws,l,r,x,z,rfl,_⟩:=h;rfl) (fun cd A outer s H hr=>⟨_,_,(aQ (aa (wr T.vU (oy (v:=.ref t.dr) rfl T.wP rfl) (ar (ai K rfl) (pv 0) af (fun _ _=>rfl)) (fun _ _=>rfl)) (aa (ar (ai K rfl) (pv 0) af (fun _ _=>rfl)) (aa (pv 1) (aa (pv 2) ae))))),(a9 (ab (Ay (ap aG ac ak)) (ab (ap aG ac ak) (ab ac (ab ac ag))))),fun xs ω Q h=>?_⟩)
  obtain⟨y,ws,l,r,x,z,rfl,q⟩:=h;walk_at "a1";cases y
  ·exact⟨.str "yes",by rw[if_neg (by decide)];simp[so,Az],_,rfl,q⟩
  ·exact⟨.str "no",by rw[if_pos rfl];simp[so],_,rfl,q⟩
 case main=>
  obtain⟨u,rfl,hd,k⟩:=h;obtain⟨e1,_,_⟩:=pY u;walk_at "a1";refine⟨cu u,(nM u).symm,m5 u,by omega,fun e=>(swT (jP e)).d,_,rfl,_,rfl,fun q he ω1 Q1 h=>?_,fun q l r he ω1 Q1 h=>?_,?_⟩
  ·obtain⟨v,e⟩:=rL he
   cases v with
   |en i=>cases e;exact⟨_,rfl,h⟩
   |nd y ws l r=>cases e
  ·obtain⟨v,e⟩:=rL he
   cases v with
   |en i=>cases e
   |nd y ws l' r'=>
    simp only[cu,Tr.nd.injEq] at e;obtain⟨rfl,rfl,rfl⟩:=e;have h:Q1 (.d (swT (jP (cu (.nd y ws l' r')))).d) ω1:=h;rw[jA] at h;show i7 _ [_,.d (swT (jP (cu l'))).d,.d (swT (jP (cu r'))).d] ω1 Q1;rw[jA,jA];exact⟨y,_,(cu l').d,(cu r').d,_,_,rfl,h⟩
  ·rw[ay]
   show Q (.d (swT (jP (cu u))).d) ω;rw[jA];exact k
noncomputable def Sy.upB:Sy->Bool
 |.is _ b=>b == 1
 |.jn _ l r=>Sy.upB l && Sy.upB r
theorem wa:∀x:Sy,Sy.upB x=true↔x.up
 |.is _ b=>by simp[Sy.upB,Sy.up]
 |.jn _ l r=>by simp[Sy.upB,Sy.up,wa l,wa r]
noncomputable def Sy.post:Sy->List Sy
 |.is i b=>[.is i b]
 |.jn a l r=>Sy.post l++Sy.post r++[.jn a l r]
noncomputable def Sy.isL:Sy->Bool
 |.is _ _=>true
 |_=>false
theorem on:∀x:Sy,(bL x).post.map Tr.d=(Sy.post x).map Sy.d
 |.is i b=>by simp only[bL,Tr.post,Sy.post,List.map_cons,List.map_nil];rfl
 |.jn a l r=>by
  have e:(bL (.jn a l r)).d=(Sy.jn a l r).d:=lb _;simp only[bL,Tr.post,Sy.post,List.map_append,on l,on r,List.map_cons,List.map_nil];simp only[bL] at e;rw[e]
theorem sK:∀x:Sy,(((Sy.post x).filter Sy.isL).map Sy.upB).all id=Sy.upB x
 |.is i b=>by simp[Sy.post,Sy.isL]
 |.jn a l r=>by simp[Sy.post,Sy.isL,List.filter_append,Sy.upB,←sK l,←sK r]
noncomputable def IR:ASp:=fun xs ω Q=>∃x:Sy,xs=[.d x.d]/\x.dp<=15/\Q (.d (.bl (Sy.upB x))) ω
theorem MM(T:Txt K mg t):aA P w K mg base CX0 2 t.cU t.jR ["saying"] (bo IR):=by
 have G_upward:aA P w K mg base _ _ _ _ _ _:=nU T;refine T.uu.okD su (fun xs ω Q h=>by obtain⟨x,rfl,_⟩:=h;rfl) (fun cdv A outer s H E hr=>⟨_,_,(am (aB (bD (vC K rfl rfl) (by rfl) T.IH (by kernel_rfl) (aa (ci (N:=(["part"]:List Str)) (src:=[none]) rfl (by show cX _ (defScope gI) _ _ (["saying"]:List Str)=true;decide +kernel) (by intro g' h;cases h) (cf K rfl (aj G_upward (hr.mono (by omega)) (by rfl) T.ub T.tQ T.sq .nil ax (aa (pv 0) (aE aK ae)))) (fun _ _ _ _ _ _=>(au (i:=0) (show (["part"]:List Str).Nodup by decide +kernel) rfl (Or.inl rfl))) (fun _ _ _ _ _ _=>(gH (aH (bh hr.Nw) (ar (ai K rfl) (pv 0) af (fun _ _=>rfl)) aK (aL _)))) (fun _ _ _ _ _ _=>(bM rfl rfl (cV (bh hr.Nw) (ar (ai K rfl) (pv 0) af (fun _ _=>rfl)) af (aL _))))) ae)))),(aO (du IX (ab (cL (dF (aq (ab ac (ab aX ag)))) ao (aP (ap bq (ap aG ac ak) aX)) (cM (ap bq (ap aG ac ak) ak))) ag))),fun xs ω Q h=>?_⟩)
 obtain⟨x,rfl,hd,k⟩:=h;walk_at "a1";have hsm:=gn hd;refine⟨bL x,"is",by rw[lb],jt x,hsm,?_⟩
 have hl:(Sy.post x).length<=100000:=by
  have:=congrArg List.length (on x);rw[List.length_map,List.length_map,Tr.o8] at this;omega
 rw[on];walk_at "a1";refine wG Sy.d Sy.isL (fun y=>.bl (Sy.upB y)) (Nat.le_of_lt (mh (by omega))) (fun y hy Q q=>?_) (fun y hy hp Q q=>?_) (fun ρ=>⟨_,a8 _,?_⟩)
 ·cases y with
  |is i b=>
   simp only[Sy.d];walk_at "a1";simpa[Sy.isL] using q
  |jn a l r=>
   have hE2:((if a then ("and":Str) else ("or":Str)) == "is")=false:=by cases a<;>decide +kernel
   simp only[Sy.d];walk_at "a1";rw[hE2];exact q
 ·cases y with
  |jn a l r=>cases hp
  |is i b=>
   simp only[Sy.d];walk_at "a1";simpa[Sy.upB] using q
 rw[show (((Sy.post x).filter Sy.isL).map fun y=>D.bl (Sy.upB y))=(((Sy.post x).filter Sy.isL).map Sy.upB).map D.bl from by simp]
 refine⟨_,rfl,?_⟩;rw[ay,sK];exact k
noncomputable def Dz:ASp:=fun xs ω Q=>∃(n:Nat) (ys zs:List (List Int)) (u:Ta),xs=[.d (csD n ys zs),.d u.d]/\GT n ys zs u/\Q (.d (.bl ((prl ys zs).find? (fau false u)).isNone)) ω
theorem Dt(T:Txt K mg t):aA P w K mg base CX0 1 t.eX t.nQ ["_law_case","_law_talk"] (bo Dz):=by
 refine T.zz.okD em (fun xs ω Q h=>by obtain⟨n,ys,zs,u,rfl,_⟩:=h;rfl) (fun cdv A outer s H E hr=>⟨_,_,(ah (g6 PassesOwn.never rfl (cf K rfl (ar (ai K rfl) (pv 0) af (fun _ _=>rfl))) (au (i:=2) em.nd rfl (Or.inl rfl)) (am (g6 PassesOwn.never rfl (cf K rfl (ar (ai K rfl) (pv 0) af (fun _ _=>rfl))) (au (i:=3) em.nd rfl (Or.inl rfl)) (ah (aJ (i:=4) em.nd rfl (Or.inl rfl) (pv 1))
   (ah (lF PassesOwn.never (aH (bh hr.Nw) (bD (gc K rfl) (by rfl) T.r6 (by kernel_rfl) (aa (pv 4) ae)) af (aL _)) (ah (aJ (i:=5) em.nd rfl (Or.inl rfl) (pv 2))
   (ah (bT (aH (bh hr.Nw) (ar (ai K rfl) (pv 4) af (fun _ _=>rfl)) aK (aL _)) (am (aJ (i:=5) em.nd rfl (Or.inl rfl) (pv 3))) bb)
   (am (aJ (i:=4) em.nd rfl (Or.inl rfl) (ar (ai K rfl) (pv 4) (be (ba d8 (ba cR d7)) af (bn qu (by rfl) T.Eo (by kernel_rfl) (aa (cV (qb hr.Nw) (pv 5) (ar (ai K rfl) (pv 4) af (fun _ _=>rfl)) (by with_unfolding_all rfl)) ae))) (fun _ _=>rfl)))))))
   (am (bT (aH (bh hr.Nw) (ar (ai K rfl) (pv 2) (ar (ai K rfl) (pv 4) af (fun _ _=>rfl)) (fun _ _=>rfl)) (ar (ai K rfl) (pv 3) (ar (ai K rfl) (pv 4) af (fun _ _=>rfl)) (fun _ _=>rfl)) (aL _)) (am (aB fU)) bb)))))))
   (am (aB fU))),(av (lp (dF (ap aG ac ak)) ao (lp (dF (ap aG ac ak)) ao (av (aN ac ao)
   (av (oH (aP (ap bq (du tD (ab ac ag)) ak)) (av (aN ac ao)
   (av (dX (aP (ap bq (ap aG ac ak) aX)) (aN ac ao) bE)
   (aN (ap aG ac (ap gT ak (du FS (ab (ap ze ac (ap aG ac ak)) ag)))) ao))))
   (dX (aP (ap bq (ap aG ac (ap aG ac ak)) (ap aG ac (ap aG ac ak)))) (aO lx) bE)))))
   (aO lx)),fun xs ω Q h=>?_⟩)
 obtain⟨n,ys,zs,u,rfl,⟨hn,hu,hud,hy,hz⟩,k⟩:=h
 have no:∀ {y z:List Int},y∈ys->z∈zs->fau false u (y,z)=true->Q (.d (.bl false)) ω:=fun {y z} my mz hf=>by
  have:((prl ys zs).find? (fau false u)).isNone=false:=by
   rw[Option.isNone_eq_false_iff,List.find?_isSome];exact⟨(y,z),List.mem_flatMap.mpr ⟨y,my,List.mem_map.mpr ⟨z,mz,rfl⟩⟩,hf⟩
  rw[this] at k;exact k
 simp only[csD];walk_at "s1";refine pd (fun i ρ ω'=>ω'=ω/\(∀y∈ys.take i,∀z∈zs,fau false u (y,z)=false)/\∃v2 v3 v4 v5,ρ=[some (AV.d (D.tup [D.int n,D.tup (ys.map wdD),D.tup (zs.map wdD)])),some (AV.d u.d),v2,v3,v4,v5]) ⟨rfl,fun y h=>by simp at h,_,_,_,_,rfl⟩ ?_ ?_
 ·rintro i d ρ ω1 N hd ⟨rfl,ho,v2,v3,v4,v5,rfl⟩ kN
  obtain⟨y,hyi,rfl⟩:=L2.dA hd;have hym:=List.mem_of_getElem? hyi;have hyl:y.length=n:=(cK (hy.2 y hym)).1;have et:ys.take (i+1)=ys.take i++[y]:=by rw[List.take_succ,hyi];rfl
  walk_at "a1";refine pd (fun j ρ ω'=>ω'=ω1/\(∀z∈zs.take j,fau false u (y,z)=false)/\∃v3 v4 v5,ρ=[some (AV.d (D.tup [D.int n,D.tup (ys.map wdD),D.tup (zs.map wdD)])),some (AV.d u.d),some (.d (wdD y)),v3,v4,v5]) ⟨rfl,fun y h=>by simp at h,_,_,_,rfl⟩ ?_ ?_
  ·rintro j d ρ ω2 N2 hd ⟨rfl,hq,v3,v4,v5,rfl⟩ kN2
   obtain⟨z,hzi,rfl⟩:=L2.dA hd;have hzm:=List.mem_of_getElem? hzi;have hzl:z.length=n:=(cK (hz.2 z hzm)).1;have ez:zs.take (j+1)=zs.take j++[z]:=by rw[List.take_succ,hzi];rfl
   obtain⟨f0,f1⟩:=Ta.s9 (y:=y) (n:=z) hu;walk_at "s1";obtain⟨Pv,iP⟩:=EM fun m ρ ω'=>ω'=ω2/\∃(u2:Ta)(v5:Option AV),ρ=[some (AV.d (D.tup [D.int n,D.tup (ys.map wdD),D.tup (zs.map wdD)])),some (AV.d u.d),some (.d (wdD y)),some (.d (wdD z)),some (.d u2.d),v5]/\u2.ok n/\Ta.fin y z u2=Ta.fin y z u/\m=u2.dp;refine⟨Pv,⟨_,(iP _ _ _).mpr ⟨rfl,u,_,rfl,hu,rfl,rfl⟩⟩,fun m ρ ω3 h=>?_⟩;obtain⟨rfl,u2,v5,rfl,hu2,hf,rfl⟩:=(iP _ _ _).mp h
   clear h
   cases u2 with
   |en c=>
    simp only[Ta.fin] at hf;subst hf;simp only[Ta.d];walk_at "a1";rw[if_neg (by decide)]
    obtain⟨y',my,hy',ey⟩:=mS (f:=AV.d ∘ D.int) (xs:=y) f0 (by omega)
    obtain⟨z',mz,hz',ez'⟩:=mS (f:=AV.d ∘ D.int) (xs:=z) f0 (by omega)
    rw[←List.map_map] at ey ez'
    have evy:y.getD (Ta.fin y z u).toNat 0=y':=by rw[List.getD_eq_getElem?_getD,hy'];rfl
    have evz:z.getD (Ta.fin y z u).toNat 0=z':=by rw[List.getD_eq_getElem?_getD,hz'];rfl
    have hfa:fau false u (y,z)=decide (y'=z'):=by simp only[fau,ppB,evy,evz,Bool.false_eq_true,if_false,Bool.not_not]
    refine⟨_,ey,_,ez',_,rfl,_,rfl,by simp[dep],?_⟩
    rw[gJ];refine ur (fun h=>?_) (fun h=>?_)
    ·rw[ay]
     exact no hym hzm (by rw[hfa];simpa using h)
    ·exact kN2 _ _ ⟨rfl,fun z2 hz2=>by
      rw[ez,List.mem_append,List.mem_singleton] at hz2;rcases hz2 with hz2|rfl
      ·exact hq z2 hz2
      ·rw[hfa];simpa using h,_,_,_,rfl⟩
   |nd h ws l r=>
    obtain⟨hws,hl,hr⟩:=hu2;have hle:=hws.le hn;have hds:ib (ws.map wdD)<=90:=by have:=fv ws;omega
    simp only[Ta.d];walk_at "a1";rw[if_pos (by decide)]
    refine⟨fun ρ' ω'=>∃m',m'<(Ta.nd h ws l r).dp/\Pv m' ρ' ω',fun ρ' ω' h=>h,?_⟩;walk_at "s1";cases h
    ·walk_at "s1"
     refine⟨hds,?_⟩;rw[p5];by_cases hm:z∈ws
     ·exact⟨_,by rw[decide_eq_true hm];rfl,_,by simp only[Ta.dp];omega,(iP _ _ _).mpr ⟨rfl,r,_,rfl,hr,by rw[←hf];simp[Ta.fin,Ta.bit,hm],rfl⟩⟩
     ·exact⟨_,by rw[decide_eq_false hm];rfl,_,by simp only[Ta.dp];omega,(iP _ _ _).mpr ⟨rfl,l,_,rfl,hl,by rw[←hf];simp[Ta.fin,Ta.bit,hm],rfl⟩⟩
    ·walk_at "s1"
     refine⟨hds,?_⟩;rw[p5];by_cases hm:y∈ws
     ·exact⟨_,by rw[decide_eq_true hm];rfl,_,by simp only[Ta.dp];omega,(iP _ _ _).mpr ⟨rfl,r,_,rfl,hr,by rw[←hf];simp[Ta.fin,Ta.bit,hm],rfl⟩⟩
     ·exact⟨_,by rw[decide_eq_false hm];rfl,_,by simp only[Ta.dp];omega,(iP _ _ _).mpr ⟨rfl,l,_,rfl,hl,by rw[←hf];simp[Ta.fin,Ta.bit,hm],rfl⟩⟩
  ·rintro ρ ω2 ⟨rfl,hq,v3,v4,v5,rfl⟩
   rw[List.length_map,List.take_length] at hq
   exact kN _ _ ⟨rfl,fun y' hy'=>by
    rw[et,List.mem_append,List.mem_singleton] at hy';rcases hy' with hy'|rfl
    ·exact ho y' hy'
    ·exact hq,_,_,_,_,rfl⟩
 ·rintro ρ ω1 ⟨rfl,ho,v2,v3,v4,v5,rfl⟩
  rw[List.length_map,List.take_length] at ho
  have:((prl ys zs).find? (fau false u)).isNone=true:=by
   rw[Option.isNone_iff_eq_none,List.find?_eq_none];rintro⟨y,z⟩ hm;obtain⟨h1,h2⟩:=oB hm;rw[ho y h1 z h2]
   decide
  rw[this] at k;dsimp only;walk_at "a1";rw[ay];exact k
noncomputable def Kz:ASp:=fun xs ω Q=>∃(b:Bool)(y z:List Int),xs=[.d (.str (rl b)),.d (wdD y),.d (wdD z)]/\y.length=z.length/\y.length<=5/\∀ds:List D,(0<ds.length↔∃i<y.length,ppB b y z i=true)->Q (.d (.lst ds)) ω
theorem K5(T:Txt K mg t):aA P w K mg base CX0 2 t.cB t.iI ["rule","yes","no"] (bo Kz):=by
 have G_parts_pair:aA P w K mg base _ _ _ _ _ _:=I9 T;refine T.sA.okD rA (fun xs ω Q h=>by obtain⟨b,y,z,rfl,_⟩:=h;rfl) (fun cdv A outer s H E hr=>⟨_,_,(am (aB (ci (N:=(["place","bit","rule","yes","no"]:List Str)) (src:=[none,none,some 0,some 1,some 2]) rfl (by show cX _ (defScope fy) _ _ (["rule","yes","no"]:List Str)=true;decide +kernel) (by intro g' h;cases h) (BD K rfl (by rfl) T.qY (aa (pv 1) ae)) (fun _ _ _ _ _ _=>(cI K rfl (n:=2) rfl (aF (au (i:=0) (show (["place","bit","rule","yes","no"]:List Str).Nodup by decide +kernel) rfl (Or.inl rfl)) (aF (au (i:=1) (show (["place","bit","rule","yes","no"]:List Str).Nodup by decide +kernel) rfl (Or.inl rfl)) cH)))) (fun _ _ _ _ _ _=>(gH (bO K rfl (aj G_parts_pair (hr.mono (by omega)) (by rfl) T.oI T.o7 T.pH .nil ax (aa (pv 2) (aa (pv 0) (aa (pv 3) (aa (pv 4) ae))))) (fun _=>rfl)))) (fun _ _ _ _ _ _=>(bM rfl rfl (aQ (aa (pv 0) (aa (pv 1) ae)))))))),(aO (cL (Fb (ab ac ag)) (fW (aV ao (aV ao fV))) (iW (aq (ab ac (ab ac (ab ac (ab ac ag)))))) (cM (a9 (ab ac (ab ac ag)))))),fun xs ω Q h=>?_⟩)
 obtain⟨b,y,z,rfl,hl,h5,k⟩:=h;simp only[wdD];walk_at "a1";refine vW (xs:=(y.map D.int).zipIdx) (fun ρ=>∃a c,ρ=[a,c,some (.d (.str (rl b))),some (.d (.tup (y.map D.int))),some (.d (.tup (z.map D.int)))]) ⟨_,_,rfl⟩ (fun p=>AV.d (.tup [.int (p.2:Nat),p.1])) (fun p=>ppB b y z p.2) (fun p=>.tup [.int (p.2:Nat),p.1]) rfl (Nat.le_of_lt (bu (by simp;omega))) (fun p ρ N hp hR kN=>?_) (fun ρ hR=>⟨_,a8 _,?_⟩)
 ·obtain⟨a,c,rfl⟩:=hR
  obtain⟨d,i⟩:=p;have hi:i<y.length:=by have:=(List.mem_zipIdx hp).2.1;simpa using this
  walk_at "a1";refine kN _ ⟨_,_,rfl⟩ (fun Q q=>?_) (fun _ Q q=>?_)
  ·walk_at "a1"
   exact⟨b,(i:Int),y,z,rfl,by omega,by omega,by omega,_,rfl,by simpa using q⟩
  ·walk_at "a1"
   exact q
 ·rw[ay]
  refine k _ ?_;rw[List.length_map,List.length_pos_iff_exists_mem];constructor
  ·rintro⟨⟨d,i⟩,h⟩
   obtain⟨h1,h2⟩:=List.mem_filter.mp h;exact⟨i,by have:=(List.mem_zipIdx h1).2.1;simpa using this,h2⟩
  ·rintro⟨i,hi,h⟩
   exact⟨(.int y[i],i),List.mem_filter.mpr ⟨by rw[List.mem_zipIdx_iff_getElem?];simp[hi],h⟩⟩
noncomputable def yH:ASp:=fun xs ω Q=>∃(n:Nat) (ys zs:List (List Int)),xs=[.d (csD n ys zs)]/\n<=5/\Wds n ys/\Wds n zs/\(∀y∈ys,∀z∈zs,∃i<n,ppB true y z i=true)/\Q (.d (.bl true)) ω
theorem Ga(T:Txt K mg t):aA P w K mg base CX0 3 t.dB t.lc ["case"] (bo yH):=by
 have G_squares_with:aA P w K mg base _ _ _ _ _ _:=K5 T;refine T.wA.okD ux (fun xs ω Q h=>by obtain⟨n,ys,zs,rfl,_⟩:=h;rfl) (fun cdv A outer s H E hr=>⟨_,_,(am (aB (bD (vC K rfl rfl) (by rfl) T.IH (by kernel_rfl) (aa (ci (N:=(["yes","no","case"]:List Str)) (src:=[none,none,some 0]) rfl (by show cX _ (defScope hX) _ _ (["case"]:List Str)=true;decide +kernel) (by intro g' h;cases h;rfl) (cf K rfl (ar (ai K rfl) (pv 0) af (fun _ _=>rfl))) (fun _ _ _ _ _ _=>(au (i:=0) (show (["yes","no","case"]:List Str).Nodup by decide +kernel) rfl (Or.inl rfl))) (fun _ _ _ _ _ _=>dU) (fun _ _ _ _ _ _=>(EG rfl rfl rfl (by intro g' h;cases h) (cf K rfl (ar (ai K rfl) (pv 2) af (fun _ _=>rfl))) (au (i:=1) (show (["yes","no","case"]:List Str).Nodup by decide +kernel) rfl (Or.inl rfl)) dU (bM rfl rfl (cV zf (bD (gc K rfl) (by rfl) T.r6 (by kernel_rfl) (aa (aj G_squares_with (hr.mono (by omega)) (by rfl) T.t9 T.tK T.ud .nil ax (aE aK (aa (pv 0) (aa (pv 1) ae)))) ae)) af (aL _)))))) ae)))),(aO (du IX (ab (cL (dF (ap aG ac ak)) ao oR (Jv (dF (ap aG ac ak)) ao oR (cM (ap sU (du tD (ab (aq (ab aX (ab ac (ab ac ag)))) ag)) ak)))) ag))),fun xs ω Q h=>?_⟩)
 obtain⟨n,ys,zs,rfl,hn,hy,hz,hh,k⟩:=h;have hyl:=hy.le hn;have hzl:=hz.le hn;simp only[csD];walk_at "a1";refine qC (fun i xs ρ ω'=>ω'=ω/\(∃v0 v1,ρ=[v0,v1,some (.d (csD n ys zs))])/\xs=((prl (ys.take i) zs).map fun _=>AV.d (.bl true))) ⟨rfl,⟨_,_,rfl⟩,rfl⟩ ?_ ?_
 ·rintro i d xs ρ ω' N hd ⟨rfl,⟨v0,v1,rfl⟩,rfl⟩ kN
  obtain⟨y,hyi,rfl⟩:=dA hd;have hym:=List.mem_of_getElem? hyi;have hil:=(List.getElem?_eq_some_iff.mp hyi).1;simp only[csD];walk_at "a1";refine qC (fun j xs ρ ω''=>ω''=ω'/\(∃v1,ρ=[some (.d (wdD y)),v1,some (.d (csD n ys zs))])/\xs=((prl (ys.take i) zs++(zs.take j).map fun z=>(y,z)).map fun _=>AV.d (.bl true))) ⟨rfl,⟨_,rfl⟩,by simp⟩ ?_ ?_
  ·rintro j d2 xs ρ ω'' M hd2 ⟨rfl,⟨v1,rfl⟩,rfl⟩ kM
   obtain⟨z,hzj,rfl⟩:=dA hd2;have hzm:=List.mem_of_getElem? hzj;have hjl:=(List.getElem?_eq_some_iff.mp hzj).1
   have hlen:(prl (ys.take i) zs).length<=32*32:=by
    rw[Bp,List.length_take];exact Nat.mul_le_mul (by omega) hzl
   have ly:y.length=n:=(cK (hy.2 y hym)).1;have lz:z.length=n:=(cK (hz.2 z hzm)).1;walk_at "a1";refine⟨true,y,z,rfl,by omega,by omega,fun ds hds=>?_⟩
   have h0:0<(ds.length:Int):=by
    have:=hds.mpr (by rw[ly];exact hh y hym z hzm)
    omega
   refine⟨_,rfl,Nat.lt_of_le_of_lt (m:=2000) (by rw[List.length_take];omega) (by decide),kM _ _ _ ⟨rfl,⟨_,rfl⟩,?_⟩⟩
   rw[List.length_map,decide_eq_true h0,List.take_succ,hzj];simp
  ·rintro xs ρ ω'' ⟨rfl,⟨v1,rfl⟩,rfl⟩
   rw[List.length_map,List.take_length];exact kN _ _ _ ⟨rfl,⟨_,_,rfl⟩,by rw[yQ hyi]⟩
 ·rintro xs ρ ω' ⟨rfl,⟨v0,v1,rfl⟩,rfl⟩
  rw[List.length_map,List.take_length,show ((prl ys zs).map fun _=>AV.d (.bl true))=(((prl ys zs).map fun _=>true).map D.bl).map AV.d from by simp,a8]
  refine⟨_,rfl,_,rfl,?_⟩;rw[ay,show (((prl ys zs).map fun _=>true).all id)=true from by simp]
  exact k
structure Thg(n:Nat)(x:Sy)(ys zs:List (List Int)):Prop where
 n1:1<=n
 n5:n<=5
 pt:jQ n x ys zs
 ok:x.ok n
 dp:x.dp<=12
 lv:x.lvs<=40
noncomputable def thD(n:Nat)(x:Sy)(ys zs:List (List Int)):D:=.tup [csD n ys zs,x.d,(aR ys zs x).d]
section
variable{n:Nat}{x:Sy}{ys zs:List (List Int)}
theorem Thg.fl(h:Thg n x ys zs)(S:List Int):Thg n (flS S x) (flV S ys) (flV S zs):=
 ⟨h.n1,h.n5,by rw[sY];exact(GC h.n5 S).parted h.ok h.pt,Ag h.ok,by rw[(BA x).1];exact h.dp,by rw[(BA x).2];exact h.lv⟩
theorem Thg.mv(h:Thg n x ys zs){o:List Int}(ho:Pm n o):Thg n (mvS o x) (mvV o ys) (mvV o zs):=
 ⟨h.n1,h.n5,by rw[t0];exact(F5 ho).parted h.ok h.pt,Aj ho h.ok,by rw[(Cv x).1];exact h.dp,by rw[(Cv x).2];exact h.lv⟩
theorem Thg.sw(h:Thg n x ys zs):Thg n (agS x) zs ys:=
 ⟨h.n1,h.n5,Dc h.ok h.pt,Ar h.ok,by rw[(BR x).1];exact h.dp,by rw[(BR x).2];exact h.lv⟩
theorem Thg.flT(h:Thg n x ys zs)(S:List Int):flT S (aR ys zs x)=aR (flV S ys) (flV S zs) (flS S x):=by
 rw[wN,sY];exact(GC h.n5 S).talk h.pt.y h.pt.z h.ok
theorem Thg.mvT(h:Thg n x ys zs){o:List Int}(ho:Pm n o):mvT o (aR ys zs x)=aR (mvV o ys) (mvV o zs) (mvS o x):=by
 rw[vR,t0];exact(F5 ho).talk h.pt.y h.pt.z h.ok
theorem Thg.swT(h:Thg n x ys zs):swT (aR ys zs x)=aR zs ys (agS x):=oO h.pt.y h.pt.z h.ok
theorem Thg.tk(h:Thg n x ys zs):(aR ys zs x).ok n/\(aR ys zs x).dp<=12/\(aR ys zs x).size<=79:=by
 obtain⟨h1,h2,h3⟩:=qE h.pt.y h.pt.z h.ok;have:=h.dp;have:=h.lv;exact⟨h1,by omega,by omega⟩
theorem Thg.ww(h:Thg n x ys zs):Ww n (ys,zs):=⟨h.pt.y,h.pt.z⟩
theorem Thg.has(h:Thg n x ys zs):has (ys,zs)=true:=fH.mpr ⟨h.pt.y1,h.pt.z1⟩
theorem Thg.lets(h:Thg n x ys zs)(b:Bool)(hb:b=true->x.up):((prl ys zs).find? (fau b (aR ys zs x))).isNone=true:=Dq b h.pt h.ok hb
theorem Thg.pre(h:Thg n x ys zs){u:Ta}(hu:u.ok n)(hd:u.dp<=12):GT n ys zs u:=⟨h.n5,hu,by omega,h.pt.y,h.pt.z⟩
theorem Thg.grow(h:Thg n x ys zs)(hu:x.up):∀y∈ys,∀z∈zs,∃i<n,ppB true y z i=true:=fun y hy z hz=>by
 obtain⟨e1,e2⟩:=(gm hy hz (h.pt.z.2 z hz) h.ok (h.pt.vy y hy) (h.pt.vz z hz)).2 hu;obtain⟨f0,f1⟩:=Ta.s9 (y:=y) (n:=z) h.tk.1;exact⟨(Ta.fin y z (aR ys zs x)).toNat,by omega,by simp only[ppB,if_true,e1,e2];decide⟩
end
noncomputable def Kr:ASp:=fun xs ω Q=>∃(n:Nat)(x:Sy) (ys zs:List (List Int)) (S:List Int),xs=[.d (thD n x ys zs),.d (wdD S)]/\Thg n x ys zs/\Q (.d (thD n (flS S x) (flV S ys) (flV S zs))) ω
theorem DS(T:Txt K mg t):aA P w K mg base CX0 9 t.dY t.l9 ["_law_things","_law_some"] (bo Kr):=by
 have G_flipped_case:aA P w K mg base _ _ _ _ _ _:=xJ T;have G_flipped_saying:aA P w K mg base _ _ _ _ _ _:=B3 T;have G_flipped_talk:aA P w K mg base _ _ _ _ _ _:=yn T
 refine T.zc.okD hG (fun xs ω Q h=>by obtain⟨n,x,ys,zs,S,rfl,_⟩:=h;rfl) (fun cdv A outer s H E hr=>⟨_,_,(ah (iO (pv 0) (cI K rfl (n:=3) rfl (aF (au (i:=2) hG.nd rfl (Or.inl rfl)) (aF (au (i:=3) hG.nd rfl (Or.inl rfl)) (aF (au (i:=4) hG.nd rfl (Or.inl rfl)) cH)))))
   (am (aB (aQ (aa (aj G_flipped_case (hr.mono (by omega)) (by rfl) T.mr T.lX T.mD .nil ax (aa (pv 2) (aa (pv 1) ae))) (aa (aj G_flipped_saying (hr.mono (by omega)) (by rfl) T.kb T.km T.eF .nil ax (aa (pv 3) (aa (pv 1) ae))) (aa (aj G_flipped_talk (hr.mono (by omega)) (by rfl) T.lE T.lC T.fF .nil ax (aa (pv 4) (aa (pv 1) ae))) ae))))))),(av (aN ac (fW (aV ao (aV ao (aV ao fV)))))
   (aO (a9 (ab (aq (ab ac (ab ac ag))) (ab (aq (ab ac (ab ac ag))) (ab (aq (ab ac (ab ac ag))) ag)))))),fun xs ω Q h=>?_⟩)
 obtain⟨n,x,ys,zs,S,rfl,hh,k⟩:=h;obtain⟨t1,t2,t3⟩:=hh.tk;have hxd:=hh.dp;simp only[thD];walk_at "s1";refine⟨n,ys,zs,S,rfl,hh.n1,hh.n5,hh.pt.y,hh.pt.z,x,n,S,rfl,hh.ok,by omega,_,n,S,rfl,hh.n1,hh.n5,t1,by omega,?_⟩
 rw[hh.flT];refine⟨_,rfl,?_⟩;rw[ay];exact k
noncomputable def Kj:ASp:=fun xs ω Q=>∃(n:Nat)(x:Sy) (ys zs:List (List Int)) (o:List Int),xs=[.d (thD n x ys zs),.d (wdD o)]/\Thg n x ys zs/\Pm n o/\Q (.d (thD n (mvS o x) (mvV o ys) (mvV o zs))) ω
theorem FT(T:Txt K mg t):aA P w K mg base CX0 9 t.cT t.jS ["_law_things","_law_order"] (bo Kj):=by
 have G_exchanged_case:aA P w K mg base _ _ _ _ _ _:=yz T;have G_exchanged_saying:aA P w K mg base _ _ _ _ _ _:=Cg T;have G_exchanged_talk:aA P w K mg base _ _ _ _ _ _:=yM T
 refine T.uE.okD fD (fun xs ω Q h=>by obtain⟨n,x,ys,zs,S,rfl,_⟩:=h;rfl) (fun cdv A outer s H E hr=>⟨_,_,(ah (iO (pv 0) (cI K rfl (n:=3) rfl (aF (au (i:=2) fD.nd rfl (Or.inl rfl)) (aF (au (i:=3) fD.nd rfl (Or.inl rfl)) (aF (au (i:=4) fD.nd rfl (Or.inl rfl)) cH)))))
   (am (aB (aQ (aa (aj G_exchanged_case (hr.mono (by omega)) (by rfl) T.kD T.jY T.jZ .nil ax (aa (pv 2) (aa (pv 1) ae))) (aa (aj G_exchanged_saying (hr.mono (by omega)) (by rfl) T.iQ T.jg T.dj .nil ax (aa (pv 3) (aa (pv 1) ae))) (aa (aj G_exchanged_talk (hr.mono (by omega)) (by rfl) T.kr T.j6 T.eL .nil ax (aa (pv 4) (aa (pv 1) ae))) ae))))))),(av (aN ac (fW (aV ao (aV ao (aV ao fV)))))
   (aO (a9 (ab (aq (ab ac (ab ac ag))) (ab (aq (ab ac (ab ac ag))) (ab (aq (ab ac (ab ac ag))) ag)))))),fun xs ω Q h=>?_⟩)
 obtain⟨n,x,ys,zs,S,rfl,hh,ho,k⟩:=h;obtain⟨t1,t2,t3⟩:=hh.tk;have hxd:=hh.dp;simp only[thD];walk_at "s1";refine⟨n,ys,zs,S,rfl,hh.n1,hh.n5,hh.pt.y,hh.pt.z,ho,x,n,S,rfl,hh.ok,ho,by omega,_,n,S,rfl,hh.n1,hh.n5,t1,ho,by omega,?_⟩
 rw[hh.mvT ho];refine⟨_,rfl,?_⟩;rw[ay];exact k
noncomputable def Lj:ASp:=fun xs ω Q=>∃(n:Nat)(x:Sy) (ys zs:List (List Int)),xs=[.d (thD n x ys zs)]/\Thg n x ys zs/\Q (.d (thD n (agS x) zs ys)) ω
theorem F7(T:Txt K mg t):aA P t.wo K mg base CX0 7 t.d6 t.lO ["_law_things"] (bo Lj):=by
 have G_swapped_case:aA P t.wo K mg base _ _ _ _ _ _:=yA T;have G_against:aA P t.wo K mg base _ _ _ _ _ _:=tM T;have G_swapped_talk:aA P t.wo K mg base _ _ _ _ _ _:=yf T;refine T.yE.okD wZ (fun xs ω Q h=>by obtain⟨n,x,ys,zs,rfl,_⟩:=h;rfl) (fun cdv A outer s H E hr=>⟨_,_,(am (aB (aQ (aa (aj G_swapped_case (hr.mono (by omega)) (by rfl) T.mC T.ml T.mw .nil ax (aa (ar (ai K rfl) (pv 0) af (fun _ _=>rfl)) ae)) (aa (aj G_against (hr.mono (by omega)) (by rfl) T.vF T.vL T.mX .nil ax (aa (ar (ai K rfl) (pv 0) af (fun _ _=>rfl)) ae)) (aa (aj G_swapped_talk (hr.mono (by omega)) (by rfl) T.lB T.mm T.fz .nil ax (aa (ar (ai K rfl) (pv 0) af (fun _ _=>rfl)) ae)) ae)))))),(aO (a9 (ab (aq (ab (ap aG ac ak) ag)) (ab (aq (ab (ap aG ac ak) ag)) (ab (aq (ab (ap aG ac ak) ag)) ag))))),fun xs ω Q h=>?_⟩)
 obtain⟨n,x,ys,zs,rfl,hh,k⟩:=h;obtain⟨t1,t2,t3⟩:=hh.tk;have hxd:=hh.dp;simp only[thD];walk_at "a1";refine⟨n,ys,zs,rfl,x,n,rfl,hh.ok,by omega,_,rfl,by omega,?_⟩
 rw[hh.swT];refine⟨_,rfl,?_⟩;rw[ay];exact k
theorem vX:∀u:Ta,dep u.d<=u.dp+3
 |.en i=>by simp[Ta.d,dep,ib]
 |.nd h ws a b=>by
  have h1:=vX a;have h2:=vX b;have h3:=fv ws;simp only[Ta.d,dep,ib,Ta.dp];omega
theorem wq:∀u:Sy,dep u.d<=u.dp+1
 |.is i b=>by simp[Sy.d,dep,ib]
 |.jn an a b=>by
  have h1:=wq a;have h2:=wq b;simp only[Sy.d,dep,ib,Sy.dp];omega
section
variable{n:Nat}{x:Sy}{ys zs:List (List Int)}
noncomputable def tkM(ys zs:List (List Int))(x:Sy):Sy:=de (ys,zs) (dO (aR ys zs x) (ys,zs))
theorem Thg.ends(h:Thg n x ys zs):kT false (ys,zs) (dO (aR ys zs x) (ys,zs)):=zN h.has (h.lets false fun e=>by cases e)
theorem Thg.mfl(h:Thg n x ys zs)(S:List Int):tkM (flV S ys) (flV S zs) (flS S x)=flS S (tkM ys zs x):=by
 unfold tkM;rw[←h.flT S,wN,sY]
 have c:=GC h.n5 S;have e1:=c.cut (aR ys zs x) (ys,zs) h.ww h.tk.1;have e2:=c.mean _ (ys,zs) h.ww (jv (ys,zs) h.tk.1).1 h.ends;rw[←e2,←e1]
 rfl
theorem Thg.mmv(h:Thg n x ys zs){o:List Int}(ho:Pm n o):tkM (mvV o ys) (mvV o zs) (mvS o x)=mvS o (tkM ys zs x):=by
 unfold tkM;rw[←h.mvT ho,vR,t0]
 have c:=F5 ho;have e1:=c.cut (aR ys zs x) (ys,zs) h.ww h.tk.1;have e2:=c.mean _ (ys,zs) h.ww (jv (ys,zs) h.tk.1).1 h.ends;rw[←e2,←e1]
 rfl
theorem Thg.msw(h:Thg n x ys zs):tkM zs ys (agS x)=agS (tkM ys zs x):=by
 unfold tkM;rw[←h.swT]
 have e1:=tH (aR ys zs x) (ys,zs);have e2:=wI _ (ys,zs) h.ww h.ends;rw[←e2,←e1]
theorem Thg.mok(h:Thg n x ys zs):(tkM ys zs x).ok n/\(tkM ys zs x).dp<=12:=by
 obtain⟨c1,c2,c3⟩:=jv (ys,zs) h.tk.1;obtain⟨m1,m2,m3⟩:=wx _ (ys,zs) h.ww c1;have:=h.tk.2.1;exact⟨m1,by unfold tkM;omega⟩
end
noncomputable def Mu:ASp:=fun xs ω Q=>∃(n:Nat)(x:Sy) (ys zs:List (List Int)) (x':Sy) (ys' zs':List (List Int)),xs=[.d (thD n x ys zs),.d (thD n x' ys' zs')]/\Thg n x ys zs/\Thg n x' ys' zs'/\Q (.d (.bl true)) ω
theorem L9(T:Txt K mg t):aA P w K mg base CX0 14 t.bI t.fQ ["_law_one_here","_law_other"] (bo Mu):=by
 have G_parts:aA P w K mg base _ _ _ _ _ _:=xS T;have G_talk_of:aA P w K mg base _ _ _ _ _ _:=Gm T;have G_lets_by:aA P w K mg base _ _ _ _ _ _:=we T;have G_l_walked:aA P w K mg base _ _ _ _ _ _:=Dt T
 refine T.oS.okD bz (fun xs ω Q h=>by obtain⟨n,x,ys,zs,x',ys',zs',rfl,_⟩:=h;rfl) (fun cdv A outer s H E hr=>⟨_,_,(ah (iO (pv 0) (cI K rfl (n:=3) rfl (aF (au (i:=2) bz.nd rfl (Or.inl rfl)) (aF (au (i:=3) bz.nd rfl (Or.inl rfl)) (aF (au (i:=4) bz.nd rfl (Or.inl rfl)) cH)))))
   (ah (iO (pv 1) (cI K rfl (n:=3) rfl (aF (au (i:=5) bz.nd rfl (Or.inl rfl)) (aF (au (i:=6) bz.nd rfl (Or.inl rfl)) (aF (au (i:=7) bz.nd rfl (Or.inl rfl)) cH)))))
   (ah (bT (PW.pt (qR (jj (bO K rfl (aj G_parts (hr.mono (by omega)) (by rfl) T.Cl T.Bw T.B8 .nil ax (aa (pv 5) (aa (pv 6) ae))) (fun _=>rfl))) (n6 (aH (i9 hr.Nw) (aj G_talk_of (hr.mono (by omega)) (by rfl) T.vj T.vM T.mV .nil ax (aa (pv 5) (aa (pv 6) ae))) (pv 7) (aL _))))) (am (aB fU)) bb)
   (ah (bT (PW.pt (qR (aH pr (aj G_lets_by (hr.mono (by omega)) (by rfl) T.im T.iq T.ig .nil ax (aa (pv 5) (aE aK (aa (pv 7) ae)))) fU (aL _)) (n6 (jj (bO K rfl (aj G_l_walked (hr.mono (by omega)) (by rfl) T.sO T.tq T.ua .nil ax (aa (pv 5) (aa (pv 7) ae))) (fun _=>rfl)))))) (am (aB fU)) bb)
   (am (aB (cV (bh hr.Nw) (aj G_lets_by (hr.mono (by omega)) (by rfl) T.im T.iq T.ig .nil ax (aa (pv 5) (aE aK (aa (pv 4) ae)))) (aj G_l_walked (hr.mono (by omega)) (by rfl) T.sO T.tq T.ua .nil ax (aa (pv 5) (aa (pv 4) ae))) (aL _)))))))),(av (aN ac (fW (aV ao (aV ao (aV ao fV)))))
   (av (aN ac (fW (aV ao (aV ao (aV ao fV)))))
   (av (dX (xD (lP (iW (aq (ab ac (ab ac ag))))) (aP (ap bq (aq (ab ac (ab ac ag))) ac))) (aO lx) bE)
   (av (dX (xD (aP (ap uN (aq (ab ac (ab aX (ab ac ag)))) lx)) (lP (iW (aq (ab ac (ab ac ag)))))) (aO lx) bE)
   (aO (ap bq (aq (ab ac (ab aX (ab ac ag)))) (aq (ab ac (ab ac ag))))))))),fun xs ω Q h=>?_⟩)
 obtain⟨n,x,ys,zs,x',ys',zs',rfl,h1,h2,k⟩:=h;obtain⟨t1,t2,t3⟩:=h1.tk;obtain⟨u1,u2,u3⟩:=h2.tk;have hd:=h2.dp;have ed:=vX (aR ys' zs' x');simp only[thD];walk_at "s1";walk_at "s1";walk_at "s1";refine⟨n,ys',zs',x',rfl,h2.pt,h2.ok,by omega,?_⟩
 refine⟨_,rfl,?_⟩;rw[if_neg (by decide)]
 refine⟨n,ys',zs',x',rfl,h2.n5,h2.pt,h2.ok,by omega,_,rfl,by omega,?_⟩
 rw[if_neg (by rw[fR];decide)]
 walk_at "s1";refine⟨false,n,ys',zs',_,rfl,h2.pre u1 u2,?_⟩;rw[h2.lets false fun e=>by cases e]
 refine⟨_,rfl,?_⟩;rw[if_neg (by decide)]
 refine⟨n,ys',zs',_,rfl,h2.pre u1 u2,?_⟩;rw[h2.lets false fun e=>by cases e]
 refine⟨_,rfl,?_⟩;rw[if_neg (by decide)]
 refine⟨false,n,ys',zs',_,rfl,h2.pre t1 t2,n,ys',zs',_,rfl,h2.pre t1 t2,?_⟩;refine⟨_,rfl,_,rfl,by simp[dep],?_⟩
 rw[fR,ay];exact k
noncomputable def Me:ASp:=fun xs ω Q=>∃(n:Nat)(x:Sy) (ys zs:List (List Int)) (S o:List Int),xs=[.d (thD n x ys zs),.d (wdD S),.d (wdD o)]/\Thg n x ys zs/\Pm n o/\Q (.d (.bl true)) ω
theorem Mx(T:Txt K mg t):aA P t.wo K mg base CX0 9 t.bS t.gw ["_law_things","_law_some","_law_order"] (bo Me):=by
 have G_saying_of:aA P t.wo K mg base _ _ _ _ _ _:=Hh T;have G_flipped_case:aA P t.wo K mg base _ _ _ _ _ _:=xJ T;have G_flipped_saying:aA P t.wo K mg base _ _ _ _ _ _:=B3 T;have G_flipped_talk:aA P t.wo K mg base _ _ _ _ _ _:=yn T;have G_exchanged_case:aA P t.wo K mg base _ _ _ _ _ _:=yz T;have G_exchanged_saying:aA P t.wo K mg base _ _ _ _ _ _:=Cg T;have G_exchanged_talk:aA P t.wo K mg base _ _ _ _ _ _:=yM T
 have G_swapped_case:aA P t.wo K mg base _ _ _ _ _ _:=yA T;have G_against:aA P t.wo K mg base _ _ _ _ _ _:=tM T;have G_swapped_talk:aA P t.wo K mg base _ _ _ _ _ _:=yf T
 refine T.pM.okD cQ (fun xs ω Q h=>by obtain⟨n,x,ys,zs,S,o,rfl,_⟩:=h;rfl) (fun cdv A outer s H E hr=>⟨_,_,(ah (iO (pv 0) (cI K rfl (n:=3) rfl (aF (au (i:=3) cQ.nd rfl (Or.inl rfl)) (aF (au (i:=4) cQ.nd rfl (Or.inl rfl)) (aF (au (i:=5) cQ.nd rfl (Or.inl rfl)) cH)))))
   (ah (aJ (i:=6) cQ.nd rfl (Or.inl rfl) (aj G_saying_of (hr.mono (by omega)) (by rfl) T.jq T.jo T.ju .nil ax (aa (pv 3) (aa (pv 5) ae))))
   (ah (bT (aH (i9 hr.Nw) (aj G_saying_of (hr.mono (by omega)) (by rfl) T.jq T.jo T.ju .nil ax (aa (aj G_flipped_case (hr.mono (by omega)) (by rfl) T.mr T.lX T.mD .nil ax (aa (pv 3) (aa (pv 1) ae))) (aa (aj G_flipped_talk (hr.mono (by omega)) (by rfl) T.lE T.lC T.fF .nil ax (aa (pv 5) (aa (pv 1) ae))) ae))) (aj G_flipped_saying (hr.mono (by omega)) (by rfl) T.kb T.km T.eF .nil ax (aa (pv 6) (aa (pv 1) ae))) (aL _)) (am (aB fU)) bb)
   (ah (bT (aH (i9 hr.Nw) (aj G_saying_of (hr.mono (by omega)) (by rfl) T.jq T.jo T.ju .nil ax (aa (aj G_exchanged_case (hr.mono (by omega)) (by rfl) T.kD T.jY T.jZ .nil ax (aa (pv 3) (aa (pv 2) ae))) (aa (aj G_exchanged_talk (hr.mono (by omega)) (by rfl) T.kr T.j6 T.eL .nil ax (aa (pv 5) (aa (pv 2) ae))) ae))) (aj G_exchanged_saying (hr.mono (by omega)) (by rfl) T.iQ T.jg T.dj .nil ax (aa (pv 6) (aa (pv 2) ae))) (aL _)) (am (aB fU)) bb)
   (am (aB (cV (bh hr.Nw) (aj G_saying_of (hr.mono (by omega)) (by rfl) T.jq T.jo T.ju .nil ax (aa (aj G_swapped_case (hr.mono (by omega)) (by rfl) T.mC T.ml T.mw .nil ax (aa (pv 3) ae)) (aa (aj G_swapped_talk (hr.mono (by omega)) (by rfl) T.lB T.mm T.fz .nil ax (aa (pv 5) ae)) ae))) (aj G_against (hr.mono (by omega)) (by rfl) T.vF T.vL T.mX .nil ax (aa (pv 6) ae)) (aL _)))))))),(av (aN ac (fW (aV ao (aV ao (aV ao fV)))))
   (av (aN (aq (ab ac (ab ac ag))) ao)
   (av (dX (aP (ap bq (aq (ab (aq (ab ac (ab ac ag))) (ab (aq (ab ac (ab ac ag))) ag))) (aq (ab ac (ab ac ag))))) (aO lx) bE)
   (av (dX (aP (ap bq (aq (ab (aq (ab ac (ab ac ag))) (ab (aq (ab ac (ab ac ag))) ag))) (aq (ab ac (ab ac ag))))) (aO lx) bE)
   (aO (ap bq (aq (ab (aq (ab ac ag)) (ab (aq (ab ac ag)) ag))) (aq (ab ac ag)))))))),fun xs ω Q h=>?_⟩)
 obtain⟨n,x,ys,zs,S,o,rfl,hh,ho,k⟩:=h;obtain⟨t1,t2,t3⟩:=hh.tk;obtain⟨m1,m2⟩:=hh.mok
 have said:∀ {x':Sy} {ys' zs':List (List Int)},Thg n x' ys' zs'->∀ {ω:Om} {Q:AV->Om->Prop},Q (.d (tkM ys' zs' x').d) ω->Bc [.d (csD n ys' zs'),.d (aR ys' zs' x').d] ω Q:=fun {x' ys' zs'} h {ω Q} q=>
  ⟨n,(ys',zs'),_,rfl,h.n5,h.ww,h.has,h.tk.1,by have:=h.tk.2.2;omega,h.lets false (fun e=>by cases e),q⟩
 have edp:∀ {x':Sy} {ys' zs':List (List Int)},Thg n x' ys' zs'->dep (tkM ys' zs' x').d<=100:=fun {x' ys' zs'} h=>by have:=wq (tkM ys' zs' x');have:=h.mok.2;omega
 simp only[thD];walk_at "s1";walk_at "s1";refine said hh ?_;walk_at "s1";refine⟨n,ys,zs,S,rfl,hh.n1,hh.n5,hh.pt.y,hh.pt.z,_,n,S,rfl,hh.n1,hh.n5,t1,by omega,?_⟩
 rw[hh.flT];refine said (hh.fl S) ⟨_,n,S,rfl,m1,by omega,_,rfl,_,rfl,edp (hh.fl S),?_⟩
 rw[hh.mfl,if_neg (by rw[fR];decide)]
 walk_at "s1";refine⟨n,ys,zs,o,rfl,hh.n1,hh.n5,hh.pt.y,hh.pt.z,ho,_,n,o,rfl,hh.n1,hh.n5,t1,ho,by omega,?_⟩
 rw[hh.mvT ho];refine said (hh.mv ho) ⟨_,n,o,rfl,m1,ho,by omega,_,rfl,_,rfl,edp (hh.mv ho),?_⟩
 rw[hh.mmv ho,if_neg (by rw[fR];decide)]
 refine⟨n,ys,zs,rfl,_,rfl,by omega,?_⟩
 rw[hh.swT];refine said hh.sw ⟨_,n,rfl,m1,by omega,_,rfl,_,rfl,edp hh.sw,?_⟩
 rw[hh.msw,fR,ay];exact k
noncomputable def L7:ASp:=fun xs ω Q=>∃(n:Nat)(x:Sy) (ys zs:List (List Int)) (o S:List Int),xs=[.d (thD n x ys zs),.d (wdD o),.d (wdD S)]/\Thg n x ys zs/\Pm n o/\x.up/\(∀i:Int,0<=i->i<n->i∈S)/\Q (.d (.bl true)) ω
theorem LW(T:Txt K mg t):aA P t.wo K mg base CX0 10 t.bQ t.gC ["_law_things","_law_order","_law_every"] (bo L7):=by
 have G_without_not:aA P t.wo K mg base _ _ _ _ _ _:=MM T;have G_case_grows:aA P t.wo K mg base _ _ _ _ _ _:=Ga T;have G_lets_by:aA P t.wo K mg base _ _ _ _ _ _:=we T;have G_l_exchanged:aA P t.wo K mg base _ _ _ _ _ _:=FT T;have G_l_flipped:aA P t.wo K mg base _ _ _ _ _ _:=DS T;have G_l_swapped:aA P t.wo K mg base _ _ _ _ _ _:=F7 T
 refine T.pP.okD ca (fun xs ω Q h=>by obtain⟨n,x,ys,zs,o,S,rfl,_⟩:=h;rfl) (fun cdv A outer s H E hr=>⟨_,_,(ah (iO (pv 0) (cI K rfl (n:=3) rfl (aF (au (i:=3) ca.nd rfl (Or.inl rfl)) (aF (au (i:=4) ca.nd rfl (Or.inl rfl)) (aF (au (i:=5) ca.nd rfl (Or.inl rfl)) cH)))))
   (ah (bT (PW.pt (qR (jj (bO K rfl (aj G_without_not (hr.mono (by omega)) (by rfl) T.nH T.nz T.nC .nil ax (aa (pv 4) ae)) (fun _=>rfl))) (qR (aH pr (aj G_case_grows (hr.mono (by omega)) (by rfl) T.ox T.pF T.pz .nil ax (aa (pv 3) ae)) fU (aL _)) (n6 (aH pr (aj G_lets_by (hr.mono (by omega)) (by rfl) T.im T.iq T.ig .nil ax (aa (pv 3) (aE aK (aa (pv 5) ae)))) fU (aL _)))))) (am (aB fU)) bb)
   (ah (aJ (i:=6) ca.nd rfl (Or.inl rfl) (aj G_l_exchanged (hr.mono (by omega)) (by rfl) T.jV T.jW T.jM .nil ax (aa (pv 0) (aa (pv 1) ae))))
   (ah (bT (aH pr (aj G_lets_by (hr.mono (by omega)) (by rfl) T.im T.iq T.ig .nil ax (aa (ar (ai K rfl) (pv 6) af (fun _ _=>rfl)) (aE aK (aa (ar (ai K rfl) (pv 6) af (fun _ _=>rfl)) ae)))) fU (aL _)) (am (aB fU)) bb)
   (ah (aJ (i:=7) ca.nd rfl (Or.inl rfl) (aj G_l_swapped (hr.mono (by omega)) (by rfl) T.gP T.gQ T.gM .nil ax (aa (aj G_l_flipped (hr.mono (by omega)) (by rfl) T.jE T.jx T.jB .nil ax (aa (pv 0) (aa (pv 2) ae))) ae)))
   (ah (bT (PW.pt (qR (jj (bO K rfl (aj G_without_not (hr.mono (by omega)) (by rfl) T.nH T.nz T.nC .nil ax (aa (ar (ai K rfl) (pv 7) af (fun _ _=>rfl)) ae)) (fun _=>rfl))) (n6 (aH pr (aj G_case_grows (hr.mono (by omega)) (by rfl) T.ox T.pF T.pz .nil ax (aa (ar (ai K rfl) (pv 7) af (fun _ _=>rfl)) ae)) fU (aL _))))) (am (aB fU)) bb)
   (am (aB (cV KB (aj G_lets_by (hr.mono (by omega)) (by rfl) T.im T.iq T.ig .nil ax (aa (ar (ai K rfl) (pv 7) af (fun _ _=>rfl)) (aE aK (aa (ar (ai K rfl) (pv 7) af (fun _ _=>rfl)) ae)))) fU (aL _)))))))))),(av (aN ac (fW (aV ao (aV ao (aV ao fV)))))
   (av (dX (xD (lP (iW (aq (ab ac ag)))) (xD (aP (ap uN (aq (ab ac ag)) lx)) (aP (ap uN (aq (ab ac (ab aX (ab ac ag)))) lx)))) (aO lx) bE)
   (av (aN (aq (ab ac (ab ac ag))) ao)
   (av (dX (aP (ap uN (aq (ab (ap aG ac ak) (ab aX (ab (ap aG ac ak) ag)))) lx)) (aO lx) bE)
   (av (aN (aq (ab (aq (ab ac (ab ac ag))) ag)) ao)
   (av (dX (xD (lP (iW (aq (ab (ap aG ac ak) ag)))) (aP (ap uN (aq (ab (ap aG ac ak) ag)) lx))) (aO lx) bE)
   (aO (ap uN (aq (ab (ap aG ac ak) (ab aX (ab (ap aG ac ak) ag)))) lx)))))))),fun xs ω Q h=>?_⟩)
 obtain⟨n,x,ys,zs,o,S,rfl,hh,ho,hu,hS,k⟩:=h;have hxd:=hh.dp
 have lets:∀ {x':Sy} {ys' zs':List (List Int)},Thg n x' ys' zs'->x'.up->∀ {ω:Om} {Q:AV->Om->Prop},Q (.d (.bl true)) ω->BS [.d (csD n ys' zs'),.d (.str "rising"),.d (aR ys' zs' x').d] ω Q:=fun {x' ys' zs'} h hu {ω Q} q=>
  ⟨true,n,ys',zs',_,rfl,h.pre h.tk.1 h.tk.2.1,by rw[h.lets true fun _=>hu];exact q⟩
 have grow:∀ {x':Sy} {ys' zs':List (List Int)},Thg n x' ys' zs'->x'.up->∀ {ω:Om} {Q:AV->Om->Prop},Q (.d (.bl true)) ω->yH [.d (csD n ys' zs')] ω Q:=fun {x' ys' zs'} h hu {ω Q} q=>
  ⟨n,ys',zs',rfl,h.n5,h.pt.y,h.pt.z,h.grow hu,q⟩
 have won:∀ {x':Sy} {ys' zs':List (List Int)},Thg n x' ys' zs'->x'.up->∀ {ω:Om} {Q:AV->Om->Prop},Q (.d (.bl true)) ω->IR [.d x'.d] ω Q:=fun {x' ys' zs'} h hu {ω Q} q=>
  ⟨x',rfl,by have:=h.dp;omega,by rw[(wa x').mpr hu];exact q⟩
 have hm:=hh.mv ho;have ha:=(hh.fl S).sw;have hma:=GB (o:=o) hu;have hau:=xh hS hh.ok hu;simp only[thD];walk_at "s1";walk_at "s1";refine won hh hu ⟨_,rfl,?_⟩;rw[if_neg (by decide)]
 refine grow hh hu ⟨_,rfl,?_⟩;rw[if_neg (by decide)]
 refine lets hh hu ⟨_,rfl,?_⟩;rw[if_neg (by decide)]
 walk_at "s1";refine⟨n,x,ys,zs,o,rfl,hh,ho,?_⟩;walk_at "s1";refine⟨_,.inr rfl,_,rfl,_,.inr rfl,_,rfl,lets hm hma ⟨_,rfl,?_⟩⟩;rw[if_neg (by decide)]
 walk_at "s1";refine⟨n,x,ys,zs,S,rfl,hh,n,_,_,_,rfl,hh.fl S,?_⟩;walk_at "s1";refine⟨_,.inr rfl,_,rfl,won ha hau ⟨_,rfl,?_⟩⟩;rw[if_neg (by decide)]
 refine⟨_,.inr rfl,_,rfl,grow ha hau ⟨_,rfl,?_⟩⟩;rw[if_neg (by decide)]
 refine⟨_,.inr rfl,_,rfl,_,.inr rfl,_,rfl,lets ha hau ⟨_,rfl,?_⟩⟩;rw[ay];exact k
theorem Hu:∀n:Fin 6,∀i:Fin 5,i.val<n.val->((wl n.val).any fun v=>decide (v.getD i.val 0=1))=true/\((wl n.val).any fun v=>decide (v.getD i.val 0=0))=true:=by decide +kernel
noncomputable def C5(n:Nat)(x:Sy):Prop:=(∃v∈wl n,x.val v=true)/\∃v∈wl n,x.val v=false
theorem DC{n:Nat}{i:Int}(hn:n<=5)(h0:0<=i)(h1:i<n):C5 n (.is i 1):=by
 obtain⟨a,b⟩:=Hu ⟨n,by omega⟩ ⟨i.toNat,by omega⟩ (by show i.toNat<n;omega)
 rw[List.any_eq_true] at a b;obtain⟨v,hv,ev⟩:=a;obtain⟨w,hw,ew⟩:=b;refine⟨⟨v,hv,ev⟩,w,hw,?_⟩;rw[decide_eq_true_eq] at ew;simp only[Sy.val,decide_eq_false_iff_not];exact fun h=>absurd (ew.symm.trans h) (by decide)
theorem zK{n:Nat}{x:Sy}{ys zs:List (List Int)}(h:Thg n x ys zs):dep (thD n x ys zs)<=100:=by
 have h1:=wq x;have h2:=vX (aR ys zs x);have h3:=fv ys;have h4:=fv zs;have h5:=h.dp;have h6:=h.tk.2.1;simp only[thD,csD,dep,ib];omega
theorem Lh(T:Txt K mg t):aA P t.wo K mg base CX0 40 t.nB t.yL ["_law_script"] (xb K):=by
 have G_l_spring:aA P t.wo K mg base _ _ _ _ _ _:=Kc T;have G_l_flow:aA P t.wo K mg base _ _ _ _ _ _:=xz T;have G_l_any:aA P t.wo K mg base _ _ _ _ _ _:=Gk T 8;have G_l_list_of:aA P t.wo K mg base _ _ _ _ _ _:=EA T;have G_l_one:aA P t.wo K mg base _ _ _ _ _ _:=DJ T 10;have G_l_kept:aA P t.wo K mg base _ _ _ _ _ _:=HG T;have G_talk_of:aA P t.wo K mg base _ _ _ _ _ _:=Gm T;have G_l_flipped:aA P t.wo K mg base _ _ _ _ _ _:=DS T
 have G_l_exchanged:aA P t.wo K mg base _ _ _ _ _ _:=FT T;have G_l_swapped:aA P t.wo K mg base _ _ _ _ _ _:=F7 T;have G_l_carried_right:aA P t.wo K mg base _ _ _ _ _ _:=L9 T;have G_l_back_carried:aA P t.wo K mg base _ _ _ _ _ _:=Mx T;have G_l_rising_right:aA P t.wo K mg base _ _ _ _ _ _:=LW T
 refine T.MN.okA dg (fun xs ω Q h=>by obtain ⟨a,ns,rfl,_⟩:=h;rfl) (fun cdv A outer s H E hr=>⟨_,_,(ah (aJ (i:=1) dg.nd rfl (Or.inr rfl) (aj G_l_spring (hr.mono (by omega)) (by rfl) T.zU T.An T.zT .nil ax (aa (pv 0) ae)))
   (ah (aJ (i:=2) dg.nd rfl (Or.inl rfl) (be (ba d8 (ba cR d7)) af (aj G_l_flow (hr.mono (by omega)) (by rfl) T.dE T.dH T.dG .nil ax (aa (pv 1) (aE af ae)))))
   (ah (aJ (i:=3) dg.nd rfl (Or.inl rfl) (be (ba d8 (ba cR d7)) af (aj G_l_flow (hr.mono (by omega)) (by rfl) T.dE T.dH T.dG .nil ax (aa (pv 1) (aE af ae)))))
   (ah (aJ (i:=4) dg.nd rfl (Or.inr rfl) (aj G_l_any (hr.mono (by omega)) (by rfl) T.vY T.wn T.wO .nil ax (aa (pv 1) (aa (pv 2) (aa (be (ba d8 (ba cR d7)) af (aj G_l_flow (hr.mono (by omega)) (by rfl) T.dE T.dH T.dG .nil ax (aa (pv 1) (aE af ae)))) (aa (pv 3) ae))))))
   (ah (aJ (i:=5) dg.nd rfl (Or.inr rfl) (ci (N:=(["_law_word","_law_saying"] : List Str)) (src:=[none,some 4]) rfl (by show cX _ (defScope nA) _ _ (["_law_script","_law_spring_here","_law_places","_law_kinds","_law_saying","_law_ones","_law_others","_law_case","_law_things","_law_some","_law_order","_law_place","_law_every","_law_flips","_law_moved","_law_about","_law_other"] : List Str) = true;decide +kernel) (by intro g' h;cases h) (cf K rfl (aj G_l_list_of (hr.mono (by omega)) (by rfl) T.lM T.mB T.lI .nil ax (aa (pv 2) ae))) (fun _ _ _ _ _ _=>(au (i:=0) (show (["_law_word","_law_saying"] : List Str).Nodup by decide +kernel) rfl (Or.inl rfl))) (fun _ _ _ _ _ _=>(gH (aH (bh hr.Nw) (aj G_l_one (hr.mono (by omega)) (by rfl) T.ng T.mR T.nh .nil ax (aa (pv 1) (aa (pv 0) ae))) af (aL _)))) (fun _ _ _ _ _ _=>(bM rfl rfl (pv 0)))))
   (ah (bT (aH (qb hr.Nw) (bD (gc K rfl) (by rfl) T.r6 (by kernel_rfl) (aa (pv 5) ae)) (aQ (aE af (aa (be Ff af (pv 2)) ae))) (by with_unfolding_all rfl)) (am (aJ (i:=4) dg.nd rfl (Or.inr rfl) (aQ (aa (ar (ai K rfl) (cW (aE aK (aE aK ae))) (bn qu (by rfl) T.Eo (by kernel_rfl) (aa (cV (i9 hr.Nw) (pv 5) (cW ae) (aL _)) ae)) (fun _ _=>rfl)) (bG (aQ (aE aK (aa (aj G_l_flow (hr.mono (by omega)) (by rfl) T.dE T.dH T.dG .nil ax (aa (pv 1) (aa (pv 2) ae))) (aE af ae)))) (aa (pv 4) ae)))))) bb)
   (ah (aJ (i:=5) dg.nd rfl (Or.inr rfl) (ci (N:=(["_law_word","_law_saying"] : List Str)) (src:=[none,some 4]) rfl (by show cX _ (defScope nA) _ _ (["_law_script","_law_spring_here","_law_places","_law_kinds","_law_saying","_law_ones","_law_others","_law_case","_law_things","_law_some","_law_order","_law_place","_law_every","_law_flips","_law_moved","_law_about","_law_other"] : List Str) = true;decide +kernel) (by intro g' h;cases h) (cf K rfl (aj G_l_list_of (hr.mono (by omega)) (by rfl) T.lM T.mB T.lI .nil ax (aa (pv 2) ae))) (fun _ _ _ _ _ _=>(au (i:=0) (show (["_law_word","_law_saying"] : List Str).Nodup by decide +kernel) rfl (Or.inl rfl))) (fun _ _ _ _ _ _=>(gH (aH (bh hr.Nw) (aj G_l_one (hr.mono (by omega)) (by rfl) T.ng T.mR T.nh .nil ax (aa (pv 1) (aa (pv 0) ae))) af (aL _)))) (fun _ _ _ _ _ _=>(bM rfl rfl (pv 0)))))
   (ah (wY (i:=6) dg.nd rfl (Or.inl rfl) (N:=(["_law_word","_law_ones"] : List Str)) (src:=[none,some 5]) rfl (by show cX _ (defScope nA) _ _ (["_law_script","_law_spring_here","_law_places","_law_kinds","_law_saying","_law_ones","_law_others","_law_case","_law_things","_law_some","_law_order","_law_place","_law_every","_law_flips","_law_moved","_law_about","_law_other"] : List Str) = true;decide +kernel) (by intro g' h;cases h) (cf K rfl (aj G_l_list_of (hr.mono (by omega)) (by rfl) T.lM T.mB T.lI .nil ax (aa (pv 2) ae))) (fun _ _ _ _ _ _=>(au (i:=0) (show (["_law_word","_law_ones"] : List Str).Nodup by decide +kernel) rfl (Or.inl rfl))) (fun _ _ _ _ _ _=>(gH (aH (uU hr.Nw) (pv 0) (pv 1) (by with_unfolding_all rfl)))) (fun _ _ _ _ _ _=>(bM rfl rfl (pv 0))))
   (ah (aJ (i:=7) dg.nd rfl (Or.inl rfl) (aQ (aa (pv 2) (aa (aj G_l_kept (hr.mono (by omega)) (by rfl) T.xW T.yK T.yD .nil ax (aa (pv 1) (aa (pv 5) ae))) (aa (aj G_l_kept (hr.mono (by omega)) (by rfl) T.xW T.yK T.yD .nil ax (aa (pv 1) (aa (pv 6) ae))) ae)))))
   (ah (aJ (i:=8) dg.nd rfl (Or.inl rfl) (aQ (aa (pv 7) (aa (pv 4) (aa (aj G_talk_of (hr.mono (by omega)) (by rfl) T.vj T.vM T.mV .nil ax (aa (pv 7) (aa (pv 4) ae))) ae)))))
   (ah (aJ (i:=9) dg.nd rfl (Or.inl rfl) (bn (aY K rfl) (by rfl) T.dy (by kernel_rfl) (aa (ci (N:=(["_law_place","_law_spring_here"] : List Str)) (src:=[none,some 1]) rfl (by show cX _ (defScope nA) _ _ (["_law_script","_law_spring_here","_law_places","_law_kinds","_law_saying","_law_ones","_law_others","_law_case","_law_things","_law_some","_law_order","_law_place","_law_every","_law_flips","_law_moved","_law_about","_law_other"] : List Str) = true;decide +kernel) (by intro g' h;cases h) (kn rfl T.mP (aa (pv 2) ae)) (fun _ _ _ _ _ _=>(au (i:=0) (show (["_law_place","_law_spring_here"] : List Str).Nodup by decide +kernel) rfl (Or.inl rfl))) (fun _ _ _ _ _ _=>(gH (aH (bh hr.Nw) (aj G_l_flow (hr.mono (by omega)) (by rfl) T.dE T.dH T.dG .nil ax (aa (pv 1) (aE af ae))) af (aL _)))) (fun _ _ _ _ _ _=>(bM rfl rfl (pv 0)))) ae)))
   (ah (aJ (i:=10) dg.nd rfl (Or.inl rfl) (cW ae))
   (ah (g6 PassesOwn.never rfl (kn rfl T.mP (aa (pv 2) ae)) (au (i:=11) dg.nd rfl (Or.inl rfl)) (am (b0 (ff PySem.F.plainAttrs_list PySem.F.slot_list_insert PySem.F.type_list_insert Dd (pv 10) (aa (aj G_l_flow (hr.mono (by omega)) (by rfl) T.dE T.dH T.dG .nil ax (aa (pv 1) (aa (be (ba d8 (ba cR d7)) (pv 11) af) ae))) (aa (pv 11) ae))))))
   (ah (aJ (i:=12) dg.nd rfl (Or.inl rfl) (Dp rfl (by rfl) T.dy (by rfl) T.mP (aa (pv 2) ae)))
   (ah (aJ (i:=13) dg.nd rfl (Or.inl rfl) (aj G_l_flipped (hr.mono (by omega)) (by rfl) T.jE T.jx T.jB .nil ax (aa (pv 8) (aa (pv 9) ae))))
   (ah (aJ (i:=14) dg.nd rfl (Or.inl rfl) (aj G_l_exchanged (hr.mono (by omega)) (by rfl) T.jV T.jW T.jM .nil ax (aa (pv 8) (aa (bn (aY K rfl) (by rfl) T.dy (by kernel_rfl) (aa (pv 10) ae)) ae))))
   (ah (aJ (i:=15) dg.nd rfl (Or.inl rfl) (aj G_l_swapped (hr.mono (by omega)) (by rfl) T.gP T.gQ T.gM .nil ax (aa (pv 8) ae)))
   (ah (g6 PassesOwn.never rfl (by refine cf K rfl ?_;exact (cW (aa (pv 8) (aa (pv 13) (aa (pv 14) (aa (pv 15) (aa (aj G_l_swapped (hr.mono (by omega)) (by rfl) T.gP T.gQ T.gM .nil ax (aa (pv 13) ae)) (aa (aj G_l_exchanged (hr.mono (by omega)) (by rfl) T.jV T.jW T.jM .nil ax (aa (pv 13) (aa (bn (aY K rfl) (by rfl) T.dy (by kernel_rfl) (aa (pv 10) ae)) ae))) ae)))))))) (au (i:=16) dg.nd rfl (Or.inl rfl)) (am (bT (jj (bO K rfl (aj G_l_carried_right (hr.mono (by omega)) (by rfl) T.pc T.pI T.oP .nil ax (aa (pv 8) (aa (pv 16) ae))) (fun _=>rfl))) (am (aB fU)) bb)))
   (ah (bT (PW.pt (qR (aH (i9 hr.Nw) (aj G_l_swapped (hr.mono (by omega)) (by rfl) T.gP T.gQ T.gM .nil ax (aa (pv 13) ae)) (aj G_l_flipped (hr.mono (by omega)) (by rfl) T.jE T.jx T.jB .nil ax (aa (pv 15) (aa (pv 9) ae))) (aL _)) (n6 (aH (i9 hr.Nw) (aj G_l_flipped (hr.mono (by omega)) (by rfl) T.jE T.jx T.jB .nil ax (aa (pv 13) (aa (pv 9) ae))) (pv 8) (aL _))))) (am (aB fU)) bb)
   (ah (bT (PW.pt (qR (aH (i9 hr.Nw) (aj G_l_swapped (hr.mono (by omega)) (by rfl) T.gP T.gQ T.gM .nil ax (aa (pv 15) ae)) (pv 8) (aL _)) (n6 (jj (bO K rfl (aj G_l_back_carried (hr.mono (by omega)) (by rfl) T.ql T.qj T.qq .nil ax (aa (pv 8) (aa (pv 9) (aa (bn (aY K rfl) (by rfl) T.dy (by kernel_rfl) (aa (pv 10) ae)) ae)))) (fun _=>rfl)))))) (am (aB fU)) bb)
   (am (aB (JI K rfl (cV (bh hr.Nw) (pv 3) af (aL _)) (zV (aj G_l_rising_right (hr.mono (by omega)) (by rfl) T.qh T.pR T.qD .nil ax (aa (pv 8) (aa (bn (aY K rfl) (by rfl) T.dy (by kernel_rfl) (aa (pv 10) ae)) (aa (pv 12) ae)))))))))))))))))))))))))))),(av (aN (aq (ab ac ag)) ao)
   (av (aN (ap gT ak (aq (ab ac (ab ak ag)))) ao)
   (av (aN (ap gT ak (aq (ab ac (ab ak ag)))) ao)
   (av (aN (aq (ab ac (ab ac (ab (ap gT ak (aq (ab ac (ab ak ag)))) (ab ac ag))))) ao)
   (av (aN (cL (dF (aq (ab ac ag))) ao (aP (ap bq (aq (ab ac (ab ac ag))) ak)) (cM ac)) ao)
   (av (dX (aP (ap ze (du tD (ab ac ag)) (a9 (ab ak (ab (ap nn ak ac) ag))))) (aN (a9 (ab (ap aG (pw (ab aX (ab aX ag))) (du FS (ab (ap bq ac (pw ag)) ag))) (ab (a9 (ab aX (ab (aq (ab ac (ab ac ag))) (ab ak ag)))) (ab ac ag)))) ao) bE)
   (av (aN (cL (dF (aq (ab ac ag))) ao (aP (ap bq (aq (ab ac (ab ac ag))) ak)) (cM ac)) ao)
   (av (aN (cL (dF (aq (ab ac ag))) ao (aP (ap ze ac ac)) (cM ac)) ao)
   (av (aN (a9 (ab ac (ab (aq (ab ac (ab ac ag))) (ab (aq (ab ac (ab ac ag))) ag)))) ao)
   (av (aN (a9 (ab ac (ab ac (ab (aq (ab ac (ab ac ag))) ag)))) ao)
   (av (aN (du dS (ab (cL (sH (ab ac ag)) ao (aP (ap bq (aq (ab ac (ab ak ag))) ak)) (cM ac)) ag)) ao)
   (av (aN (jc ag) ao)
   (av (lp (sH (ab ac ag)) ao (c9 (EF ac (ab (aq (ab ac (ab (ap gT ac ak) ag))) (ab ac ag)))))
   (av (aN (F6 (ab ac ag)) ao)
   (av (aN (aq (ab ac (ab ac ag))) ao)
   (av (aN (aq (ab ac (ab (du dS (ab ac ag)) ag))) ao)
   (av (aN (aq (ab ac ag)) ao)
   (av (lp (dF (pw (ab ac (ab ac (ab ac (ab ac (ab (aq (ab ac ag)) (ab (aq (ab ac (ab (du dS (ab ac ag)) ag))) ag)))))))) ao (dX (lP (iW (aq (ab ac (ab ac ag))))) (aO lx) bE))
   (av (dX (xD (aP (ap bq (aq (ab ac ag)) (aq (ab ac (ab ac ag))))) (aP (ap bq (aq (ab ac (ab ac ag))) ac))) (aO lx) bE)
   (av (dX (xD (aP (ap bq (aq (ab ac ag)) ac)) (lP (iW (aq (ab ac (ab ac (ab (du dS (ab ac ag)) ag))))))) (aO lx) bE)
   (aO (Lv (ap bq ac ak) (aq (ab ac (ab (du dS (ab ac ag)) (ab ac ag)))))))))))))))))))))))))),fun xs ω Q h=>?_⟩)
 obtain⟨a,ns,rfl,hl,rfl,k⟩:=h;walk_at "s1";refine⟨a,ns,rfl,hl,fun p c hp0=>?_⟩;walk_at "s1";refine⟨p,5,rfl,c0,by decide,by decide,fun r c r0 r1=>⟨r,rfl,?_⟩⟩
 rw[Om.Nv];obtain⟨n,hn⟩:∃n:Nat,1+r=(n:Int):=⟨(1+r).toNat,by omega⟩
 have hn1:1<=n:=by omega
 have hn5:n<=5:=by omega
 have hwl:=Jx hn5;have hwp:=AK n;rw[hn];walk_at "s1";refine⟨p,2,rfl,c0,by decide,by decide,fun j c j0 j1=>⟨j,rfl,?_⟩⟩
 rw[Om.Nv]
 obtain⟨b,hb⟩:∃b:Bool,1+j=1+b01 b:=by
  rcases(by omega:j=0\/j=1) with rfl|rfl
  ·exact⟨false,rfl⟩
  ·exact⟨true,rfl⟩
 rw[hb];walk_at "s1";refine⟨p,30,rfl,c0,by decide,by decide,fun m c m0 m1=>⟨m,rfl,?_⟩⟩
 rw[Om.Nv];obtain⟨m',hm'⟩:∃m':Nat,1+m=(m':Int):=⟨(1+m).toNat,by omega⟩
 rw[hm'];refine⟨p,n,m',b,rfl,c0,by omega,hn5,by omega,by simp only[cap];show m'<=31;omega,by decide,fun x c hx hxd hxl hxu=>?_⟩
 rw[Om.Nv]
 have yes:∀(x:Sy)(ω:Om),x.ok n->x.dp<=10->∀ {v0:Option AV} {KK:List AV->SA->Om->Prop},(∀ρ,KK ((((wl n).filter fun v=>x.val v).map wdD).map AV.d) ρ ω)->d9 (gq 0) (vk (aOp (DT false) (Gd (wU 10) (ln (ia 1) (ln (ia 0) wF))) (aC (D.int 1)))) (ll (ia 0)) (((wl n).map wdD).map AV.d) [] [v0,some (.d x.d)] ω KK:=fun x ω hx hd v0 KK hk=>by
  refine wG wdD (fun v=>x.val v) wdD (Nat.le_of_lt (bu (by omega))) (fun v hv Q q=>?_) (fun v hv _ Q q=>?_) hk
  ·walk_at "a1"
   refine⟨x,v,rfl,by rw[(cK hv).1];exact hx,hd,_,rfl,by simp[dep],?_⟩
   rw[gJ];cases h:x.val v<;>rw[h] at q<;>exact q
  ·walk_at "a1"
   exact q
 walk_at "s1";refine⟨n,rfl,hn5,?_⟩;walk_at "a1";refine yes x _ hx (by omega) fun ρ=>⟨_,a8 _,?_⟩
 refine pG (fun ρ' ω'=>∃(x':Sy)(c:Pl)(v5:Option AV),ω'=Om.put (fun _=>none) p (pdO c)/\x'.ok n/\x'.dp<=9/\x'.lvs<=40/\(b=false->x'.up)/\C5 n x'/\ρ'=[some (q9 K a ns),some (AV.r (V.ref p)),some (AV.d (D.int n)),some (AV.d (D.int (1+b01 b))),some (AV.d x'.d),v5,none,none,none,none,none,none,none,none,none,none,none]) (fun M kM=>?_) ?_
 ·walk_at "a1"
  refine⟨⟨by omega,by omega,by decide⟩,by simp[ib,dep],?_⟩
  rw[pw5,←hwp,show inD (D.int ↑(List.filter (fun v=>Sy.val v x) (wl n)).length) [D.int 0,D.int ((wl n).length:Nat)]=(decide ((List.filter (fun v=>Sy.val v x) (wl n)).length=0) || decide ((List.filter (fun v=>Sy.val v x) (wl n)).length=(wl n).length)) from by
   simp only[inD,gJ,List.any_cons,List.any_nil,Bool.or_false]
   congr 1
   ·rw[Bool.eq_iff_iff];simp only[beq_iff_eq,decide_eq_true_eq];omega
   ·rw[Bool.eq_iff_iff];simp only[beq_iff_eq,decide_eq_true_eq];omega]
  have hfl:=List.length_filter_le (fun v=>Sy.val v x) (wl n);refine ur (fun h=>?_) (fun h=>kM _ _ ⟨x,c,_,rfl,hx,by omega,by omega,hxu,?_,rfl⟩)
  ·have hdp:dep (D.lst (List.map wdD (List.filter (fun v=>Sy.val v x) (wl n))))<=100:=by
    simp only[dep];have:=fv (List.filter (fun v=>Sy.val v x) (wl n));omega
   obtain⟨e,he,e2⟩:∃e:Bool,(∀v∈wl n,x.val v=e)/\atI [AV.d (D.str (Str.ofString "or")),AV.d (D.str (Str.ofString "and"))] (if (!eqD (D.lst (List.map wdD (List.filter (fun v=>Sy.val v x) (wl n)))) (D.lst []))=true then 1 else 0)=some (.d (.str (if e then ("and":Str) else ("or":Str)))):=by
    rw[Bool.or_eq_true,decide_eq_true_eq,decide_eq_true_eq] at h;by_cases h0:(List.filter (fun v=>Sy.val v x) (wl n)).length=0
    ·refine⟨false,fun v hv=>?_,by rw[List.eq_nil_of_length_eq_zero h0];rfl⟩
     have:=List.filter_eq_nil_iff.mp (List.eq_nil_of_length_eq_zero h0) v hv;simpa using this
    ·refine⟨true,fun v hv=>List.length_filter_eq_length_iff.mp (h.resolve_left h0) v hv,?_⟩
     cases hq:List.filter (fun v=>Sy.val v x) (wl n) with
     |nil=>exact absurd (by rw[hq];rfl) h0
     |cons y ys=>rw[if_pos (by simp[eqD,gN])];rfl
   refine⟨hdp,_,e2,p,n,rfl,c0,by omega,by omega,fun i c2 i0 i1=>⟨_,rfl,?_⟩⟩
   rw[Om.Nv];obtain⟨⟨v1,m1,e1⟩,⟨v2,m2,e3⟩⟩:=DC hn5 i0 i1;refine⟨_,rfl,kM _ _ ⟨.jn e (.is i 1) x,c2,_,rfl,⟨⟨i0,i1,.inr rfl⟩,hx⟩,by simp only[Sy.dp];omega,by simp only[Sy.lvs];omega,fun hb=>⟨rfl,hxu hb⟩,⟨⟨v1,m1,?_⟩,v2,m2,?_⟩,rfl⟩⟩
   ·have:=he v1 m1
    cases e<;>simp_all[Sy.val]
   ·have:=he v2 m2
    cases e<;>simp_all[Sy.val]
  ·simp only[Bool.or_eq_true,decide_eq_true_eq,not_or] at h
   obtain⟨h1,h2⟩:=h;refine⟨?_,?_⟩
   ·obtain⟨v,hv⟩:=List.exists_mem_of_length_pos (Nat.pos_of_ne_zero h1)
    exact⟨v,(List.mem_filter.mp hv).1,(List.mem_filter.mp hv).2⟩
   ·by_cases q:∀v∈wl n,x.val v=true
    ·exact absurd (List.length_filter_eq_length_iff.mpr q) h2
    ·obtain⟨v,hv⟩:=Classical.not_forall.mp q
     obtain⟨hv,e⟩:=Classical.not_imp.mp hv;exact⟨v,hv,by simpa using e⟩
 rintro ρ ω' ⟨x',c',v5,rfl,ho,hdp,hlv,hup,⟨⟨y1,my1,ey1⟩,⟨z1,mz1,ez1⟩⟩,rfl⟩;clear hxu hxl hxd hx;walk_at "s1";refine⟨n,rfl,hn5,?_⟩;walk_at "a1";refine yes x' _ ho (by omega) fun ρ=>⟨_,a8 _,?_⟩
 walk_at "s1";refine⟨n,rfl,hn5,?_⟩;walk_at "a1";have sy:((wl n).filter fun v=>x'.val v).Sublist (wl n):=List.filter_sublist;have lY:=sy.length_le;refine wG wdD (fun v=>!x'.val v) wdD (Nat.le_of_lt (bu (by omega))) (fun v hv Q q=>?_) (fun v hv hf Q q=>?_) (fun ρ=>⟨_,a8 _,?_⟩)
 ·walk_at "a1"
  refine⟨by have:=fv (List.filter (fun v=>Sy.val v x') (wl n));omega,?_⟩
  rw[p5,show decide (v∈List.filter (fun v=>Sy.val v x') (wl n))=x'.val v from by rw[Bool.eq_iff_iff,decide_eq_true_eq,List.mem_filter];exact⟨fun h=>h.2,fun h=>⟨hv,h⟩⟩]
  exact q
 ·walk_at "a1"
  exact q
 have sz:((wl n).filter fun v=>!x'.val v).Sublist (wl n):=List.filter_sublist;have hy1:y1∈(wl n).filter fun v=>x'.val v:=List.mem_filter.mpr ⟨my1,ey1⟩;have hz1:z1∈(wl n).filter fun v=>!x'.val v:=List.mem_filter.mpr ⟨mz1,by rw[ez1];rfl⟩
 have vy:∀v∈(wl n).filter fun v=>x'.val v,x'.val v=true:=fun v hv=>(List.mem_filter.mp hv).2;have vz:∀v∈(wl n).filter fun v=>!x'.val v,x'.val v=false:=fun v hv=>by simpa using(List.mem_filter.mp hv).2
 generalize ((wl n).filter fun v=>x'.val v)=Y at *;generalize ((wl n).filter fun v=>!x'.val v)=Z at *;have lZ:=sz.length_le;walk_at "s1";refine⟨p,Y,rfl,c0,by omega,List.ne_nil_of_mem hy1,fun ys c hys hy0=>?_⟩
 refine⟨p,Z,rfl,c0,by omega,List.ne_nil_of_mem hz1,fun zs c2 hzs hz0=>⟨_,rfl,?_⟩⟩
 rw[Om.Nv,Om.Nv];have hyS:=hys.trans sy;have hzS:=hzs.trans sz;have hyW:=Wds.sub hyS hn5;have hzW:=Wds.sub hzS hn5;have PA':jQ n x' ys zs:=⟨hyW,hzW,fun v hv=>vy v (hys.mem hv),fun v hv=>vz v (hzs.mem hv),hy0,hz0⟩;have hh:Thg n x' ys zs:=⟨hn1,hn5,PA',ho,by omega,hlv⟩
 show yG _ _ _ [_,_,_,_,_,_,_,some (.d (csD n ys zs)),_,_,_,_,_,_,_,_,_] _;have osb:=xR hyS hzS ho;walk_at "s1";refine⟨n,ys,zs,x',rfl,hn5,PA',ho,by omega,⟨_,rfl,?_⟩⟩
 show yG _ _ _ [_,_,_,_,_,_,_,_,some (.d (thD n x' ys zs)),_,_,_,_,_,_,_,_] _;clear hy0 hz0 vy vz sy sz hy1 hz1 lY lZ my1 ey1 mz1 ez1;walk_at "s1";refine⟨by omega,by omega,?_⟩
 rw[show nl 0 n=((List.range n).map fun i:Nat=>D.int (0+(i:Int))).map AV.d from by simp[nl]]
 refine sM (fun ω'=>∃c,ω'=Om.put (fun _=>none) p (pdO c)) ⟨c2,rfl⟩ (fun d hd ω' hS Q' q=>?_) (fun d hd ω' hS Q' q=>?_) (Nat.le_of_lt (bu (by simp;omega))) (fun es ρ ω' hs hS=>⟨es,a8 _,?_⟩)
 ·obtain⟨c',rfl⟩:=hS
  walk_at "a1";refine⟨p,2,rfl,c0,by decide,by decide,fun v2 c2 v20 v21=>⟨_,rfl,by simp[dep],?_⟩⟩
  rw[Om.Nv];exact q _ _ ⟨c2,rfl⟩
 ·walk_at "a1"
  exact q
 obtain⟨c',rfl⟩:=hS
 obtain⟨S,rfl⟩:∃S:List Int,es=S.map D.int:=by
  obtain⟨T,hT,rfl⟩:=List.sublist_map_iff.mp hs;exact⟨T.map fun i:Nat=>0+(i:Int),by simp⟩
 clear hs;show yG _ _ _ [_,_,_,_,_,_,_,_,_,some (.d (wdD S)),_,_,_,_,_,_,_] _;walk_at "s1";intro l hl0;have hpl:p≠l:=fun e=>by subst e;rw[Om.Nr] at hl0;cases hl0
 refine pG (fun ρ' ω'=>∃(c:Pl)(o:List Int)(v11:Option AV),ω'=(Om.put (fun _=>none) p (pdO c)).put l (.own ((o.map D.int).map AV.d))/\Pm n o/\ρ'=[some (q9 K a ns),some (AV.r (V.ref p)),some (AV.d (D.int n)),some (AV.d (D.int (1+b01 b))),some (AV.d x'.d),some (.d (.lst (Y.map wdD))),some (.d (.lst (Z.map wdD))),some (.d (csD n ys zs)),some (.d (thD n x' ys zs)),some (.d (wdD S)),some (.r (.ref l)),v11,none,none,none,none,none]) (fun M kM=>?_) ?_
 ·walk_at "a1"
  refine⟨by omega,by omega,Cn (fun i ρ ω'=>∃(c:Pl)(o:List Int)(v11:Option AV),ω'=(Om.put (fun _=>none) p (pdO c)).put l (.own ((o.map D.int).map AV.d))/\Pm i o/\ρ=[some (q9 K a ns),some (AV.r (V.ref p)),some (AV.d (D.int n)),some (AV.d (D.int (1+b01 b))),some (AV.d x'.d),some (.d (.lst (Y.map wdD))),some (.d (.lst (Z.map wdD))),some (.d (csD n ys zs)),some (.d (thD n x' ys zs)),some (.d (wdD S)),some (.r (.ref l)),v11,none,none,none,none,none]) ⟨c',[],_,rfl,⟨rfl,List.nodup_nil,fun x hx=>by simp at hx⟩,rfl⟩ ?_ ?_⟩
  ·rintro i ρ ω1 N hi ⟨c,o,v3,rfl,ho,rfl⟩ kN
   walk_at "a1";refine⟨p,(0+(i:Int)+1),rfl,⟨c,by rw[Om.Nt hpl,Om.Nr]⟩,by omega,by omega,fun r c2 r0 r1=>?_⟩
   obtain⟨j,rfl⟩:=Int.eq_ofNat_of_zero_le r0;rw[Om.NH hpl,Om.Nv];have hol:=ho.len;refine⟨_,j,rfl,Om.Nr,by simp;omega,bu (by simp;omega),kN _ _ ⟨c2,_,_,?_,Kx (r:=j) ho,rfl⟩⟩
   rw[Om.Nv];simp
  ·rintro ρ ω1 ⟨c,o,v3,rfl,ho,rfl⟩
   exact kM _ _ ⟨c,o,_,rfl,ho,rfl⟩
 rintro ρ ω' ⟨c,o,v11,rfl,hpm,rfl⟩;have h1:=hh.fl S;have h2:=hh.mv hpm;have h3:=hh.sw;have h4:=h1.sw;have h5:=h1.mv hpm;walk_at "s1";refine⟨by omega,by omega,?_⟩
 rw[show (List.range n).map (fun i:Nat=>D.int (i:Int))=((List.range n).map fun i:Nat=>(i:Int)).map D.int from by simp]
 have hE:∀i:Int,0<=i->i<n->i∈(List.range n).map fun i:Nat=>(i:Int):=fun i i0 i1=>List.mem_map.mpr ⟨i.toNat,List.mem_range.mpr (by omega),by simp;omega⟩
 generalize ((List.range n).map fun i:Nat=>(i:Int))=E at hE ⊢;walk_at "s1";refine⟨n,x',ys,zs,S,rfl,hh,?_⟩;walk_at "s1";refine⟨n,x',ys,zs,o,rfl,hh,hpm,?_⟩;walk_at "s1";refine⟨n,x',ys,zs,rfl,hh,?_⟩;refine pG (fun ρ' ω'=>∃v16,ω'=(Om.put (fun _=>none) p (pdO c)).put l (.own ((o.map D.int).map AV.d))/\ρ'=[some (q9 K a ns),some (AV.r (V.ref p)),some (AV.d (D.int n)),some (AV.d (D.int (1+b01 b))),some (AV.d x'.d),some (.d (.lst (Y.map wdD))),some (.d (.lst (Z.map wdD))),some (.d (csD n ys zs)),some (.d (thD n x' ys zs)),some (.d (wdD S)),some (.r (.ref l)),v11,some (.d (wdD E)),some (.d (thD n (flS S x') (flV S ys) (flV S zs))),some (.d (thD n (mvS o x') (mvV o ys) (mvV o zs))),some (.d (thD n (agS x') zs ys)),v16]) (fun M kM=>?_) ?_
 ·walk_at "a1"
  refine⟨n,_,_,_,rfl,h1,?_⟩;refine⟨o.map D.int,by rw[Om.Nr];show Option.map D.lst (und _)=_;rw[a8];rfl,n,_,_,_,o,rfl,h1,hpm,_,rfl,?_⟩
  have all:∀d∈[thD n x' ys zs,thD n (flS S x') (flV S ys) (flV S zs),thD n (mvS o x') (mvV o ys) (mvV o zs),thD n (agS x') zs ys,thD n (agS (flS S x')) (flV S zs) (flV S ys),thD n (mvS o (flS S x')) (mvV o (flV S ys)) (mvV o (flV S zs))],∃x2 ys2 zs2,d=thD n x2 ys2 zs2/\Thg n x2 ys2 zs2:=fun d hd=>by
   simp only[List.mem_cons,List.not_mem_nil,or_false] at hd;rcases hd with rfl|rfl|rfl|rfl|rfl|rfl
   ·exact⟨_,_,_,rfl,hh⟩
   ·exact⟨_,_,_,rfl,h1⟩
   ·exact⟨_,_,_,rfl,h2⟩
   ·exact⟨_,_,_,rfl,h3⟩
   ·exact⟨_,_,_,rfl,h4⟩
   ·exact⟨_,_,_,rfl,h5⟩
  refine pd (fun i ρ ω'=>∃v16,ω'=(Om.put (fun _=>none) p (pdO c)).put l (.own ((o.map D.int).map AV.d))/\ρ=[some (q9 K a ns),some (AV.r (V.ref p)),some (AV.d (D.int n)),some (AV.d (D.int (1+b01 b))),some (AV.d x'.d),some (.d (.lst (Y.map wdD))),some (.d (.lst (Z.map wdD))),some (.d (csD n ys zs)),some (.d (thD n x' ys zs)),some (.d (wdD S)),some (.r (.ref l)),v11,some (.d (wdD E)),some (.d (thD n (flS S x') (flV S ys) (flV S zs))),some (.d (thD n (mvS o x') (mvV o ys) (mvV o zs))),some (.d (thD n (agS x') zs ys)),v16]) ⟨_,rfl,rfl⟩ ?_ (fun ρ ω' h=>kM _ _ h)
  rintro i d ρ ω' N hd ⟨v16,rfl,rfl⟩ kN;obtain⟨x2,ys2,zs2,rfl,hg⟩:=all d (List.mem_of_getElem? hd);walk_at "a1";refine⟨n,x',ys,zs,x2,ys2,zs2,rfl,hh,hg,_,rfl,?_⟩;rw[if_neg (by decide)]
  exact kN _ _ ⟨_,rfl,rfl⟩
 rintro ρ ω' ⟨v16,rfl,rfl⟩;walk_at "s1";refine⟨n,_,_,_,rfl,h1,n,_,_,_,S,rfl,h3,_,rfl,_,rfl,zK h4,?_⟩;rw[F9,if_neg (by rw[fR];decide)]
 refine⟨n,_,_,_,S,rfl,h1,_,rfl,zK (h1.fl S),?_⟩;rw[xi,BL hn5 hyS,BL hn5 hzS,if_neg (by rw[fR];decide)]
 walk_at "s1";refine⟨n,_,_,_,rfl,h3,_,rfl,zK h3.sw,?_⟩;rw[xp,if_neg (by rw[fR];decide)]
 refine⟨o.map D.int,by rw[Om.Nr];show Option.map D.lst (und _)=_;rw[a8];rfl,n,x',ys,zs,S,o,rfl,hh,hpm,_,rfl,?_⟩
 rw[if_neg (by decide)]
 cases b with
 |true=>exact k _
 |false=>
  rw[if_neg (by decide)]
  exact⟨o.map D.int,by rw[Om.Nr];show Option.map D.lst (und _)=_;rw[a8];rfl,n,x',ys,zs,o,E,rfl,hh,hpm,hup rfl,hE,k _⟩
end
theorem Hk{P:Program}{w:World}{K:W.Frag}{mg:Str->Option Value}{base:Heap}{t:Adr}(hw:t.wo=w)(T:Txt K mg t):aA P w K mg base CX0 40 t.nB t.yL ["_law_script"] (xb K):=by
 subst hw;exact Lh T
theorem KW(w:World){K:W.Frag}{h:Heap}{mg:Str->Option Value}(X:K.In h)(G:h.Ns mainGlobals mg){iM:Addr}{fd_upward:FuncData}{cD:Addr}{fd_folded:FuncData}{gK:Addr}{od_value an_value:Option Addr}{sl_value:Array (Option Value)}{oc_value kV_value dc_value pm_value cd_value ct_value:Value}{dJ:Addr}{od_against an_against:Option Addr}{sl_against:Array (Option Value)}{oc_against kV_against dc_against pm_against cd_against ct_against:Value}{cc:Addr}{fd_rejoined:FuncData}{cU:Addr}{fd_without_not:FuncData}{i8:Addr}{fd_missed:FuncData}{kS:Addr}{fd_parts:FuncData}{bJ:Addr}{fd_flipped_words:FuncData}{cE:Addr}{fd_flipped_word:FuncData}{cF:Addr}{fd_flipped_case:FuncData}{bc:Addr}{od_flipped_saying an_flipped_saying:Option Addr}{sl_flipped_saying:Array (Option Value)}{oc_flipped_saying kV_flipped_saying dc_flipped_saying pm_flipped_saying cd_flipped_saying ct_flipped_saying:Value}{bW:Addr}{fd_flipped_leaf:FuncData}{bv:Addr}{od_flipped_talk an_flipped_talk:Option Addr}{sl_flipped_talk:Array (Option Value)}{oc_flipped_talk kV_flipped_talk dc_flipped_talk pm_flipped_talk cd_flipped_talk ct_flipped_talk:Value}{br:Addr}{fd_exchanged_words:FuncData}{bN:Addr}{fd_exchanged_word:FuncData}{bR:Addr}{fd_exchanged_case:FuncData}{aZ:Addr}{od_exchanged_saying an_exchanged_saying:Option Addr}{sl_exchanged_saying:Array (Option Value)}{oc_exchanged_saying kV_exchanged_saying dc_exchanged_saying pm_exchanged_saying cd_exchanged_saying ct_exchanged_saying:Value}{bd:Addr}{od_exchanged_talk an_exchanged_talk:Option Addr}{sl_exchanged_talk:Array (Option Value)}{oc_exchanged_talk kV_exchanged_talk dc_exchanged_talk pm_exchanged_talk cd_exchanged_talk ct_exchanged_talk:Value}{cG:Addr}{fd_swapped_case:FuncData}{bw:Addr}{od_swapped_talk an_swapped_talk:Option Addr}{sl_swapped_talk:Array (Option Value)}{oc_swapped_talk kV_swapped_talk dc_swapped_talk pm_swapped_talk cd_swapped_talk ct_swapped_talk:Value}{gi:Addr}{fd_went_on:FuncData}{ga:Addr}{fd_ends_of:FuncData}{ee:Addr}{fd_has_pairs:FuncData}{cS:Addr}{fd_kept_upward:FuncData}{t5:Addr}{fd_cut:FuncData}{e9:Addr}{fd_pairs_in:FuncData}{iS:Addr}{fd_spoken:FuncData}{dh:Addr}{fd_parts_pair:FuncData}{kY:Addr}{fd_fault:FuncData}{gA:Addr}{fd_lets_by:FuncData}{dI:Addr}{od_talk_of an_talk_of:Option Addr}{sl_talk_of:Array (Option Value)}{oc_talk_of kV_talk_of dc_talk_of pm_talk_of cd_talk_of ct_talk_of:Value}{ei:Addr}{fd_led_leaf:FuncData}{eu:Addr}{fd_led_join:FuncData}{dn:Addr}{fd_words_with:FuncData}{gp:Addr}{fd_greater:FuncData}{gb:Addr}{fd_smaller:FuncData}{ek:Addr}{fd_saying_of:FuncData}{cB:Addr}{fd_squares_with:FuncData}{dB:Addr}{fd_case_grows:FuncData}{fb:Addr}{fd_l_spring:FuncData}{iG:Addr}{fd_l_flow:FuncData}{eh:Addr}{fd_l_list_of:FuncData}{hU:Addr}{fd_l_any:FuncData}{h8:Addr}{fd_l_one:FuncData}{iN:Addr}{fd_l_kept:FuncData}{eX:Addr}{fd_l_walked:FuncData}{bI:Addr}{fd_l_carried_right:FuncData}{dY:Addr}{fd_l_flipped:FuncData}{cT:Addr}{fd_l_exchanged:FuncData}{d6:Addr}{fd_l_swapped:FuncData}{bS:Addr}{fd_l_back_carried:FuncData}{bQ:Addr}{fd_l_rising_right:FuncData}{nB:Addr}{od_law an_law:Option Addr}{sl_law:Array (Option Value)}{oc_law kV_law dc_law pm_law cd_law ct_law:Value}{dw:Addr}{ep_OTHER_JOIN:Nat}{u_OTHER_JOIN_0 v_OTHER_JOIN_0 u_OTHER_JOIN_1 v_OTHER_JOIN_1:Tok}{dr:Addr}{ep_OTHER_HAND:Nat}{u_OTHER_HAND_0 v_OTHER_HAND_0 u_OTHER_HAND_1 v_OTHER_HAND_1:Tok}{cz:Addr}{ep_JOIN_OF_HAND:Nat}{u_JOIN_OF_HAND_0 v_JOIN_OF_HAND_0 u_JOIN_OF_HAND_1 v_JOIN_OF_HAND_1:Tok}{cc_value pp_value:Addr}{ko_value:Value}{kd_value:Option Addr}{kf_value:Array Value}{ks_value:Array (Option Value)}{cc_against pp_against:Addr}{ko_against:Value}{kd_against:Option Addr}{kf_against:Array Value}{ks_against:Array (Option Value)}{cc_flipped_saying pp_flipped_saying:Addr}{ko_flipped_saying:Value}{kd_flipped_saying:Option Addr}{kf_flipped_saying:Array Value}{ks_flipped_saying:Array (Option Value)}{cc_flipped_talk pp_flipped_talk:Addr}{ko_flipped_talk:Value}{kd_flipped_talk:Option Addr}{kf_flipped_talk:Array Value}{ks_flipped_talk:Array (Option Value)}{cc_exchanged_saying pp_exchanged_saying:Addr}{ko_exchanged_saying:Value}{kd_exchanged_saying:Option Addr}{kf_exchanged_saying:Array Value}{ks_exchanged_saying:Array (Option Value)}{cc_exchanged_talk pp_exchanged_talk:Addr}{ko_exchanged_talk:Value}{kd_exchanged_talk:Option Addr}{kf_exchanged_talk:Array Value}{ks_exchanged_talk:Array (Option Value)}{cc_swapped_talk pp_swapped_talk:Addr}{ko_swapped_talk:Value}{kd_swapped_talk:Option Addr}{kf_swapped_talk:Array Value}{ks_swapped_talk:Array (Option Value)}{cc_talk_of pp_talk_of:Addr}{ko_talk_of:Value}{kd_talk_of:Option Addr}{kf_talk_of:Array Value}{ks_talk_of:Array (Option Value)}(kg:cJ K "upward" sI iM fd_upward)(ky:cJ K "folded" sh cD fd_folded)(wj:W.nsIn K mainGlobals "value"=some (some (.ref gK)))(rP:K.lookup gK=some ⟨oc_value,od_value,.func (W.fnOf "value" "value" (defArgs jw) (defBody jw) (defScope jw) .none kV_value dc_value pm_value an_value cd_value ct_value),sl_value⟩)(mZ:W.codeIn K cd_value "value"=true)(rT:W.keepIn K (.ref gK)=true)(qd:W.nsIn K mainGlobals "against"=some (some (.ref dJ)))(mI:K.lookup dJ=some ⟨oc_against,od_against,.func (W.fnOf "against" "against" (defArgs fi) (defBody fi) (defScope fi) .none kV_against dc_against pm_against an_against cd_against ct_against),sl_against⟩)(ip:W.codeIn K cd_against "against"=true)(mO:W.keepIn K (.ref dJ)=true)(gz:cJ K "rejoined" nR cc fd_rejoined)(dL:cJ K "without_not" gI cU fd_without_not)(kx:cJ K "missed" tR i8 fd_missed)(m7:cJ K "parts" xw kS fd_parts)(cN:cJ K "flipped_words" eR bJ fd_flipped_words)(c5:cJ K "flipped_word" fI cE fd_flipped_word)(c7:cJ K "flipped_case" iZ cF fd_flipped_case)(gx:W.nsIn K mainGlobals "flipped_saying"=some (some (.ref bc)))(eB:K.lookup bc=some ⟨oc_flipped_saying,od_flipped_saying,.func (W.fnOf "flipped_saying" "flipped_saying" (defArgs bC) (defBody bC) (defScope bC) .none kV_flipped_saying dc_flipped_saying pm_flipped_saying an_flipped_saying cd_flipped_saying ct_flipped_saying),sl_flipped_saying⟩)(cm:W.codeIn K cd_flipped_saying "flipped_saying"=true)(eA:W.keepIn K (.ref bc)=true)(c6:cJ K "flipped_leaf" jh bW fd_flipped_leaf)(iH:W.nsIn K mainGlobals "flipped_talk"=some (some (.ref bv)))(fA:K.lookup bv=some ⟨oc_flipped_talk,od_flipped_talk,.func (W.fnOf "flipped_talk" "flipped_talk" (defArgs bX) (defBody bX) (defScope bX) .none kV_flipped_talk dc_flipped_talk pm_flipped_talk an_flipped_talk cd_flipped_talk ct_flipped_talk),sl_flipped_talk⟩)(da:W.codeIn K cd_flipped_talk "flipped_talk"=true)(fG:W.keepIn K (.ref bv)=true)(b9:cJ K "exchanged_words" dW br fd_exchanged_words)(cr:cJ K "exchanged_word" gf bN fd_exchanged_word)(cn:cJ K "exchanged_case" gG bR fd_exchanged_case)(eV:W.nsIn K mainGlobals "exchanged_saying"=some (some (.ref aZ)))(di:K.lookup aZ=some ⟨oc_exchanged_saying,od_exchanged_saying,.func (W.fnOf "exchanged_saying" "exchanged_saying" (defArgs bg) (defBody bg) (defScope bg) .none kV_exchanged_saying dc_exchanged_saying pm_exchanged_saying an_exchanged_saying cd_exchanged_saying ct_exchanged_saying),sl_exchanged_saying⟩)(bP:W.codeIn K cd_exchanged_saying "exchanged_saying"=true)(dv:W.keepIn K (.ref aZ)=true)(gF:W.nsIn K mainGlobals "exchanged_talk"=some (some (.ref bd)))(eJ:K.lookup bd=some ⟨oc_exchanged_talk,od_exchanged_talk,.func (W.fnOf "exchanged_talk" "exchanged_talk" (defArgs bA) (defBody bA) (defScope bA) .none kV_exchanged_talk dc_exchanged_talk pm_exchanged_talk an_exchanged_talk cd_exchanged_talk ct_exchanged_talk),sl_exchanged_talk⟩)(ck:W.codeIn K cd_exchanged_talk "exchanged_talk"=true)(eC:W.keepIn K (.ref bd)=true)(cZ:cJ K "swapped_case" jf cG fd_swapped_case)(iT:W.nsIn K mainGlobals "swapped_talk"=some (some (.ref bw)))(fO:K.lookup bw=some ⟨oc_swapped_talk,od_swapped_talk,.func (W.fnOf "swapped_talk" "swapped_talk" (defArgs bU) (defBody bU) (defScope bU) .none kV_swapped_talk dc_swapped_talk pm_swapped_talk an_swapped_talk cd_swapped_talk ct_swapped_talk),sl_swapped_talk⟩)(cY:W.codeIn K cd_swapped_talk "swapped_talk"=true)(fE:W.keepIn K (.ref bw)=true)(ii:cJ K "went_on" kh gi fd_went_on)(ik:cJ K "ends_of" pU ga fd_ends_of)(fq:cJ K "has_pairs" mx ee fd_has_pairs)(dN:cJ K "kept_upward" jU cS fd_kept_upward)(vn:cJ K "cut" Eg t5 fd_cut)(gu:cJ K "pairs_in" k6 e9 fd_pairs_in)(j8:cJ K "spoken" tN iS fd_spoken)(eI:cJ K "parts_pair" kH dh fd_parts_pair)(mK:cJ K "fault" w4 kY fd_fault)(iw:cJ K "lets_by" pO gA fd_lets_by)(qH:W.nsIn K mainGlobals "talk_of"=some (some (.ref dI)))(mG:K.lookup dI=some ⟨oc_talk_of,od_talk_of,.func (W.fnOf "talk_of" "talk_of" (defArgs fe) (defBody fe) (defScope fe) .none kV_talk_of dc_talk_of pm_talk_of an_talk_of cd_talk_of ct_talk_of),sl_talk_of⟩)(ir:W.codeIn K cd_talk_of "talk_of"=true)(mT:W.keepIn K (.ref dI)=true)(f7:cJ K "led_leaf" iR ei fd_led_leaf)(gj:cJ K "led_join" nP eu fd_led_join)(eG:cJ K "words_with" hJ dn fd_words_with)(iA:cJ K "greater" m6 gp fd_greater)(ic:cJ K "smaller" mQ gb fd_smaller)(fh:cJ K "saying_of" jr ek fd_saying_of)(c8:cJ K "squares_with" fy cB fd_squares_with)(eD:cJ K "case_grows" hX dB fd_case_grows)(gE:cJ K "_law_spring" nW fb fd_l_spring)(kf:cJ K "_law_flow" uc iG fd_l_flow)(fm:cJ K "_law_list_of" jC eh fd_l_list_of)(m4:cJ K "_law_any" xj hU fd_l_any)(mL:cJ K "_law_one" wv h8 fd_l_one)(jX:cJ K "_law_kept" oD iN fd_l_kept)(f8:cJ K "_law_walked" nZ eX fd_l_walked)(bZ:cJ K "_law_carried_right" fC bI fd_l_carried_right)(fc:cJ K "_law_flipped" lA dY fd_l_flipped)(dM:cJ K "_law_exchanged" jG cT fd_l_exchanged)(fj:cJ K "_law_swapped" mj d6 fd_l_swapped)(cw:cJ K "_law_back_carried" gB bS fd_l_back_carried)(cq:cJ K "_law_rising_right" gr bQ fd_l_rising_right)(Eb:W.nsIn K mainGlobals "law"=some (some (.ref nB)))(E9:K.lookup nB=some ⟨oc_law,od_law,.func (W.fnOf "law" "law" (defArgs nA) (defBody nA) (defScope nA) .none kV_law dc_law pm_law an_law cd_law ct_law),sl_law⟩)(Ft:W.codeIn K cd_law "law"=true)(B4:W.keepIn K (.ref nB)=true)(lh:W.nsIn K mainGlobals "OTHER_JOIN"=some (some (.ref dw)))(kP:K.lookup dw=some { cls:=.type "dict",data:=.dict #[⟨PyData.keyHash w.params "and",.str "and" u_OTHER_JOIN_0,.str "or" v_OTHER_JOIN_0⟩,⟨PyData.keyHash w.params "or",.str "or" u_OTHER_JOIN_1,.str "and" v_OTHER_JOIN_1⟩] ep_OTHER_JOIN })(kW:W.nsIn K mainGlobals "OTHER_HAND"=some (some (.ref dr)))(lg:K.lookup dr=some { cls:=.type "dict",data:=.dict #[⟨PyData.keyHash w.params "yes",.str "yes" u_OTHER_HAND_0,.str "no" v_OTHER_HAND_0⟩,⟨PyData.keyHash w.params "no",.str "no" u_OTHER_HAND_1,.str "yes" v_OTHER_HAND_1⟩] ep_OTHER_HAND })(iJ:W.nsIn K mainGlobals "JOIN_OF_HAND"=some (some (.ref cz)))(i3:K.lookup cz=some { cls:=.type "dict",data:=.dict #[⟨PyData.keyHash w.params "yes",.str "yes" u_JOIN_OF_HAND_0,.str "or" v_JOIN_OF_HAND_0⟩,⟨PyData.keyHash w.params "no",.str "no" u_JOIN_OF_HAND_1,.str "and" v_JOIN_OF_HAND_1⟩] ep_JOIN_OF_HAND })(vQ:cd_value=.ref cc_value)(Bu:K.lookup cc_value=some ⟨ko_value,kd_value,.fields kf_value,ks_value⟩)(Cp:kf_value[11]?=some (.ref pp_value))(xg:(jm K).contains ("value",cc_value,pp_value)=true)(wm:qt K cc_value pp_value=true)(qo:cd_against=.ref cc_against)(vA:K.lookup cc_against=some ⟨ko_against,kd_against,.fields kf_against,ks_against⟩)(vH:kf_against[11]?=some (.ref pp_against))(qI:(jm K).contains ("against",cc_against,pp_against)=true)(pV:qt K cc_against pp_against=true)(gv:cd_flipped_saying=.ref cc_flipped_saying)(kw:K.lookup cc_flipped_saying=some ⟨ko_flipped_saying,kd_flipped_saying,.fields kf_flipped_saying,ks_flipped_saying⟩)(kB:kf_flipped_saying[11]?=some (.ref pp_flipped_saying))(gh:(jm K).contains ("flipped_saying",cc_flipped_saying,pp_flipped_saying)=true)(fX:qt K cc_flipped_saying pp_flipped_saying=true)(iC:cd_flipped_talk=.ref cc_flipped_talk)(mi:K.lookup cc_flipped_talk=some ⟨ko_flipped_talk,kd_flipped_talk,.fields kf_flipped_talk,ks_flipped_talk⟩)(lV:kf_flipped_talk[11]?=some (.ref pp_flipped_talk))(iY:(jm K).contains ("flipped_talk",cc_flipped_talk,pp_flipped_talk)=true)(iB:qt K cc_flipped_talk pp_flipped_talk=true)(e8:cd_exchanged_saying=.ref cc_exchanged_saying)(iK:K.lookup cc_exchanged_saying=some ⟨ko_exchanged_saying,kd_exchanged_saying,.fields kf_exchanged_saying,ks_exchanged_saying⟩)(je:kf_exchanged_saying[11]?=some (.ref pp_exchanged_saying))(eZ:(jm K).contains ("exchanged_saying",cc_exchanged_saying,pp_exchanged_saying)=true)(eU:qt K cc_exchanged_saying pp_exchanged_saying=true)(gk:cd_exchanged_talk=.ref cc_exchanged_talk)(kA:K.lookup cc_exchanged_talk=some ⟨ko_exchanged_talk,kd_exchanged_talk,.fields kf_exchanged_talk,ks_exchanged_talk⟩)(kE:kf_exchanged_talk[11]?=some (.ref pp_exchanged_talk))(gl:(jm K).contains ("exchanged_talk",cc_exchanged_talk,pp_exchanged_talk)=true)(fY:qt K cc_exchanged_talk pp_exchanged_talk=true)(iU:cd_swapped_talk=.ref cc_swapped_talk)(lH:K.lookup cc_swapped_talk=some ⟨ko_swapped_talk,kd_swapped_talk,.fields kf_swapped_talk,ks_swapped_talk⟩)(lJ:kf_swapped_talk[11]?=some (.ref pp_swapped_talk))(iD:(jm K).contains ("swapped_talk",cc_swapped_talk,pp_swapped_talk)=true)(jb:qt K cc_swapped_talk pp_swapped_talk=true)(qx:cd_talk_of=.ref cc_talk_of)(uH:K.lookup cc_talk_of=some ⟨ko_talk_of,kd_talk_of,.fields kf_talk_of,ks_talk_of⟩)(uI:kf_talk_of[11]?=some (.ref pp_talk_of))(pW:(jm K).contains ("talk_of",cc_talk_of,pp_talk_of)=true)(qw:qt K cc_talk_of pp_talk_of=true)(Fj:W.nsIn K mainGlobals "abs"=some none)(Ek:W.nsIn K mainGlobals "all"=some none)(l7:W.nsIn K mainGlobals "enumerate"=some none)(FV:W.nsIn K mainGlobals "int"=some none)(Fw:W.nsIn K mainGlobals "len"=some none)(zS:W.nsIn K mainGlobals "list"=some none)(FP:W.nsIn K mainGlobals "max"=some none)(Gu:W.nsIn K mainGlobals "min"=some none)(wE:W.nsIn K mainGlobals "range"=some none)(sD:W.nsIn K mainGlobals "sorted"=some none)(vT:W.nsIn K mainGlobals "tuple"=some none)(Gh:W.nsIn K mainGlobals "zip"=some none):∃t,t.wo=w/\Txt K mg t:=by
 have F_value:=jK (st:=jw) rP mZ rT;have F_against:=jK (st:=fi) mI ip mO;have F_flipped_saying:=jK (st:=bC) eB cm eA;have F_flipped_talk:=jK (st:=bX) fA da fG;have F_exchanged_saying:=jK (st:=bg) di bP dv;have F_exchanged_talk:=jK (st:=bA) eJ ck eC;have F_swapped_talk:=jK (st:=bU) fO cY fE;have F_talk_of:=jK (st:=fe) mG ir mT;have F_law:=jK (st:=nA) E9 Ft B4
 exact⟨⟨iM,_,cD,_,gK,_,dJ,_,cc,_,cU,_,i8,_,kS,_,bJ,_,cE,_,cF,_,bc,_,bW,_,bv,_,br,_,bN,_,bR,_,aZ,_,bd,_,cG,_,bw,_,gi,_,ga,_,ee,_,cS,_,t5,_,e9,_,iS,_,dh,_,kY,_,gA,_,dI,_,ei,_,eu,_,dn,_,gp,_,gb,_,ek,_,cB,_,dB,_,fb,_,iG,_,eh,_,hU,_,h8,_,iN,_,eX,_,bI,_,dY,_,cT,_,d6,_,bS,_,bQ,_,nB,_,w,dw,dr,cz,cc_value,pp_value,cc_against,pp_against,cc_flipped_saying,pp_flipped_saying,cc_flipped_talk,pp_flipped_talk,cc_exchanged_saying,pp_exchanged_saying,cc_exchanged_talk,pp_exchanged_talk,cc_swapped_talk,pp_swapped_talk,cc_talk_of,pp_talk_of⟩,rfl,⟨W.mg_of X G kg.g,kg.f,kg.e,kg.f.Nu fun _ _ _ _ _ _ _ _=>rfl,
  W.mg_of X G ky.g,ky.f,ky.e,ky.f.NF fun _ _ _ _ _ _ _ _ _ _=>rfl,
  W.mg_of X G wj,F_value,rT,F_value.Nu (p0:="saying") (p1:="word") fun _ _ _ _ _ _ _ _=>rfl,
  W.mg_of X G qd,F_against,mO,F_against.Ny (p0:="saying") fun _ _ _ _ _ _ _=>rfl,
  W.mg_of X G gz.g,gz.f,gz.e,gz.f.Nz fun _ _ _ _ _ _ _ _ _=>rfl,
  W.mg_of X G dL.g,dL.f,dL.e,dL.f.Ny fun _ _ _ _ _ _ _=>rfl,
  W.mg_of X G kx.g,kx.f,kx.e,kx.f.Nu fun _ _ _ _ _ _ _ _=>rfl,
  W.mg_of X G m7.g,m7.f,m7.e,m7.f.Nu fun _ _ _ _ _ _ _ _=>rfl,
  W.mg_of X G cN.g,cN.f,cN.e,cN.f.Nu fun _ _ _ _ _ _ _ _=>rfl,
  W.mg_of X G c5.g,c5.f,c5.e,c5.f.Nu fun _ _ _ _ _ _ _ _=>rfl,
  W.mg_of X G c7.g,c7.f,c7.e,c7.f.Nu fun _ _ _ _ _ _ _ _=>rfl,
  W.mg_of X G gx,F_flipped_saying,eA,F_flipped_saying.Nu (p0:="saying") (p1:="some") fun _ _ _ _ _ _ _ _=>rfl,
  W.mg_of X G c6.g,c6.f,c6.e,c6.f.Nu fun _ _ _ _ _ _ _ _=>rfl,
  W.mg_of X G iH,F_flipped_talk,fG,F_flipped_talk.Nu (p0:="talk") (p1:="some") fun _ _ _ _ _ _ _ _=>rfl,
  W.mg_of X G b9.g,b9.f,b9.e,b9.f.Nu fun _ _ _ _ _ _ _ _=>rfl,
  W.mg_of X G cr.g,cr.f,cr.e,cr.f.Nu fun _ _ _ _ _ _ _ _=>rfl,
  W.mg_of X G cn.g,cn.f,cn.e,cn.f.Nu fun _ _ _ _ _ _ _ _=>rfl,
  W.mg_of X G eV,F_exchanged_saying,dv,F_exchanged_saying.Nu (p0:="saying") (p1:="order") fun _ _ _ _ _ _ _ _=>rfl,
  W.mg_of X G gF,F_exchanged_talk,eC,F_exchanged_talk.Nu (p0:="talk") (p1:="order") fun _ _ _ _ _ _ _ _=>rfl,
  W.mg_of X G cZ.g,cZ.f,cZ.e,cZ.f.Ny fun _ _ _ _ _ _ _=>rfl,
  W.mg_of X G iT,F_swapped_talk,fE,F_swapped_talk.Ny (p0:="talk") fun _ _ _ _ _ _ _=>rfl,
  W.mg_of X G ii.g,ii.f,ii.e,ii.f.Nz fun _ _ _ _ _ _ _ _ _=>rfl,
  W.mg_of X G ik.g,ik.f,ik.e,ik.f.Nu fun _ _ _ _ _ _ _ _=>rfl,
  W.mg_of X G fq.g,fq.f,fq.e,fq.f.Ny fun _ _ _ _ _ _ _=>rfl,
  W.mg_of X G dN.g,dN.f,dN.e,dN.f.Nu fun _ _ _ _ _ _ _ _=>rfl,
  W.mg_of X G vn.g,vn.f,vn.e,vn.f.Nu fun _ _ _ _ _ _ _ _=>rfl,
  W.mg_of X G gu.g,gu.f,gu.e,gu.f.Ny fun _ _ _ _ _ _ _=>rfl,
  W.mg_of X G j8.g,j8.f,j8.e,j8.f.Nz fun _ _ _ _ _ _ _ _ _=>rfl,
  W.mg_of X G eI.g,eI.f,eI.e,eI.f.NF fun _ _ _ _ _ _ _ _ _ _=>rfl,
  W.mg_of X G mK.g,mK.f,mK.e,mK.f.Nz fun _ _ _ _ _ _ _ _ _=>rfl,
  W.mg_of X G iw.g,iw.f,iw.e,iw.f.Nz fun _ _ _ _ _ _ _ _ _=>rfl,
  W.mg_of X G qH,F_talk_of,mT,F_talk_of.Nu (p0:="case") (p1:="saying") fun _ _ _ _ _ _ _ _=>rfl,
  W.mg_of X G f7.g,f7.f,f7.e,f7.f.Nu fun _ _ _ _ _ _ _ _=>rfl,
  W.mg_of X G gj.g,gj.f,gj.e,gj.f.NF fun _ _ _ _ _ _ _ _ _ _=>rfl,
  W.mg_of X G eG.g,eG.f,eG.e,eG.f.Nz fun _ _ _ _ _ _ _ _ _=>rfl,
  W.mg_of X G iA.g,iA.f,iA.e,iA.f.Nu fun _ _ _ _ _ _ _ _=>rfl,
  W.mg_of X G ic.g,ic.f,ic.e,ic.f.Nu fun _ _ _ _ _ _ _ _=>rfl,
  W.mg_of X G fh.g,fh.f,fh.e,fh.f.Nu fun _ _ _ _ _ _ _ _=>rfl,
  W.mg_of X G c8.g,c8.f,c8.e,c8.f.Nz fun _ _ _ _ _ _ _ _ _=>rfl,
  W.mg_of X G eD.g,eD.f,eD.e,eD.f.Ny fun _ _ _ _ _ _ _=>rfl,
  W.mg_of X G gE.g,gE.f,gE.e,gE.f.Ny fun _ _ _ _ _ _ _=>rfl,
  W.mg_of X G kf.g,kf.f,kf.e,kf.f.Nu fun _ _ _ _ _ _ _ _=>rfl,
  W.mg_of X G fm.g,fm.f,fm.e,fm.f.Ny fun _ _ _ _ _ _ _=>rfl,
  W.mg_of X G m4.g,m4.f,m4.e,m4.f.NF fun _ _ _ _ _ _ _ _ _ _=>rfl,
  W.mg_of X G mL.g,mL.f,mL.e,mL.f.Nu fun _ _ _ _ _ _ _ _=>rfl,
  W.mg_of X G jX.g,jX.f,jX.e,jX.f.Nu fun _ _ _ _ _ _ _ _=>rfl,
  W.mg_of X G f8.g,f8.f,f8.e,f8.f.Nu fun _ _ _ _ _ _ _ _=>rfl,
  W.mg_of X G bZ.g,bZ.f,bZ.e,bZ.f.Nu fun _ _ _ _ _ _ _ _=>rfl,
  W.mg_of X G fc.g,fc.f,fc.e,fc.f.Nu fun _ _ _ _ _ _ _ _=>rfl,
  W.mg_of X G dM.g,dM.f,dM.e,dM.f.Nu fun _ _ _ _ _ _ _ _=>rfl,
  W.mg_of X G fj.g,fj.f,fj.e,fj.f.Ny fun _ _ _ _ _ _ _=>rfl,
  W.mg_of X G cw.g,cw.f,cw.e,cw.f.Nz fun _ _ _ _ _ _ _ _ _=>rfl,
  W.mg_of X G cq.g,cq.f,cq.e,cq.f.Nz fun _ _ _ _ _ _ _ _ _=>rfl,
  W.mg_of X G Eb,F_law,B4,F_law.Ny (p0:="_law_script") fun _ _ _ _ _ _ _=>rfl,
  fun s v=>.of_eq rfl,
  W.mg_none_of X G Fj,
  W.mg_none_of X G Ek,
  W.mg_none_of X G l7,
  W.mg_none_of X G FV,
  W.mg_none_of X G Fw,
  W.mg_none_of X G zS,
  W.mg_none_of X G FP,
  W.mg_none_of X G Gu,
  W.mg_none_of X G wE,
  W.mg_none_of X G sD,
  W.mg_none_of X G vT,
  W.mg_none_of X G Gh,
  W.mg_of X G lh,
  ⟨_,_,ep_OTHER_JOIN,kP,⟨rfl,rfl,rfl⟩,rfl,(.cons ⟨rfl,⟨_,rfl⟩,⟨_,rfl⟩⟩ (.cons ⟨rfl,⟨_,rfl⟩,⟨_,rfl⟩⟩ PySem.Paired.nil))⟩,
  W.mg_of X G kW,
  ⟨_,_,ep_OTHER_HAND,lg,⟨rfl,rfl,rfl⟩,rfl,(.cons ⟨rfl,⟨_,rfl⟩,⟨_,rfl⟩⟩ (.cons ⟨rfl,⟨_,rfl⟩,⟨_,rfl⟩⟩ PySem.Paired.nil))⟩,
  W.mg_of X G iJ,
  ⟨_,_,ep_JOIN_OF_HAND,i3,⟨rfl,rfl,rfl⟩,rfl,(.cons ⟨rfl,⟨_,rfl⟩,⟨_,rfl⟩⟩ (.cons ⟨rfl,⟨_,rfl⟩,⟨_,rfl⟩⟩ PySem.Paired.nil))⟩,
  jD (st:=jw) rP mZ vQ xg wm,
  jD (st:=fi) mI ip qo qI pV,
  jD (st:=bC) eB cm gv gh fX,
  jD (st:=bX) fA da iC iY iB,
  jD (st:=bg) di bP e8 eZ eU,
  jD (st:=bA) eJ ck gk gl fY,
  jD (st:=bU) fO cY iU iD jb,
  jD (st:=fe) mG ir qx pW qw⟩⟩
noncomputable def inCls(s:PySem.Stmt)(j:Nat):PySem.Stmt:=match s with
 |.ClassDef _ _ _ b _ _ _ _ _ _ _=>b.getD j (.Pass ⟨0,0,0,0⟩)
 |_=>s
noncomputable abbrev oT(x:Array Value):Obj:=⟨.type "tuple",.none,.seq x 0,#[]⟩
noncomputable abbrev oF(n:Str)(i:Nat)(s:Str)(k:Tok)(c:Addr):Obj:=⟨.type "function",.none,.func (W.fnOf n n (defArgs (top i)) (defBody (top i)) (defScope (top i)) .none .none .none (.str s k) .none (.ref c) .none),#[]⟩
noncomputable abbrev oC(n:Str)(a b c:Tok)(l k:Int)(r:Addr)(e:Int)(u:Addr)(v w:Value)(x:Addr)(y:Int)(d:Tok):Obj:=⟨.type "code",.none,.fields #[.str n a,.str n b,.str "/claim/cut.py" c,.int l 0,.int k 0,.int 0 0,.int 0 0,.int 3 0,.ref r,.bool true,.int e 0,.ref u,.none,v,w,.ref x,.int y 0,.int l 0,.str "/claim/cut.py" d],#[]⟩
noncomputable def KK:PySem.Params->PySem.W.Frag:=fun P=>
 (nat_lit 2,⟨.none,.none,.dict #[] 0,#[]⟩)::
 (nat_lit 3,⟨.type "dict",.none,.dict #[⟨PyData.keyHash P "__name__",.str "__name__" 165,.str "law_unlikeplace_k50_whole_carried_along" 621⟩,⟨PyData.keyHash P "__doc__",.str "__doc__" 166,.none⟩,⟨PyData.keyHash P "__package__",.str "__package__" 167,.none⟩,⟨PyData.keyHash P "__loader__",.str "__loader__" 168,.builtin "__main__.__loader__#opaque"⟩,⟨PyData.keyHash P "__spec__",.str "__spec__" 169,.none⟩,⟨PyData.keyHash P "__annotations__",.str "__annotations__" 170,.ref 6⟩,⟨PyData.keyHash P "__builtins__",.str "__builtins__" 171,.ref 4⟩,⟨PyData.keyHash P "__file__",.str "__file__" 173,.str "/claim/cut.py" 172⟩,⟨PyData.keyHash P "__cached__",.str "__cached__" 174,.none⟩,⟨PyData.keyHash P "upward",.str "upward" 199,.ref 21⟩,⟨PyData.keyHash P "folded",.str "folded" 213,.ref 28⟩,⟨PyData.keyHash P "OTHER_JOIN",.str "OTHER_JOIN" 222,.ref 29⟩,⟨PyData.keyHash P "value",.str "value" 231,.ref 36⟩,⟨PyData.keyHash P "against",.str "against" 238,.ref 43⟩,⟨PyData.keyHash P "rejoined",.str "rejoined" 247,.ref 50⟩,⟨PyData.keyHash P "without_not",.str "without_not" 253,.ref 55⟩,⟨PyData.keyHash P "missed",.str "missed" 262,.ref 62⟩,⟨PyData.keyHash P "parts",.str "parts" 270,.ref 69⟩,⟨PyData.keyHash P "OTHER_HAND",.str "OTHER_HAND" 279,.ref 70⟩,⟨PyData.keyHash P "flipped_words",.str "flipped_words" 285,.ref 75⟩,⟨PyData.keyHash P "flipped_word",.str "flipped_word" 291,.ref 80⟩,⟨PyData.keyHash P "flipped_case",.str "flipped_case" 299,.ref 87⟩,⟨PyData.keyHash P "flipped_saying",.str "flipped_saying" 308,.ref 94⟩,⟨PyData.keyHash P "flipped_leaf",.str "flipped_leaf" 316,.ref 101⟩,⟨PyData.keyHash P "flipped_talk",.str "flipped_talk" 325,.ref 108⟩,⟨PyData.keyHash P "exchanged_words",.str "exchanged_words" 331,.ref 113⟩,⟨PyData.keyHash P "exchanged_word",.str "exchanged_word" 342,.ref 120⟩,⟨PyData.keyHash P "exchanged_case",.str "exchanged_case" 350,.ref 127⟩,⟨PyData.keyHash P "exchanged_saying",.str "exchanged_saying" 359,.ref 134⟩,⟨PyData.keyHash P "exchanged_talk",.str "exchanged_talk" 368,.ref 141⟩,⟨PyData.keyHash P "swapped_case",.str "swapped_case" 375,.ref 148⟩,⟨PyData.keyHash P "swapped_talk",.str "swapped_talk" 382,.ref 155⟩,⟨PyData.keyHash P "went_on",.str "went_on" 390,.ref 160⟩,⟨PyData.keyHash P "ends_of",.str "ends_of" 406,.ref 167⟩,⟨PyData.keyHash P "has_pairs",.str "has_pairs" 413,.ref 174⟩,⟨PyData.keyHash P "kept_upward",.str "kept_upward" 428,.ref 181⟩,⟨PyData.keyHash P "cut",.str "cut" 440,.ref 188⟩,⟨PyData.keyHash P "TalkError",.str "TalkError" 460,.ref 198⟩,⟨PyData.keyHash P "NoSaying",.str "NoSaying" 476,.ref 211⟩,⟨PyData.keyHash P "NoTalk",.str "NoTalk" 492,.ref 223⟩,⟨PyData.keyHash P "pairs_in",.str "pairs_in" 500,.ref 230⟩,⟨PyData.keyHash P "spoken",.str "spoken" 515,.ref 237⟩,⟨PyData.keyHash P "parts_pair",.str "parts_pair" 525,.ref 244⟩,⟨PyData.keyHash P "fault",.str "fault" 537,.ref 251⟩,⟨PyData.keyHash P "lets_by",.str "lets_by" 546,.ref 258⟩,⟨PyData.keyHash P "JOIN_OF_HAND",.str "JOIN_OF_HAND" 555,.ref 259⟩,⟨PyData.keyHash P "talk_of",.str "talk_of" 565,.ref 266⟩,⟨PyData.keyHash P "led_leaf",.str "led_leaf" 571,.ref 271⟩,⟨PyData.keyHash P "led_join",.str "led_join" 582,.ref 278⟩,⟨PyData.keyHash P "words_with",.str "words_with" 588,.ref 283⟩,⟨PyData.keyHash P "greater",.str "greater" 594,.ref 288⟩,⟨PyData.keyHash P "smaller",.str "smaller" 600,.ref 293⟩,⟨PyData.keyHash P "saying_of",.str "saying_of" 606,.ref 298⟩,⟨PyData.keyHash P "squares_with",.str "squares_with" 614,.ref 303⟩,⟨PyData.keyHash P "case_grows",.str "case_grows" 620,.ref 308⟩,⟨PyData.keyHash P "_law_spring",.str "_law_spring" 629,.ref 315⟩,⟨PyData.keyHash P "_law_flow",.str "_law_flow" 642,.ref 322⟩,⟨PyData.keyHash P "_law_list_of",.str "_law_list_of" 648,.ref 327⟩,⟨PyData.keyHash P "_law_any",.str "_law_any" 660,.ref 334⟩,⟨PyData.keyHash P "_law_one",.str "_law_one" 668,.ref 341⟩,⟨PyData.keyHash P "_law_kept",.str "_law_kept" 674,.ref 346⟩,⟨PyData.keyHash P "_law_walked",.str "_law_walked" 686,.ref 353⟩,⟨PyData.keyHash P "_law_carried_right",.str "_law_carried_right" 700,.ref 360⟩,⟨PyData.keyHash P "_law_flipped",.str "_law_flipped" 711,.ref 367⟩,⟨PyData.keyHash P "_law_exchanged",.str "_law_exchanged" 722,.ref 374⟩,⟨PyData.keyHash P "_law_swapped",.str "_law_swapped" 729,.ref 381⟩,⟨PyData.keyHash P "_law_back_carried",.str "_law_back_carried" 742,.ref 388⟩,⟨PyData.keyHash P "_law_rising_right",.str "_law_rising_right" 756,.ref 395⟩,⟨PyData.keyHash P "law",.str "law" 762,.ref 400⟩] 69,#[]⟩)::
 (nat_lit 15,oT #[])::
 (nat_lit 17,oT #[.str "tree" 192,.str "leaf" 193,.str "waiting" 194,.str "downward" 195,.str "part" 196])::
 (nat_lit 18,oT #[])::
 (nat_lit 20,oC "upward" 189 190 191 2 2 15 181 16 (.ref 17) (.ref 18) 19 197 198)::
 (nat_lit 21,oF "upward" 1 "unlikeplace.trees" 187 20)::
 (nat_lit 22,oT #[])::
 (nat_lit 24,oT #[.str "tree" 203,.str "leaf" 204,.str "of_leaf" 205,.str "of_fork" 206,.str "done" 207,.str "part" 208,.str "second" 209,.str "first" 210])::
 (nat_lit 25,oT #[])::
 (nat_lit 27,oC "folded" 200 201 202 12 4 22 181 23 (.ref 24) (.ref 25) 26 211 212)::
 (nat_lit 28,oF "folded" 2 "unlikeplace.trees" 187 27)::
 (nat_lit 29,⟨.type "dict",.none,.dict #[⟨PyData.keyHash P "and",.str "and" 216,.str "or" 217⟩,⟨PyData.keyHash P "or",.str "or" 218,.str "and" 219⟩] 2,#[]⟩)::
 (nat_lit 30,oT #[])::
 (nat_lit 32,oT #[.str "saying" 226,.str "word" 227])::
 (nat_lit 33,oT #[.str "word" 228])::
 (nat_lit 35,oC "value" 223 224 225 24 2 30 181 31 (.ref 32) (.ref 33) 34 229 230)::
 (nat_lit 36,oF "value" 5 "unlikeplace.sayings" 214 35)::
 (nat_lit 37,oT #[])::
 (nat_lit 39,oT #[.str "saying" 235])::
 (nat_lit 40,oT #[])::
 (nat_lit 42,oC "against" 232 233 234 26 1 37 181 38 (.ref 39) (.ref 40) 41 236 237)::
 (nat_lit 43,oF "against" 6 "unlikeplace.sayings" 214 42)::
 (nat_lit 44,oT #[])::
 (nat_lit 46,oT #[.str "part" 242,.str "one" 243,.str "other" 244])::
 (nat_lit 47,oT #[])::
 (nat_lit 49,oC "rejoined" 239 240 241 28 3 44 181 45 (.ref 46) (.ref 47) 48 245 246)::
 (nat_lit 50,oF "rejoined" 7 "unlikeplace.sayings" 214 49)::
 (nat_lit 51,oT #[])::
 (nat_lit 54,oC "without_not" 248 249 250 30 1 51 181 52 .none .none 53 251 252)::
 (nat_lit 55,oF "without_not" 8 "unlikeplace.sayings" 214 54)::
 (nat_lit 56,oT #[])::
 (nat_lit 58,oT #[.str "case" 257,.str "saying" 258,.str "word" 259])::
 (nat_lit 59,oT #[])::
 (nat_lit 61,oC "missed" 254 255 256 32 2 56 181 57 (.ref 58) (.ref 59) 60 260 261)::
 (nat_lit 62,oF "missed" 9 "unlikeplace.sayings" 214 61)::
 (nat_lit 63,oT #[])::
 (nat_lit 65,oT #[.str "case" 266,.str "saying" 267])::
 (nat_lit 66,oT #[])::
 (nat_lit 68,oC "parts" 263 264 265 40 2 63 181 64 (.ref 65) (.ref 66) 67 268 269)::
 (nat_lit 69,oF "parts" 10 "unlikeplace.sayings" 214 68)::
 (nat_lit 70,⟨.type "dict",.none,.dict #[⟨PyData.keyHash P "yes",.str "yes" 273,.str "no" 274⟩,⟨PyData.keyHash P "no",.str "no" 275,.str "yes" 276⟩] 2,#[]⟩)::
 (nat_lit 71,oT #[])::
 (nat_lit 74,oC "flipped_words" 280 281 282 44 2 71 181 72 .none .none 73 283 284)::
 (nat_lit 75,oF "flipped_words" 13 "unlikeplace.turned" 271 74)::
 (nat_lit 76,oT #[])::
 (nat_lit 79,oC "flipped_word" 286 287 288 46 2 76 181 77 .none .none 78 289 290)::
 (nat_lit 80,oF "flipped_word" 14 "unlikeplace.turned" 271 79)::
 (nat_lit 81,oT #[])::
 (nat_lit 83,oT #[.str "case" 295,.str "some" 296])::
 (nat_lit 84,oT #[])::
 (nat_lit 86,oC "flipped_case" 292 293 294 48 2 81 181 82 (.ref 83) (.ref 84) 85 297 298)::
 (nat_lit 87,oF "flipped_case" 15 "unlikeplace.turned" 271 86)::
 (nat_lit 88,oT #[])::
 (nat_lit 90,oT #[.str "saying" 303,.str "some" 304])::
 (nat_lit 91,oT #[.str "some" 305])::
 (nat_lit 93,oC "flipped_saying" 300 301 302 50 2 88 181 89 (.ref 90) (.ref 91) 92 306 307)::
 (nat_lit 94,oF "flipped_saying" 16 "unlikeplace.turned" 271 93)::
 (nat_lit 95,oT #[])::
 (nat_lit 97,oT #[.str "leaf" 312,.str "some" 313])::
 (nat_lit 98,oT #[])::
 (nat_lit 100,oC "flipped_leaf" 309 310 311 52 2 95 181 96 (.ref 97) (.ref 98) 99 314 315)::
 (nat_lit 101,oF "flipped_leaf" 17 "unlikeplace.turned" 271 100)::
 (nat_lit 102,oT #[])::
 (nat_lit 104,oT #[.str "talk" 320,.str "some" 321])::
 (nat_lit 105,oT #[.str "some" 322])::
 (nat_lit 107,oC "flipped_talk" 317 318 319 54 2 102 181 103 (.ref 104) (.ref 105) 106 323 324)::
 (nat_lit 108,oF "flipped_talk" 18 "unlikeplace.turned" 271 107)::
 (nat_lit 109,oT #[])::
 (nat_lit 112,oC "exchanged_words" 326 327 328 56 2 109 181 110 .none .none 111 329 330)::
 (nat_lit 113,oF "exchanged_words" 19 "unlikeplace.turned" 271 112)::
 (nat_lit 114,oT #[])::
 (nat_lit 116,oT #[.str "word" 335,.str "order" 336,.str "told" 337,.str "place" 338,.str "bit" 339])::
 (nat_lit 117,oT #[])::
 (nat_lit 119,oC "exchanged_word" 332 333 334 58 2 114 181 115 (.ref 116) (.ref 117) 118 340 341)::
 (nat_lit 120,oF "exchanged_word" 20 "unlikeplace.turned" 271 119)::
 (nat_lit 121,oT #[])::
 (nat_lit 123,oT #[.str "case" 346,.str "order" 347])::
 (nat_lit 124,oT #[])::
 (nat_lit 126,oC "exchanged_case" 343 344 345 63 2 121 181 122 (.ref 123) (.ref 124) 125 348 349)::
 (nat_lit 127,oF "exchanged_case" 21 "unlikeplace.turned" 271 126)::
 (nat_lit 128,oT #[])::
 (nat_lit 130,oT #[.str "saying" 354,.str "order" 355])::
 (nat_lit 131,oT #[.str "order" 356])::
 (nat_lit 133,oC "exchanged_saying" 351 352 353 65 2 128 181 129 (.ref 130) (.ref 131) 132 357 358)::
 (nat_lit 134,oF "exchanged_saying" 22 "unlikeplace.turned" 271 133)::
 (nat_lit 135,oT #[])::
 (nat_lit 137,oT #[.str "talk" 363,.str "order" 364])::
 (nat_lit 138,oT #[.str "order" 365])::
 (nat_lit 140,oC "exchanged_talk" 360 361 362 67 2 135 181 136 (.ref 137) (.ref 138) 139 366 367)::
 (nat_lit 141,oF "exchanged_talk" 23 "unlikeplace.turned" 271 140)::
 (nat_lit 142,oT #[])::
 (nat_lit 144,oT #[.str "case" 372])::
 (nat_lit 145,oT #[])::
 (nat_lit 147,oC "swapped_case" 369 370 371 69 1 142 181 143 (.ref 144) (.ref 145) 146 373 374)::
 (nat_lit 148,oF "swapped_case" 24 "unlikeplace.turned" 271 147)::
 (nat_lit 149,oT #[])::
 (nat_lit 151,oT #[.str "talk" 379])::
 (nat_lit 152,oT #[])::
 (nat_lit 154,oC "swapped_talk" 376 377 378 71 1 149 181 150 (.ref 151) (.ref 152) 153 380 381)::
 (nat_lit 155,oF "swapped_talk" 25 "unlikeplace.turned" 271 154)::
 (nat_lit 156,oT #[])::
 (nat_lit 159,oC "went_on" 385 386 387 74 3 156 181 157 .none .none 158 388 389)::
 (nat_lit 160,oF "went_on" 27 "unlikeplace.ends" 383 159)::
 (nat_lit 161,oT #[])::
 (nat_lit 163,oT #[.str "case" 394,.str "talk" 395,.str "ends" 396,.str "waiting" 397,.str "bits" 398,.str "part" 399,.str "yes" 400,.str "no" 401,.str "at_first" 402,.str "at_second" 403])::
 (nat_lit 164,oT #[])::
 (nat_lit 166,oC "ends_of" 391 392 393 81 2 161 181 162 (.ref 163) (.ref 164) 165 404 405)::
 (nat_lit 167,oF "ends_of" 28 "unlikeplace.ends" 383 166)::
 (nat_lit 168,oT #[])::
 (nat_lit 170,oT #[.str "words" 410])::
 (nat_lit 171,oT #[])::
 (nat_lit 173,oC "has_pairs" 407 408 409 93 1 168 181 169 (.ref 170) (.ref 171) 172 411 412)::
 (nat_lit 174,oF "has_pairs" 29 "unlikeplace.ends" 383 173)::
 (nat_lit 175,oT #[])::
 (nat_lit 177,oT #[.str "case" 417,.str "talk" 418,.str "downward" 419,.str "waiting" 420,.str "part" 421,.str "yes" 422,.str "no" 423,.str "at_first" 424,.str "at_second" 425])::
 (nat_lit 178,oT #[])::
 (nat_lit 180,oC "kept_upward" 414 415 416 95 2 175 181 176 (.ref 177) (.ref 178) 179 426 427)::
 (nat_lit 181,oF "kept_upward" 30 "unlikeplace.ends" 383 180)::
 (nat_lit 182,oT #[])::
 (nat_lit 184,oT #[.str "case" 432,.str "talk" 433,.str "done" 434,.str "part" 435,.str "second" 436,.str "first" 437])::
 (nat_lit 185,oT #[])::
 (nat_lit 187,oC "cut" 429 430 431 113 2 182 181 183 (.ref 184) (.ref 185) 186 438 439)::
 (nat_lit 188,oF "cut" 31 "unlikeplace.ends" 383 187)::
 (nat_lit 189,oT #[.type "ValueError"])::
 (nat_lit 196,oT #[])::
 (nat_lit 197,⟨.type "dict",.none,.dict #[⟨PyData.keyHash P "__module__",.str "__module__" 450,.str "unlikeplace.errors" 441⟩,⟨PyData.keyHash P "__firstlineno__",.str "__firstlineno__" 454,.int 124 453⟩,⟨PyData.keyHash P "__static_attributes__",.str "__static_attributes__" 455,.ref 196⟩,⟨PyData.keyHash P "__weakref__",.str "__weakref__" 457,.ref 199⟩,⟨PyData.keyHash P "__doc__",.str "__doc__" 458,.none⟩] 3,#[]⟩)::
 (nat_lit 198,⟨.type "type",.none,.cls ⟨"TalkError",[.type "ValueError"],[.ref 198,.type "ValueError",.type "Exception",.type "BaseException",.type "object"],197,"TalkError",true,[],[.ref 211,.ref 223],false,.none,false⟩,#[(.some (.ref 189)),.none,(.some (.str "TalkError" 443)),(.some (.str "TalkError" 451)),(.some (.builtin "ValueError.__new__")),(.some (.bool true))]⟩)::
 (nat_lit 199,⟨.type "getset_descriptor",.none,.fields #[.str "__weakref__" 456,.ref 198,.builtin "ExceptionGroup.__weakref__",.none],#[]⟩)::
 (nat_lit 202,oT #[.ref 198])::
 (nat_lit 209,oT #[])::
 (nat_lit 210,⟨.type "dict",.none,.dict #[⟨PyData.keyHash P "__module__",.str "__module__" 468,.str "unlikeplace.errors" 441⟩,⟨PyData.keyHash P "__firstlineno__",.str "__firstlineno__" 472,.int 126 471⟩,⟨PyData.keyHash P "__static_attributes__",.str "__static_attributes__" 473,.ref 209⟩,⟨PyData.keyHash P "__doc__",.str "__doc__" 474,.none⟩] 2,#[]⟩)::
 (nat_lit 211,⟨.type "type",.none,.cls ⟨"NoSaying",[.ref 198],[.ref 211,.ref 198,.type "ValueError",.type "Exception",.type "BaseException",.type "object"],210,"NoSaying",true,[],[],false,.none,false⟩,#[(.some (.ref 202)),.none,(.some (.str "NoSaying" 461)),(.some (.str "NoSaying" 469)),(.some (.builtin "ValueError.__new__")),(.some (.bool true))]⟩)::
 (nat_lit 214,oT #[.ref 198])::
 (nat_lit 221,oT #[])::
 (nat_lit 222,⟨.type "dict",.none,.dict #[⟨PyData.keyHash P "__module__",.str "__module__" 484,.str "unlikeplace.errors" 441⟩,⟨PyData.keyHash P "__firstlineno__",.str "__firstlineno__" 488,.int 128 487⟩,⟨PyData.keyHash P "__static_attributes__",.str "__static_attributes__" 489,.ref 221⟩,⟨PyData.keyHash P "__doc__",.str "__doc__" 490,.none⟩] 2,#[]⟩)::
 (nat_lit 223,⟨.type "type",.none,.cls ⟨"NoTalk",[.ref 198],[.ref 223,.ref 198,.type "ValueError",.type "Exception",.type "BaseException",.type "object"],222,"NoTalk",true,[],[],false,.none,false⟩,#[(.some (.ref 214)),.none,(.some (.str "NoTalk" 477)),(.some (.str "NoTalk" 485)),(.some (.builtin "ValueError.__new__")),(.some (.bool true))]⟩)::
 (nat_lit 226,oT #[])::
 (nat_lit 229,oC "pairs_in" 495 496 497 131 1 226 181 227 .none .none 228 498 499)::
 (nat_lit 230,oF "pairs_in" 37 "unlikeplace.cases" 493 229)::
 (nat_lit 231,oT #[])::
 (nat_lit 233,oT #[.str "talk" 506,.str "yes" 507,.str "no" 508,.str "bits" 509,.str "part" 510,.str "own" 511,.str "bit" 512])::
 (nat_lit 234,oT #[])::
 (nat_lit 236,oC "spoken" 503 504 505 134 3 231 181 232 (.ref 233) (.ref 234) 235 513 514)::
 (nat_lit 237,oF "spoken" 39 "unlikeplace.talks" 501 236)::
 (nat_lit 238,oT #[])::
 (nat_lit 240,oT #[.str "rule" 519,.str "place" 520,.str "yes" 521,.str "no" 522])::
 (nat_lit 241,oT #[])::
 (nat_lit 243,oC "parts_pair" 516 517 518 143 4 238 181 239 (.ref 240) (.ref 241) 242 523 524)::
 (nat_lit 244,oF "parts_pair" 40 "unlikeplace.talks" 501 243)::
 (nat_lit 245,oT #[])::
 (nat_lit 247,oT #[.str "case" 529,.str "rule" 530,.str "talk" 531,.str "yes" 532,.str "no" 533,.str "place" 534])::
 (nat_lit 248,oT #[])::
 (nat_lit 250,oC "fault" 526 527 528 147 3 245 181 246 (.ref 247) (.ref 248) 249 535 536)::
 (nat_lit 251,oF "fault" 41 "unlikeplace.talks" 501 250)::
 (nat_lit 252,oT #[])::
 (nat_lit 254,oT #[.str "case" 541,.str "rule" 542,.str "talk" 543])::
 (nat_lit 255,oT #[])::
 (nat_lit 257,oC "lets_by" 538 539 540 153 3 252 181 253 (.ref 254) (.ref 255) 256 544 545)::
 (nat_lit 258,oF "lets_by" 42 "unlikeplace.talks" 501 257)::
 (nat_lit 259,⟨.type "dict",.none,.dict #[⟨PyData.keyHash P "yes",.str "yes" 549,.str "or" 550⟩,⟨PyData.keyHash P "no",.str "no" 551,.str "and" 552⟩] 2,#[]⟩)::
 (nat_lit 260,oT #[])::
 (nat_lit 262,oT #[.str "case" 559,.str "saying" 560,.str "led" 561])::
 (nat_lit 263,oT #[.str "case" 562])::
 (nat_lit 265,oC "talk_of" 556 557 558 157 2 260 181 261 (.ref 262) (.ref 263) 264 563 564)::
 (nat_lit 266,oF "talk_of" 45 "unlikeplace.leads" 547 265)::
 (nat_lit 267,oT #[])::
 (nat_lit 270,oC "led_leaf" 566 567 568 162 2 267 181 268 .none .none 269 569 570)::
 (nat_lit 271,oF "led_leaf" 46 "unlikeplace.leads" 547 270)::
 (nat_lit 272,oT #[])::
 (nat_lit 274,oT #[.str "case" 575,.str "join" 576,.str "one" 577,.str "other" 578,.str "says" 579])::
 (nat_lit 275,oT #[])::
 (nat_lit 277,oC "led_join" 572 573 574 164 4 272 181 273 (.ref 274) (.ref 275) 276 580 581)::
 (nat_lit 278,oF "led_join" 47 "unlikeplace.leads" 547 277)::
 (nat_lit 279,oT #[])::
 (nat_lit 282,oC "words_with" 583 584 585 170 3 279 181 280 .none .none 281 586 587)::
 (nat_lit 283,oF "words_with" 48 "unlikeplace.leads" 547 282)::
 (nat_lit 284,oT #[])::
 (nat_lit 287,oC "greater" 589 590 591 172 2 284 181 285 .none .none 286 592 593)::
 (nat_lit 288,oF "greater" 49 "unlikeplace.leads" 547 287)::
 (nat_lit 289,oT #[])::
 (nat_lit 292,oC "smaller" 595 596 597 174 2 289 181 290 .none .none 291 598 599)::
 (nat_lit 293,oF "smaller" 50 "unlikeplace.leads" 547 292)::
 (nat_lit 294,oT #[])::
 (nat_lit 297,oC "saying_of" 601 602 603 176 2 294 181 295 .none .none 296 604 605)::
 (nat_lit 298,oF "saying_of" 51 "unlikeplace.leads" 547 297)::
 (nat_lit 299,oT #[])::
 (nat_lit 302,oC "squares_with" 609 610 611 192 3 299 181 300 .none .none 301 612 613)::
 (nat_lit 303,oF "squares_with" 53 "unlikeplace.squares" 607 302)::
 (nat_lit 304,oT #[])::
 (nat_lit 307,oC "case_grows" 615 616 617 194 1 304 181 305 .none .none 306 618 619)::
 (nat_lit 308,oF "case_grows" 54 "unlikeplace.squares" 607 307)::
 (nat_lit 309,oT #[])::
 (nat_lit 311,oT #[.str "_law_script" 626])::
 (nat_lit 312,oT #[])::
 (nat_lit 314,oC "_law_spring" 623 624 625 197 1 309 181 310 (.ref 311) (.ref 312) 313 627 628)::
 (nat_lit 315,oF "_law_spring" 56 "law_unlikeplace_k50_whole_carried_along" 621 314)::
 (nat_lit 316,oT #[])::
 (nat_lit 318,oT #[.str "_law_spring_here" 633,.str "_law_many" 634,.str "_law_flown" 635,.str "_law_used" 636,.str "_law_cell" 637,.str "_law_ground" 638,.str "_law_k" 639])::
 (nat_lit 319,oT #[])::
 (nat_lit 321,oC "_law_flow" 630 631 632 199 2 316 181 317 (.ref 318) (.ref 319) 320 640 641)::
 (nat_lit 322,oF "_law_flow" 57 "law_unlikeplace_k50_whole_carried_along" 621 321)::
 (nat_lit 323,oT #[])::
 (nat_lit 326,oC "_law_list_of" 643 644 645 216 1 323 181 324 .none .none 325 646 647)::
 (nat_lit 327,oF "_law_list_of" 58 "law_unlikeplace_k50_whole_carried_along" 621 326)::
 (nat_lit 328,oT #[])::
 (nat_lit 330,oT #[.str "_law_spring_here" 652,.str "_law_places" 653,.str "_law_many" 654,.str "_law_kinds" 655,.str "_law_left" 656,.str "_law_one_here" 657])::
 (nat_lit 331,oT #[])::
 (nat_lit 333,oC "_law_any" 649 650 651 218 4 328 181 329 (.ref 330) (.ref 331) 332 658 659)::
 (nat_lit 334,oF "_law_any" 59 "law_unlikeplace_k50_whole_carried_along" 621 333)::
 (nat_lit 335,oT #[])::
 (nat_lit 337,oT #[.str "_law_saying" 664,.str "_law_word" 665])::
 (nat_lit 338,oT #[])::
 (nat_lit 340,oC "_law_one" 661 662 663 224 2 335 181 336 (.ref 337) (.ref 338) 339 666 667)::
 (nat_lit 341,oF "_law_one" 60 "law_unlikeplace_k50_whole_carried_along" 621 340)::
 (nat_lit 342,oT #[])::
 (nat_lit 345,oC "_law_kept" 669 670 671 230 2 342 181 343 .none .none 344 672 673)::
 (nat_lit 346,oF "_law_kept" 61 "law_unlikeplace_k50_whole_carried_along" 621 345)::
 (nat_lit 347,oT #[])::
 (nat_lit 349,oT #[.str "_law_case" 678,.str "_law_talk" 679,.str "_law_yes" 680,.str "_law_no" 681,.str "_law_node" 682,.str "_law_word" 683])::
 (nat_lit 350,oT #[])::
 (nat_lit 352,oC "_law_walked" 675 676 677 236 2 347 181 348 (.ref 349) (.ref 350) 351 684 685)::
 (nat_lit 353,oF "_law_walked" 62 "law_unlikeplace_k50_whole_carried_along" 621 352)::
 (nat_lit 354,oT #[])::
 (nat_lit 356,oT #[.str "_law_one_here" 690,.str "_law_other" 691,.str "_law_case" 692,.str "_law_saying" 693,.str "_law_talk" 694,.str "_law_new_case" 695,.str "_law_new_saying" 696,.str "_law_new_talk" 697])::
 (nat_lit 357,oT #[])::
 (nat_lit 359,oC "_law_carried_right" 687 688 689 248 2 354 181 355 (.ref 356) (.ref 357) 358 698 699)::
 (nat_lit 360,oF "_law_carried_right" 63 "law_unlikeplace_k50_whole_carried_along" 621 359)::
 (nat_lit 361,oT #[])::
 (nat_lit 363,oT #[.str "_law_things" 704,.str "_law_some" 705,.str "_law_case" 706,.str "_law_saying" 707,.str "_law_talk" 708])::
 (nat_lit 364,oT #[])::
 (nat_lit 366,oC "_law_flipped" 701 702 703 256 2 361 181 362 (.ref 363) (.ref 364) 365 709 710)::
 (nat_lit 367,oF "_law_flipped" 64 "law_unlikeplace_k50_whole_carried_along" 621 366)::
 (nat_lit 368,oT #[])::
 (nat_lit 370,oT #[.str "_law_things" 715,.str "_law_order" 716,.str "_law_case" 717,.str "_law_saying" 718,.str "_law_talk" 719])::
 (nat_lit 371,oT #[])::
 (nat_lit 373,oC "_law_exchanged" 712 713 714 259 2 368 181 369 (.ref 370) (.ref 371) 372 720 721)::
 (nat_lit 374,oF "_law_exchanged" 65 "law_unlikeplace_k50_whole_carried_along" 621 373)::
 (nat_lit 375,oT #[])::
 (nat_lit 377,oT #[.str "_law_things" 726])::
 (nat_lit 378,oT #[])::
 (nat_lit 380,oC "_law_swapped" 723 724 725 262 1 375 181 376 (.ref 377) (.ref 378) 379 727 728)::
 (nat_lit 381,oF "_law_swapped" 66 "law_unlikeplace_k50_whole_carried_along" 621 380)::
 (nat_lit 382,oT #[])::
 (nat_lit 384,oT #[.str "_law_things" 733,.str "_law_some" 734,.str "_law_order" 735,.str "_law_case" 736,.str "_law_saying" 737,.str "_law_talk" 738,.str "_law_told" 739])::
 (nat_lit 385,oT #[])::
 (nat_lit 387,oC "_law_back_carried" 730 731 732 264 3 382 181 383 (.ref 384) (.ref 385) 386 740 741)::
 (nat_lit 388,oF "_law_back_carried" 67 "law_unlikeplace_k50_whole_carried_along" 621 387)::
 (nat_lit 389,oT #[])::
 (nat_lit 391,oT #[.str "_law_things" 746,.str "_law_order" 747,.str "_law_every" 748,.str "_law_case" 749,.str "_law_saying" 750,.str "_law_talk" 751,.str "_law_moved" 752,.str "_law_about" 753])::
 (nat_lit 392,oT #[])::
 (nat_lit 394,oC "_law_rising_right" 743 744 745 272 3 389 181 390 (.ref 391) (.ref 392) 393 754 755)::
 (nat_lit 395,oF "_law_rising_right" 68 "law_unlikeplace_k50_whole_carried_along" 621 394)::
 (nat_lit 396,oT #[])::
 (nat_lit 399,oC "law" 757 758 759 283 1 396 181 397 .none .none 398 760 761)::
 (nat_lit 400,oF "law" 69 "law_unlikeplace_k50_whole_carried_along" 621 399)::[]
end My
noncomputable def PySem.W.Fast.tw6894247980046229166:PySem.Params->PySem.W.Frag:=My.KK
theorem PySem.W.Fast.te6894247980046229166:My.KK=PySem.W.Fast.tw6894247980046229166:=rfl
noncomputable def PySem.W.Fast.tw715126039506824177:PySem.Program:=PySem.Challenge.pw_unlikeplace_k50_whole_carried_along
theorem PySem.W.Fast.te715126039506824177:PySem.Challenge.pw_unlikeplace_k50_whole_carried_along=PySem.W.Fast.tw715126039506824177:=rfl
namespace PySem.W.Fast
theorem te7977099965554140224:True:=⟨⟩
theorem te3297057181746080000:True:=⟨⟩
theorem te9073704099282254080:True:=⟨⟩
theorem te374892257822171520:True:=⟨⟩
theorem te14238904285065267616:True:=⟨⟩
theorem te15061463027574908416:True:=⟨⟩
theorem te11014813770284512800:True:=⟨⟩
theorem te16601436694868781632:True:=⟨⟩
theorem te12643128146478289504:True:=⟨⟩
theorem te10637390281271418464:True:=⟨⟩
theorem te4835828297132994496:True:=⟨⟩
theorem te11969445258436025409:True:=⟨⟩
theorem te17347871955672373377:True:=⟨⟩
theorem te16199283934383895777:True:=⟨⟩
theorem te7330153209260415297:True:=⟨⟩
theorem te7833977716464801121:True:=⟨⟩
theorem te11900170383722636641:True:=⟨⟩
theorem te14325357515649424897:True:=⟨⟩
theorem te8684174056498545185:True:=⟨⟩
theorem te17806742377604839169:True:=⟨⟩
theorem te13026262816037532513:True:=⟨⟩
theorem te10444813906716322753:True:=⟨⟩
theorem te5474799016232535106:True:=⟨⟩
theorem te9528581401593515074:True:=⟨⟩
theorem te1991799942501149794:True:=⟨⟩
theorem te6184390601539791138:True:=⟨⟩
theorem te2781776216254842210:True:=⟨⟩
theorem te17534141133245723010:True:=⟨⟩
theorem te607191904117138914:True:=⟨⟩
theorem te11406659553152192034:True:=⟨⟩
theorem te8481178512873335490:True:=⟨⟩
theorem te7718660620605705954:True:=⟨⟩
theorem te16759521258751072994:True:=⟨⟩
theorem te17378984473597573890:True:=⟨⟩
theorem te1506038107061958530:True:=⟨⟩
theorem te16453297883481651106:True:=⟨⟩
theorem te9804685096753769442:True:=⟨⟩
theorem te15112129616128788483:True:=⟨⟩
theorem te3331451091475859491:True:=⟨⟩
theorem te14562216213584107587:True:=⟨⟩
theorem te880704472832243843:True:=⟨⟩
theorem te5991436365776871587:True:=⟨⟩
theorem te1249252096453945507:True:=⟨⟩
theorem te12955182278289498531:True:=⟨⟩
theorem te9719929270359450051:True:=⟨⟩
theorem te8354525353623250499:True:=⟨⟩
theorem te7418863359543362147:True:=⟨⟩
theorem te17202447257038166627:True:=⟨⟩
theorem te1725076482821860995:True:=⟨⟩
theorem te11004453054977633923:True:=⟨⟩
theorem te12183431058942532323:True:=⟨⟩
theorem te4904769728728596259:True:=⟨⟩
theorem te15789320870322818979:True:=⟨⟩
theorem te13355409093100798084:True:=⟨⟩
theorem te12478132996277026980:True:=⟨⟩
theorem te6185137353751744708:True:=⟨⟩
theorem te16100522162808788228:True:=⟨⟩
theorem te18120262105355923844:True:=⟨⟩
theorem te635207169387291044:True:=⟨⟩
theorem te279575237061300836:True:=⟨⟩
theorem te2503136504175922820:True:=⟨⟩
theorem te8931556222072482436:True:=⟨⟩
theorem te10554924501492491972:True:=⟨⟩
theorem te6521404887773620932:True:=⟨⟩
theorem te3204800158716397316:True:=⟨⟩
theorem te17807360831375969060:True:=⟨⟩
theorem te17869400890765539365:True:=⟨⟩
theorem te16813496140296538149:True:=⟨⟩
theorem te17937692089044443301:True:=⟨⟩
theorem te10269642635484719333:True:=⟨⟩
theorem te9936301021150256453:True:=⟨⟩
theorem te16303184943518354981:True:=⟨⟩
theorem te6208331203118179909:True:=⟨⟩
theorem te16511088227542437541:True:=⟨⟩
theorem te14966014718448105189:True:=⟨⟩
theorem te4559433072438360805:True:=⟨⟩
theorem te13569877776675962693:True:=⟨⟩
theorem te6758164471573585797:True:=⟨⟩
theorem te12792089172939226053:True:=⟨⟩
theorem te7566701957312359462:True:=⟨⟩
theorem te6655953566035815558:True:=⟨⟩
theorem te4914385206303333542:True:=⟨⟩
theorem te9916658032558088390:True:=⟨⟩
theorem te17719143555353402566:True:=⟨⟩
theorem te12034444034371588326:True:=⟨⟩
theorem te9272510623827558662:True:=⟨⟩
theorem te10502328616810424614:True:=⟨⟩
theorem te9887592134053889382:True:=⟨⟩
theorem te2171824029640543654:True:=⟨⟩
theorem te14987463656037608934:True:=⟨⟩
theorem te9330535997905602054:True:=⟨⟩
theorem te2614819740650150470:True:=⟨⟩
theorem te15157159894943519462:True:=⟨⟩
theorem te11354687917226066758:True:=⟨⟩
theorem te8190199738142809062:True:=⟨⟩
theorem te6997628823597532167:True:=⟨⟩
theorem te7959277270020734023:True:=⟨⟩
theorem te16440741280362209351:True:=⟨⟩
theorem te17003387085328855143:True:=⟨⟩
theorem te13831194501591231591:True:=⟨⟩
theorem te1689402947129079911:True:=⟨⟩
theorem te12644054986790221959:True:=⟨⟩
theorem te12017012543219545447:True:=⟨⟩
theorem te6715688943866146183:True:=⟨⟩
theorem te12166763940077917767:True:=⟨⟩
theorem te11707691302843464295:True:=⟨⟩
theorem te2927746304182313703:True:=⟨⟩
theorem te1666816619766918887:True:=⟨⟩
theorem te11602868101435580135:True:=⟨⟩
theorem te4613769691798157095:True:=⟨⟩
theorem te14962324253466906503:True:=⟨⟩
noncomputable def My.sts_49:List PySem.Stmt:=[My.top 0,My.top 1,My.top 2,My.top 3,My.top 4,My.top 5,My.top 6,My.top 7,My.top 8,My.top 9,My.top 10,My.top 11,My.top 12,My.top 13]
noncomputable def tw7194727303043535783:List PySem.Stmt:=My.sts_49
theorem te7194727303043535783:My.sts_49=tw7194727303043535783:=rfl
theorem te14402948937527270311:True:=⟨⟩
theorem te8097978136755212296:True:=⟨⟩
theorem te14670202291204964424:True:=⟨⟩
theorem te15470335931984096360:True:=⟨⟩
theorem te2231793081321843880:True:=⟨⟩
theorem te11822854108795204808:True:=⟨⟩
theorem te642063496236993800:True:=⟨⟩
theorem te1207274004659964200:True:=⟨⟩
theorem te10914151381523841320:True:=⟨⟩
theorem te10001696620299404648:True:=⟨⟩
theorem te13699394250600579432:True:=⟨⟩
theorem te12338074923655791016:True:=⟨⟩
theorem te10800115874618229192:True:=⟨⟩
theorem te6187153039916804584:True:=⟨⟩
theorem te9907499404988827208:True:=⟨⟩
theorem te9141815892208734888:True:=⟨⟩
theorem te961874826573570760:True:=⟨⟩
theorem te4438794515986311976:True:=⟨⟩
theorem te2060649117245865864:True:=⟨⟩
theorem te1993174429668745192:True:=⟨⟩
theorem te8660588698825261225:True:=⟨⟩
theorem te4475074563297339689:True:=⟨⟩
theorem te11498714936182257033:True:=⟨⟩
theorem te17101070112623181289:True:=⟨⟩
theorem te16388590372145064489:True:=⟨⟩
theorem te1874715499612614185:True:=⟨⟩
theorem te3057493801134946857:True:=⟨⟩
theorem te6821521803512161993:True:=⟨⟩
theorem te2113422310846578441:True:=⟨⟩
theorem te2626018170874293001:True:=⟨⟩
theorem te14378445116832927625:True:=⟨⟩
theorem te12354987063588440106:True:=⟨⟩
theorem te18043408473720765514:True:=⟨⟩
theorem te8978860070896109706:True:=⟨⟩
theorem te4771177763865405610:True:=⟨⟩
noncomputable def My.sts_307:List PySem.Stmt:=[My.top 44,My.top 45,My.top 46,My.top 47,My.top 48,My.top 49,My.top 50,My.top 51,My.top 52,My.top 53,My.top 54,My.top 55,My.top 56,My.top 57,My.top 58]
noncomputable def tw17752601343994395850:List PySem.Stmt:=My.sts_307
theorem te17752601343994395850:My.sts_307=tw17752601343994395850:=rfl
theorem te2282303169828848874:True:=⟨⟩
theorem te18125441138875729162:True:=⟨⟩
theorem te14200185134025844042:True:=⟨⟩
theorem te2937067910783173002:True:=⟨⟩
theorem te5190812516137006506:True:=⟨⟩
theorem te6667576671042402794:True:=⟨⟩
theorem te11314594045433020010:True:=⟨⟩
theorem te5651566526585999978:True:=⟨⟩
theorem te8177967626783122058:True:=⟨⟩
theorem te12301440308980032170:True:=⟨⟩
theorem te657677098912506730:True:=⟨⟩
theorem te3790808796838603690:True:=⟨⟩
theorem te15658751228894700747:True:=⟨⟩
theorem te4098285448697615691:True:=⟨⟩
theorem te11472842511246883211:True:=⟨⟩
theorem te5718810174903809515:True:=⟨⟩
theorem te8875505097692281387:True:=⟨⟩
theorem te9216602687372978763:True:=⟨⟩
theorem te15089248849750425227:True:=⟨⟩
theorem te11303635432746576619:True:=⟨⟩
theorem te10800796362190175019:True:=⟨⟩
theorem te1961239392419781515:True:=⟨⟩
noncomputable def My.view_39:PySem.Program:={ PySem.Challenge.pw_unlikeplace_k50_whole_carried_along with main:={ PySem.Challenge.pw_unlikeplace_k50_whole_carried_along.main with body:=[My.top 1,My.top 2,My.top 4,My.top 5,My.top 6,My.top 7,My.top 8,My.top 9,My.top 10,My.top 12,My.top 13,My.top 14,My.top 15,My.top 16,My.top 17,My.top 18,My.top 19,My.top 20,My.top 21,My.top 22,My.top 23,My.top 24,My.top 25,My.top 27,My.top 28,My.top 29,My.top 30,My.top 31,My.top 33,My.top 34,My.top 35,My.top 37,My.top 39,My.top 40,My.top 41,My.top 42,My.top 44,My.top 45,My.top 46,My.top 47,My.top 48,My.top 49,My.top 50,My.top 51,My.top 53,My.top 54,My.top 56,My.top 57,My.top 58,My.top 59,My.top 60,My.top 61,My.top 62,My.top 63,My.top 64,My.top 65,My.top 66,My.top 67,My.top 68,My.top 69] } }
noncomputable def tw5691958551631853547:PySem.Program:=My.view_39
theorem te5691958551631853547:My.view_39=tw5691958551631853547:=rfl
theorem te12136755446484073451:True:=⟨⟩
theorem te11610724790612454572:True:=⟨⟩
theorem te11398046031682414796:True:=⟨⟩
theorem te15887881255713534220:True:=⟨⟩
theorem te15634125964580554092:True:=⟨⟩
theorem te13882840705676500332:True:=⟨⟩
theorem te18299676499239383436:True:=⟨⟩
theorem te11724094914580473260:True:=⟨⟩
theorem te14672378859461538316:True:=⟨⟩
theorem te16021210659067907628:True:=⟨⟩
theorem te11025567085802196556:True:=⟨⟩
theorem te8757256327396054636:True:=⟨⟩
theorem te3055316555858338700:True:=⟨⟩
theorem te13150823175178378253:True:=⟨⟩
theorem te12922992089226635309:True:=⟨⟩
theorem te1096796764986526861:True:=⟨⟩
noncomputable def My.sts_114:List PySem.Stmt:=[My.top 14,My.top 15,My.top 16,My.top 17,My.top 18,My.top 19,My.top 20,My.top 21,My.top 22,My.top 23,My.top 24,My.top 25,My.top 26,My.top 27]
noncomputable def tw7956081280800046253:List PySem.Stmt:=My.sts_114
theorem te7956081280800046253:My.sts_114=tw7956081280800046253:=rfl
theorem te9752286142156615885:True:=⟨⟩
theorem te17647006938975767757:True:=⟨⟩
theorem te17005367938640089357:True:=⟨⟩
theorem te5844488237936726317:True:=⟨⟩
theorem te12784109457797649741:True:=⟨⟩
theorem te6064574142454668685:True:=⟨⟩
theorem te614815008682159501:True:=⟨⟩
theorem te18349558409335631309:True:=⟨⟩
theorem te17854834034106038733:True:=⟨⟩
theorem te16054119281091359245:True:=⟨⟩
theorem te1893126471266582093:True:=⟨⟩
theorem te1357785341917398701:True:=⟨⟩
theorem te9244546522840630029:True:=⟨⟩
theorem te7523524311840843597:True:=⟨⟩
theorem te1823000534625537933:True:=⟨⟩
theorem te4852370623359176621:True:=⟨⟩
theorem te9542412524185489357:True:=⟨⟩
theorem te15328502666802107470:True:=⟨⟩
theorem te587705277107557710:True:=⟨⟩
theorem te8580702336133965166:True:=⟨⟩
theorem te6442737593697867310:True:=⟨⟩
theorem te11313961705210220078:True:=⟨⟩
theorem te15902765941870390862:True:=⟨⟩
theorem te9317708963565067918:True:=⟨⟩
theorem te10563633944643025710:True:=⟨⟩
theorem te10843134833777324942:True:=⟨⟩
theorem te8336492726366658703:True:=⟨⟩
theorem te17343269813700954255:True:=⟨⟩
theorem te12710022740297343247:True:=⟨⟩
theorem te16486938088007473519:True:=⟨⟩
theorem te13121408754386408911:True:=⟨⟩
theorem te5455467988316700399:True:=⟨⟩
theorem te693928324643838799:True:=⟨⟩
theorem te16533311241984715599:True:=⟨⟩
theorem te10661931538489561967:True:=⟨⟩
theorem te4544518395483804752:True:=⟨⟩
theorem te14589454513256522864:True:=⟨⟩
theorem te6663545859717191856:True:=⟨⟩
theorem te5286233131032350064:True:=⟨⟩
theorem te1553367061192663568:True:=⟨⟩
theorem te8711171222292711984:True:=⟨⟩
theorem te2545283518453069392:True:=⟨⟩
theorem te620043097210237584:True:=⟨⟩
theorem te14231212276309822192:True:=⟨⟩
theorem te13270998323112971056:True:=⟨⟩
noncomputable def My.sts_201:List PySem.Stmt:=[My.top 28,My.top 29,My.top 30,My.top 31,My.top 32,My.top 33]
noncomputable def tw4982091464736237617:List PySem.Stmt:=My.sts_201
theorem te4982091464736237617:My.sts_201=tw4982091464736237617:=rfl
theorem te9503288091150033969:True:=⟨⟩
theorem te9700512797879455793:True:=⟨⟩
theorem te6763256173383167121:True:=⟨⟩
theorem te5864066985686439249:True:=⟨⟩
theorem te9641828350153356753:True:=⟨⟩
theorem te9136674409355750897:True:=⟨⟩
theorem te10005503658141986866:True:=⟨⟩
theorem te3532510084837696594:True:=⟨⟩
theorem te6283548587585839218:True:=⟨⟩
theorem te5893831472956434674:True:=⟨⟩
theorem te1580653932246314258:True:=⟨⟩
theorem te13285082054371186994:True:=⟨⟩
theorem te14480144407506762098:True:=⟨⟩
theorem te9897752444117241330:True:=⟨⟩
theorem te12617963256788073970:True:=⟨⟩
theorem te1508191787908957746:True:=⟨⟩
noncomputable def My.sts_259:List PySem.Stmt:=[My.top 35,My.top 36,My.top 37,My.top 38,My.top 39,My.top 40,My.top 41,My.top 42,My.top 43]
noncomputable def tw16655229075114382962:List PySem.Stmt:=My.sts_259
theorem te16655229075114382962:My.sts_259=tw16655229075114382962:=rfl
theorem te6450281407990247058:True:=⟨⟩
theorem te1231581574590110450:True:=⟨⟩
theorem te17929096996893628306:True:=⟨⟩
theorem te2648451376599442322:True:=⟨⟩
theorem te804773952678433778:True:=⟨⟩
theorem te15282582877451900947:True:=⟨⟩
theorem te5994882333287881875:True:=⟨⟩
theorem te5226073672062495891:True:=⟨⟩
theorem te11717817017553854803:True:=⟨⟩
theorem te4266755246421312947:True:=⟨⟩
theorem te14331017186313606675:True:=⟨⟩
theorem te3179932032972418611:True:=⟨⟩
theorem te10119800573985634995:True:=⟨⟩
theorem te3446316505870285555:True:=⟨⟩
theorem te597737312789310259:True:=⟨⟩
theorem te1144081132837741523:True:=⟨⟩
theorem te16006881889098610643:True:=⟨⟩
theorem te15664738808968200179:True:=⟨⟩
theorem te4834036824264899668:True:=⟨⟩
theorem te3369402919925465204:True:=⟨⟩
theorem te1824996950187684980:True:=⟨⟩
theorem te14270120434778580212:True:=⟨⟩
theorem te1933965415627810036:True:=⟨⟩
theorem te6526120766011480308:True:=⟨⟩
theorem te1068377496075873620:True:=⟨⟩
theorem te13865345686414689780:True:=⟨⟩
theorem te13957261748386204148:True:=⟨⟩
theorem te3916125764334598836:True:=⟨⟩
theorem te2065403972780215028:True:=⟨⟩
theorem te13514263451490123604:True:=⟨⟩
theorem te14502950924942205780:True:=⟨⟩
theorem te18149927124185511061:True:=⟨⟩
theorem te17233693847485328597:True:=⟨⟩
theorem te976917503275393333:True:=⟨⟩
theorem te12418260627444560309:True:=⟨⟩
theorem te11419539668215981813:True:=⟨⟩
theorem te3268658145695886229:True:=⟨⟩
theorem te5958176218632879158:True:=⟨⟩
theorem te9126260983236716630:True:=⟨⟩
theorem te2960485546911260790:True:=⟨⟩
theorem te2256949487715973494:True:=⟨⟩
theorem te17358182088915294614:True:=⟨⟩
theorem te1780377382033623510:True:=⟨⟩
theorem te2482319614264554966:True:=⟨⟩
theorem te13236366972862028246:True:=⟨⟩
theorem te2834239686407252758:True:=⟨⟩
theorem te9872450794023380790:True:=⟨⟩
theorem te1415258724607104950:True:=⟨⟩
theorem te17820863412375244758:True:=⟨⟩
theorem te12604705649470133399:True:=⟨⟩
theorem te9727396745740592567:True:=⟨⟩
theorem te801730166723951095:True:=⟨⟩
theorem te9241019024756785655:True:=⟨⟩
theorem te8767233467831808631:True:=⟨⟩
theorem te2687492686846643959:True:=⟨⟩
theorem te16455273390390396887:True:=⟨⟩
theorem te2082921873050551287:True:=⟨⟩
theorem te2712852952858796216:True:=⟨⟩
theorem te17756768108413946104:True:=⟨⟩
theorem te1907430585152227608:True:=⟨⟩
theorem te17337918246967306616:True:=⟨⟩
theorem te15461514175159967256:True:=⟨⟩
theorem te12393218474634523160:True:=⟨⟩
theorem te11798710471270054520:True:=⟨⟩
noncomputable def My.sts_380:List PySem.Stmt:=[My.top 59,My.top 60,My.top 61,My.top 62,My.top 63,My.top 64,My.top 65,My.top 66,My.top 67,My.top 68,My.top 69]
noncomputable def tw6262400585044214520:List PySem.Stmt:=My.sts_380
theorem te6262400585044214520:My.sts_380=tw6262400585044214520:=rfl
theorem te9842065071221536600:True:=⟨⟩
theorem te1966619071420388216:True:=⟨⟩
theorem te10893236101719627801:True:=⟨⟩
theorem te5498491273185304857:True:=⟨⟩
theorem te10153991953836152153:True:=⟨⟩
theorem te10357393378015962489:True:=⟨⟩
theorem te7329354375038212569:True:=⟨⟩
theorem te6186814697999234617:True:=⟨⟩
theorem te5951491442331338297:True:=⟨⟩
theorem te6757781418756264633:True:=⟨⟩
theorem te16961801575506778873:True:=⟨⟩
theorem te1682706298187093817:True:=⟨⟩
theorem te5656676527367566169:True:=⟨⟩
theorem te3556164628303073113:True:=⟨⟩
theorem te11756357981839874969:True:=⟨⟩
theorem te14211816215296366489:True:=⟨⟩
theorem te16319845648748501945:True:=⟨⟩
theorem te11833213946033391577:True:=⟨⟩
theorem te16352776104360713370:True:=⟨⟩
theorem te10979604365273986266:True:=⟨⟩
theorem te4461334278622850266:True:=⟨⟩
theorem te704222537004850490:True:=⟨⟩
theorem te847804589556472154:True:=⟨⟩
theorem te17313008628214238682:True:=⟨⟩
theorem te10422019453384487514:True:=⟨⟩
theorem te418715153761784538:True:=⟨⟩
theorem te600271048945503962:True:=⟨⟩
theorem te5965272440191204186:True:=⟨⟩
theorem te16308165977746109306:True:=⟨⟩
theorem te8003801551055683450:True:=⟨⟩
theorem te13914879398638512058:True:=⟨⟩
theorem te14722840025773201402:True:=⟨⟩
theorem te15609329715593816091:True:=⟨⟩
theorem te725614843540208667:True:=⟨⟩
theorem te3803207906577880155:True:=⟨⟩
theorem te17146602359796653147:True:=⟨⟩
theorem te18444441709162491995:True:=⟨⟩
theorem te8864335619733298395:True:=⟨⟩
theorem te9433428527941662043:True:=⟨⟩
theorem te715375299353910651:True:=⟨⟩
theorem te407603937574763931:True:=⟨⟩
theorem te16391053525133761947:True:=⟨⟩
theorem te11410688045683581435:True:=⟨⟩
theorem te10682258152885783035:True:=⟨⟩
theorem te1771662875931399707:True:=⟨⟩
theorem te6144885115070600795:True:=⟨⟩
theorem te13602303585926113947:True:=⟨⟩
theorem te11173516806197996219:True:=⟨⟩
theorem te10763130059578554107:True:=⟨⟩
theorem te9090334888819090171:True:=⟨⟩
theorem te14368612587294224123:True:=⟨⟩
theorem te4292938948901263163:True:=⟨⟩
theorem te1610210411174644539:True:=⟨⟩
theorem te8765229919408188219:True:=⟨⟩
theorem te4395385755785641851:True:=⟨⟩
theorem te4791480406879130491:True:=⟨⟩
theorem te12332672805597401979:True:=⟨⟩
theorem te7060911077354884091:True:=⟨⟩
theorem te18377963331390717180:True:=⟨⟩
theorem te14423906559265760604:True:=⟨⟩
theorem te4857867868337688156:True:=⟨⟩
theorem te3202325309292150396:True:=⟨⟩
theorem te16359540326523254652:True:=⟨⟩
noncomputable def My.sts_244:List PySem.Stmt:=[My.top 34]
noncomputable def tw7151767058308501436:List PySem.Stmt:=My.sts_244
theorem te7151767058308501436:My.sts_244=tw7151767058308501436:=rfl
theorem te13168095348486913020:True:=⟨⟩
theorem te7057665954367674397:True:=⟨⟩
theorem te11156337836821103741:True:=⟨⟩
theorem te16669963946740037789:True:=⟨⟩
theorem te777279059033647357:True:=⟨⟩
theorem te12430534538830643485:True:=⟨⟩
theorem te13748039699408887069:True:=⟨⟩
theorem te17790039238687731005:True:=⟨⟩
theorem te4422465392293983741:True:=⟨⟩
theorem te15110266420506380989:True:=⟨⟩
theorem te4331148690287459037:True:=⟨⟩
theorem te6836040879027448637:True:=⟨⟩
theorem te17939809369604162429:True:=⟨⟩
theorem te1712981543482615773:True:=⟨⟩
theorem te16381912241478407294:True:=⟨⟩
theorem te13490256691277339902:True:=⟨⟩
theorem te14485916180003746046:True:=⟨⟩
theorem te18256111668415086942:True:=⟨⟩
theorem te3883556649851333054:True:=⟨⟩
theorem te17428210854889958878:True:=⟨⟩
theorem te15323752821891062270:True:=⟨⟩
theorem te8334070532186116734:True:=⟨⟩
theorem te4243911351464790750:True:=⟨⟩
theorem te5763844341897452318:True:=⟨⟩
theorem te12593480833563555678:True:=⟨⟩
theorem te8530956392482232158:True:=⟨⟩
theorem te17754305713617940382:True:=⟨⟩
theorem te4592644951472299135:True:=⟨⟩
theorem te13507244830686254335:True:=⟨⟩
theorem te16598442778414971167:True:=⟨⟩
theorem te6340856735115927871:True:=⟨⟩
theorem te16865055306045175391:True:=⟨⟩
theorem te11429867999144643327:True:=⟨⟩
theorem te3433499438797359039:True:=⟨⟩
end PySem.W.Fast
open PySem PySem.W PyProof.Rows
local macro_rules | `(tactic| walk_at "q")=>`(tactic| (refine' L2.L1 ?d1 ?d2 ?d3 ?d4;(case d1=>k_is);(case d2=>k_is);(case d3=>k_is);(case d4=>k_is)))
set_option maxRecDepth 100000 in
set_option maxHeartbeats 0 in
theorem PySem.Challenge.cw_unlikeplace_k50_whole_carried_along_holds : PySem.Challenge.rw_unlikeplace_k50_whole_carried_along.Holds := by
 w_on;o_law
 o_head (PySem.W.kmHook My.KK [nat_lit 2,nat_lit 3,nat_lit 15,nat_lit 17,nat_lit 18,nat_lit 20,nat_lit 21,nat_lit 22,nat_lit 24,nat_lit 25,nat_lit 27,nat_lit 28,nat_lit 29,nat_lit 30,nat_lit 32,nat_lit 33,nat_lit 35,nat_lit 36,nat_lit 37,nat_lit 39,nat_lit 40,nat_lit 42,nat_lit 43,nat_lit 44,nat_lit 46,nat_lit 47,nat_lit 49,nat_lit 50,nat_lit 51,nat_lit 54,nat_lit 55,nat_lit 56,nat_lit 58,nat_lit 59,nat_lit 61,nat_lit 62,nat_lit 63,nat_lit 65,nat_lit 66,nat_lit 68,nat_lit 69,nat_lit 70,nat_lit 71,nat_lit 74,nat_lit 75,nat_lit 76,nat_lit 79,nat_lit 80,nat_lit 81,nat_lit 83,nat_lit 84,nat_lit 86,nat_lit 87,nat_lit 88,nat_lit 90,nat_lit 91,nat_lit 93,nat_lit 94,nat_lit 95,nat_lit 97,nat_lit 98,nat_lit 100,nat_lit 101,nat_lit 102,nat_lit 104,nat_lit 105,nat_lit 107,nat_lit 108,nat_lit 109,nat_lit 112,nat_lit 113,nat_lit 114,nat_lit 116,nat_lit 117,nat_lit 119,nat_lit 120,nat_lit 121,nat_lit 123,nat_lit 124,nat_lit 126,nat_lit 127,nat_lit 128,nat_lit 130,nat_lit 131,nat_lit 133,nat_lit 134,nat_lit 135,nat_lit 137,nat_lit 138,nat_lit 140,nat_lit 141,nat_lit 142,nat_lit 144,nat_lit 145,nat_lit 147,nat_lit 148,nat_lit 149,nat_lit 151,nat_lit 152,nat_lit 154,nat_lit 155,nat_lit 156,nat_lit 159,nat_lit 160,nat_lit 161,nat_lit 163,nat_lit 164,nat_lit 166,nat_lit 167,nat_lit 168,nat_lit 170,nat_lit 171,nat_lit 173,nat_lit 174,nat_lit 175,nat_lit 177,nat_lit 178,nat_lit 180,nat_lit 181,nat_lit 182,nat_lit 184,nat_lit 185,nat_lit 187,nat_lit 188,nat_lit 189,nat_lit 196,nat_lit 197,nat_lit 198,nat_lit 199,nat_lit 202,nat_lit 209,nat_lit 210,nat_lit 211,nat_lit 214,nat_lit 221,nat_lit 222,nat_lit 223,nat_lit 226,nat_lit 229,nat_lit 230,nat_lit 231,nat_lit 233,nat_lit 234,nat_lit 236,nat_lit 237,nat_lit 238,nat_lit 240,nat_lit 241,nat_lit 243,nat_lit 244,nat_lit 245,nat_lit 247,nat_lit 248,nat_lit 250,nat_lit 251,nat_lit 252,nat_lit 254,nat_lit 255,nat_lit 257,nat_lit 258,nat_lit 259,nat_lit 260,nat_lit 262,nat_lit 263,nat_lit 265,nat_lit 266,nat_lit 267,nat_lit 270,nat_lit 271,nat_lit 272,nat_lit 274,nat_lit 275,nat_lit 277,nat_lit 278,nat_lit 279,nat_lit 282,nat_lit 283,nat_lit 284,nat_lit 287,nat_lit 288,nat_lit 289,nat_lit 292,nat_lit 293,nat_lit 294,nat_lit 297,nat_lit 298,nat_lit 299,nat_lit 302,nat_lit 303,nat_lit 304,nat_lit 307,nat_lit 308,nat_lit 309,nat_lit 311,nat_lit 312,nat_lit 314,nat_lit 315,nat_lit 316,nat_lit 318,nat_lit 319,nat_lit 321,nat_lit 322,nat_lit 323,nat_lit 326,nat_lit 327,nat_lit 328,nat_lit 330,nat_lit 331,nat_lit 333,nat_lit 334,nat_lit 335,nat_lit 337,nat_lit 338,nat_lit 340,nat_lit 341,nat_lit 342,nat_lit 345,nat_lit 346,nat_lit 347,nat_lit 349,nat_lit 350,nat_lit 352,nat_lit 353,nat_lit 354,nat_lit 356,nat_lit 357,nat_lit 359,nat_lit 360,nat_lit 361,nat_lit 363,nat_lit 364,nat_lit 366,nat_lit 367,nat_lit 368,nat_lit 370,nat_lit 371,nat_lit 373,nat_lit 374,nat_lit 375,nat_lit 377,nat_lit 378,nat_lit 380,nat_lit 381,nat_lit 382,nat_lit 384,nat_lit 385,nat_lit 387,nat_lit 388,nat_lit 389,nat_lit 391,nat_lit 392,nat_lit 394,nat_lit 395,nat_lit 396,nat_lit 399,nat_lit 400] (fun _=>by kernel_rfl) [150,38,136,129,103,89,31,261])
 (case hw=>w_witness2)
 k_fill
 refine L2.GR (l:=PySem.Challenge.rw_unlikeplace_k50_whole_carried_along) (n:=63) (k:=40) (x:="_law_script") (CX:=L2.CX0) (sp:=My.xb) rfl (by decide) rfl ⟨rfl,by decide,by decide,rfl⟩ (fun w h Y=>by first | exact PySem.W.kIn_of Y | exact PySem.W.km_in_of Y) (fun w=>by kernel_rfl) ?F ?S ?C
 case F =>
  intro w mg fa h KX G hmg
  have T : ∃ t,t.wo = w/\My.Txt (L2.KOf KX) mg t:=by
   dsimp only [L2.KOf]
   refine' My.KW w KX G ?kg ?ky ?wj ?rP ?mZ ?rT ?qd ?mI ?ip ?mO ?gz ?dL ?kx ?m7 ?cN ?c5 ?c7 ?gx ?eB ?cm ?eA ?c6 ?iH ?fA ?da ?fG ?b9 ?cr ?cn ?eV ?di ?bP ?dv ?gF ?eJ ?ck ?eC ?cZ ?iT ?fO ?cY ?fE ?ii ?ik ?fq ?dN ?vn ?gu ?j8 ?eI ?mK ?iw ?qH ?mG ?ir ?mT ?f7 ?gj ?eG ?iA ?ic ?fh ?c8 ?eD ?gE ?kf ?fm ?m4 ?mL ?jX ?f8 ?bZ ?fc ?dM ?fj ?cw ?cq ?Eb ?E9 ?Ft ?B4 ?lh ?kP ?kW ?lg ?iJ ?i3 ?vQ ?Bu ?Cp ?xg ?wm ?qo ?vA ?vH ?qI ?pV ?gv ?kw ?kB ?gh ?fX ?iC ?mi ?lV ?iY ?iB ?e8 ?iK ?je ?eZ ?eU ?gk ?kA ?kE ?gl ?fY ?iU ?lH ?lJ ?iD ?jb ?qx ?uH ?uI ?pW ?qw ?Fj ?Ek ?l7 ?FV ?Fw ?zS ?FP ?Gu ?wE ?sD ?vT ?Gh
   (case kg=>walk_at "q")
   (case ky=>walk_at "q")
   (case wj=>k_is)
   (case rP=>k_is)
   (case mZ=>k_is)
   (case rT=>k_is)
   (case qd=>k_is)
   (case mI=>k_is)
   (case ip=>k_is)
   (case mO=>k_is)
   (case gz=>walk_at "q")
   (case dL=>walk_at "q")
   (case kx=>walk_at "q")
   (case m7=>walk_at "q")
   (case cN=>walk_at "q")
   (case c5=>walk_at "q")
   (case c7=>walk_at "q")
   (case gx=>k_is)
   (case eB=>k_is)
   (case cm=>k_is)
   (case eA=>k_is)
   (case c6=>walk_at "q")
   (case iH=>k_is)
   (case fA=>k_is)
   (case da=>k_is)
   (case fG=>k_is)
   (case b9=>walk_at "q")
   (case cr=>walk_at "q")
   (case cn=>walk_at "q")
   (case eV=>k_is)
   (case di=>k_is)
   (case bP=>k_is)
   (case dv=>k_is)
   (case gF=>k_is)
   (case eJ=>k_is)
   (case ck=>k_is)
   (case eC=>k_is)
   (case cZ=>walk_at "q")
   (case iT=>k_is)
   (case fO=>k_is)
   (case cY=>k_is)
   (case fE=>k_is)
   (case ii=>walk_at "q")
   (case ik=>walk_at "q")
   (case fq=>walk_at "q")
   (case dN=>walk_at "q")
   (case vn=>walk_at "q")
   (case gu=>walk_at "q")
   (case j8=>walk_at "q")
   (case eI=>walk_at "q")
   (case mK=>walk_at "q")
   (case iw=>walk_at "q")
   (case qH=>k_is)
   (case mG=>k_is)
   (case ir=>k_is)
   (case mT=>k_is)
   (case f7=>walk_at "q")
   (case gj=>walk_at "q")
   (case eG=>walk_at "q")
   (case iA=>walk_at "q")
   (case ic=>walk_at "q")
   (case fh=>walk_at "q")
   (case c8=>walk_at "q")
   (case eD=>walk_at "q")
   (case gE=>walk_at "q")
   (case kf=>walk_at "q")
   (case fm=>walk_at "q")
   (case m4=>walk_at "q")
   (case mL=>walk_at "q")
   (case jX=>walk_at "q")
   (case f8=>walk_at "q")
   (case bZ=>walk_at "q")
   (case fc=>walk_at "q")
   (case dM=>walk_at "q")
   (case fj=>walk_at "q")
   (case cw=>walk_at "q")
   (case cq=>walk_at "q")
   (case Eb=>k_is)
   (case E9=>k_is)
   (case Ft=>k_is)
   (case B4=>k_is)
   (case lh=>k_is)
   (case kP=>k_is)
   (case kW=>k_is)
   (case lg=>k_is)
   (case iJ=>k_is)
   (case i3=>k_is)
   (case vQ=>rfl)
   (case Bu=>k_is)
   (case Cp=>rfl)
   (case xg=>kernel_rfl)
   (case wm=>kernel_rfl)
   (case qo=>rfl)
   (case vA=>k_is)
   (case vH=>rfl)
   (case qI=>kernel_rfl)
   (case pV=>kernel_rfl)
   (case gv=>rfl)
   (case kw=>k_is)
   (case kB=>rfl)
   (case gh=>kernel_rfl)
   (case fX=>kernel_rfl)
   (case iC=>rfl)
   (case mi=>k_is)
   (case lV=>rfl)
   (case iY=>kernel_rfl)
   (case iB=>kernel_rfl)
   (case e8=>rfl)
   (case iK=>k_is)
   (case je=>rfl)
   (case eZ=>kernel_rfl)
   (case eU=>kernel_rfl)
   (case gk=>rfl)
   (case kA=>k_is)
   (case kE=>rfl)
   (case gl=>kernel_rfl)
   (case fY=>kernel_rfl)
   (case iU=>rfl)
   (case lH=>k_is)
   (case lJ=>rfl)
   (case iD=>kernel_rfl)
   (case jb=>kernel_rfl)
   (case qx=>rfl)
   (case uH=>k_is)
   (case uI=>rfl)
   (case pW=>kernel_rfl)
   (case qw=>kernel_rfl)
   (case Fj=>k_is)
   (case Ek=>k_is)
   (case l7=>k_is)
   (case FV=>k_is)
   (case Fw=>k_is)
   (case zS=>k_is)
   (case FP=>k_is)
   (case Gu=>k_is)
   (case wE=>k_is)
   (case sD=>k_is)
   (case vT=>k_is)
   (case Gh=>k_is)
  obtain ⟨t,hw,T⟩:=T
  have e0:=hmg.symm.trans T.LA
  cases e0
  exact ⟨_,T.Kh,fun base=>My.Hk hw T⟩
 case S=>exact fun K H a ns hl hO hS=>My.Dh hl hO hS
 case C=>exact fun _ _ _ _ h=>h
