import PyProof.Rows.All
import Wide.All
import OpenK.AllK
import Wide.FinOn
import Lean
import PyProof.EqAt
import PyProof.EqKinds
import PyProof.TupleCall
import PyProof.NeKinds
import PyProof.Rows.StrLen
import PyProof.AutoIntG2
import PyProof.FactsAll.int_6
import PyProof.Rows.BootFacts.P1
import PyProof.ReprRoads
import PyProof.ListRange
import PyProof.TupleOfSeq
import PyProof.EnumMake
import PyProof.StrWalks
import PyProof.Rows.Range3
import PyProof.Rows.SetFrom
import KE.KIntText
import PyProof.FString
import PyProof.StrCalls2
import PyProof.StrOps2
import PyProof.SliceStr2
import PyProof.StrBlockI
import PyProof.StrBlockL
import PyProof.StrLaws
import OpenK.KOwn
import KE.KTryMore
import PyProof.ExcAttrAll.ValueError
import PyProof.NsDelKeeps
import KE.KRevIter
import PyProof.DictRoadsH
import PyProof.ListMulRoad
import PySem.Challenge.RW_unlikeplace_k06_no_cases
noncomputable section
set_option Elab.async false
set_option linter.all false
set_option maxRecDepth 100000
namespace L2
open PySem PySem.Spec PyProof.Rows
noncomputable abbrev Key:=Sum Int Str
noncomputable def lp:Key->Value->Bool
 |.inl k,v=>Value.isInt k v
 |.inr x,v=>Value.isStrOf x v
noncomputable def DB(w:World):Key->Int
 |.inl k=>hashInt k
 |.inr x=>hashStr w x
theorem bu:∀ {k:Key} {v:Value},lp k v=true->(∃i t,k=Sum.inl i/\v=Value.int i t)\/(∃x t,k=Sum.inr x/\v=Value.str x t)
 |.inl i,v,h=>by
  obtain⟨t,e⟩:=Value.isInt_shape (k:=i) (v:=v) h;exact .inl ⟨i,t,rfl,e⟩
 |.inr x,v,h=>by
  obtain⟨t,e⟩:=Value.isStrOf_shape (x:=x) (v:=v) h;exact .inr ⟨x,t,rfl,e⟩
theorem ur(i:Int)(t:Tok):lp (.inl i) (.int i t)=true:=by simp[lp,Value.isInt]
theorem tR(x:Str)(t:Tok):lp (.inr x) (.str x t)=true:=by simp[lp,Value.isStrOf]
theorem Bh(a b:Int):decide ((Sum.inl a:Key)=Sum.inl b)=(a == b):=by
 by_cases e:a=b
 ·subst e;simp
 ·have h:¬ (Sum.inl a:Key)=Sum.inl b:=fun q=>e (Sum.inl.inj q)
  rw[decide_eq_false h];exact(beq_eq_false_iff_ne.mpr e).symm
theorem BR(a b:Str):decide ((Sum.inr a:Key)=Sum.inr b)=decide (a=b):=by
 by_cases e:a=b
 ·subst e;simp
 ·have h:¬ (Sum.inr a:Key)=Sum.inr b:=fun q=>e (Sum.inr.inj q)
  rw[decide_eq_false h,decide_eq_false e]
theorem BG(a:Int)(b:Str):decide ((Sum.inl a:Key)=Sum.inr b)=false:=decide_eq_false (fun q=>nomatch q)
theorem BC(a:Str)(b:Int):decide ((Sum.inr a:Key)=Sum.inl b)=false:=decide_eq_false (fun q=>nomatch q)
noncomputable def bE(prog:Program)(w:World):PySem.KeyKind prog w Key where
 is:=lp
 hash:=DB w
 inj:=fun v a b ha hb=>by
  rcases bu ha with⟨i,t,rfl,rfl⟩|⟨x,t,rfl,rfl⟩
  ·rcases bu hb with⟨j,u,rfl,e⟩|⟨y,u,rfl,e⟩
   ·injection e with e1 _;rw[e1]
   ·exact nomatch e
  ·rcases bu hb with⟨j,u,rfl,e⟩|⟨y,u,rfl,e⟩
   ·exact nomatch e
   ·injection e with e1 _;rw[e1]
 byValue:=fun k v h=>by
  rcases bu h with⟨i,t,rfl,rfl⟩|⟨x,t,rfl,rfl⟩<;>rfl
 pyHash:=fun hv h=>by
  rcases bu hv with⟨i,t,rfl,rfl⟩|⟨x,t,rfl,rfl⟩
  ·exact wpAny_pyHash_int h
  ·exact wpAny_pyHash_str h
 eqBool:=fun hu hv h=>by
  rcases bu hu with⟨i,t,rfl,rfl⟩|⟨x,t,rfl,rfl⟩
  ·rcases bu hv with⟨j,u,rfl,rfl⟩|⟨y,u,rfl,rfl⟩
   ·rw[Bh] at h;exact wpAny_eqBool_int h
   ·rw[BG] at h;exact SeqAt.EqAt.int_str i t y u _ _ _ _ h
  ·rcases bu hv with⟨j,u,rfl,rfl⟩|⟨y,u,rfl,rfl⟩
   ·rw[BC] at h;exact SeqAt.EqAt.str_int x t j u _ _ _ _ h
   ·rw[BR] at h;exact wpAny_eqBool_str h
 «strs»:=fun k x t v h=>by
  rcases bu h with⟨i,u,rfl,e⟩|⟨y,u,rfl,e⟩
  ·exact nomatch e
  ·injection e with e1 _
   subst e1;cases v<;>rfl
theorem nU(prog:Program)(w:World)(i:Int)(t:Tok):(bE prog w).is (.inl i) (.int i t)=true:=ur i t
theorem nM(prog:Program)(w:World)(x:Str)(t:Tok):(bE prog w).is (.inr x) (.str x t)=true:=tR x t
inductive V where
 |non|bl (b:Bool)|int (i:Int)|str (x:Str)|byt (b:Array UInt8)|flt (b:UInt64)|ref (a:Addr)|ty (n:String)
 deriving DecidableEq
noncomputable def aP:V->Value->Prop
 |.non,u=>u=Value.none
 |.bl b,u=>u=Value.bool b
 |.int i,u=>∃t,u=Value.int i t
 |.str x,u=>∃t,u=Value.str x t
 |.byt b,u=>∃t,u=Value.bytes b t
 |.flt b,u=>∃t,u=Value.float b t
 |.ref a,u=>u=Value.ref a
 |.ty n,u=>u=Value.type n
noncomputable abbrev aB:List V->List Value->Prop:=Paired aP
theorem aB.length{xs:List V}{us:List Value}(r:aB xs us):xs.length=us.length:=Paired.length r
theorem aB.get:∀ {xs:List V} {us:List Value} {i:Nat} {x:V},aB xs us->xs[i]?=some x->∃u,us[i]?=some u/\aP x u
 |_,_,_,_,.nil,e=>by simp at e
 |_,_,0,_,.cons r _,e=>by simp at e;subst e;exact⟨_,rfl,r⟩
 |_,_,i+1,x,.cons _ t,e=>by
  obtain⟨u,h1,h2⟩:=aB.get (i:=i) (x:=x) t (by simpa using e)
  exact⟨u,by simpa using h1,h2⟩
theorem aB.set{x:V}{u:Value}(r:aP x u):∀ {xs:List V} {us:List Value} (i:Nat),aB xs us->aB (xs.set i x) (us.set i u)
 |_,_,_,.nil=>.nil
 |_,_,0,.cons _ t=>.cons r t
 |_,_,i+1,.cons q t=>.cons q (aB.set r i t)
theorem aB.append:∀ {xs ys:List V} {us ws:List Value},aB xs us->aB ys ws->aB (xs++ys) (us++ws)
 |_,_,_,_,.nil,s=>s
 |_,_,_,_,.cons r t,s=>.cons r (aB.append t s)
theorem aB.take:∀ {xs:List V} {us:List Value} (n:Nat),aB xs us->aB (xs.take n) (us.take n)
 |_,_,0,_=>.nil
 |_,_,_+1,.nil=>.nil
 |_,_,n+1,.cons r t=>.cons r (aB.take n t)
theorem aB.drop:∀ {xs:List V} {us:List Value} (n:Nat),aB xs us->aB (xs.drop n) (us.drop n)
 |_,_,0,r=>r
 |_,_,_+1,.nil=>.nil
 |_,_,n+1,.cons _ t=>aB.drop n t
noncomputable def By:Option V->Option Value->Prop
 |some v,some u=>aP v u
 |none,none=>True
 |_,_=>False
noncomputable def KV{κ:Type}:List (κ×V)->List (κ×Value)->Prop:=Paired fun(p:κ×V) (q:κ×Value)=>p.1=q.1/\aP p.2 q.2
noncomputable def kV:Key->V
 |.inl i=>.int i
 |.inr x=>.str x
inductive HO where
 |lst (xs:List V)
 |tup (xs:List V)
 |dK (kvs:List (Key×V))|dT (kvs:List (List Key×V))
 |set (S:Int->Bool) (n:Nat)
 |ins (C dx:Addr) (fs:List (Str×V))
 |own (x:Addr)
 |xd (fs:List (Str×V))
 |met (f x:Addr)
 |rng (lo hi:Int)
 |frz (o:Obj) (u:HO)
 |tbl (ps:Array Value)
 |ext (φ:Heap->Prop)
noncomputable abbrev Hp:=Addr->Option HO
noncomputable def upd(H:Hp)(a:Addr)(o:HO):Hp:=fun b=>if b=a then some o else H b
theorem bn{H:Hp}{a:Addr}{o:HO}:upd H a o a=some o:=by unfold upd;rw[if_pos rfl]
theorem aq{H:Hp}{a b:Addr}{o:HO}(h:b≠a):upd H a o b=H b:=by unfold upd;rw[if_neg h]
theorem yj{H:Hp}{a:Addr}{o u:HO}:upd (upd H a o) a u=upd H a u:=by
 funext b;unfold upd;split<;>rfl
theorem CN{H:Hp}{a b:Addr}{o u:HO}(h:H a=some o)(h':H b=some u)(d:o≠u):a≠b:=by
 intro e;subst e;rw[h] at h';exact d (Option.some.inj h')
theorem aN{H:Hp}{a b:Addr}{o:HO}(h:H a=some o)(h':H b=none):a≠b:=by
 intro e;subst e;rw[h] at h';cases h'
noncomputable def oP(h:Heap)(a:Addr)(items:Array Value):Prop:=IsTup h a items/\∃o,h.get? a=some o/\o.dict=none
theorem oP.lt{h:Heap}{a:Addr}{items:Array Value}(x:oP h a items):a<h.objs.size:=x.1.lt
theorem oP.new(h:Heap)(items:Array Value):oP (h.push { cls:=.type "tuple",data:=.seq items }) h.objs.size items:=⟨IsTup.new h items,_,Heap.get?_push_size _ rfl,rfl⟩
noncomputable def qT(H:Hp)(a:Addr)(ps qs:Array Value):Prop:=TriplesOk qs.toList/\∀(pos:Pos)(cv:Value),codeAmong pos qs.toList=some cv ->
 ∃(c:Addr)(o:Obj)(vs:Array Value)(t:Tok)(q:Str),cv=.ref c/\H c=some (.frz o (.own a))/\o.data=.fields vs/\vs[1]?=some (.str q t)/\ps[0]?=some (.str q 0)
theorem qT.mono{H H':Hp}{a:Addr}{ps qs:Array Value}(x:qT H a ps qs)(k:∀b o u,H b=some (.frz o u)->H' b=some (.frz o u)):qT H' a ps qs:=
 ⟨x.1,fun pos cv e=>let ⟨c,o,vs,t,q,e1,e2,r⟩:=x.2 pos cv e;⟨c,o,vs,t,q,e1,k _ _ _ e2,r⟩⟩
section
variable(P:Program)(w:World)
noncomputable def bq(H:Hp)(h:Heap)(a:Addr):HO->Prop
 |.lst xs=>xs.length<=sizeLine/\∃(its:List Value)(n:Nat),aB xs its/\h.get? a=some { cls:=.type "list",data:=.seq its.toArray n }
 |.tup xs=>xs.length<=sizeLine/\∃its:List Value,aB xs its/\oP h a its.toArray
 |.dK kvs=>kvs.length<=sizeLine/\(a == sysModules)=false/\∃vs,KV kvs vs/\h.DictOf (bE P w) a vs
 |.dT kvs=>kvs.length<=sizeLine/\(a == sysModules)=false/\∃xs:List (List Key×Addr×Value),
   Paired (fun(p:List Key×V) (q:List Key×Addr×Value)=>p.1=q.1/\H q.2.1=some (.tup (p.1.map kV))/\aP p.2 q.2.2) kvs xs /\
   ∃o es ep,h.get? a=some o/\o.ExactDict/\o.data=.dict es ep/\es.toList=xs.map (entryOfKey (tupleKind (bE P w)))/\(xs.map (·.1)).Nodup
 |.set S n=>h.SetOf (intKind P w) a S n
 |.ins C dx fs=>H dx=some (.own a)/\fs.length<=1000/\dx≠a/\h.get? a=some (W.instObj C dx) /\
   ∃mA,h.Ns1 dx mA/\(∀f,By (fs.lookup f) (mA f))/\PySem.Within mA (fs.map (·.1))
 |.own _=>∃o,h.get? a=some o
 |.xd fs=>∃mA,h.Ns1 a mA/\∀f,By (fs.lookup f) (mA f)
 |.rng lo hi=>∃t u v,h.get? a=some { cls:=.type "range",data:=.fields #[.int lo t,.int hi u,.int 1 v] }
 |.frz o u=>h.get? a=some o/\bq H h a u
 |.tbl ps=>∃qs:Array Value,h.get? a=some { cls:=.none,data:=.fields qs }/\qT H a ps qs
 |.met f x=>h.get? a=some (W.methodObj (.ref f) (.ref x))
 |.ext φ=>φ h/\(∃o,h.get? a=some o)/\∀h1 h2:Heap,φ h1->(∀o,h1.get? a=some o->h2.get? a=some o)->φ h2
noncomputable def HOk(H:Hp)(h:Heap):Prop:=∀a o,H a=some o->bq P w H h a o
end
section
variable{P:Program}{w:World}{H H':Hp}{h h':Heap}{a:Addr}{o:HO}
theorem bq.lt(x:bq P w H h a o):a<h.objs.size:=by
 cases o with
 |lst xs=>obtain⟨_,_,_,_,e⟩:=x;exact Heap.lt_size e
 |tup xs=>obtain⟨_,_,_,p⟩:=x;exact p.lt
 |dK kvs=>obtain⟨_,_,_,_,o,_,_,e,_⟩:=x;exact Heap.lt_size e
 |dT kvs=>obtain⟨_,_,_,_,o,_,_,e,_⟩:=x;exact Heap.lt_size e
 |set S n=>obtain⟨o,_,_,_,e,_⟩:=x;exact Heap.lt_size e
 |ins C dx fs=>obtain⟨_,_,_,e,_⟩:=x;exact Heap.lt_size e
 |own y=>obtain⟨_,e⟩:=x;exact Heap.lt_size e
 |xd fs=>obtain⟨_,⟨_,_,_,e,_⟩,_⟩:=x;exact Heap.lt_size e
 |rng lo hi=>obtain⟨_,_,_,e⟩:=x;exact Heap.lt_size e
 |frz ob u=>obtain⟨e,_⟩:=x;exact Heap.lt_size e
 |tbl ps=>obtain⟨qs,e,_⟩:=x;exact Heap.lt_size e
 |met f y=>exact Heap.lt_size (show h.get? a=some _ from x)
 |ext φ=>obtain⟨_,⟨_,e⟩,_⟩:=x;exact Heap.lt_size e
theorem Paired.Eu{α β:Type}{F G:α->β->Prop}:∀ {l₁:List α} {l₂:List β},Paired F l₁ l₂->(∀a b,F a b->G a b)->Paired G l₁ l₂
 |_,_,.nil,_=>.nil
 |_,_,.cons r t,f=>.cons (f _ _ r) (Paired.Eu t f)
theorem bq.stay(x:bq P w H h a o)(k:∀b u,(b=a\/H b=some (.own a))->h.get? b=some u->h'.get? b=some u)(ho:∀b,H b=some (.own a)->H' b=some (.own a))(ht:∀b xs,H b=some (.tup xs)->H' b=some (.tup xs))(hf:∀b o u,H b=some (.frz o u)->H' b=some (.frz o u)):bq P w H' h' a o:=by
 induction o with
 |lst xs=>obtain⟨z,its,n,r,e⟩:=x;exact⟨z,its,n,r,k _ _ (.inl rfl) e⟩
 |tup xs=>obtain⟨z,its,r,⟨ob,e,c⟩,ob',e',c'⟩:=x;exact⟨z,its,r,⟨ob,k _ _ (.inl rfl) e,c⟩,ob',k _ _ (.inl rfl) e',c'⟩
 |dK kvs=>obtain⟨z,y,vs,r,ob,es,ep,e,c⟩:=x;exact⟨z,y,vs,r,ob,es,ep,k _ _ (.inl rfl) e,c⟩
 |dT kvs=>
  obtain⟨z,y,xs,r,ob,es,ep,e,c⟩:=x;exact⟨z,y,xs,Paired.Eu r fun p q z=>⟨z.1,ht _ _ z.2.1,z.2.2⟩,ob,es,ep,k _ _ (.inl rfl) e,c⟩
 |set S n=>obtain⟨ob,es,ep,t,e,c⟩:=x;exact⟨ob,es,ep,t,k _ _ (.inl rfl) e,c⟩
 |ins C dx fs=>
  obtain⟨d,z,ne,e,mA,⟨od,es,ep,e2,c⟩,r⟩:=x;exact⟨ho _ d,z,ne,k _ _ (.inl rfl) e,mA,⟨od,es,ep,k _ _ (.inr d) e2,c⟩,r⟩
 |own y=>obtain⟨ob,e⟩:=x;exact⟨ob,k _ _ (.inl rfl) e⟩
 |xd fs=>obtain⟨mA,⟨od,es,ep,e,c⟩,r⟩:=x;exact⟨mA,⟨od,es,ep,k _ _ (.inl rfl) e,c⟩,r⟩
 |rng lo hi=>obtain⟨t,u,v,e⟩:=x;exact⟨t,u,v,k _ _ (.inl rfl) e⟩
 |frz ob u ih=>obtain⟨e,q⟩:=x;exact⟨k _ _ (.inl rfl) e,ih q⟩
 |tbl ps=>obtain⟨qs,e,z⟩:=x;exact⟨qs,k a _ (.inl rfl) e,z.mono hf⟩
 |met f y=>
  have e:h.get? a=some (W.methodObj (.ref f) (.ref y)):=x;show h'.get? a=some (W.methodObj (.ref f) (.ref y));exact k a _ (.inl rfl) e
 |ext φ=>obtain⟨p,⟨o,e⟩,st⟩:=x;exact⟨st _ _ p fun o q=>k _ _ (.inl rfl) q,⟨o,k _ _ (.inl rfl) e⟩,st⟩
theorem HOk.lt(x:HOk P w H h)(e:H a=some o):a<h.objs.size:=(x a o e).lt
theorem HOk.fresh(x:HOk P w H h)(e:h.objs.size<=a):H a=none:=by
 cases q:H a with
 |none=>rfl
 |some u=>exact absurd (Nat.lt_of_lt_of_le (x.lt q) e) (Nat.lt_irrefl _)
theorem HOk.kept(x:HOk P w H h)(k:∀b u,h.get? b=some u->h'.get? b=some u):HOk P w H h':=fun a o e=>
 (x a o e).stay (fun b u _ q=>k b u q) (fun _ q=>q) (fun _ _ q=>q) fun _ _ _ q=>q
theorem HOk.laid(x:HOk P w H h)(k:∀b u,h.get? b=some u->h'.get? b=some u)(hp:h.objs.size<=a)(new:bq P w (upd H a o) h' a o):HOk P w (upd H a o) h':=fun b u e=>by
 have hn:=x.fresh hp;by_cases hb:b=a
 ·subst hb;rw[bn] at e;cases e;exact new
 ·rw[aq hb] at e
  exact(x b u e).stay (fun c v _ q=>k c v q) (fun c q=>by rw[aq (aN q hn)];exact q) (fun c xs q=>by rw[aq (aN q hn)];exact q) fun c o' u' q=>by rw[aq (aN q hn)];exact q
end
noncomputable def Rd(H:Hp)(a:Addr)(u:HO):Prop:=H a=some u\/∃o,H a=some (.frz o u)
theorem Rd.ok{P:Program}{w:World}{H:Hp}{h:Heap}{a:Addr}{u:HO}(r:Rd H a u)(x:HOk P w H h):bq P w H h a u:=by
 rcases r with r|⟨o,r⟩
 ·exact x a u r
 ·obtain⟨_,q⟩:=x a _ r
  exact q
noncomputable def Mut:Option HO->Prop
 |some (.lst _)=>True
 |some (.dK _)=>True
 |some (.dT _)=>True
 |some (.set _ _)=>True
 |some (.ins _ _ _)=>True
 |some (.ext _)=>True
 |_=>False
section
variable{P:Program}{w:World}{H:Hp}{h h':Heap}{x e:Addr}{o':HO}
theorem HOk.write(ok:HOk P w H h)(mu:Mut (H x))(he:e=x\/H e=some (.own x))(k:∀b u,b≠e->h.get? b=some u->h'.get? b=some u)(heo:∃u,h'.get? e=some u)(new:bq P w (upd H x o') h' x o'):HOk P w (upd H x o') h':=fun b u q=>by
 have nown:∀c y,H c=some (.own y)->c≠x:=fun c y r z=>by subst z;rw[r] at mu;exact mu
 have ntup:∀c xs,H c=some (.tup xs)->c≠x:=fun c xs r z=>by subst z;rw[r] at mu;exact mu
 by_cases hb:b=x
 ·subst hb;rw[bn] at q;cases q;exact new
 ·rw[aq hb] at q
  by_cases hbe:b=e
  ·have q':H b=some (.own x):=by
    rcases he with z|z
    ·exact absurd (hbe.trans z) hb
    ·rw[hbe];exact z
   rw[q] at q';cases q';obtain⟨v,hv⟩:=heo;exact⟨v,by rw[hbe];exact hv⟩
  ·refine(ok b u q).stay (fun c v hc r=>k c v ?_ r) (fun c r=>by rw[aq (nown c b r)];exact r) (fun c xs r=>by rw[aq (ntup c xs r)];exact r) fun c o' u' r=>by rw[aq (fun z=>by subst z;rw[r] at mu;exact mu)];exact r
   rcases hc with rfl|hc
   ·exact hbe
   ·rintro rfl
    rcases he with z|z
    ·exact nown c b hc z
    ·rw[hc] at z;cases z;exact hb rfl
end
structure Un(fs ex:List Addr)(H H':Hp)(h h':Heap):Prop where
 keep:∀b o,h.get? b=some o->H b=none->b ∉ fs->b ∉ ex->h'.get? b=some o
 slot:∀b o,h.get? b=some o->H b=none->b∈fs->b ∉ ex->∃sl,h'.get? b=some { o with slots:=sl }
 free:∀b o,h.get? b=some o->H b=none->b ∉ ex->H' b=none
 there:∀b o,h.get? b=some o->b ∉ ex->∃o',h'.get? b=some o'
 tups:∀b xs,H b=some (.tup xs)->H' b=some (.tup xs)
 frzs:∀b o u,H b=some (.frz o u)->H' b=some (.frz o u)
 tbls:∀b ps,H b=some (.tbl ps)->∃more,H' b=some (.tbl (ps++more))
section
variable{fs fs' ex ex':List Addr}{H H1 H2:Hp}{h h1 h2 h':Heap}{a x e:Addr}{o:HO}
theorem Un.any(u:Un fs ex H H1 h h1){b:Addr}{ob:Obj}(q:h.get? b=some ob)(n:H b=none)(hx:b ∉ ex):∃sl,h1.get? b=some { ob with slots:=sl }:=by
 by_cases hb:b∈fs
 ·exact u.slot b ob q n hb hx
 ·exact⟨ob.slots,u.keep b ob q n hb hx⟩
theorem Un.kept(k:∀b u,h.get? b=some u->h'.get? b=some u):Un fs ex H H h h':=
 ⟨fun b ob q _ _ _=>k b ob q,fun b ob q _ _ _=>⟨ob.slots,k b ob q⟩,fun _ _ _ n _=>n,fun b ob q _=>⟨ob,k b ob q⟩,fun _ _ q=>q,fun _ _ _ q=>q,fun _ ps q=>⟨#[],by rw[q];simp⟩⟩
theorem Un.refl:Un fs ex H H h h:=Un.kept fun _ _ q=>q
theorem Un.laid(k:∀b u,h.get? b=some u->h'.get? b=some u)(hp:h.objs.size<=a)(hn:H a=none):Un fs ex H (upd H a o) h h' where
 keep:=fun b u q _ _ _=>k b u q
 slot:=fun b u q _ _ _=>⟨u.slots,k b u q⟩
 free:=fun b u q n _=>by rw[aq (Nat.ne_of_lt (Nat.lt_of_lt_of_le (Heap.lt_size q) hp))];exact n
 there:=fun b u q _=>⟨u,k b u q⟩
 tups:=fun b xs q=>by rw[aq (aN q hn)];exact q
 frzs:=fun b u xs q=>by rw[aq (aN q hn)];exact q
 tbls:=fun b ps q=>⟨#[],by rw[aq (aN q hn),q];simp⟩
theorem Un.write(mu:Mut (H x))(he:e=x\/H e=some (.own x))(k:∀b u,b≠e->h.get? b=some u->h'.get? b=some u)(heo:∃u,h'.get? e=some u):Un fs ex H (upd H x o) h h':=by
 have hx:∀b,H b=none->b≠x:=fun b n z=>by subst z;rw[n] at mu;exact mu
 have hb:∀b,H b=none->b≠e:=fun b n z=>by
  subst z;rcases he with r|r
  ·exact hx b n r
  ·rw[n] at r;cases r
 have hm:∀b u,H b=some u->¬ Mut (some u)->b≠x:=fun b u q nm z=>by subst z;rw[q] at mu;exact nm mu
 refine⟨fun b u q n _ _=>k b u (hb b n) q,fun b u q n _ _=>⟨u.slots,k b u (hb b n) q⟩,fun b u q n _=>by rw[aq (hx b n)];exact n,fun b u q _=>?_,
  fun b xs q=>by rw[aq (hm b _ q fun z=>z)];exact q,fun b u xs q=>by rw[aq (hm b _ q fun z=>z)];exact q,fun b ps q=>⟨#[],by rw[aq (hm b _ q fun z=>z),q];simp⟩⟩
 by_cases hbe:b=e
 ·subst hbe;exact heo
 ·exact⟨u,k b u hbe q⟩
end
noncomputable def trk(h:Heap)(H:Hp):List Addr:=(List.range h.objs.size).filter fun a=>(H a).isSome
noncomputable def mn(h:Heap)(H:Hp):Heap:=W.hideAll h (trk h H)
theorem tF(h:Heap)(H:Hp):(mn h H).objs.size=h.objs.size:=W.hideAll_size _ _
theorem wx{h:Heap}{H:Hp}{b:Addr}{o:Obj}(e:h.get? b=some o)(n:H b=none):(mn h H).get? b=some o:=
 W.hideAll_get _ e fun hm=>by
  have q:(H b).isSome=true:=(List.mem_filter.mp hm).2;rw[n] at q;simp at q
theorem xT{h:Heap}{H:Hp}{b:Addr}{o:Obj}(e:(mn h H).get? b=some o):h.get? b=some o/\H b=none:=by
 have e':h.get? b=some o:=W.of_hideAll (trk h H) e;refine⟨e',?_⟩
 cases q:H b with
 |none=>rfl
 |some x=>
  have hm:b∈trk h H:=List.mem_filter.mpr ⟨List.mem_range.mpr (Heap.lt_size e'),by simp[q]⟩
  have z:(mn h H).get? b=none:=W.hideAll_none (trk h H) hm;rw[z] at e;cases e
noncomputable def x5(g h:Heap)(L:Addr):List (Addr×Obj):=(List.range h.objs.size).filterMap fun a=>if a=L\/(g.get? a).isSome=true then none else (h.get? a).map fun o=>(a,o)
noncomputable def bA(g h:Heap)(L d:Addr):List (Addr×Obj):=(x5 g h L).filter fun p=>decide (p.1≠d)
noncomputable def ji(K:W.Frag):List (Str×Addr×Addr):=match K.lookup mainGlobals with
 |some ⟨_,_,.dict es _,_⟩=>es.toList.filterMap fun e=>match e.key with
  |.str x _=>(W.tabIn K x).map fun q=>(x,q)
  |_=>none
 |_=>[]
noncomputable def tq(K:W.Frag)(H:Hp):Prop:=∀q∈ji K,∃ps,H q.2.2=some (.tbl ps)/\ps[0]?=some (.str (q.1 ++ ".<locals>." ++ "<lambda>") 0)
theorem tq.mono{K:W.Frag}{H H':Hp}(x:tq K H)(k:∀b ps,H b=some (.tbl ps)->∃more,H' b=some (.tbl (ps++more))):tq K H':=fun q hq=>by
 obtain⟨ps,e,z⟩:=x q hq;obtain⟨more,e'⟩:=k _ _ e;refine⟨_,e',?_⟩
 have hz:0<ps.size:=by
  rcases Nat.eq_zero_or_pos ps.size with h|h
  ·rw[Array.getElem?_eq_none (by omega)] at z;cases z
  ·exact h
 rw[Array.getElem?_append_left hz];exact z
structure Mod(K:W.Frag)(mg:Str->Option Value)(base:Heap):Prop where
 kin:K.In base
 glob:base.Ns mainGlobals mg
 blt:∃mb,base.Ns builtinsNs mb/\∀x:Str,x≠"__name__"->mb x=bootBuiltins x
 nolimit:base.NoLimit
 bm:∃bm ob,mg "__builtins__"=some (.ref bm)/\bm≠builtinsNs/\base.get? bm=some ob/\ob.cls=.type "module"/\ob.dict=some builtinsNs/\ob.data=.plain
structure Cx where
 prog:Program
 w:World
 K:W.Frag
 mg:Str->Option Value
 base:Heap
 A:Around
 N:List Str
 s₀:Shared
 H₀:Hp
 env:Env
 outer:List Env
 stack:List Env
 ex:List Addr
 fn:Str->Bool
 calm:Bool
 pn:List (Addr×Obj)
 xe:Value->Shared->Prop
noncomputable def frs(l:List Env):List Addr:=l.filterMap (·.frame)
noncomputable abbrev Cx.fs(X:Cx):List Addr:=frs X.outer
noncomputable def Vis(sc:Scope)(x:Str):Prop:=sc.names.lookup x=some .local\/sc.names.lookup x=some .cell\/sc.names.lookup x=some .free
noncomputable def Loc(sc:Scope)(x:Str):Prop:=sc.names.lookup x=some .local\/sc.names.lookup x=some .cell
noncomputable def DN(env:Env)(h:Heap)(m:Str->Option Value)(x:Str)(u:Value):Prop:=
 (env.kindOf x=some .local/\m x=some u)\/((env.kindOf x=some .cell\/env.kindOf x=some .free)/\∃c,env.cells.lookup x=some c/\h.IsCell c (some u))
structure Cx.Ok(X:Cx):Prop where
 mod:Mod X.K X.mg X.base
 kind:X.env.scope.kind=.function
 glob:X.env.globals=mainGlobals
 blt:X.env.builtins=builtinsNs
 above:X.s₀.heap.objs.size<=X.env.locals
 inj:∀x y c,X.env.cells.lookup x=some c->X.env.cells.lookup y=some c->x=y
 has:∀x,(X.env.kindOf x=some .cell\/X.env.kindOf x=some .free)->∃c,X.env.cells.lookup x=some c
 cab:∀x c,X.fn x=true->X.env.cells.lookup x=some c->X.s₀.heap.objs.size<=c
 hd:X.calm=true->X.A.handled=none
 frames:X.A.frames=some X.stack
 stk:X.stack=X.outer\/(X.stack=X.env::X.outer/\X.env.frame=some X.env.locals)
 exf:∀b∈X.ex,b≠X.env.locals/\∀x c,X.env.cells.lookup x=some c->c≠b
 bs:∀b o,X.base.get? b=some o->X.s₀.heap.get? b=some o/\X.H₀ b=none
 bsz:X.base.objs.size<=X.s₀.heap.objs.size
 noex:∀b o,X.base.get? b=some o->b ∉ X.ex
 exfs:∀b∈X.ex,b ∉ X.fs
 funs:X.s₀.heap.FunFrames X.base X.outer
 frf:∀b∈X.fs,X.H₀ b=none
 tt:tq X.K X.H₀
structure Inv(X:Cx)(pins:List (Addr×Obj))(σ:List (Option V))(H:Hp)(s:Shared):Prop where
 ok:X.Ok
 os:s.os=X.s₀.os
 bare:AllBare s.gens
 base:Un X.fs X.ex X.H₀ H X.s₀.heap s.heap
 loc:∃m,s.heap.Ns X.env.locals m/\∀(i:Nat)(x:Str)(v:V),X.N[i]?=some x->σ[i]?=some (some v)->Vis X.env.scope x->∃u,aP v u/\DN X.env s.heap m x u
 cell:∀x c,X.env.cells.lookup x=some c->∃v,s.heap.IsCell c v
 free:H X.env.locals=none
 freeC:∀x c,X.env.cells.lookup x=some c->H c=none
 pin:∀p∈X.pn++pins,s.heap.get? p.1=some p.2/\H p.1=none/\p.1≠X.env.locals/\p.1 ∉ X.fs/\∀v,p.2.data≠.cell v
 hok:HOk X.prog X.w H s.heap
 len:σ.length=X.N.length
section
variable{X:Cx}{pins:List (Addr×Obj)}{σ:List (Option V)}{H H':Hp}{s:Shared}{h':Heap}
theorem Cx.Ok.nofr(ok:X.Ok){b:Addr}{o:Obj}(e:X.base.get? b=some o):b ∉ X.fs:=fun hb=>by
 have:=(ok.funs.mem hb).1;rw[e] at this;cases this
theorem Inv.bs(I:Inv X pins σ H s):∀b o,X.base.get? b=some o->s.heap.get? b=some o/\H b=none:=fun b o e=>
 ⟨I.base.keep b o (I.ok.bs b o e).1 (I.ok.bs b o e).2 (I.ok.nofr e) (I.ok.noex b o e),I.base.free b o (I.ok.bs b o e).1 (I.ok.bs b o e).2 (I.ok.noex b o e)⟩
theorem Inv.bk(I:Inv X pins σ H s):∀b o,X.base.get? b=some o->s.heap.get? b=some o:=fun b o e=>(I.bs b o e).1
theorem Inv.mod(I:Inv X pins σ H s):Mod X.K X.mg X.base:=I.ok.mod
theorem Inv.kIn(I:Inv X pins σ H s):X.K.In s.heap:=I.ok.mod.kin.keeps I.bk
theorem Inv.lt(I:Inv X pins σ H s):X.env.locals<s.heap.objs.size:=let ⟨_,hn,_⟩:=I.loc;hn.lt
theorem Inv.sz(I:Inv X pins σ H s):X.s₀.heap.objs.size<=s.heap.objs.size:=Nat.le_trans I.ok.above (Nat.le_of_lt I.lt)
theorem Inv.nofs(I:Inv X pins σ H s){a:Addr}(h:s.heap.objs.size<=a):a ∉ X.fs:=fun hb=>by
 obtain⟨_,o,ho,_⟩:=I.ok.funs.mem hb;exact absurd (Nat.lt_of_lt_of_le (Heap.lt_size ho) (Nat.le_trans I.sz h)) (Nat.lt_irrefl _)
theorem Inv.cne(I:Inv X pins σ H s):∀x c,X.env.cells.lookup x=some c->c≠X.env.locals:=fun x c e z=>by
 obtain⟨v,o,ho,hd⟩:=I.cell x c e;obtain⟨m,⟨o',es,ep,ho',hd',_⟩,_⟩:=I.loc;rw[z,ho'] at ho;cases ho;rw[hd'] at hd;cases hd
theorem Inv.funs(I:Inv X pins σ H s):s.heap.FunFrames X.base X.outer:=by
 have all:∀(l:List Env),(∀b∈frs l,b∈X.fs)->X.s₀.heap.FunFrames X.base l->s.heap.FunFrames X.base l:=by
  intro l
  induction l with
  |nil=>intro _ _;trivial
  |cons env r ih=>
   intro hs hl;obtain⟨hk,⟨L,o,hf,hn,ho,hd⟩,hr⟩:=hl;have hL:L∈X.fs:=hs L (by unfold frs;rw[List.filterMap_cons,hf];exact List.mem_cons_self)
   obtain⟨sl,e⟩:=I.base.slot L o ho (I.ok.frf L hL) hL fun z=>I.ok.exfs L z hL;exact⟨hk,⟨L,_,hf,hn,e,hd⟩,ih (fun b hb=>hs b (by unfold frs;rw[List.filterMap_cons,hf];exact List.mem_cons_of_mem _ hb)) hr⟩
 exact all X.outer (fun _ hb=>hb) I.ok.funs
theorem Inv.stack(I:Inv X pins σ H s):s.heap.FunFrames X.base X.stack:=by
 rcases I.ok.stk with e|⟨e,hf⟩
 ·rw[e];exact I.funs
 ·rw[e]
  obtain⟨m,hn,_⟩:=I.loc;refine .cons (by rw[I.ok.kind];decide) hf hn ?_ I.funs
  exact Heap.get?_none_of_le (Nat.le_trans I.ok.bsz I.ok.above)
theorem Inv.Ed(I:Inv X pins σ H s):∀b∈frs X.stack,b∈X.env.locals::X.fs:=fun b hb=>by
 rcases I.ok.stk with e|⟨e,hf⟩
 ·rw[e] at hb;exact List.mem_cons_of_mem _ hb
 ·rw[e] at hb
  unfold frs at hb;rw[List.filterMap_cons,hf] at hb;exact hb
theorem Inv.Ea(I:Inv X pins σ H s):∀b∈frs X.stack,H b=none:=fun b hb=>by
 rcases List.mem_cons.mp (I.Ed b hb) with e|hb
 ·rw[e];exact I.free
 ·obtain⟨_,o,ho,_⟩:=I.ok.funs.mem hb
  exact I.base.free b o ho (I.ok.frf b hb) fun z=>I.ok.exfs b z hb
theorem Inv.step{g':Array GenState}{t':Nat}{d':Drawn}{ch:List Addr}(I:Inv X pins σ H s)(hch:∀b∈ch,(b∈X.ex\/X.s₀.heap.objs.size<=b)/\b≠X.env.locals/\(∀x c,X.env.cells.lookup x=some c->c≠b)/\∀p∈X.pn++pins,p.1≠b)(keep:∀b o,b≠X.env.locals->b ∉ X.fs->b ∉ ch->s.heap.get? b=some o->H b=none->h'.get? b=some o)(slot:∀b o,b≠X.env.locals->b∈X.fs->b ∉ ch->s.heap.get? b=some o->H b=none->∃sl,h'.get? b=some { o with slots:=sl })(free:∀b o,b ∉ ch->s.heap.get? b=some o->H b=none->H' b=none)(there:∀b o,b ∉ ch->s.heap.get? b=some o->∃o',h'.get? b=some o')(tups:∀b xs,H b=some (.tup xs)->H' b=some (.tup xs))(frzs:∀b o u,H b=some (.frz o u)->H' b=some (.frz o u))(tbls:∀b ps,H b=some (.tbl ps)->∃more,H' b=some (.tbl (ps++more)))(ns:∀m,s.heap.Ns X.env.locals m->h'.Ns X.env.locals m)(hok:HOk X.prog X.w H' h')(hg:AllBare g'):
  Inv X pins σ H' { s with heap:=h',gens:=g',drawn:=d',toks:=t' }:=by
 have neL:∀b o,X.s₀.heap.get? b=some o->b≠X.env.locals:=fun b o e=>Nat.ne_of_lt (Nat.lt_of_lt_of_le (Heap.lt_size e) I.ok.above)
 have neC:∀b o,X.s₀.heap.get? b=some o->b ∉ X.ex->b ∉ ch:=fun b o e hx hb=>by
  rcases(hch b hb).1 with z|z
  ·exact hx z
  ·exact absurd (Nat.lt_of_lt_of_le (Heap.lt_size e) z) (Nat.lt_irrefl _)
 have cellK:∀x c,X.env.cells.lookup x=some c->∀v,s.heap.IsCell c v->h'.IsCell c v:=fun x c e v ⟨o,ho,hd⟩=>by
  have nch:c ∉ ch:=fun z=>(hch c z).2.2.1 x c e rfl;by_cases hc:c∈X.fs
  ·obtain⟨sl,q⟩:=slot c o (I.cne x c e) hc nch ho (I.freeC x c e)
   exact⟨_,q,hd⟩
  ·exact⟨o,keep c o (I.cne x c e) hc nch ho (I.freeC x c e),hd⟩
 refine⟨I.ok,I.os,hg,⟨fun b o e n hb hx=>?_,fun b o e n hb hx=>?_,fun b o e n hx=>?_,fun b o e hx=>?_,fun b xs e=>tups b xs (I.base.tups b xs e),fun b o xs e=>frzs b o xs (I.base.frzs b o xs e),fun b ps e=>?_⟩,?_,fun x c e=>?_,?_,fun x c e=>?_,fun p hp=>?_,hok,I.len⟩
 ·exact keep b o (neL b o e) hb (neC b o e hx) (I.base.keep b o e n hb hx) (I.base.free b o e n hx)
 ·obtain⟨sl,e1⟩:=I.base.slot b o e n hb hx
  obtain⟨sl',e2⟩:=slot b _ (neL b o e) hb (neC b o e hx) e1 (I.base.free b o e n hx);exact⟨sl',e2⟩
 ·obtain⟨o',e1⟩:=I.base.there b o e hx
  exact free b o' (neC b o e hx) e1 (I.base.free b o e n hx)
 ·obtain⟨o',e1⟩:=I.base.there b o e hx
  exact there b o' (neC b o e hx) e1
 ·obtain⟨m1,e1⟩:=I.base.tbls b ps e
  obtain⟨m2,e2⟩:=tbls b _ e1;exact⟨m1++m2,by rw[e2,Array.append_assoc]⟩
 ·obtain⟨m,hn,hl⟩:=I.loc
  refine⟨m,ns m hn,fun i x v e1 e2 e3=>?_⟩;obtain⟨u,r,l⟩:=hl i x v e1 e2 e3;refine⟨u,r,?_⟩;rcases l with l|⟨k,c,e,z⟩
  ·exact .inl l
  ·exact .inr ⟨k,c,e,cellK x c e _ z⟩
 ·obtain⟨v,z⟩:=I.cell x c e
  exact⟨v,cellK x c e v z⟩
 ·obtain⟨m,⟨o,_,_,ho,_⟩,_⟩:=I.loc
  exact free _ o (fun z=>(hch _ z).2.1 rfl) ho I.free
 ·obtain⟨v,o,ho,hd⟩:=I.cell x c e
  exact free c o (fun z=>(hch c z).2.2.1 x c e rfl) ho (I.freeC x c e)
 ·obtain⟨e,n,ne,nf,d⟩:=I.pin p hp
  have nch:p.1 ∉ ch:=fun z=>(hch p.1 z).2.2.2 p hp rfl;exact⟨keep p.1 p.2 ne nf nch e n,free p.1 p.2 nch e n,ne,nf,d⟩
theorem Inv.un{t':Nat}(I:Inv X pins σ H s)(u:Un X.fs [] H H' s.heap h')(hok:HOk X.prog X.w H' h'):Inv X pins σ H' { s with heap:=h',toks:=t' }:=by
 obtain⟨m,⟨o,es,ep,ho,r⟩,_⟩:=id I.loc;obtain⟨sl,hL⟩:=u.any ho I.free (by simp)
 exact I.step (g':=s.gens) (d':=s.drawn) (ch:=[]) (fun _ z=>nomatch z) (fun b o _ hb _ e n=>u.keep b o e n hb (by simp)) (fun b o _ hb _ e n=>u.slot b o e n hb (by simp)) (fun b o _ e n=>u.free b o e n (by simp)) (fun b o _ e=>u.there b o e (by simp)) u.tups u.frzs u.tbls (fun m' hm=>by
  obtain⟨o',es',ep',ho',r'⟩:=hm;rw[ho] at ho';cases ho'
  exact⟨_,es',ep',hL,r'⟩) hok I.bare
theorem Inv.call{g':Array GenState}{t':Nat}{d':Drawn}{ch:List Addr}(I:Inv X pins σ H s)(u:Un (frs X.stack) ch H H' s.heap h')(hok:HOk X.prog X.w H' h')(hg:AllBare g')(hch:∀b∈ch,(b∈X.ex\/X.s₀.heap.objs.size<=b)/\b≠X.env.locals/\(∀x c,X.env.cells.lookup x=some c->c≠b)/\∀p∈X.pn++pins,p.1≠b):
  Inv X pins σ H' { s with heap:=h',gens:=g',drawn:=d',toks:=t' }:=by
 obtain⟨m,⟨o,es,ep,ho,r⟩,_⟩:=id I.loc;obtain⟨sl,hL⟩:=u.any ho I.free fun z=>(hch _ z).2.1 rfl
 exact I.step (ch:=ch) hch (fun b o hL hb hc e n=>u.keep b o e n (fun z=>(List.mem_cons.mp (I.Ed b z)).elim hL hb) hc) (fun b o _ _ hc e n=>u.any e n hc) (fun b o hc e n=>u.free b o e n hc) (fun b o hc e=>u.there b o e hc) u.tups u.frzs u.tbls (fun m' hm=>by
  obtain⟨o',es',ep',ho',r'⟩:=hm;rw[ho] at ho';cases ho'
  exact⟨_,es',ep',hL,r'⟩) hok hg
theorem Inv.turned{t':Nat}{it:Addr}(I:Inv X pins σ H s)(k:∀b o,b≠it->s.heap.get? b=some o->h'.get? b=some o)(hn:H it=none)(hL:it≠X.env.locals)(h1:it∈X.ex\/X.s₀.heap.objs.size<=it)(h2:∀x c,X.env.cells.lookup x=some c->c≠it)(h3:∀p∈X.pn++pins,p.1≠it):Inv X pins σ H { s with heap:=h',toks:=t' }:=by
 have nit:∀b u,H b=some u->b≠it:=fun b u e z=>by rw[z,hn] at e;cases e
 refine I.step (g':=s.gens) (d':=s.drawn) (ch:=[it]) (fun b hb=>?_) (fun b o _ _ hc e _=>k b o (fun z=>hc (by simp[z])) e) (fun b o _ _ hc e _=>⟨o.slots,k b o (fun z=>hc (by simp[z])) e⟩) (fun _ _ _ _ n=>n)
  (fun b o hc e=>⟨o,k b o (fun z=>hc (by simp[z])) e⟩) (fun _ _ e=>e) (fun _ _ _ e=>e) (fun b ps e=>⟨#[],by rw[e];simp⟩) (fun m hm=>?_) (fun b u e=>?_) I.bare
 ·have e:b=it:=by simpa using hb
  subst e;exact⟨h1,hL,h2,h3⟩
 ·obtain⟨o,es,ep,ho,r⟩:=hm
  exact⟨o,es,ep,k _ o (Ne.symm hL) ho,r⟩
 ·refine(I.hok b u e).stay (fun c v hc q=>k c v ?_ q) (fun _ q=>q) (fun _ _ q=>q) fun _ _ _ q=>q
  rcases hc with z|z
  ·rw[z];exact nit b u e
  ·exact nit c _ z
theorem Inv.tok(I:Inv X pins σ H s)(t:Nat):Inv X pins σ H { s with toks:=t }:=I.un (h':=s.heap) (t':=t) Un.refl I.hok
theorem Inv.kept{t':Nat}(I:Inv X pins σ H s)(k:∀b u,s.heap.get? b=some u->h'.get? b=some u):Inv X pins σ H { s with heap:=h',toks:=t' }:=I.un (Un.kept k) (I.hok.kept k)
theorem Inv.laid{a:Addr}{o:HO}{t':Nat}(I:Inv X pins σ H s)(k:∀b u,s.heap.get? b=some u->h'.get? b=some u)(hp:s.heap.objs.size<=a)(new:bq X.prog X.w (upd H a o) h' a o):
  Inv X pins σ (upd H a o) { s with heap:=h',toks:=t' }:=I.un (Un.laid k hp (I.hok.fresh hp)) (I.hok.laid k hp new)
theorem Inv.write{x e:Addr}{o:HO}{t':Nat}(I:Inv X pins σ H s)(mu:Mut (H x))(he:e=x\/H e=some (.own x))(k:∀b u,b≠e->s.heap.get? b=some u->h'.get? b=some u)(heo:∃u,h'.get? e=some u)(new:bq X.prog X.w (upd H x o) h' x o):Inv X pins σ (upd H x o) { s with heap:=h',toks:=t' }:=I.un (Un.write mu he k heo) (I.hok.write mu he k heo new)
theorem Inv.Eg{pins':List (Addr×Obj)}(I:Inv X pins σ H s)(h:∀p∈pins',s.heap.get? p.1=some p.2/\H p.1=none/\p.1≠X.env.locals/\p.1 ∉ X.fs/\∀v,p.2.data≠.cell v):Inv X pins' σ H s:=
 ⟨I.ok,I.os,I.bare,I.base,I.loc,I.cell,I.free,I.freeC,fun p hp=>(List.mem_append.mp hp).elim (fun z=>I.pin p (List.mem_append_left _ z)) (h p),I.hok,I.len⟩
theorem pL{N:List Str}(hN:N.Nodup){i j:Nat}{x:Str}(a:N[i]?=some x)(b:N[j]?=some x):i=j:=by
 obtain⟨h1,e1⟩:=List.getElem?_eq_some_iff.mp a;obtain⟨h2,e2⟩:=List.getElem?_eq_some_iff.mp b;exact(List.getElem_inj hN).mp (e1.trans e2.symm)
theorem k8{M:Model}{A:Around}{E:Value->Shared->Prop}{i:Nat}{x:Str}{v:V}{u:Value}{Q:Unit->Shared->Prop}(I:Inv X pins σ H s)(hN:X.N.Nodup)(hi:X.N[i]?=some x)(hx:Loc X.env.scope x)(r:aP v u)(h:∀s',Inv X pins (σ.set i (some v)) H s'->(∃a,Heap.SameBut a s.heap s'.heap/\(a=X.env.locals\/X.env.cells.lookup x=some a))->Q () s')(hf:X.fn x=true\/X.env.scope.names.lookup x=some .local:=by first|exact .inl rfl|exact .inr rfl|assumption):wpAny M A (storeName X.env x u) Q E s:=by
 obtain⟨m,hn,hl⟩:=id I.loc;have hcls:(X.env.scope.kind == .class || (X.env.scope.kind == .module && X.env.locals != X.env.globals))=false:=by rw[I.ok.kind];rfl
 have hiσ:i<σ.length:=by rw[I.len];exact(List.getElem?_eq_some_iff.mp hi).1
 have cne:=I.cne
 have tracked:∀ {a:Addr} {h':Heap},(∃o,s.heap.get? a=some o/\H a=none)->Heap.SameBut a s.heap h'->HOk X.prog X.w H h':=fun {a h'} ha hs b ob e=>by
  obtain⟨_,_,hfree⟩:=ha;refine(I.hok b ob e).stay (fun c w' hc q=>(hs.2 c ?_).trans q) (fun _ q=>q) (fun _ _ q=>q) fun _ _ _ q=>q;rintro rfl;rcases hc with rfl|hc
  ·rw[hfree] at e;cases e
  ·rw[hfree] at hc;cases hc
 rcases hx with hk|hk
 ·refine wpAny_storeName_local hk hn (fun h' hn' hs=>?_) hcls
  obtain⟨oL,_,_,hoL,_⟩:=id hn;refine h _ ⟨I.ok,I.os,I.bare,⟨fun b o e n hb hx=>?_,fun b o e n hb hx=>?_,I.base.free,fun b o e hx=>?_,I.base.tups,I.base.frzs,I.base.tbls⟩,⟨_,hn',fun j y v' e1 e2 e3=>?_⟩,fun y c e=>?_,I.free,I.freeC,fun p hp=>?_,tracked ⟨oL,hoL,I.free⟩ hs,by simpa using I.len⟩ ⟨_,hs,.inl rfl⟩
  ·exact(hs.2 b (Nat.ne_of_lt (Nat.lt_of_lt_of_le (Heap.lt_size e) I.ok.above))).trans (I.base.keep b o e n hb hx)
  ·obtain⟨sl,e1⟩:=I.base.slot b o e n hb hx
   exact⟨sl,(hs.2 b (Nat.ne_of_lt (Nat.lt_of_lt_of_le (Heap.lt_size e) I.ok.above))).trans e1⟩
  ·obtain⟨o',e1⟩:=I.base.there b o e hx
   exact⟨o',(hs.2 b (Nat.ne_of_lt (Nat.lt_of_lt_of_le (Heap.lt_size e) I.ok.above))).trans e1⟩
  ·by_cases hj:j=i
   ·subst hj
    rw[hi] at e1;cases e1;rw[List.getElem?_set_self hiσ] at e2;cases e2;exact⟨u,r,.inl ⟨hk,by simp⟩⟩
   ·rw[List.getElem?_set_ne (Ne.symm hj)] at e2
    obtain⟨u',r',q⟩:=hl j y v' e1 e2 e3;refine⟨u',r',?_⟩;rcases q with⟨k,e⟩|⟨k,c,e,z⟩
    ·refine .inl ⟨k,?_⟩
     have:y≠x:=fun e=>hj (pL hN e1 (e ▸ hi));simp[this,e]
    ·exact .inr ⟨k,c,e,z.sameBut hs (cne y c e)⟩
  ·obtain⟨w',z⟩:=I.cell y c e
   exact⟨w',z.sameBut hs (cne y c e)⟩
  ·obtain⟨e,n,ne,nf,d⟩:=I.pin p hp
   exact⟨(hs.2 p.1 ne).trans e,n,ne,nf,d⟩
 ·have hfn:X.fn x=true:=by
   rcases hf with z|z
   ·exact z
   ·rw[z] at hk;cases hk
  obtain⟨c,hc⟩:=I.ok.has x (.inl hk);obtain⟨w',z⟩:=I.cell x c hc;refine wpAny_storeName_cell I.ok.kind hk hc z (fun h' hc' hs=>?_);obtain⟨oc,hoc,hocd⟩:=id z;refine h { s with heap:=h' } ⟨I.ok,I.os,I.bare,⟨fun b o e n hb hx=>?_,fun b o e n hb hx=>?_,I.base.free,fun b o e hx=>?_,I.base.tups,I.base.frzs,I.base.tbls⟩,⟨m,hn.sameBut hs (Ne.symm (cne x c hc)),fun j y v' e1 e2 e3=>?_⟩,fun y c' e=>?_,I.free,I.freeC,fun p hp=>?_,tracked ⟨oc,hoc,I.freeC x c hc⟩ hs,by simpa using I.len⟩ ⟨c,hs,.inr hc⟩
  ·exact(hs.2 b (Nat.ne_of_lt (Nat.lt_of_lt_of_le (Heap.lt_size e) (I.ok.cab x c hfn hc)))).trans (I.base.keep b o e n hb hx)
  ·obtain⟨sl,e1⟩:=I.base.slot b o e n hb hx
   exact⟨sl,(hs.2 b (Nat.ne_of_lt (Nat.lt_of_lt_of_le (Heap.lt_size e) (I.ok.cab x c hfn hc)))).trans e1⟩
  ·obtain⟨o',e1⟩:=I.base.there b o e hx
   exact⟨o',(hs.2 b (Nat.ne_of_lt (Nat.lt_of_lt_of_le (Heap.lt_size e) (I.ok.cab x c hfn hc)))).trans e1⟩
  ·by_cases hj:j=i
   ·subst hj
    rw[hi] at e1;cases e1;rw[List.getElem?_set_self hiσ] at e2;cases e2;exact⟨u,r,.inr ⟨.inl hk,c,hc,hc'⟩⟩
   ·rw[List.getElem?_set_ne (Ne.symm hj)] at e2
    obtain⟨u',r',q⟩:=hl j y v' e1 e2 e3;refine⟨u',r',?_⟩;rcases q with q|⟨k,c',e,z'⟩
    ·exact .inl q
    ·refine .inr ⟨k,c',e,z'.sameBut hs ?_⟩
     rintro rfl;exact hj (pL hN e1 (I.ok.inj _ _ _ e hc ▸ hi))
  ·by_cases hcc:c'=c
   ·subst hcc;exact⟨_,hc'⟩
   ·obtain⟨w2,z2⟩:=I.cell y c' e
    exact⟨w2,z2.sameBut hs hcc⟩
  ·obtain⟨e,n,ne,nf,d⟩:=I.pin p hp
   refine⟨(hs.2 p.1 ?_).trans e,n,ne,nf,d⟩;intro q;rw[q,hoc] at e;have q':oc=p.2:=Option.some.inj e;exact d w' (by rw[←q'];exact hocd)
theorem jO{M:Model}{A:Around}{E:Value->Shared->Prop}{i:Nat}{x:Str}{v:V}{u:Value}{Q:Unit->Shared->Prop}(I:Inv X pins σ H s)(hN:X.N.Nodup)(hi:X.N[i]?=some x)(hx:Loc X.env.scope x)(r:aP v u)(h:∀s',Inv X pins (σ.set i (some v)) H s'->Q () s')(hf:X.fn x=true\/X.env.scope.names.lookup x=some .local:=by first|exact .inl rfl|exact .inr rfl|assumption):wpAny M A (storeName X.env x u) Q E s:=
 k8 I hN hi hx r (fun s' I' _=>h s' I') hf
theorem Inv.call'{s':Shared}{ch:List Addr}(I:Inv X pins σ H s)(ho:s'.os=s.os)(u:Un (frs X.stack) ch H H' s.heap s'.heap)(hok:HOk X.prog X.w H' s'.heap)(hg:AllBare s'.gens)(hch:∀b∈ch,(b∈X.ex\/X.s₀.heap.objs.size<=b)/\b≠X.env.locals/\(∀x c,X.env.cells.lookup x=some c->c≠b)/\∀p∈X.pn++pins,p.1≠b):Inv X pins σ H' s':=by
 obtain⟨h',g',d',t',o'⟩:=s';have e:o'=s.os:=ho;subst e;exact I.call (g':=g') (t':=t') (d':=d') u hok hg hch
end
noncomputable abbrev XK:=Value->Option Addr->Hp->Prop
noncomputable abbrev St:=List (Option V)
noncomputable abbrev VK:=V->Hp->Prop
noncomputable abbrev TE:=St->Hp->VK->Prop
noncomputable abbrev TT:=St->Hp->(Bool->Hp->Prop)->Prop
noncomputable abbrev TA:=St->Hp->(List V->Hp->Prop)->Prop
structure fK where
 nx:St->Hp->Prop
 rt:VK
 bk:St->Hp->Prop:=fun _ _=>False
 ct:St->Hp->Prop:=fun _ _=>False
noncomputable abbrev TS:=fK->St->Hp->Prop
noncomputable def EP(X:Cx)(pins:List (Addr×Obj))(σ:St)(Q:VK)(u:Value)(s':Shared):Prop:=∃v H',Inv X pins σ H' s'/\aP v u/\Q v H'
noncomputable def TP(X:Cx)(pins:List (Addr×Obj))(σ:St)(Q:Bool->Hp->Prop)(b:Bool)(s':Shared):Prop:=∃H',Inv X pins σ H' s'/\Q b H'
noncomputable def AP(X:Cx)(pins:List (Addr×Obj))(σ:St)(Q:List V->Hp->Prop)(us:List Value)(s':Shared):Prop:=∃vs H',Inv X pins σ H' s'/\aB vs us/\Q vs H'
noncomputable def SP(X:Cx)(pins:List (Addr×Obj))(D:fK)(f:Flow)(s':Shared):Prop:=
 match f with
 |.next=>∃σ' H',Inv X pins σ' H' s'/\D.nx σ' H'
 |.brk=>∃σ' H',Inv X pins σ' H' s'/\D.bk σ' H'
 |.cont=>∃σ' H',Inv X pins σ' H' s'/\D.ct σ' H'
 |.ret u=>∃v σ' H',Inv X pins σ' H' s'/\aP v u/\D.rt v H'
noncomputable def PEd(X:Cx)(e:Expr)(t:TE):Prop:=
 ∀(pins:List (Addr×Obj)) (s:Shared) (σ:St) (H:Hp) (Q:VK),Inv X pins σ H s->t σ H Q->wpAny (model X.prog X.w) X.A (eval e X.env) (EP X pins σ Q) X.xe s
structure PE(X:Cx)(e:Expr)(t:TE):Prop where
 run:PEd X e t
noncomputable instance {X:Cx} {e:Expr} {t:TE}:CoeFun (PE X e t) (fun _=>PEd X e t):=⟨PE.run⟩
noncomputable instance {X:Cx} {e:Expr} {t:TE}:Coe (PE X e t) (PEd X e t):=⟨PE.run⟩
noncomputable def PT(X:Cx)(e:Expr)(t:TT):Prop:=
 ∀(pins:List (Addr×Obj)) (s:Shared) (σ:St) (H:Hp) (Q:Bool->Hp->Prop),Inv X pins σ H s->t σ H Q->wpAny (model X.prog X.w) X.A (isTrue e X.env (eval e X.env)) (TP X pins σ Q) X.xe s
noncomputable def PW(X:Cx)(e:Expr)(t:TT):Prop:=
 ∀(whole:Sem Value) (pins:List (Addr×Obj)) (s:Shared) (σ:St) (H:Hp) (Q:Bool->Hp->Prop),Inv X pins σ H s->t σ H Q->wpAny (model X.prog X.w) X.A (isTrue e X.env whole) (TP X pins σ Q) X.xe s
theorem PW.pt{X:Cx}{e:Expr}{t:TT}(h:PW X e t):PT X e t:=h _
noncomputable def PAd(X:Cx)(es:List Expr)(t:TA):Prop:=
 ∀(pos:Pos) (pins:List (Addr×Obj)) (s:Shared) (σ:St) (H:Hp) (Q:List V->Hp->Prop),Inv X pins σ H s->t σ H Q->wpAny (model X.prog X.w) X.A (spliced (backTo pos (starEach es X.env))) (AP X pins σ Q) X.xe s
structure PA(X:Cx)(es:List Expr)(t:TA):Prop where
 run:PAd X es t
noncomputable instance {X:Cx} {es:List Expr} {t:TA}:CoeFun (PA X es t) (fun _=>PAd X es t):=⟨PA.run⟩
noncomputable instance {X:Cx} {es:List Expr} {t:TA}:Coe (PA X es t) (PAd X es t):=⟨PA.run⟩
noncomputable def PSd(X:Cx)(st:Stmt)(t:TS):Prop:=
 ∀(pins:List (Addr×Obj)) (s:Shared) (σ:St) (H:Hp) (D:fK),Inv X pins σ H s->t D σ H->wpAny (model X.prog X.w) X.A (exec st X.env) (SP X pins D) X.xe s
structure PS(X:Cx)(st:Stmt)(t:TS):Prop where
 run:PSd X st t
noncomputable instance {X:Cx} {st:Stmt} {t:TS}:CoeFun (PS X st t) (fun _=>PSd X st t):=⟨PS.run⟩
noncomputable instance {X:Cx} {st:Stmt} {t:TS}:Coe (PS X st t) (PSd X st t):=⟨PS.run⟩
noncomputable def Bs(X:Cx)(st:List Stmt)(t:TS):Prop:=
 ∀(pins:List (Addr×Obj)) (s:Shared) (σ:St) (H:Hp) (D:fK),Inv X pins σ H s->t D σ H->wpAny (model X.prog X.w) X.A (execs st X.env) (SP X pins D) X.xe s
structure PSs(X:Cx)(st:List Stmt)(t:TS):Prop where
 run:Bs X st t
noncomputable instance {X:Cx} {st:List Stmt} {t:TS}:CoeFun (PSs X st t) (fun _=>Bs X st t):=⟨PSs.run⟩
noncomputable instance {X:Cx} {st:List Stmt} {t:TS}:Coe (PSs X st t) (Bs X st t):=⟨PSs.run⟩
theorem thn{α:Type}{t:Sem α}{Q Q':α->Shared->Prop}{M:Model}{A:Around}{E:Value->Shared->Prop}{s:Shared}(h:wpAny M A t Q E s)(hQ:∀a s,Q a s->Q' a s):wpAny M A t Q' E s:=wpAny_mono h hQ fun _ _ x=>x
section
variable{X:Cx}
noncomputable def wN(i:Nat):TE:=fun σ H Q=>∃v,σ[i]?=some (some v)/\Q v H
noncomputable def tC(v:V):TE:=fun _ H Q=>Q v H
theorem xH{i:Nat}{x:Str}{pos:Pos}(hN:X.N[i]?=some x)(hv:Vis X.env.scope x)(hd:(x == ("__debug__":Str))=false:=by decide)(hcd:(x == ("__classdict__":Str))=false:=by decide):PE X (.Name x pos) (wN i):=.mk <| by
 intro pins s σ H Q I h;obtain⟨v,e,h⟩:=h;obtain⟨m,hn,hl⟩:=I.loc;obtain⟨u,r,l⟩:=hl i x v hN e hv;have fin:EP X pins σ Q u s:=⟨v,H,I,r,h⟩;rcases l with⟨hk,hm⟩|⟨hk,c,hc,hcell⟩
 ·exact wpAny_Name (wpAny_loadName_local I.ok.kind hk hn hm fin) hd
 ·rcases hk with hk|hk
  ·exact wpAny_Name (wpAny_loadName_cell I.ok.kind hk hc hcell fin) hd
  ·exact wpAny_Name (wpAny_loadName_free I.ok.kind hk hc hcell fin hcd) hd
theorem ah{i j pos}:PE X (.Constant (.int i) j pos) (tC (.int i)):=.mk <| fun _ _ _ H _ I h=>wpAny_Constant_int ⟨.int i,H,I.tok _,⟨_,rfl⟩,h⟩
theorem eU{b j pos}:PE X (.Constant (.bool b) j pos) (tC (.bl b)):=.mk <| fun _ _ _ H _ I h=>Constant_bool ⟨.bl b,H,I,rfl,h⟩
theorem iO{j pos}:PE X (.Constant .none j pos) (tC .non):=.mk <| fun _ _ _ H _ I h=>Constant_none ⟨.non,H,I,rfl,h⟩
theorem cJ{x j pos}:PE X (.Constant (.str x) j pos) (tC (.str x)):=.mk <| fun _ _ _ H _ I h=>Calls.Constant_str ⟨.str x,H,I.tok _,⟨_,rfl⟩,h⟩
noncomputable def Gl(X:Cx)(x:Str):Prop:=X.env.kindOf x=some .globalImplicit
theorem gv{E:Value->Shared->Prop}{pins:List (Addr×Obj)}{s:Shared}{σ:St}{H:Hp}{x:Str}{u:Value}{pos:Pos}{Q:Value->Shared->Prop}(I:Inv X pins σ H s)(hg:Gl X x)(hm:X.mg x=some u)(h:Q u s)(hd:(x == ("__debug__":Str))=false:=by decide):wpAny (model X.prog X.w) X.A (eval (.Name x pos) X.env) Q E s:=
 Calls.Name_function_global I.ok.kind hg (Calls.loadGlobal_global (by rw[I.ok.glob];exact I.mod.glob.keeps I.bk) hm h) hd
theorem mG{E:Value->Shared->Prop}{pins:List (Addr×Obj)}{s:Shared}{σ:St}{H:Hp}{x:Str}{u:Value}{pos:Pos}{Q:Value->Shared->Prop}(I:Inv X pins σ H s)(hg:Gl X x)(hm:X.mg x=none)(hv:bootBuiltins x=some u)(h:Q u s)(hn:x≠"__name__":=by decide)(hd:(x == ("__debug__":Str))=false:=by decide):wpAny (model X.prog X.w) X.A (eval (.Name x pos) X.env) Q E s:=by
 obtain⟨mb,h1,h2⟩:=I.mod.blt;exact Calls.Name_function_global I.ok.kind hg (Calls.loadGlobal_builtin (by rw[I.ok.glob];exact I.mod.glob.keeps I.bk) hm (by rw[I.ok.blt];exact h1.keeps I.bk) ((h2 x hn).trans hv) h) hd
theorem dF{x:Str}{v:V}{u:Value}{pos:Pos}(hg:Gl X x)(hm:X.mg x=some u)(r:aP v u)(hd:(x == ("__debug__":Str))=false:=by decide):PE X (.Name x pos) (tC v):=.mk <|
 fun _ _ _ H _ I h=>gv I hg hm ⟨v,H,I,r,h⟩ hd
theorem dD{x:Str}{v:V}{u:Value}{pos:Pos}(hg:Gl X x)(hm:X.mg x=none)(hv:bootBuiltins x=some u)(r:aP v u)(hn:x≠"__name__":=by decide)(hd:(x == ("__debug__":Str))=false:=by decide):PE X (.Name x pos) (tC v):=.mk <|
 fun _ _ _ H _ I h=>mG I hg hm hv ⟨v,H,I,r,h⟩ hn hd
variable{a b:Expr}{ta tb:TE}{pos:Pos}
variable{tA tB':TT}{bA:List Expr}
noncomputable def CT(t u:TT):TT:=fun σ H Q=>t σ H fun c H1=>if c=true then u σ H1 Q else Q false H1
noncomputable def tOr(t u:TT):TT:=fun σ H Q=>t σ H fun c H1=>if c=true then Q true H1 else u σ H1 Q
noncomputable def B3(t:TT):TT:=fun σ H Q=>t σ H fun c H1=>Q (!c) H1
theorem mC(ha:PT X a tA):PW X (.BoolOp .And [a] pos) tA:=by
 intro wh pins s σ H Q I h;refine isTrue_and (thn (ha pins s σ H Q I h) fun c s1 e=>?_)
 cases c with
 |true=>exact isTrue_and_nil e
 |false=>exact e
theorem kD(ha:PT X a tA):PW X (.BoolOp .Or [a] pos) tA:=by
 intro wh pins s σ H Q I h;refine isTrue_or (thn (ha pins s σ H Q I h) fun c s1 e=>?_)
 cases c with
 |false=>exact isTrue_or_nil e
 |true=>exact e
theorem qE(ha:PT X a tA)(hb:PW X (.BoolOp .And (b::bA) pos) tB'):PW X (.BoolOp .And (a::b::bA) pos) (CT tA tB'):=by
 intro wh pins s σ H Q I h;refine isTrue_and (thn (ha pins s σ H _ I h) fun c s1 ⟨H1,I1,q1⟩=>?_)
 cases c with
 |true=>exact hb wh pins s1 σ H1 Q I1 q1
 |false=>exact⟨H1,I1,q1⟩
theorem nk(ha:PT X a tA)(hb:PW X (.BoolOp .Or (b::bA) pos) tB'):PW X (.BoolOp .Or (a::b::bA) pos) (tOr tA tB'):=by
 intro wh pins s σ H Q I h;refine isTrue_or (thn (ha pins s σ H _ I h) fun c s1 ⟨H1,I1,q1⟩=>?_)
 cases c with
 |true=>exact⟨H1,I1,q1⟩
 |false=>exact hb wh pins s1 σ H1 Q I1 q1
theorem dZ(ha:PT X a tA):PT X (.UnaryOp .Not a pos) (B3 tA):=by
 intro pins s σ H Q I h;exact isTrue_not (ha pins s σ H (fun c H1=>Q (!c) H1) I h)
theorem ma{op}{t:TE}(h:PE X a t):PE X (.BoolOp op [a] pos) t:=.mk <| fun pins s σ H Q I hw=>BoolOp_one (h pins s σ H Q I hw)
end
noncomputable def SqL(K:W.Frag)(H:Hp)(a:Addr)(xs:List V):Prop:=
 Rd H a (.lst xs) \/
  ∃(o:Obj)(its:Array Value)(n:Nat),K.lookup a=some o/\o.cls=.type "list"/\o.dict=none/\o.data=.seq its n/\its.size<=sizeLine/\aB xs its.toList
noncomputable def SqT(K:W.Frag)(H:Hp)(a:Addr)(xs:List V):Prop:=
 Rd H a (.tup xs) \/
  ∃(o:Obj)(its:Array Value)(n:Nat),K.lookup a=some o/\o.cls=.type "tuple"/\o.data=.seq its n/\its.size<=sizeLine/\aB xs its.toList
noncomputable def DC:Value->Option V
 |.none=>some .non
 |.bool b=>some (.bl b)
 |.int i _=>some (.int i)
 |.str x _=>some (.str x)
 |.bytes b _=>some (.byt b)
 |.float b _=>some (.flt b)
 |.ref a=>some (.ref a)
 |.type n=>some (.ty n)
 |_=>none
theorem aP.abs{x:V}{u:Value}(r:aP x u):DC u=some x:=by
 cases x with
 |non=>cases r;rfl
 |bl _=>cases r;rfl
 |int _=>obtain⟨t,rfl⟩:=r;rfl
 |str _=>obtain⟨t,rfl⟩:=r;rfl
 |byt _=>obtain⟨t,rfl⟩:=r;rfl
 |flt _=>obtain⟨t,rfl⟩:=r;rfl
 |ref _=>cases r;rfl
 |ty _=>cases r;rfl
theorem aP.inj{x y:V}{u:Value}(r:aP x u)(q:aP y u):x=y:=Option.some.inj (r.abs.symm.trans q.abs)
theorem aB.inj:∀ {xs ys:List V} {us:List Value},aB xs us->aB ys us->xs=ys
 |_,_,_,.nil,.nil=>rfl
 |_,_,_,.cons r t,.cons r' t'=>by rw[r.inj r',aB.inj t t']
section
variable{X:Cx}{pins:List (Addr×Obj)}{σ:St}{H:Hp}{s:Shared}{a:Addr}{xs ys:List V}
theorem SqL.of{K:W.Frag}(h:H a=some (.lst xs)):SqL K H a xs:=.inl (.inl h)
theorem SqT.of{K:W.Frag}(h:H a=some (.tup xs)):SqT K H a xs:=.inl (.inl h)
theorem Inv.list(I:Inv X pins σ H s)(h:SqL X.K H a xs):∃its:List Value,aB xs its/\PlainL s.heap a its.toArray/\xs.length<=sizeLine:=by
 rcases h with h|⟨o,its,n,hk,hc,hd,hs,hz,r⟩
 ·obtain⟨z,its,n,r,e⟩:=h.ok I.hok
  exact⟨its,r,⟨_,n,e,rfl,rfl,rfl⟩,z⟩
 ·refine⟨its.toList,r,⟨o,n,I.kIn a o hk,hc,hd,by simpa using hs⟩,?_⟩
  have e:=r.length;simp only[Array.length_toList] at e;omega
theorem Inv.tuple(I:Inv X pins σ H s)(h:SqT X.K H a xs):∃its:List Value,aB xs its/\IsTup s.heap a its.toArray/\xs.length<=sizeLine:=by
 rcases h with h|⟨o,its,n,hk,hc,hs,hz,r⟩
 ·obtain⟨z,its,r,p⟩:=h.ok I.hok
  exact⟨its,r,p.1,z⟩
 ·refine⟨its.toList,r,⟨o,I.kIn a o hk,hc,n,by simpa using hs⟩,?_⟩
  have e:=r.length;simp only[Array.length_toList] at e;omega
theorem Inv.Ej(I:Inv X pins σ H s)(h:SqL X.K H a xs)(h':SqL X.K H a ys):xs=ys:=by
 obtain⟨its,r,⟨o,n,e,_,_,d⟩,_⟩:=I.list h;obtain⟨its',r',⟨o',n',e',_,_,d'⟩,_⟩:=I.list h';rw[e] at e';cases e';rw[d] at d';injection d' with d1 _;have:its=its':=by simpa using congrArg Array.toList d1
 subst this;exact r.inj r'
theorem Inv.Eh(I:Inv X pins σ H s)(h:SqT X.K H a xs)(h':SqT X.K H a ys):xs=ys:=by
 obtain⟨its,r,⟨o,e,_,n,d⟩,_⟩:=I.tuple h;obtain⟨its',r',⟨o',e',_,n',d'⟩,_⟩:=I.tuple h';rw[e] at e';cases e';rw[d] at d';injection d' with d1 _;have:its=its':=by simpa using congrArg Array.toList d1
 subst this;exact r.inj r'
end
noncomputable abbrev Cx.wish(X:Cx)(E:Value->Shared->Prop):Cx:={ X with xe:=E }
noncomputable abbrev Cx.nox(X:Cx):Cx:=X.wish fun _ _=>False
theorem Cx.Ok.wish{X:Cx}(ok:X.Ok)(E:Value->Shared->Prop):(X.wish E).Ok:=
 ⟨ok.mod,ok.kind,ok.glob,ok.blt,ok.above,ok.inj,ok.has,ok.cab,ok.hd,ok.frames,ok.stk,ok.exf,ok.bs,ok.bsz,ok.noex,ok.exfs,ok.funs,ok.frf,ok.tt⟩
theorem Cx.Ok.unwish{X:Cx}{E:Value->Shared->Prop}(ok:(X.wish E).Ok):X.Ok:=
 ⟨ok.mod,ok.kind,ok.glob,ok.blt,ok.above,ok.inj,ok.has,ok.cab,ok.hd,ok.frames,ok.stk,ok.exf,ok.bs,ok.bsz,ok.noex,ok.exfs,ok.funs,ok.frf,ok.tt⟩
section
variable{X:Cx}{pins:List (Addr×Obj)}{σ:St}{H:Hp}{s:Shared}{E:Value->Shared->Prop}
theorem Inv.wish(I:Inv X pins σ H s)(E:Value->Shared->Prop):Inv (X.wish E) pins σ H s:=⟨I.ok.wish E,I.os,I.bare,I.base,I.loc,I.cell,I.free,I.freeC,I.pin,I.hok,I.len⟩
theorem Inv.unwish(I:Inv (X.wish E) pins σ H s):Inv X pins σ H s:=⟨I.ok.unwish,I.os,I.bare,I.base,I.loc,I.cell,I.free,I.freeC,I.pin,I.hok,I.len⟩
theorem SP.unwish{D:fK}{f:Flow}{s':Shared}(h:SP (X.wish E) pins D f s'):SP X pins D f s':=by
 cases f with
 |next=>obtain⟨σ',H',I,q⟩:=h;exact⟨σ',H',I.unwish,q⟩
 |brk=>obtain⟨σ',H',I,q⟩:=h;exact⟨σ',H',I.unwish,q⟩
 |cont=>obtain⟨σ',H',I,q⟩:=h;exact⟨σ',H',I.unwish,q⟩
 |ret u=>obtain⟨v,σ',H',I,r,q⟩:=h;exact⟨v,σ',H',I.unwish,r,q⟩
theorem PT.nox{e:Expr}{t:TT}(h:PT X.nox e t):PT X e t:=fun pins s σ H Q I hw=>
 wpAny_mono (h pins s σ H Q (I.wish _) hw) (fun _ _ ⟨H',I',q⟩=>⟨H',I'.unwish,q⟩) fun _ _ z=>False.elim z
theorem PSs.nox{st:List Stmt}{t:TS}(h:PSs X.nox st t):PSs X st t:=.mk <| fun pins s σ H D I hw=>
 wpAny_mono (h pins s σ H D (I.wish _) hw) (fun _ _ q=>q.unwish) fun _ _ z=>False.elim z
end
section
variable{X:Cx}{st:Stmt}{bA:List Stmt}{t u:TS}{e:Expr}{te:TE}{pos:Pos}
noncomputable def y7:TS:=fun D σ H=>D.nx σ H
noncomputable def BL(t u:TS):TS:=fun D σ H=>t { D with nx:=u D } σ H
theorem aX:PSs X [] y7:=.mk <| fun _ _ σ H _ I h=>wpAny_execs_nil ⟨σ,H,I,h⟩
theorem ai(h1:PS X st t)(h2:PSs X bA u):PSs X (st::bA) (BL t u):=.mk <| by
 intro pins s σ H D I h;refine wpAny_execs_cons (thn (h1 pins s σ H { D with nx:=u D } I h) fun f s1 q=>?_)
 cases f with
 |next=>
  obtain⟨σ',H',I',q⟩:=q;exact h2 pins s1 σ' H' D I' q
 |ret v=>exact q
 |brk=>exact q
 |cont=>exact q
theorem au(h1:PS X st t):PSs X [st] t:=.mk <| by
 intro pins s σ H D I h;refine wpAny_execs_cons (thn (h1 pins s σ H D I h) fun f s1 q=>?_)
 cases f with
 |next=>exact wpAny_execs_nil q
 |ret v=>exact q
 |brk=>exact q
 |cont=>exact q
theorem Inv.quiet{pins:List (Addr×Obj)}{σ:St}{H:Hp}{s:Shared}(I:Inv X pins σ H s):interactive X.env=false:=by simp[interactive,I.ok.kind]
noncomputable def nO(te:TE):TS:=fun D σ H=>te σ H fun _ H1=>D.nx σ H1
theorem jx(he:PE X e te)(hs:swapsWith e none pos.line X.env=pure false:=by rfl):PS X (.Expr e pos) (nO te):=.mk <| by
 intro pins s σ H D I h;exact wpAny_Expr_any (thn (he pins s σ H _ I h) fun v s1 ⟨x,H1,I1,r1,q1⟩=>⟨σ,H1,I1,q1⟩) I.quiet hs
noncomputable def Ca(te:TE):TS:=fun D σ H=>te σ H D.rt
theorem a9(he:PE X e te):PS X (.Return (some e) pos) (Ca te):=.mk <| by
 intro pins s σ H D I h;exact wpAny_Return_some (thn (he pins s σ H _ I h) fun v s1 ⟨x,H1,I1,r1,q1⟩=>⟨x,σ,H1,I1,r1,q1⟩)
noncomputable def Bo(c:TT)(t u:TS):TS:=fun D σ H=>c σ H fun b H1=>if b=true then t D σ H1 else u D σ H1
theorem b9{c:Expr}{a b:List Stmt}{tc:TT}(hc:PT X c tc)(ha:PSs X a t)(hb:PSs X b u):PS X (.If c a b pos) (Bo tc t u):=.mk <| by
 intro pins s σ H D I h;refine wpAny_If (thn (hc pins s σ H _ I h) fun d s1 ⟨H1,I1,q1⟩=>?_)
 cases d with
 |true=>exact ha pins s1 σ H1 D I1 q1
 |false=>exact hb pins s1 σ H1 D I1 q1
end
noncomputable abbrev TG:=V->St->Hp->(St->Hp->Prop)->Prop
noncomputable abbrev TGs:=List V->St->Hp->(St->Hp->Prop)->Prop
noncomputable def PG(X:Cx)(target:Expr)(t:TG):Prop:=
 ∀(pins:List (Addr×Obj)) (s:Shared) (σ:St) (H:Hp) (v:V) (u:Value) (Q:St->Hp->Prop),Inv X pins σ H s->aP v u->t v σ H Q ->
  wpAny (model X.prog X.w) X.A (assign target X.env u) (fun _ s'=>∃σ' H',Inv X pins σ' H' s'/\Q σ' H') X.xe s
noncomputable def PGs(X:Cx)(ts:List Expr)(t:TGs):Prop:=
 ∀(pins:List (Addr×Obj)) (s:Shared) (σ:St) (H:Hp) (vs:List V) (us:List Value) (Q:St->Hp->Prop),Inv X pins σ H s->aB vs us->t vs σ H Q ->
  wpAny (model X.prog X.w) X.A (assignInOrder ((assignEach ts X.env).map (·.2)) us) (fun _ s'=>∃σ' H',Inv X pins σ' H' s'/\Q σ' H') X.xe s
noncomputable abbrev Bk:=V->V->V->Hp->(Hp->Prop)->Prop
noncomputable def CI(X:Cx)(t:Bk):Prop:=
 ∀(pins:List (Addr×Obj)) (s:Shared) (σ:St) (H:Hp) (o i v:V) (ov iv u:Value) (Q:Hp->Prop),Inv X pins σ H s->aP o ov->aP i iv->aP v u->t o i v H Q ->
  wpAny (model X.prog X.w) X.A (setItem ov iv u) (fun _ s'=>∃H',Inv X pins σ H' s'/\Q H') X.xe s
section
variable{X:Cx}{pos:Pos}
noncomputable def lU(i:Nat):TG:=fun v σ H Q=>Q (σ.set i (some v)) H
theorem a8{i:Nat}{x:Str}(hN:X.N.Nodup)(hi:X.N[i]?=some x)(hx:Loc X.env.scope x)(hf:X.fn x=true\/X.env.scope.names.lookup x=some .local:=by first|exact .inl rfl|exact .inr rfl|assumption):PG X (.Name x pos) (lU i):=by
 intro pins s σ H v u Q I r h;exact wpAny_assign_Name (jO I hN hi hx r (fun s' I'=>⟨_,H,I',h⟩) hf)
noncomputable def Dd:TGs:=fun vs σ H Q=>vs=[]/\Q σ H
noncomputable def y8(t:TG)(u:TGs):TGs:=fun vs σ H Q=>∃v r,vs=v::r/\t v σ H fun σ' H'=>u r σ' H' Q
theorem sw:PGs X [] Dd:=by
 intro pins s σ H vs us Q I r h;obtain⟨e,h⟩:=h;subst e;cases r;exact assignInOrder_nil ⟨σ,H,I,h⟩
theorem gf{e:Expr}{es:List Expr}{t:TG}{u:TGs}(h1:PG X e t)(h2:PGs X es u)(hs:(assignEach (e::es) X.env).map (·.2)=assign e X.env::(assignEach es X.env).map (·.2):=by rfl):PGs X (e::es) (y8 t u):=by
 intro pins s σ H vs us Q I r h;obtain⟨v,vr,e1,h⟩:=h;subst e1
 cases r with
 |cons r rr=>
  rw[hs];refine assignInOrder_cons (thn (h1 pins s σ H _ _ _ I r h) fun _ s1 ⟨σ1,H1,I1,q1⟩=>?_);exact h2 pins s1 σ1 H1 _ _ Q I1 rr q1
noncomputable def AU(K:W.Frag)(n:Nat)(t:TGs):TG:=fun v σ H Q=>∃a xs,v=.ref a/\SqT K H a xs/\xs.length=n/\t xs σ H Q
theorem An{es:List Expr}{k:Nat}{t:TGs}{n:Nat}(hc:X.calm=true)(h:PGs X es t)(hn:(assignEach es X.env).length=n:=by rfl)(hst:(assignEach es X.env).findIdx? (·.1)=none:=by rfl):PG X (.Tuple es k pos) (AU X.K n t):=by
 intro pins s σ H v u Q I r hw;obtain⟨a,xs,e1,hq,hl,hw⟩:=hw;subst e1;cases r;obtain⟨its,rv,ht,hz⟩:=I.tuple hq;refine assign_Tuple_tuple (I.ok.hd hc) ht (by simp[hn,←hl,rv.length]) hst fun h' hx=>?_
 have I1:Inv X pins σ H { s with heap:=h' }:=I.kept (t':=s.toks) fun b o e=>hx b o (Nat.ne_of_lt (Heap.lt_size e)) e;exact h pins _ σ H xs _ Q I1 (by simpa using rv) hw
noncomputable def Dk(to ti:TE)(t:Bk):TG:=fun v σ H Q=>to σ H fun o H1=>ti σ H1 fun i H2=>t o i v H2 fun H3=>Q σ H3
theorem p6{o i:Expr}{to ti:TE}{t:Bk}(ho:PE X o to)(hi:PE X i ti)(hs:CI X t)
  (ha:∀v,assign (.Subscript o i pos) X.env v=(do
   let ov ← holding [v] (eval o X.env)
   let iv ← holding [v,ov] (eval i X.env)
   standAt pos
   holding [v,ov,iv] (setItem ov iv v)
   release [v,ov,iv] []):=by intro _;rfl):PG X (.Subscript o i pos) (Dk to ti t):=by
 intro pins s σ H v u Q I r h;rw[ha];refine wpAny_bind (wpAny_holding (thn (ho pins s σ H _ I h) fun ov s1 ⟨x,H1,I1,r1,q1⟩=>?_));refine wpAny_bind (wpAny_holding (thn (hi pins s1 σ H1 _ I1 q1) fun iv s2 ⟨y,H2,I2,r2,q2⟩=>?_));refine wpAny_bind (wpAny_standAt (wpAny_bind (wpAny_holding (thn (hs pins s2 σ H2 x y v ov iv u _ I2 r1 r2 r q2) fun _ s3 ⟨H3,I3,q3⟩=>?_))));exact wpAny_release ⟨σ,H3,I3,q3⟩
noncomputable def um(te:TE)(g:TG):TS:=fun D σ H=>te σ H fun x H1=>g x σ H1 D.nx
theorem kB{tg e:Expr}{te:TE}{g:TG}(he:PE X e te)(hg:PG X tg g)(hs:swapsWithSole [tg] e pos.line X.env=pure false:=by rfl)(hw:swappedStores [tg] e X.env=pure none:=by rfl)(h1:(assignEach [tg] X.env).map (·.2)=[assign tg X.env]:=by rfl):PS X (.Assign [tg] e pos) (um te g):=.mk <| by
 intro pins s σ H D I h;refine wpAny_Assign_stores (thn (he pins s σ H _ I h) fun v s1 ⟨x,H1,I1,r1,q1⟩=>?_) hs hw;rw[h1];exact thn (hg pins s1 σ H1 x v _ I1 r1 q1) fun _ s2 q=>q
theorem aE{i:Nat}{x:Str}{e:Expr}{te:TE}{pos':Pos}(hN:X.N.Nodup)(hi:X.N[i]?=some x)(hx:Loc X.env.scope x)(he:PE X e te)(hs:swapsWith e (some (.Name x pos')) pos.line X.env=pure false:=by rfl)(hf:X.fn x=true\/X.env.scope.names.lookup x=some .local:=by first|exact .inl rfl|exact .inr rfl|assumption):
  PS X (.Assign [.Name x pos'] e pos) (um te (lU i)):=.mk <| by
 intro pins s σ H D I h;refine wpAny_Assign_Name (thn (he pins s σ H _ I h) fun v s1 ⟨y,H1,I1,r1,q1⟩=>?_) hs;exact jO I1 hN hi hx r1 (fun s2 I2=>⟨_,H1,I2,q1⟩) hf
end
structure It where
 go:Nat->Hp->Prop
 yld:Nat->Hp->V->Hp->Prop
 stop:Nat->Hp->Prop
noncomputable def iM(X:Cx)(pins:List (Addr×Obj))(H:Hp)(b:Addr):Prop:=
 H b=none/\b≠X.env.locals/\b ∉ X.fs/\(b∈X.ex\/X.s₀.heap.objs.size<=b)/\(∀x c,X.env.cells.lookup x=some c->c≠b)/\∀p∈X.pn++pins,p.1≠b
theorem Inv.Es{X:Cx}{pins:List (Addr×Obj)}{σ:St}{H H':Hp}{s:Shared}{b:Addr}(I:Inv X pins σ H s)(hb:s.heap.objs.size<=b)(hn:H' b=none):iM X pins H' b:=by
 refine⟨hn,Nat.ne_of_gt (Nat.lt_of_lt_of_le I.lt hb),I.nofs hb,.inr (Nat.le_trans I.sz hb),fun x c e z=>?_,fun p hp z=>?_⟩
 ·obtain⟨v,q⟩:=I.cell x c e
  exact absurd (Nat.lt_of_lt_of_le q.lt (by rw[z];exact hb)) (Nat.lt_irrefl _)
 ·exact absurd (Nat.lt_of_lt_of_le (Heap.lt_size (I.pin p hp).1) (by rw[z];exact hb)) (Nat.lt_irrefl _)
structure uR(P:Program)(w:World)(K:W.Frag)(tg:Expr)(J:It)(fp:List Addr)(it:Addr)(tn:Nat->Heap->Prop):Prop where
 mem:it∈fp
 obj:∀i h,tn i h->∀b∈fp,∃o,h.get? b=some o/\∀v,o.data≠.cell v
 keep:∀i h h',tn i h->(∀b∈fp,∀o,h.get? b=some o->h'.get? b=some o)->tn i h'
 item:∀(X:Cx),X.prog=P->X.w=w->X.K=K->X.calm=true->∀(i:Nat) (pins:List (Addr×Obj)) (s:Shared) (σ:St) (H:Hp) (E:Value->Shared->Prop),Inv X pins σ H s->(∀b∈fp,iM X pins H b)->tn i s.heap->J.go i H ->
  wpAny (model P w) X.A (pyNext (.ref it)) (fun r s1=>∃u,r=some u /\
   wpAny (model P w) X.A (letOwnedTupleGo tg (.ref it) u) (fun _ s2=>∃x H',Inv X pins σ H' s2/\aP x u/\J.yld i H x H'/\tn (i+1) s2.heap/\∀b∈fp,H' b=none) E s1) E s
 done:∀(X:Cx),X.prog=P->X.w=w->X.K=K->X.calm=true->∀(i:Nat) (pins:List (Addr×Obj)) (s:Shared) (σ:St) (H:Hp) (E:Value->Shared->Prop),Inv X pins σ H s->(∀b∈fp,iM X pins H b)->tn i s.heap->J.stop i H ->
  wpAny (model P w) X.A (pyNext (.ref it)) (fun r s1=>r=none/\Inv X pins σ H s1) E s
 self:∀(A:Around)(i:Nat)(s:Shared)(Q:Value->Shared->Prop)(E:Value->Shared->Prop),tn i s.heap->Q (.ref it) s->wpAny (model P w) A (pyIter (.ref it)) Q E s
noncomputable abbrev TI:=St->Hp->(It->Hp->Prop)->Prop
noncomputable def PIE(X:Cx)(pins:List (Addr×Obj))(σ:St)(tg:Expr)(R:It->Hp->Prop)(itv:Value)(s2:Shared):Prop:=
 ∃(it:Addr)(fp:List Addr)(tn:Nat->Heap->Prop)(J:It)(H':Hp),itv=.ref it/\Inv X pins σ H' s2/\uR X.prog X.w X.K tg J fp it tn/\tn 0 s2.heap/\(∀b∈fp,iM X pins H' b)/\R J H'
noncomputable def PI(X:Cx)(tg iter:Expr)(wi:TI):Prop:=
 ∀(pins:List (Addr×Obj)) (s:Shared) (σ:St) (H:Hp) (R:It->Hp->Prop),Inv X pins σ H s->wi σ H R ->
  wpAny (model X.prog X.w) X.A (eval iter X.env) (fun v s1=>wpAny (model X.prog X.w) X.A (pyIter v) (PIE X pins σ tg R) X.xe s1) X.xe s
theorem wH{M:Model}{A:Around}{E:Value->Shared->Prop}{s:Shared}{tg:Expr}{it:Addr}{u:Value}{o:Obj}{n:String}{vs:Array Value}{Q:Unit->Shared->Prop}(ho:s.heap.get? it=some o)(hc:o.cls=.type n)(hd:o.data=.fields vs)(hn:["enumerate","zip","dict_itemiterator","dict_reverseitemiterator","odict_iterator","itertools.zip_longest","itertools.pairwise"].contains n=false)(hQ:Q () s):wpAny M A (letOwnedTupleGo tg (.ref it) u) Q E s:=by
  unfold letOwnedTupleGo
  cases tg<;>first
    |exact wpAny_pure hQ
    | (cases u<;>first
        |exact wpAny_pure hQ
        | (refine wpAny_bind (wpAny_load ho ?_)
           rw[hc,hd];show wpAny M A (if (["enumerate","zip","dict_itemiterator","dict_reverseitemiterator","odict_iterator","itertools.zip_longest","itertools.pairwise"].contains n && vs[0]? == some (rawInt _))=true then _ else _) Q E s
           rw[if_neg (by intro h;rw[hn,Bool.false_and] at h;cases h)]
           exact wpAny_pure hQ))
noncomputable def Itl(K:W.Frag)(a:Addr):It:=
 ⟨fun i H=>∃xs x,SqL K H a xs/\xs[i]?=some x,fun i H x H'=>H'=H/\∀xs,SqL K H a xs->xs[i]?=some x,fun i H=>∃xs,SqL K H a xs/\xs.length<=i⟩
noncomputable def Itt(K:W.Frag)(a:Addr):It:=
 ⟨fun i H=>∃xs x,SqT K H a xs/\xs[i]?=some x,fun i H x H'=>H'=H/\∀xs,SqT K H a xs->xs[i]?=some x,fun i H=>∃xs,SqT K H a xs/\xs.length<=i⟩
noncomputable def Itr(lo:Int)(n:Nat):It:=⟨fun i _=>i<n,fun i H x H'=>H'=H/\x=.int (lo+i),fun i _=>n<=i⟩
theorem ua{P:Program}{w:World}{K:W.Frag}{tg:Expr}(a it:Addr):uR P w K tg (Itl K a) [it] it (fun i h=>h.IsListIter it a i) where
 mem:=by simp
 obj:=fun i h st b hb=>by
  have e:b=it:=by simpa using hb
  subst e;obtain⟨o,e,c,d⟩:=st;exact⟨o,e,fun v z=>by rw[d] at z;cases z⟩
 keep:=fun i h h' st k=>st.at fun o e=>k it (by simp) o e
 item:=by
  intro X hP hw hK hc i pins s σ H E I hf st hg;subst hP hw hK;obtain⟨xs,x,hq,hx⟩:=hg;obtain⟨its,rv,p,hz⟩:=I.list hq;obtain⟨u,hu,ru⟩:=rv.get hx;obtain⟨f0,f1,f2,f3,f4,f5⟩:=hf it (by simp)
  refine wpAny_pyNext_list_item st p.isList (x:=u) (by simpa using hu) fun h' st' sb=>?_
  have I1:Inv X pins σ H { s with heap:=h' }:=I.turned (t':=s.toks) (fun b o hb e=>(sb.2 b hb).trans e) f0 f1 f3 f4 f5;obtain⟨o,e,c,d⟩:=id st';exact⟨u,rfl,wH (s:={ s with heap:=h' }) e c d (by decide) ⟨x,H,I1,ru,⟨rfl,fun ys hy=>by rw[I.Ej hy hq];exact hx⟩,st',fun b hb=>(hf b hb).1⟩⟩
 done:=by
  intro X hP hw hK hc i pins s σ H E I hf st hg;subst hP hw hK;obtain⟨xs,hq,hx⟩:=hg;obtain⟨its,rv,p,hz⟩:=I.list hq;obtain⟨f0,f1,f2,f3,f4,f5⟩:=hf it (by simp)
  have hl:=rv.length;exact wpAny_pyNext_list_end (I.ok.hd hc) st p.isList (by simp;omega) fun h' eb=>⟨rfl,I.turned (t':=s.toks) (fun b o hb e=>eb b o hb e) f0 f1 f3 f4 f5⟩
 self:=fun _ _ _ _ _ st h=>wpAny_pyIter_listiter st h
theorem qy{P:Program}{w:World}{K:W.Frag}{tg:Expr}(a it:Addr):uR P w K tg (Itt K a) [it] it (fun i h=>h.IsTupleIter it a i) where
 mem:=by simp
 obj:=fun i h st b hb=>by
  have e:b=it:=by simpa using hb
  subst e;obtain⟨o,e,c,d⟩:=st;exact⟨o,e,fun v z=>by rw[d] at z;cases z⟩
 keep:=fun i h h' st k=>st.at fun o e=>k it (by simp) o e
 item:=by
  intro X hP hw hK hc i pins s σ H E I hf st hg;subst hP hw hK;obtain⟨xs,x,hq,hx⟩:=hg;obtain⟨its,rv,p,hz⟩:=I.tuple hq;obtain⟨u,hu,ru⟩:=rv.get hx;obtain⟨f0,f1,f2,f3,f4,f5⟩:=hf it (by simp)
  refine wpAny_pyNext_tuple_item st (show s.heap.IsTuple a its.toArray from p) (x:=u) (by simpa using hu) fun h' st' sb=>?_
  have I1:Inv X pins σ H { s with heap:=h' }:=I.turned (t':=s.toks) (fun b o hb e=>(sb.2 b hb).trans e) f0 f1 f3 f4 f5;obtain⟨o,e,c,d⟩:=id st';exact⟨u,rfl,wH (s:={ s with heap:=h' }) e c d (by decide) ⟨x,H,I1,ru,⟨rfl,fun ys hy=>by rw[I.Eh hy hq];exact hx⟩,st',fun b hb=>(hf b hb).1⟩⟩
 done:=by
  intro X hP hw hK hc i pins s σ H E I hf st hg;subst hP hw hK;obtain⟨xs,hq,hx⟩:=hg;obtain⟨its,rv,p,hz⟩:=I.tuple hq;obtain⟨f0,f1,f2,f3,f4,f5⟩:=hf it (by simp)
  have hl:=rv.length;exact wpAny_pyNext_tuple_end (I.ok.hd hc) st (show s.heap.IsTuple a its.toArray from p) (by simp;omega) fun h' eb=>⟨rfl,I.turned (t':=s.toks) (fun b o hb e=>eb b o hb e) f0 f1 f3 f4 f5⟩
 self:=fun _ _ _ _ _ st h=>wpAny_pyIter_tupleiter st h
theorem pV{P:Program}{w:World}{K:PySem.W.Frag}{tg:Expr}(it:Addr)(lo:Int)(n:Nat):uR P w K tg (Itr lo n) [it] it (fun i h=>IsRangeIter h it (lo+(i:Nat)*1) ((n:Int)-(i:Nat)) 1) where
 mem:=by simp
 obj:=fun i h st b hb=>by
  have e:b=it:=by simpa using hb
  subst e
  exact⟨_,st,fun v z=>by
   have z':Data.fields _=Data.cell v:=z
   cases z'⟩
 keep:=fun i h h' st k=>k it (by simp) _ st
 item:=by
  intro X hP hw hK hc i pins s σ H E I hf st hg;subst hP hw hK;obtain⟨f0,f1,f2,f3,f4,f5⟩:=hf it (by simp)
  have W:=Walks.range (prog:=X.prog) (w:=X.w) (I.ok.hd hc) it lo 1 n;refine W.item i s _ _ hg st fun v h' tk hv st' kk=>?_;obtain⟨t,rfl⟩:=hv;have I1:Inv X pins σ H { s with heap:=h',toks:=tk }:=I.turned (fun b o hb e=>kk b o (by simpa using hb) e) f0 f1 f3 f4 f5
  refine⟨_,rfl,wH (s:={ s with heap:=h',toks:=tk }) (n:="range_iterator") st' rfl rfl (by decide) ⟨.int (lo+i),H,I1,⟨t,?_⟩,⟨rfl,rfl⟩,st',fun b hb=>(hf b hb).1⟩⟩
  rw[Int.mul_one]
 done:=by
  intro X hP hw hK hc i pins s σ H E I hf st hg;subst hP hw hK;obtain⟨f0,f1,f2,f3,f4,f5⟩:=hf it (by simp)
  exact wpAny_pyNext_range_end (I.ok.hd hc) st (by have:n<=i:=hg;omega) fun h' eb=>⟨rfl,I.turned (t':=s.toks) (fun b o hb e=>eb b o hb e) f0 f1 f3 f4 f5⟩
 self:=fun _ _ _ _ _ st h=>wpAny_pyIter_rangeiter st h
section
variable{X:Cx}{tg:Expr}
theorem xa{pins:List (Addr×Obj)}{σ:St}{H:Hp}{s:Shared}{R:It->Hp->Prop}{E:Value->Shared->Prop}{lo hi:Int}{t u v:Tok}{tk:Nat}(I:Inv X pins σ H s)(h1:-(2^62)<=lo)(h2:lo<2^62)(h3:-(2^62)<=hi)(h4:hi<2^62)(q:R (Itr lo (hi-lo).toNat) H):wpAny (model X.prog X.w) X.A (pyIter (.ref s.heap.objs.size)) (PIE X pins σ tg R) E { s with heap:=s.heap.push { cls:=.type "range",data:=.fields #[.int lo t,.int hi u,.int 1 v] },toks:=tk }:=by
 refine wpAny_pyIter_range (IsRange.new ..) (small_one h1 h2 h3 h4) ?_;have I1:Inv X pins σ H { s with heap:=s.heap.push { cls:=.type "range",data:=.fields #[.int lo t,.int hi u,.int 1 v] },toks:=tk }:=I.kept fun b o e=>Heap.get?_push_of_some _ e
 refine⟨(s.heap.push { cls:=.type "range",data:=.fields #[.int lo t,.int hi u,.int 1 v] }).objs.size,[(s.heap.push { cls:=.type "range",data:=.fields #[.int lo t,.int hi u,.int 1 v] }).objs.size],_,_,H,rfl,
  I1.kept (t':=tk) fun b o e=>Heap.get?_push_of_some _ e,pV _ lo (hi-lo).toNat,?_,fun b hb=>?_,q⟩
 ·have e1:lo+((0:Nat):Int)*1=lo:=by simp
  have e2:(((hi-lo).toNat:Nat):Int)-((0:Nat):Int)=Builtin.Range.rangeSize lo hi 1:=by rw[rangeSize_one];split<;>omega
  show IsRangeIter _ _ (lo+((0:Nat):Int)*1) ((((hi-lo).toNat:Nat):Int)-((0:Nat):Int)) 1;rw[e1,e2];exact Heap.get?_push_size _ rfl
 ·have e:b=(s.heap.push { cls:=.type "range",data:=.fields #[.int lo t,.int hi u,.int 1 v] }).objs.size:=by simpa using hb
  subst e;exact I1.Es (Nat.le_refl _) (I1.hok.fresh (Nat.le_refl _))
noncomputable def zj(ta:TA):TI:=fun σ H R=>ta σ H fun vs H1=>∃j:Int,vs=[.int j]/\-(2^62)<=j/\j<2^62/\R (Itr 0 j.toNat) H1
theorem de{a:Expr}{ta:TA}{p pos:Pos}(hg:Gl X "range")(hm:X.mg "range"=none)(ha:PA X [a] ta)(hs:starEach [a] X.env=[(false,eval a X.env)]:=by rfl):PI X tg (.Call (.Name "range" p) [a] [] pos) (zj ta):=by
 intro pins s σ H R I h;refine Call_ (mG I hg hm boot_range (PyProof.Rows.callWith_type1 (thn (ha pos pins s σ H _ I h) fun us s1 ⟨vs,H1,I1,r1,q1⟩=>?_) hs rfl));obtain⟨j,e,q1,q2,q⟩:=q1;subst e
 cases r1 with
 |cons r rr=>
  cases rr;obtain⟨t,rfl⟩:=r;exact call_range_1 (xa I1 (by omega) (by omega) q1 q2 (by simpa using q))
noncomputable def AM(wi:TI)(g:TG)(tb:TS):TS:=fun D σ H=>wi σ H fun J H1=>∃W:Nat->Nat->St->Hp->Prop,(∃m,W 0 m σ H1)/\∀i m σ H,W i m σ H ->
 (J.stop i H/\D.nx σ H)\/(J.go i H/\∃N:St->Hp->Prop,(∀σ' H',N σ' H'->∃m',m'<m/\W (i+1) m' σ' H')/\∀x H',J.yld i H x H'->g x σ H' fun σ2 H2=>tb { D with nx:=N,ct:=N,bk:=D.nx } σ2 H2)
noncomputable def ku(fp:List Addr)(h:Heap):List (Addr×Obj):=fp.filterMap fun b=>(h.get? b).map fun o=>(b,o)
theorem fE{fp:List Addr}{h:Heap}{b:Addr}{o:Obj}(hb:b∈fp)(e:h.get? b=some o):(b,o)∈ku fp h:=List.mem_filterMap.mpr ⟨b,hb,by rw[e];rfl⟩
theorem tE{fp:List Addr}{h:Heap}{p:Addr×Obj}(hp:p∈ku fp h):p.1∈fp/\h.get? p.1=some p.2:=by
 obtain⟨b,hb,e⟩:=List.mem_filterMap.mp hp
 cases q:h.get? b with
 |none=>rw[q] at e;cases e
 |some o=>
  rw[q] at e;have e':(b,o)=p:=Option.some.inj e;subst e';exact⟨hb,q⟩
theorem Inv.pinned{pins:List (Addr×Obj)}{σ:St}{H:Hp}{s:Shared}{fp:List Addr}(I:Inv X pins σ H s)(hf:∀b∈fp,iM X pins H b)(ho:∀b∈fp,∃o,s.heap.get? b=some o/\∀v,o.data≠.cell v):Inv X (pins++ku fp s.heap) σ H s:=
 I.Eg fun p hp=>(List.mem_append.mp hp).elim (fun z=>I.pin p (List.mem_append_right _ z)) fun z=>by
  obtain⟨hb,e⟩:=tE z;obtain⟨f0,f1,f2,_⟩:=hf p.1 hb;obtain⟨o,e',d⟩:=ho p.1 hb;rw[e] at e';cases e';exact⟨e,f0,f1,f2,d⟩
theorem Inv.unpinned{pins pl:List (Addr×Obj)}{σ:St}{H:Hp}{s:Shared}(I:Inv X (pins++pl) σ H s):Inv X pins σ H s:=I.Eg fun p hp=>I.pin p (List.mem_append_right _ (List.mem_append_left _ hp))
theorem jI{iter:Expr}{body:List Stmt}{wi:TI}{g:TG}{tb:TS}{pos:Pos}(hp:PassesOwn (model X.prog X.w) X.A X.env X.xe)(hc:X.calm=true)(hi:PI X tg iter wi)(hg:PG X tg g)(hb:PSs X body tb)(hs:∀x,foldedSetIterable iter X.env x=pure x:=by intro _;rfl):PS X (.For tg iter body [] pos) (AM wi g tb):=.mk <| by
 intro pins s σ H D I h;refine wpAny_For (thn (hi pins s σ H _ I h) fun v s1 h1=>thn h1 fun itv s2 h2=>?_) hs;obtain⟨it,fp,tn,J,H2,e,I2,T,st2,f2,W,⟨m0,w0⟩,turn⟩:=h2;subst e;have stat:∀ {H':Hp},(∀b∈fp,H' b=none)->∀b∈fp,iM X pins H' b:=fun hn b hb=>⟨hn b hb,(f2 b hb).2⟩;refine codeAny_forLoop_any (fun n s'=>∃i σ' H',Inv X pins σ' H' s'/\tn i s'.heap/\(∀b∈fp,H' b=none)/\W i n σ' H') ?_ m0 ⟨0,σ,H2,I2,st2,fun b hb=>(f2 b hb).1,w0⟩
 rintro n s3 ⟨i,σ3,H3,I3,st3,fr3,w3⟩;rcases turn i n σ3 H3 w3 with⟨stop,qn⟩|⟨go,N,hN,step⟩
 ·refine wpAny_passesOwn hp (thn (T.done X rfl rfl rfl hc i pins s3 σ3 H3 X.xe I3 (stat fr3) st3 stop) fun r s4 ⟨hr,I4⟩=>?_)
  subst hr;exact wpAny_execs_nil ⟨σ3,H3,I4,qn⟩
 ·refine wpAny_passesOwn hp (thn (T.item X rfl rfl rfl hc i pins s3 σ3 H3 X.xe I3 (stat fr3) st3 go) fun r s4 ⟨u,hr,h4⟩=>?_)
  subst hr;refine wpAny_passesOwn hp (thn h4 fun _ s5 ⟨x,H5,I5,r5,y5,st5,fr5⟩=>?_);have I5':=I5.pinned (stat fr5) (T.obj _ _ st5);refine wpAny_passesOwn hp (thn (hg _ s5 σ3 H5 x u _ I5' r5 (step x H5 y5)) fun _ s6 ⟨σ6,H6,I6,q6⟩=>?_);refine wpAny_passesOwn hp (thn (hb _ s6 σ6 H6 _ I6 q6) fun f s7 q7=>?_)
  have again:∀ {σ7:St} {H7:Hp},Inv X (pins++ku fp s5.heap) σ7 H7 s7->N σ7 H7->∃m,m<n/\∃i σ' H',Inv X pins σ' H' s7/\tn i s7.heap/\(∀b∈fp,H' b=none)/\W i m σ' H':=fun {σ7 H7} I7 n7=>by
   obtain⟨m',hm,w7⟩:=hN σ7 H7 n7;refine⟨m',hm,i+1,σ7,H7,I7.unpinned,T.keep _ _ _ st5 fun b hb o e=>(I7.pin (b,o) (List.mem_append_right _ (List.mem_append_right _ (fE hb e)))).1,fun b hb=>?_,w7⟩;obtain⟨o,e,d⟩:=T.obj _ _ st5 b hb;exact(I7.pin (b,o) (List.mem_append_right _ (List.mem_append_right _ (fE hb e)))).2.1
  cases f with
  |next=>obtain⟨σ7,H7,I7,n7⟩:=q7;exact again I7 n7
  |cont=>obtain⟨σ7,H7,I7,n7⟩:=q7;exact again I7 n7
  |brk=>obtain⟨σ7,H7,I7,q7⟩:=q7;exact⟨σ7,H7,I7.unpinned,q7⟩
  |ret v=>obtain⟨x7,σ7,H7,I7,r7,q7⟩:=q7;exact⟨x7,σ7,H7,I7.unpinned,r7,q7⟩
end
noncomputable abbrev R2:=V->V->Hp->VK->Prop
noncomputable def OpR(X:Cx)(f:Value->Value->Sem Value)(r:R2):Prop:=
 ∀(pins:List (Addr×Obj)) (s:Shared) (σ:St) (H:Hp) (x y:V) (v u:Value) (Q:VK),Inv X pins σ H s->aP x v->aP y u->r x y H Q ->
  wpAny (model X.prog X.w) X.A (f v u) (EP X pins σ Q) X.xe s
noncomputable def UnR(X:Cx)(f:Value->Sem Value)(r:V->Hp->VK->Prop):Prop:=
 ∀(pins:List (Addr×Obj)) (s:Shared) (σ:St) (H:Hp) (x:V) (v:Value) (Q:VK),Inv X pins σ H s->aP x v->r x H Q ->
  wpAny (model X.prog X.w) X.A (f v) (EP X pins σ Q) X.xe s
noncomputable def bQ(X:Cx)(f:Value)(r:List V->Hp->VK->Prop):Prop:=
 ∀(pins:List (Addr×Obj)) (s:Shared) (σ:St) (H:Hp) (xs:List V) (us:List Value) (Q:VK),Inv X pins σ H s->aB xs us->r xs H Q ->
  wpAny (model X.prog X.w) X.A (call f us) (EP X pins σ Q) X.xe s
noncomputable def DS(X:Cx)(r:V->Hp->(Bool->Hp->Prop)->Prop):Prop:=
 ∀(pins:List (Addr×Obj)) (s:Shared) (σ:St) (H:Hp) (x:V) (v:Value) (Q:Bool->Hp->Prop),Inv X pins σ H s->aP x v->r x H Q ->
  wpAny (model X.prog X.w) X.A (truthy v) (TP X pins σ Q) X.xe s
noncomputable def tOp(r:R2)(ta tb:TE):TE:=fun σ H Q=>ta σ H fun x H1=>tb σ H1 fun y H2=>r x y H2 Q
noncomputable def tUn(r:V->Hp->VK->Prop)(ta:TE):TE:=fun σ H Q=>ta σ H fun x H1=>r x H1 Q
noncomputable def rI(C:Int->Int->Prop)(g:Int->Int->V):R2:=fun x y H Q=>∃i j,x=.int i/\y=.int j/\C i j/\Q (g i j) H
noncomputable def rI0(g:Int->Int->V):R2:=fun x y H Q=>∃i j,x=.int i/\y=.int j/\Q (g i j) H
noncomputable def rU(g:Int->V):V->Hp->VK->Prop:=fun x H Q=>∃i,x=.int i/\Q (g i) H
section
variable{X:Cx}{a b c:Expr}{ta tb tc:TE}{pos:Pos}
theorem Br(ha:PE X a ta)(hb:PE X b tb){pins:List (Addr×Obj)}{s:Shared}{σ:St}{H:Hp}{R:V->V->Hp->Prop}(I:Inv X pins σ H s)(h:ta σ H fun x H1=>tb σ H1 fun y H2=>R x y H2){Q:Value->Shared->Prop}{f:Value->Value->Sem Value}(hf:∀v u s2 x y H2,Inv X pins σ H2 s2->aP x v->aP y u->R x y H2->wpAny (model X.prog X.w) X.A (f v u) Q X.xe s2):
  wpAny (model X.prog X.w) X.A (eval a X.env) (fun v s₁=>wpAny (model X.prog X.w) X.A (eval b X.env) (fun u s₂=>wpAny (model X.prog X.w) X.A (f v u) Q X.xe s₂) X.xe s₁) X.xe s:=by
 refine thn (ha pins s σ H _ I h) fun v s1 ⟨x,H1,I1,r1,q1⟩=>?_;refine thn (hb pins s1 σ H1 _ I1 q1) fun u s2 ⟨y,H2,I2,r2,q2⟩=>?_;exact hf v u s2 x y H2 I2 r1 r2 q2
theorem aD{op:Operator}{r:R2}(ho:OpR X (binaryOp op) r)(ha:PE X a ta)(hb:PE X b tb):PE X (.BinOp a op b pos) (tOp r ta tb):=.mk <| by
 intro pins s σ H Q I h;exact wpAny_BinOp (Br ha hb I h fun v u s2 x y H2 I2 rx ry q=>ho pins s2 σ H2 x y v u Q I2 rx ry q)
theorem qM{op:UnaryOp}{r:V->Hp->VK->Prop}(ho:UnR X (unaryOp op) r)(ha:PE X a ta):PE X (.UnaryOp op a pos) (tUn r ta):=.mk <| by
 intro pins s σ H Q I h;exact UnaryOp_ (thn (ha pins s σ H _ I h) fun v s1 ⟨x,H1,I1,r1,q1⟩=>ho pins s1 σ H1 x v Q I1 r1 q1)
theorem opI{f:Value->Value->Sem Value}{C:Int->Int->Prop}{g:Int->Int->Int}(rule:∀(i j:Int)(t u:Tok)(s:Shared)(Q:Value->Shared->Prop)(E:Value->Shared->Prop),C i j->Q (.int (g i j) s.toks) { s with toks:=s.toks+1 }->wpAny (model X.prog X.w) X.A (f (.int i t) (.int j u)) Q E s):
  OpR X f (rI C fun i j=>.int (g i j)):=by
 intro pins s σ H x y v u Q I rx ry h;obtain⟨i,j,rfl,rfl,hc,q⟩:=h;obtain⟨t,rfl⟩:=rx;obtain⟨t',rfl⟩:=ry;exact rule i j t t' s _ _ hc ⟨.int (g i j),H,I.tok _,⟨_,rfl⟩,q⟩
theorem A0{f:Value->Value->Sem Value}{g:Int->Int->Int}(rule:∀(i j:Int)(t u:Tok)(s:Shared)(Q:Value->Shared->Prop)(E:Value->Shared->Prop),Q (.int (g i j) s.toks) { s with toks:=s.toks+1 }->wpAny (model X.prog X.w) X.A (f (.int i t) (.int j u)) Q E s):
  OpR X f (rI0 fun i j=>.int (g i j)):=by
 intro pins s σ H x y v u Q I rx ry h;obtain⟨i,j,rfl,rfl,q⟩:=h;obtain⟨t,rfl⟩:=rx;obtain⟨t',rfl⟩:=ry;exact rule i j t t' s _ _ ⟨.int (g i j),H,I.tok _,⟨_,rfl⟩,q⟩
theorem BK{f:Value->Value->Sem Value}{g:Int->Int->Bool}(rule:∀(i j:Int)(t u:Tok)(s:Shared)(Q:Value->Shared->Prop)(E:Value->Shared->Prop),Q (.bool (g i j)) s->wpAny (model X.prog X.w) X.A (f (.int i t) (.int j u)) Q E s):
  OpR X f (rI0 fun i j=>.bl (g i j)):=by
 intro pins s σ H x y v u Q I rx ry h;obtain⟨i,j,rfl,rfl,q⟩:=h;obtain⟨t,rfl⟩:=rx;obtain⟨t',rfl⟩:=ry;exact rule i j t t' s _ _ ⟨.bl (g i j),H,I,rfl,q⟩
noncomputable def DA(i j:Int):Prop:=0<j/\j<1073741824
noncomputable def Da(i j:Int):Prop:=0<=j/\j<=1000000/\i.natAbs<2^64
noncomputable def kW(i j:Int):Prop:=(-(2^64)<i/\i<2^64)\/(-(2^64)<j/\j<2^64)
theorem kW.ok{i j:Int}(h:kW i j):IntMulOk i j:=by
 rcases h with⟨h1,h2⟩|⟨h1,h2⟩
 ·exact .of_left (intBits_le_64 h1 h2)
 ·exact .of_right (intBits_le_64 h1 h2)
theorem qe(k:Nat):(0:Int)<=2^k:=by
 rw[two_pow_cast];exact Int.natCast_nonneg _
theorem aQ:OpR X (binaryOp .Add) (rI0 fun i j=>.int (i+j)):=A0 fun _ _ _ _ _ _ _ q=>add_int q
theorem mI:OpR X (binaryOp .Sub) (rI0 fun i j=>.int (i-j)):=A0 fun _ _ _ _ _ _ _ q=>sub_int q
theorem eL:OpR X (binaryOp .Mult) (rI kW fun i j=>.int (i*j)):=opI fun _ _ _ _ _ _ _ hc q=>mul_int q hc.ok
theorem sD:OpR X (binaryOp .FloorDiv) (rI DA fun i j=>.int (i / j)):=opI fun i j _ _ _ _ _ hc q=>by
 have h1:(0:Int)<j:=hc.1;have h2:j<1073741824:=hc.2;exact floordiv_int (by omega) (by rw[Int.fdiv_eq_ediv_of_nonneg i (by omega)];exact q) (.inl (PyProof.noPylong_small (by omega)))
theorem f9:OpR X (binaryOp .Mod) (rI (fun _ j=>0<j) fun i j=>.int (i%j)):=opI fun i j _ _ _ _ _ hc q=>by
 have h1:(0:Int)<j:=hc;exact mod_int' (by omega) (by rw[Int.fmod_eq_emod_of_nonneg i (by omega)];exact q)
theorem qq:OpR X (binaryOp .Pow) (rI Da fun i j=>.int (i^j.toNat)):=opI fun _ _ _ _ _ _ _ hc q=>pow_int_small hc.1 hc.2.1 hc.2.2 q
theorem BF:OpR X (binaryOp .LShift) (rI Da fun i j=>.int (i*2^j.toNat)):=opI fun _ _ _ _ _ _ _ hc q=>lshift_int_small hc.1 hc.2.1 hc.2.2 q
theorem Ai:OpR X (binaryOp .RShift) (rI (fun _ j=>0<=j) fun i j=>.int (i / 2^j.toNat)):=opI fun i j _ _ _ _ _ hc q=>
 rshift_int hc (by rw[Int.fdiv_eq_ediv_of_nonneg i (qe _)];exact q)
theorem As:OpR X (binaryOp .BitAnd) (rI0 fun i j=>.int (Builtin.bitAnd i j)):=A0 fun _ _ _ _ _ _ _ q=>and_int q
theorem unI{f:Value->Sem Value}{g:Int->Int}(rule:∀(i:Int)(t:Tok)(s:Shared)(Q:Value->Shared->Prop)(E:Value->Shared->Prop),Q (.int (g i) s.toks) { s with toks:=s.toks+1 }->wpAny (model X.prog X.w) X.A (f (.int i t)) Q E s):
  UnR X f (rU fun i=>.int (g i)):=by
 intro pins s σ H x v Q I rx h;obtain⟨i,rfl,q⟩:=h;obtain⟨t,rfl⟩:=rx;exact rule i t s _ _ ⟨.int (g i),H,I.tok _,⟨_,rfl⟩,q⟩
theorem mO:UnR X (unaryOp .USub) (rU fun i=>.int (-i)):=unI fun _ _ _ _ _ q=>neg_int q
end
section
variable{X:Cx}{a b c:Expr}{ta tb tc:TE}{pos:Pos}
theorem z8:OpR X (compareOp .Lt) (rI0 fun i j=>.bl (decide (i<j))):=BK fun _ _ _ _ _ _ _ q=>lt_int q
theorem qK:OpR X (compareOp .LtE) (rI0 fun i j=>.bl (decide (i<=j))):=BK fun _ _ _ _ _ _ _ q=>le_int q
theorem Db:OpR X (compareOp .Gt) (rI0 fun i j=>.bl (decide (j<i))):=BK fun _ _ _ _ _ _ _ q=>gt_int q
theorem bI(b:Expr){op:CmpOp}(h:op≠.In:=by decide)(h2:op≠.NotIn:=by decide):behindInMarks op b=false:=by
 have e1:(op == CmpOp.In)=false:=by cases op<;>first|rfl|exact absurd rfl h
 have e2:(op == CmpOp.NotIn)=false:=by cases op<;>first|rfl|exact absurd rfl h2
 cases b<;>simp[behindInMarks,e1,e2]
theorem m6{op:CmpOp}{r:R2}(ho:OpR X (compareOp op) r)(ha:PE X a ta)(hb:PE X b tb)(hm:behindInMarks op b=false):PE X (.Compare a [op] [b] pos) (tOp r ta tb):=.mk <| by
 intro pins s σ H Q I h;exact wpAny_Compare1 (Br ha hb I h fun v u s2 x y H2 I2 rx ry q=>ho pins s2 σ H2 x y v u Q I2 rx ry q) hm
noncomputable def zq(t:TE):TT:=fun σ H Q=>t σ H fun x H'=>∃k,x=.bl k/\Q k H'
theorem bt{op:CmpOp}{r:R2}(ho:OpR X (compareOp op) r)(ha:PE X a ta)(hb:PE X b tb)(hm:behindInMarks op b=false):PT X (.Compare a [op] [b] pos) (zq (tOp r ta tb)):=by
 intro pins s σ H Q I h
 refine wpAny_isTrue_Compare1 (thn (ha pins s σ H _ I h) fun v s1 ⟨x,H1,I1,r1,q1⟩=>thn (hb pins s1 σ H1 _ I1 q1) fun u s2 ⟨y,H2,I2,r2,q2⟩=>
  thn (ho pins s2 σ H2 x y v u _ I2 r1 r2 q2) fun c s3 ⟨z,H3,I3,r3,k,e,q3⟩=>?_) hm
 subst e;cases r3;exact wpAny_truthy_bool ⟨H3,I3,q3⟩
noncomputable def wL(r r':R2)(ta tb tc:TE):TE:=fun σ H Q=>ta σ H fun x H1=>tb σ H1 fun y H2=>r x y H2 fun z H3=>∃k,z=.bl k /\
 (if k=true then tc σ H3 fun w' H4=>r' y w' H4 Q else Q (.bl false) H3)
theorem nR{op op':CmpOp}{r r':R2}(ho:OpR X (compareOp op) r)(ho':OpR X (compareOp op') r')(ha:PE X a ta)(hb:PE X b tb)(hc:PE X c tc)(hm:lastMarks [op,op'] [b,c]=false:=by with_unfolding_all rfl):PE X (.Compare a [op,op'] [b,c] pos) (wL r r' ta tb tc):=.mk <| by
 intro pins s σ H Q I h
 refine Compare_chain (thn (ha pins s σ H _ I h) fun v s1 ⟨x,H1,I1,r1,q1⟩=>chain_link (thn (hb pins s1 σ H1 _ I1 q1) fun u s2 ⟨y,H2,I2,r2,q2⟩=>
  thn (ho pins s2 σ H2 x y v u _ I2 r1 r2 q2) fun d s3 ⟨z,H3,I3,r3,k,e,q3⟩=>?_)) hm
 subst e;cases r3;refine wpAny_truthy_bool ?_
 cases k with
 |false=>exact ite_ff ⟨.bl false,H3,I3,rfl,q3⟩
 |true=>exact ite_tt (chain_last (thn (hc pins s3 σ H3 _ I3 q3) fun w' s4 ⟨z',H4,I4,r4,q4⟩=>ho' pins s4 σ H4 y z' u w' Q I4 r2 r4 q4))
noncomputable def nI(K:W.Frag)(x:V)(H:Hp)(k:Bool):Prop:=
 match x with
 |.non=>k=false
 |.bl b=>k=b
 |.int i=>k=(i != 0)
 |.str y=>y.length<=sizeLine/\k=((y.length:Int) != 0)
 |.byt y=>y.size<=sizeLine/\k=((y.size:Int) != 0)
 |.ref p=>(∃xs,SqL K H p xs/\k=!xs.isEmpty)\/(∃xs,SqT K H p xs/\k=!xs.isEmpty)\/∃kvs,H p=some (.dK kvs)/\k=!kvs.isEmpty
 |_=>False
theorem qh{κ:Type}{kvs:List (κ×V)}{vs:List (κ×Value)}(r:KV kvs vs):(!vs.isEmpty)=!kvs.isEmpty:=by
 cases r<;>rfl
theorem kf{xs:List V}{its:List Value}(r:aB xs its):(!its.toArray.isEmpty)=!xs.isEmpty:=by
 cases r<;>simp
theorem iK:(sizeLine:Nat)<2^63:=by rw[sizeLine_eq];decide
theorem qj:DS X (fun x H Q=>∃k,nI X.K x H k/\Q k H):=by
 intro pins s σ H x v Q I rx h;obtain⟨k,e,q⟩:=h;have hl:=iK;have hs:sizeLine=16777216:=sizeLine_eq
 cases x with
 |non=>
  cases rx;have e':k=false:=e;subst e';exact truthy_none ⟨H,I,q⟩
 |bl b=>
  cases rx;have e':k=b:=e;subst e';exact wpAny_truthy_bool ⟨H,I,q⟩
 |int i=>
  obtain⟨t,rfl⟩:=rx;have e':k=(i != 0):=e;subst e';exact PySem.P.truthy_int ⟨H,I,q⟩
 |str y=>
  obtain⟨t,rfl⟩:=rx;obtain⟨hy,e'⟩:y.length<=sizeLine/\k=((y.length:Int) != 0):=e;subst e';exact PySem.P.truthy_str (by omega) ⟨H,I.tok _,q⟩
 |byt y=>
  obtain⟨t,rfl⟩:=rx;obtain⟨hy,e'⟩:y.size<=sizeLine/\k=((y.size:Int) != 0):=e;subst e';exact W.truthy_bytes (by omega) ⟨H,I.tok _,q⟩
 |ref p=>
  cases rx;have e':(∃xs,SqL X.K H p xs/\k=!xs.isEmpty)\/(∃xs,SqT X.K H p xs/\k=!xs.isEmpty)\/∃kvs,H p=some (.dK kvs)/\k=!kvs.isEmpty:=e;rcases e' with⟨xs,hx,e'⟩|⟨xs,hx,e'⟩|⟨kvs,hx,e'⟩
  ·subst e'
   obtain⟨its,r,pl,hz⟩:=I.list hx;have hlen:=r.length;exact wpAny_truthy_list pl.isList (by simp only[List.size_toArray];omega) ⟨H,I.tok _,by rw[kf r];exact q⟩
  ·subst e'
   obtain⟨its,r,pl,hz⟩:=I.tuple hx;have hlen:=r.length;exact truthy_tuple pl (by simp only[List.size_toArray];omega) ⟨H,I.tok _,by rw[kf r];exact q⟩
  ·subst e'
   obtain⟨hz,hS,vs,r,m⟩:kvs.length<=sizeLine/\(p == sysModules)=false/\∃vs,KV kvs vs/\s.heap.DictOf (bE X.prog X.w) p vs:=I.hok p _ hx;have hlen:kvs.length=vs.length:=Paired.length r;exact wpAny_truthy_dict hS m (by omega) ⟨H,I.tok _,by rw[qh r];exact q⟩
 |_=>exact(show False from e).elim
theorem vf(ha:PE X a ta)(he:∀whole,isTrue a X.env whole=(do let v ← whole;standAt a.pos;holding [v] (truthy v))):
  PT X a (fun σ H Q=>ta σ H fun x H'=>∃k,nI X.K x H' k/\Q k H'):=by
 intro pins s σ H Q I h;exact isTrue_plain (thn (ha pins s σ H _ I h) fun v s1 ⟨x,H1,I1,r1,q1⟩=>qj pins s1 σ H1 x v Q I1 r1 q1) (he _)
theorem fM{x:V}{us:List Value}(r:aB [x] us):∃u,us=[u]/\aP x u:=by
 cases r with
 |cons r1 r2=>cases r2;exact⟨_,rfl,r1⟩
theorem xq{x y:V}{us:List Value}(r:aB [x,y] us):∃u w',us=[u,w']/\aP x u/\aP y w':=by
 cases r with
 |cons r1 r2=>
  cases r2 with
  |cons r3 r4=>cases r4;exact⟨_,_,rfl,r1,r3⟩
theorem vL:bQ X (.builtin "abs") (fun xs H Q=>∃i,xs=[.int i]/\Q (.int (if i<0 then -i else i)) H):=by
 intro pins s σ H xs us Q I r h;obtain⟨i,rfl,q⟩:=h;obtain⟨u,rfl,t,rfl⟩:=fM r;exact call_abs_int fun u tk=>⟨.int (if i<0 then -i else i),H,I.tok _,⟨_,rfl⟩,q⟩
theorem uh(hc:X.calm=true):bQ X (.builtin "max") (fun xs H Q=>∃i j,xs=[.int i,.int j]/\Q (.int (if j>i then j else i)) H):=by
 intro pins s σ H xs us Q I r h;obtain⟨i,j,rfl,q⟩:=h;obtain⟨u,w',rfl,⟨t,rfl⟩,⟨t',rfl⟩⟩:=xq r;refine max_two_ints (I.ok.hd hc) fun h' tk k=>⟨_,H,I.kept k,?_,q⟩;by_cases hj:j>i
 ·rw[if_pos hj,if_pos hj];exact⟨_,rfl⟩
 ·rw[if_neg hj,if_neg hj];exact⟨_,rfl⟩
theorem lg(hc:X.calm=true):bQ X (.builtin "min") (fun xs H Q=>∃i j,xs=[.int i,.int j]/\Q (.int (if j<i then j else i)) H):=by
 intro pins s σ H xs us Q I r h;obtain⟨i,j,rfl,q⟩:=h;obtain⟨u,w',rfl,⟨t,rfl⟩,⟨t',rfl⟩⟩:=xq r;refine min_two_ints (I.ok.hd hc) fun h' tk k=>⟨_,H,I.kept k,?_,q⟩;by_cases hj:j<i
 ·rw[if_pos hj,if_pos hj];exact⟨_,rfl⟩
 ·rw[if_neg hj,if_neg hj];exact⟨_,rfl⟩
theorem k7:bQ X (.type "int") (fun xs H Q=>(∃i,xs=[.int i]/\Q (.int i) H)\/∃k,xs=[.bl k]/\Q (.int (if k then 1 else 0)) H):=by
 intro pins s σ H xs us Q I r h;rcases h with⟨i,rfl,q⟩|⟨k,rfl,q⟩
 ·obtain⟨u,rfl,t,rfl⟩:=fM r
  exact call_int_int ⟨.int i,H,I,⟨_,rfl⟩,q⟩
 ·obtain⟨u,rfl,r1⟩:=fM r
  cases r1;exact call_int_bool ⟨.int (if k then 1 else 0),H,I.tok _,⟨_,rfl⟩,q⟩
noncomputable def yi(K:W.Frag)(x:V)(H:Hp)(n:Nat):Prop:=
 match x with
 |.str y=>y.length<=sizeLine/\n=y.length
 |.byt y=>y.size<=sizeLine/\n=y.size
 |.ref p=>(∃xs,SqL K H p xs/\n=xs.length)\/∃xs,SqT K H p xs/\n=xs.length
 |_=>False
theorem vN:bQ X (.builtin "len") (fun xs H Q=>∃x n,xs=[x]/\yi X.K x H n/\Q (.int n) H):=by
 intro pins s σ H xs us Q I r h;obtain⟨x,n,rfl,e,q⟩:=h;obtain⟨u,rfl,rx⟩:=fM r;have hl:=iK;have hs:sizeLine=16777216:=sizeLine_eq
 cases x with
 |str y=>
  obtain⟨t,rfl⟩:=rx;obtain⟨hy,e'⟩:y.length<=sizeLine/\n=y.length:=e;subst e';exact len_str (by omega) ⟨.int _,H,I.tok _,⟨_,rfl⟩,q⟩
 |byt y=>
  obtain⟨t,rfl⟩:=rx;obtain⟨hy,e'⟩:y.size<=sizeLine/\n=y.size:=e;subst e';exact W.len_bytes (by omega) ⟨.int _,H,I.tok _,⟨_,rfl⟩,q⟩
 |ref p=>
  cases rx;have e':(∃xs,SqL X.K H p xs/\n=xs.length)\/∃xs,SqT X.K H p xs/\n=xs.length:=e;rcases e' with⟨xs,hx,e'⟩|⟨xs,hx,e'⟩
  ·subst e'
   obtain⟨its,r',pl,hz⟩:=I.list hx;have hlen:=r'.length;exact Calls.call_len_list pl.isList (by simp only[List.size_toArray];omega) ⟨.int xs.length,H,I.tok _,⟨_,by simp only[List.size_toArray];rw[hlen]⟩,q⟩
  ·subst e'
   obtain⟨its,r',pl,hz⟩:=I.tuple hx;have hlen:=r'.length;exact len_tuple pl (by simp only[List.size_toArray];omega) ⟨.int xs.length,H,I.tok _,⟨_,by simp only[List.size_toArray];rw[hlen]⟩,q⟩
 |_=>exact(show False from e).elim
end
structure A3(h:Heap)(x dx C:Addr)(mA:Str->Option Value):Prop where
 obj:h.get? x=some (W.instObj C dx)
 ns:h.Ns1 dx mA
 ne:dx≠x
theorem uG{h:Heap}{dx:Addr}{mA:Str->Option Value}(n:h.Ns1 dx mA):∃od,h.get? dx=some od/\∀name,W.lookIn name od=some (mA name):=by
 obtain⟨o,es,ep,ho,hd,hk,_,hm⟩:=n;refine⟨o,ho,fun name=>?_⟩;have e:=hm name;unfold nsFind findBy at e;rw[←Array.find?_toList] at e
 unfold W.lookIn;rw[hd];dsimp only;split
 ·rename_i y q
  rw[q] at e;exact congrArg some e
 ·rename_i q
  rw[q] at e
  have a:es.toList.any (·.refKey)=false:=by
   rw[List.any_eq_false];intro y hy;obtain⟨z,t,hkey⟩:=hk y (Array.mem_toList_iff.mp hy);simp[DictEntry.refKey,hkey]
  have a':¬ es.toList.any (·.refKey)=true:=by rw[a];exact Bool.false_ne_true
  rw[if_neg a'];exact congrArg some e
theorem A3.look{h:Heap}{x dx C:Addr}{mA:Str->Option Value}(I:A3 h x dx C mA):∃od,W.InstAt h x (W.instObj C dx) C (some od)/\∀name,W.lookIn name od=some (mA name):=
 let ⟨od,ho,hl⟩:=uG I.ns
 ⟨od,⟨I.obj,rfl,rfl,ho⟩,hl⟩
section
variable{P:Program}{w:World}{H H':Hp}{h h':Heap}{a C dx:Addr}{fs fs':List (Str×V)}
theorem yB(hok:HOk P w H h)(e:H a=some (.ins C dx fs)):∃mA,A3 h a dx C mA/\(∀f,By (fs.lookup f) (mA f))/\PySem.Within mA (fs.map (·.1))/\fs.length<=1000/\H dx=some (.own a):=by
 obtain⟨d,z,ne,ob,mA,n,r,q⟩:=(show bq P w H h a (.ins C dx fs) from hok a _ e)
 exact⟨mA,⟨ob,n,ne⟩,r,q,z,d⟩
end
structure Cls(K:W.Frag)(C:Addr):Prop where
 pg:W.plainGet K C Str.empty=true
 hd:W.hasDictIn K C=true
 po:W.plainOver K C=true
 sa:W.findIn K (.ref C) "__setattr__"=some (some (.builtin "object.__setattr__"))
theorem Cls.get{K:W.Frag}{C:Addr}(c:Cls K C)(f:Str):W.plainGet K C f=true:=c.pg
structure Con(K:W.Frag)(C:Addr)(f:Str)(v:V)(u:Value):Prop where
 at_:W.findIn K (.ref C) f=some (some u)
 rel:aP v u
 get:W.specialIn K u "__get__"=some none
 cp:W.copiedNames.contains f=false
structure DY(K:W.Frag)(C:Addr)(m:Str)(f:Addr):Prop where
 at_:W.findIn K (.ref C) m=some (some (.ref f))
 fn:W.isFn K (.ref f)=true
 kp:W.keepIn K (.ref f)=true
section
variable{X:Cx}{pins:List (Addr×Obj)}{σ:St}{H:Hp}{s:Shared}{A:Around}{E:Value->Shared->Prop}{Q:Value->Shared->Prop}{c:Value}{b:Bool}
inductive iG (K:PySem.W.Frag) (H:Hp):V->Value->Prop where
 |non:iG K H .non (.type "NoneType")
 |bl (x:Bool):iG K H (.bl x) (.type "bool")
 |int (i:Int):iG K H (.int i) (.type "int")
 |str (x:Str):iG K H (.str x) (.type "str")
 |flt (x:UInt64):iG K H (.flt x) (.type "float")
 |lst {a:Addr} {xs:List V} (e:H a=some (.lst xs)):iG K H (.ref a) (.type "list")
 |frz {a:Addr} {o:Obj} {xs:List V} (e:H a=some (.frz o (.lst xs))):iG K H (.ref a) (.type "list")
 |tup {a:Addr} {xs:List V} (e:H a=some (.tup xs)):iG K H (.ref a) (.type "tuple")
 |dK {a:Addr} {kvs:List (Key×V)} (e:H a=some (.dK kvs)):iG K H (.ref a) (.type "dict")
 |dT {a:Addr} {kvs:List (List Key×V)} (e:H a=some (.dT kvs)):iG K H (.ref a) (.type "dict")
 |ins {a C dx:Addr} {fs:List (Str×V)} (e:H a=some (.ins C dx fs)) (cl:Cls K C) (ha:PySem.W.findIn K (.ref C) "__class__"=some (some (.builtin "object.__class__")))
   (hn:PySem.W.specialIn K (.builtin "object.__class__") "__get__"=some (some (.builtin "getset_descriptor.__get__"))) (htk:PySem.W.takesIn K (.builtin "object.__class__")=some true)
   (hm:PySem.W.mroIn K C (.type "object")=some true):iG K H (.ref a) (.ref C)
theorem t8{x:V}{u t:Value}(I:Inv X pins σ H s)(rx:aP x u)(ty:iG X.K H x t)(e:W.kitOne X.K t c=some b)(h:∀tk,Q (.bool b) { s with toks:=tk }):
  wpAny (model X.prog X.w) A (call (.builtin "isinstance") [u,c]) Q E s:=by
 cases ty with
 |non=>cases (show u=Value.none from rx);exact W.kia_one W.kitx_none I.kIn True.intro e (fun z=>nomatch z) h
 |bl y=>cases (show u=Value.bool y from rx);exact W.kia_one W.kitx_bool I.kIn True.intro e (fun z=>nomatch z) h
 |int i=>obtain⟨t,q⟩:=(show ∃t,u=Value.int i t from rx);cases q;exact W.kia_one W.kitx_int I.kIn True.intro e (fun z=>nomatch z) h
 |str y=>obtain⟨t,q⟩:=(show ∃t,u=Value.str y t from rx);cases q;exact W.kia_one W.kitx_str I.kIn True.intro e (fun z=>nomatch z) h
 |flt y=>obtain⟨t,q⟩:=(show ∃t,u=Value.float y t from rx);cases q;exact W.kia_one W.kitx_float I.kIn True.intro e (fun z=>nomatch z) h
 | @lst a xs ea=>
  cases (show u=Value.ref a from rx)
  obtain⟨_,_,n,_,h1⟩:=(show bq X.prog X.w H s.heap a (.lst xs) from I.hok a _ ea)
  exact W.kia_one W.kitx_list I.kIn ⟨_,h1,rfl⟩ e (fun z=>nomatch z) h
 | @frz a ob xs ea=>
  cases (show u=Value.ref a from rx)
  obtain⟨_,_,_,n,_,h1⟩:=(show bq X.prog X.w H s.heap a (.frz ob (.lst xs)) from I.hok a _ ea)
  exact W.kia_one W.kitx_list I.kIn ⟨_,h1,rfl⟩ e (fun z=>nomatch z) h
 | @tup a xs ea=>
  cases (show u=Value.ref a from rx)
  obtain⟨_,_,_,p⟩:=(show bq X.prog X.w H s.heap a (.tup xs) from I.hok a _ ea)
  obtain⟨o,h1,h2,_⟩:=p.1;exact W.kia_one W.kitx_tuple I.kIn ⟨o,h1,h2⟩ e (fun z=>nomatch z) h
 | @dK a kvs ea=>
  cases (show u=Value.ref a from rx)
  obtain⟨_,_,vs,_,p⟩:=(show bq X.prog X.w H s.heap a (.dK kvs) from I.hok a _ ea)
  obtain⟨o,es,ep,h1,h2,_⟩:=p;exact W.kia_one W.kitx_dict I.kIn ⟨o,h1,h2.1⟩ e (fun z=>nomatch z) h
 | @dT a kvs ea=>
  cases (show u=Value.ref a from rx)
  obtain⟨_,_,xs,_,o,es,ep,h1,h2,_⟩:=(show bq X.prog X.w H s.heap a (.dT kvs) from I.hok a _ ea)
  exact W.kia_one W.kitx_dict I.kIn ⟨o,h1,h2.1⟩ e (fun z=>nomatch z) h
 | @ins a C dx fs ea cl ha hn htk hm=>
  cases (show u=Value.ref a from rx)
  obtain⟨mA,O,_⟩:=yB I.hok ea;obtain⟨od,J,_⟩:=O.look;exact W.kia_one (W.kitx_own (cl.get _) cl.hd ha hn htk hm) I.kIn J e (fun z=>nomatch z) h
end
structure dn(k:Nat)(A:Around):Prop where
 hd:A.handled=none
 dp:A.depth+3*k+5<recursionLimit
 un:A.units+16*k+200<cLine
 gd:A.guards=some []
theorem dn.mono{j k:Nat}{A:Around}(r:dn k A)(h:j<=k):dn j A:=⟨r.hd,by have:=r.dp;omega,by have:=r.un;omega,r.gd⟩
theorem dn.deeper{k:Nat}{A:Around}(r:dn (k+1) A)(env:Env):dn k (A.deeper env):=
 ⟨r.hd,by have:=r.dp;show A.depth+1+3*k+5<_;omega,by have:=r.un;show A.units+3+16*k+200<_;omega,r.gd⟩
theorem dn.depth{k:Nat}{A:Around}(r:dn k A):A.depth<recursionLimit:=by have:=r.dp;omega
theorem dn.units{k:Nat}{A:Around}(r:dn k A):A.units+64<cLine:=by have:=r.un;omega
noncomputable def xU:TA:=fun _ H Q=>Q [] H
noncomputable def ic(ta:TE)(tr:TA):TA:=fun σ H Q=>ta σ H fun x H1=>tr σ H1 fun xs H2=>Q (x::xs) H2
section
variable{X:Cx}{e:Expr}{es:List Expr}{te:TE}{t:TA}{pos:Pos}
theorem af:PA X [] xU:=.mk <| fun _ _ _ _ H Q I h=>Calls.spliced_nil ⟨[],H,I,.nil,h⟩
theorem ac(ha:PE X e te)(hr:PA X es t)(hs:starEach (e::es) X.env=(false,eval e X.env)::starEach es X.env:=by rfl):PA X (e::es) (ic te t):=.mk <| by
 intro pos pins s σ H Q I h;rw[hs];show wpAny _ _ (spliced ((false,eval e X.env)::backTo pos (starEach es X.env))) _ _ s;refine Calls.spliced_cons (thn (ha pins s σ H _ I h) fun u s1 ⟨x,H1,I1,r1,q1⟩=>?_);exact thn (hr pos pins s1 σ H1 _ I1 q1) fun us s2 ⟨xs,H2,I2,r2,q2⟩=>⟨x::xs,H2,I2,.cons r1 r2,q2⟩
noncomputable def yQ(t:TA):TE:=fun σ H Q=>t σ H fun xs H1=>xs.length<=sizeLine/\∀p,H1 p=none->Q (.ref p) (upd H1 p (.tup xs))
noncomputable def A1(t:TA):TE:=fun σ H Q=>t σ H fun xs H1=>xs.length<=sizeLine/\∀p,H1 p=none->Q (.ref p) (upd H1 p (.lst xs))
theorem bh{x1}(h:PA X es t):PE X (.Tuple es x1 pos) (yQ t):=.mk <| by
 intro pins s σ H Q I hq;refine wpAny_Tuple_spliced (thn (h pos pins s σ H _ I hq) fun us s1 ⟨xs,H1,I1,r,z,q⟩=>⟨by rw[←r.length];exact z,?_⟩)
 have hf:H1 s1.heap.objs.size=none:=I1.hok.fresh (Nat.le_refl _);refine⟨.ref s1.heap.objs.size,upd H1 s1.heap.objs.size (.tup xs),I1.laid (t':=s1.toks) (fun b u e=>Heap.get?_push_of_some _ e) (Nat.le_refl _) ?_,rfl,q _ hf⟩;exact⟨z,us,r,⟨_,Heap.get?_push_size _ rfl,rfl,_,rfl⟩,_,Heap.get?_push_size _ rfl,rfl⟩
theorem bK(h:PA X es t):PE X (.List es pos) (A1 t):=.mk <| by
 intro pins s σ H Q I hq;refine wpAny_List_spliced (thn (h pos pins s σ H _ I hq) fun us s1 ⟨xs,H1,I1,r,z,q⟩=>⟨by rw[←r.length];exact z,?_⟩)
 have hf:H1 s1.heap.objs.size=none:=I1.hok.fresh (Nat.le_refl _);refine⟨.ref s1.heap.objs.size,upd H1 s1.heap.objs.size (.lst xs),I1.laid (t':=s1.toks) (fun b u e=>Heap.get?_push_of_some _ e) (Nat.le_refl _) ?_,rfl,q _ hf⟩;exact⟨z,us,0,r,Heap.get?_push_size _ rfl⟩
end
noncomputable abbrev Sp:=List V->Hp->VK->XK->Prop
noncomputable abbrev CXT:=List Env->Hp->Shared->XK->Value->Shared->Prop
structure tL(P:Program)(w:World)(K:W.Frag)(mg:Str->Option Value)(base:Heap)(A:Around)(outer:List Env)(s:Shared)(H:Hp):Prop where
 frames:A.frames=some outer
 mod:Mod K mg base
 bs:∀b o,base.get? b=some o->s.heap.get? b=some o/\H b=none
 bsz:base.objs.size<=s.heap.objs.size
 funs:s.heap.FunFrames base outer
 frf:∀b∈frs outer,H b=none
 tt:tq K H
 hok:HOk P w H s.heap
 bare:AllBare s.gens
noncomputable def CE(outer:List Env)(P:Program)(w:World)(H:Hp)(s:Shared)(Q:VK)(u:Value)(s':Shared):Prop:=
 ∃v H',s'.os=s.os/\AllBare s'.gens/\Un (frs outer) [] H H' s.heap s'.heap/\HOk P w H' s'.heap/\aP v u/\Q v H'
noncomputable def CR(CX:CXT)(outer:List Env)(P:Program)(w:World)(H:Hp)(s:Shared)(Q:VK)(E:XK)(r:Result)(s':Shared):Prop:=
 match r with
 |.ok (.ret u)=>CE outer P w H s Q u s'
 |.ok _=>False
 |.error e=>CX outer H s E e s'
structure aY(P:Program)(w:World)(K:W.Frag)(mg:Str->Option Value)(base:Heap)(CX:CXT)(k:Nat)(f:Addr)(fd:FuncData)(ps:List Str)(sp:Sp):Prop where
 len:∀vs H Q E,sp vs H Q E->vs.length=ps.length
 run:∀(A:Around)(outer:List Env)(s:Shared)(H:Hp)(args:Args)(us:List Value)(vs:List V)(Q:VK)(E:XK),dn k A->tL P w K mg base A outer s H->BindsTo s fd args (ps.zip us)->aB vs us->sp vs H Q E ->
  codeAny (model P w) A (.call (.ref f) args) (CR CX outer P w H s Q E) s
section
variable{X:Cx}{pins:List (Addr×Obj)}{σ:St}{H:Hp}{s s':Shared}
theorem Inv.env0(I:Inv X pins σ H s):tL X.prog X.w X.K X.mg X.base X.A X.stack s H:=
 ⟨I.ok.frames,I.ok.mod,I.bs,Nat.le_trans I.ok.bsz I.sz,I.stack,I.Ea,I.ok.tt.mono I.base.tbls,I.hok,I.bare⟩
theorem Inv.after{Q:VK}{u:Value}(I:Inv X pins σ H s)(h:CE X.stack X.prog X.w H s Q u s'):EP X pins σ Q u s':=by
 obtain⟨v,H',os,bare,un,hok,r,q⟩:=h;obtain⟨hh,g,d,t,os'⟩:=s';obtain rfl:os'=s.os:=os;exact⟨v,H',I.call (h':=hh) (g':=g) (d':=d) (t':=t) (ch:=[]) un hok bare (fun b z=>absurd z (by simp)),r,q⟩
end
noncomputable def lX(sp:Sp)(dvs:List V)(E:XK)(t:TA):TE:=fun σ H Q=>t σ H fun vs H1=>sp (vs++dvs) H1 Q E
noncomputable def bB(K:W.Frag)(fd:FuncData)(ps:List Str)(ds:List Value):Prop:=
 ∀(s:Shared)(us:List Value),K.In s.heap->(us++ds).length=ps.length->BindsTo s fd ⟨us,[]⟩ (ps.zip (us++ds))
theorem bB.all{K:W.Frag}{fd:FuncData}{ps:List Str}(h:∀us:List Value,us.length=ps.length->bindArgs fd ⟨us,[]⟩=pure (ps.zip us)):bB K fd ps []:=fun s us _ hl=>by
 rw[List.append_nil] at hl ⊢;exact .of_eq (h us hl)
noncomputable def l6(CX:CXT)(X:Cx)(E:XK):Prop:=∀(pins:List (Addr×Obj)) (σ:St) (H:Hp) (s:Shared) (e:Value) (s':Shared),Inv X pins σ H s->CX X.stack H s E e s'->X.xe e s'
section
variable{X:Cx}{CX:CXT}{k:Nat}{f C:Addr}{fd:FuncData}{ps:List Str}{sp:Sp}{dvs:List V}{ds:List Value}{E:XK}{x m:Str}{p pos apos:Pos}{e o:Expr}{es:List Expr}{ta:TE}{t:TA}
theorem Ak{pins:List (Addr×Obj)}{σ:St}{H:Hp}{s:Shared}{Q:VK}{us:List Value}{vs:List V}(F:aY X.prog X.w X.K X.mg X.base CX k f fd ps sp)(hr:dn k X.A)(hb:bB X.K fd ps ds)(hd:aB dvs ds)(hx:l6 CX X E)(I:Inv X pins σ H s)(r:aB vs us)(h:sp (vs++dvs) H Q E):wpAny (model X.prog X.w) X.A (call (.ref f) us) (EP X pins σ Q) X.xe s:=by
 have r2:aB (vs++dvs) (us++ds):=r.append hd;have hl:(us++ds).length=ps.length:=by rw[←r2.length];exact F.len _ _ _ _ h
 refine wpAny_call (codeAny_mono (F.run X.A X.stack s H ⟨us,[]⟩ (us++ds) (vs++dvs) Q E hr I.env0 (hb s us I.kIn hl) r2 h) fun r s' hq=>?_)
 cases r with
 |error e=>exact hx pins σ H s e s' I hq
 |ok fl=>
  cases fl with
  |ret u=>exact I.after hq
  |next=>exact False.elim hq
  |brk=>exact False.elim hq
  |cont=>exact False.elim hq
theorem ay(F:aY X.prog X.w X.K X.mg X.base CX k f fd ps sp)(hr:dn k X.A)(hg:Gl X x)(hm:X.mg x=some (.ref f))(hk:W.keepIn X.K (.ref f)=true)(hb:bB X.K fd ps ds)(hd:aB dvs ds)(hx:l6 CX X E)(ha:PA X (e::es) t)(hdb:(x == ("__debug__":Str))=false:=by decide)(he:starEach (e::es) X.env=(false,eval e X.env)::starEach es X.env:=by rfl)(hpl:(backTo pos (starEach es X.env)).any (·.1)=false:=by rfl):
  PE X (.Call (.Name x p) (e::es) [] pos) (lX sp dvs E t):=.mk <| by
 intro pins s σ H Q I h;refine wpAny_Call_Name_kw (gv I hg hm ?_ hdb);refine W.callWith_K (h₀:=X.base) I.ok.mod.kin hk (thn (ha pos pins s σ H _ I h) fun us s1 ⟨vs,H1,I1,r,q⟩=>⟨I1.kIn,?_⟩) he hpl;exact Ak F hr hb hd hx I1 r q
structure Mk(K:W.Frag)(C f:Addr):Prop where
 makes:W.makesIn K C=true
 init:W.findIn K (.ref C) "__init__"=some (some (.ref f))
 fn:W.isFn K (.ref f)=true
 kp:W.keepIn K (.ref C)=true
end
section
variable{X:Cx}{CX:CXT}{k:Nat}{f C:Addr}{fd:FuncData}{ps ks:List Str}{sp:Sp}{E:XK}{x m:Str}{p pos apos kpos:Pos}{e o:Expr}{es:List Expr}{kws:List Keyword}{te ta:TE}{t tk:TA}{nm:Option Str}
structure DT(K:W.Frag)(fd:FuncData)(ps ks:List Str)(g:List Value->List Value->List Value)(gV:List V->List V->List V):Prop where
 to:∀(s:Shared)(us ws:List Value),K.In s.heap->(g us ws).length=ps.length->BindsTo s fd ⟨us,ks.zip ws⟩ (ps.zip (g us ws))
 rel:∀ {vs:List V} {us:List Value} {zs:List V} {ws:List Value},aB vs us->aB zs ws->aB (gV vs zs) (g us ws)
variable{g:List Value->List Value->List Value}{gV:List V->List V->List V}
end
structure aM(N P:List Str)(sc:Scope):Prop where
 kind:sc.kind=.function
 co:sc.isCoroutine=false
 gen:sc.isGenerator=false
 nd:N.Nodup
 pre:N.take P.length=P
 par:∀x∈P,sc.names.lookup x=some .local\/sc.names.lookup x=some .cell
 nofree:∀y∈sc.names,y.2≠.free
theorem lA{kindOf:Str->Option NameKind}{x:Str}:∀ {binds:List (Str×Value)} {m:Str->Option Value},(∀v,(x,v) ∉ binds)->bindL kindOf binds m x=m x
 | [],_,_=>rfl
 |(n,v)::r,m,h=>by
  unfold bindL;rw[lA fun w hw=>h w (List.mem_cons_of_mem _ hw)];split
  ·have:x≠n:=by rintro rfl;exact h v List.mem_cons_self
   simp[this]
  ·rfl
theorem lO{kindOf:Str->Option NameKind}{x:Str}:∀ {binds:List (Str×Value)} {m:Str->Option Value},(∀v,(x,v) ∉ binds)->bindC kindOf binds m x=m x
 | [],_,_=>rfl
 |(n,v)::r,m,h=>by
  unfold bindC;rw[lO fun w hw=>h w (List.mem_cons_of_mem _ hw)];split
  ·rfl
  ·have:x≠n:=by rintro rfl;exact h v List.mem_cons_self
   simp[this]
theorem lK{kindOf:Str->Option NameKind}{x:Str}{v:Value}:∀ {P:List Str} {vs:List Value} {i:Nat} {m:Str->Option Value},P.Nodup->P[i]?=some x->vs[i]?=some v->kindOf x=some .local ->
  bindL kindOf (P.zip vs) m x=some v
 | [],_,_,_,_,h,_,_=>by simp at h
 |_::_,[],_,_,_,_,h,_=>by simp at h
 |p::P,w::vs,0,m,nd,h1,h2,hk=>by
  simp at h1 h2;subst h1;subst h2;show bindL kindOf ((p,w)::P.zip vs) m p=_;unfold bindL;rw[lA fun v hv=>(List.nodup_cons.mp nd).1 (List.of_mem_zip hv).1,if_pos hk];simp
 |p::P,w::vs,i+1,m,nd,h1,h2,hk=>by
  show bindL kindOf ((p,w)::P.zip vs) m x=_;unfold bindL;exact lK (i:=i) (List.nodup_cons.mp nd).2 (by simpa using h1) (by simpa using h2) hk
theorem lu{kindOf:Str->Option NameKind}{x:Str}{v:Value}:∀ {P:List Str} {vs:List Value} {i:Nat} {m:Str->Option Value},P.Nodup->P[i]?=some x->vs[i]?=some v->kindOf x≠some .local ->
  bindC kindOf (P.zip vs) m x=some v
 | [],_,_,_,_,h,_,_=>by simp at h
 |_::_,[],_,_,_,_,h,_=>by simp at h
 |p::P,w::vs,0,m,nd,h1,h2,hk=>by
  simp at h1 h2;subst h1;subst h2;show bindC kindOf ((p,w)::P.zip vs) m p=_;unfold bindC;rw[lO fun v hv=>(List.nodup_cons.mp nd).1 (List.of_mem_zip hv).1,if_neg hk];simp
 |p::P,w::vs,i+1,m,nd,h1,h2,hk=>by
  show bindC kindOf ((p,w)::P.zip vs) m x=_;unfold bindC;exact lu (i:=i) (List.nodup_cons.mp nd).2 (by simpa using h1) (by simpa using h2) hk
noncomputable def start(N:List Str)(vs:List V):St:=vs.map some++List.replicate (N.length-vs.length) none
noncomputable def fU(CX:CXT)(P:Program)(w:World)(K:W.Frag)(mg:Str->Option Value)(base:Heap)(N:List Str)(qual:Str)(scope:Scope)(f:Addr)(cd:Value)(A:Around)(outer:List Env)(s:Shared)(H:Hp)(E:XK):Cx where
 prog:=P
 w:=w
 K:=K
 mg:=mg
 base:=base
 A:=A.deeper (envOfC qual scope s.heap.objs.size f cd)
 N:=N
 s₀:=s
 H₀:=H
 env:=envOfC qual scope s.heap.objs.size f cd
 outer:=outer
 stack:=envOfC qual scope s.heap.objs.size f cd::outer
 ex:=[]
 calm:=true
 fn:=fun _=>true
 pn:=[]
 xe:=fun e s'=>wpAny (model P w) (A.deeper (envOfC qual scope s.heap.objs.size f cd)) (leaving (envOfC qual scope s.heap.objs.size f cd) e) (fun _ s''=>CX outer H s E e s'') (fun e' s''=>CX outer H s E e' s'') s'
theorem oI{sc:Scope}{n:Nat}{x:Str}(h:sc.names.lookup x=some .cell):∃c,(cellsFrom n sc.names []).lookup x=some c:=by
 have q:=W.cellsFrom_some sc.names n [] (.inl h);exact Option.isSome_iff_exists.mp q
theorem ug{CX:CXT}{P:Program}{w:World}{K:W.Frag}{mg:Str->Option Value}{base:Heap}{N ps:List Str}{qual:Str}{scope:Scope}{f:Addr}{cd:Value}{A:Around}{outer:List Env}{s s1:Shared}{H:Hp}{E:XK}{us:List Value}{vs:List V}(S:aM N ps scope)(hd:A.handled=none)(e0:tL P w K mg base A outer s H)(hl:vs.length=ps.length)(r:aB vs us)(x:InCallC s s.heap.objs.size (bindL (envOfC qual scope s.heap.objs.size f cd).kindOf (ps.zip us) fun _=>none) (cellsFrom (s.heap.objs.size+1) scope.names []) (bindC (envOfC qual scope s.heap.objs.size f cd).kindOf (ps.zip us) fun _=>none) s1):
  Inv (fU CX P w K mg base N qual scope f cd A outer s H E) [] (start N vs) H s1:=by
 have hpl:ps.length<=N.length:=by have:=congrArg List.length S.pre;rw[List.length_take] at this;omega
 obtain⟨h1,tk,rfl,hk⟩:=x.done;have noA:∀b:Addr,b ∉ (fU CX P w K mg base N qual scope f cd A outer s H E).ex:=fun b z=>absurd (show b∈([]:List Addr) from z) (by simp)
 refine⟨⟨e0.mod,S.kind,rfl,rfl,Nat.le_refl _,fun y z c h1 h2=>?_,fun y hy=>?_,fun y c _ h=>?_,fun _=>hd,Around.frames_deeper e0.frames,.inr ⟨rfl,rfl⟩,fun b z=>absurd z (noA b),e0.bs,e0.bsz,fun b _ _=>noA b,fun b z=>absurd z (noA b),e0.funs,e0.frf,e0.tt⟩,
  rfl,e0.bare,Un.kept hk,⟨_,x.toInCall.ns,fun i y v h1 h2 h3=>?_⟩,fun y c h=>⟨_,x.cell y c h⟩,e0.hok.fresh (Nat.le_refl _),fun y c h=>?_,fun p hp=>absurd (show p∈([]:List (Addr×Obj)) from hp) (by simp),e0.hok.kept hk,?_⟩
 ·exact name_of_addr x.apart (PySem.mem_of_lookup h1) (PySem.mem_of_lookup h2)
 ·have hy:scope.names.lookup y=some .cell\/scope.names.lookup y=some .free:=hy
  rcases hy with hy|hy
  ·exact oI hy
  ·exact absurd rfl (S.nofree _ (PySem.mem_of_lookup hy))
 ·exact Nat.le_of_lt (x.above y c (PySem.mem_of_lookup h))
 ·have hi:i<vs.length:=by
   unfold start at h2;by_cases hi:i<vs.length
   ·exact hi
   ·rw[List.getElem?_append_right (by simpa using hi)] at h2
    rw[List.getElem?_replicate] at h2;split at h2<;>cases h2
  have ha:vs[i]?=some v:=by
   unfold start at h2;rw[List.getElem?_append_left (by simpa using hi),List.getElem?_map] at h2
   cases e:vs[i]? with
   |none=>rw[e] at h2;cases h2
   |some a=>rw[e] at h2;cases h2;rfl
  obtain⟨u,hu,rv⟩:=r.get ha
  have hp:ps[i]?=some y:=by
   rw[←S.pre,List.getElem?_take_of_lt (by omega)];exact h1
  have ndP:ps.Nodup:=by rw[←S.pre];exact S.nd.sublist (List.take_sublist _ _)
  refine⟨u,rv,?_⟩;rcases S.par y (List.mem_of_getElem? hp) with k|k
  ·exact .inl ⟨k,lK ndP hp hu k⟩
  ·obtain⟨c,e⟩:=oI (n:=s.heap.objs.size+1) k
   refine .inr ⟨.inl k,c,e,?_⟩;have q:=x.cell y c e;rw[lu ndP hp hu (by show scope.names.lookup y≠_;rw[k];decide)] at q
   exact q
 ·exact e0.hok.fresh (Nat.le_of_lt (x.above y c (PySem.mem_of_lookup h)))
 ·unfold start
  show _=N.length;rw[List.length_append,List.length_map,List.length_replicate];omega
theorem zr{CX:CXT}{P:Program}{w:World}{K:W.Frag}{mg:Str->Option Value}{base:Heap}{k:Nat}{f:Addr}{name qual:Str}{params:Arguments}{body:List Stmt}{scope:Scope}{dV kV doc pm cdv ct oc:Value}{an od:Option Addr}{osl:Array (Option Value)}{N ps:List Str}{sp:Sp}(lk:K.lookup f=some ⟨oc,od,.func (W.fnOf name qual params body scope dV kV doc pm an cdv ct),osl⟩)(hcd:W.codeIn K cdv qual=true)(S:aM N ps scope)(len:∀vs H Q E,sp vs H Q E->vs.length=ps.length)
  (hbody:∀(A:Around)(outer:List Env)(s:Shared)(H:Hp)(vs:List V)(Q:VK)(E:XK),dn k (A.deeper (envOfC qual scope s.heap.objs.size f cdv))->sp vs H Q E ->
   ∃t,PSs (fU CX P w K mg base N qual scope f cdv A outer s H E) body t/\t { nx:=fun _ H'=>Q .non H',rt:=Q } (start N vs) H) :
  aY P w K mg base CX (k+1) f (W.fnOf name qual params body scope dV kV doc pm an cdv ct) ps sp:=by
 refine⟨len,fun A outer s H args us vs Q E hr e0 hb r hsp=>?_⟩;have hl:=len _ _ _ _ hsp;have KX:K.In s.heap:=e0.mod.kin.keeps fun b o e=>(e0.bs b o e).1;have lim:s.heap.NoLimit:=e0.mod.nolimit.keeps fun b o e=>(e0.bs b o e).1
 have hkind:∀y∈ps.zip us,scope.names.lookup y.1=some .local\/(scope.names.lookup y.1=some .cell/\((cellsFrom (s.heap.objs.size+1) scope.names []).lookup y.1).isSome=true):=fun⟨n,v⟩ hy=>by
  rcases S.par n (List.of_mem_zip hy).1 with q|q
  ·exact .inl q
  ·exact .inr ⟨q,W.cellsFrom_some _ _ _ (.inl q)⟩
 refine codeAny_call_function hr.depth (KX _ _ lk) rfl S.co S.gen rfl (W.codeRec_of KX hcd) (hb _ _ _ _ ?_);refine wpAny_newFunctionEnv_cells S.kind hkind fun env he s1 x=>?_;subst he;refine⟨lim.keeps x.toInCall.keep,codeAny_func ?_⟩;obtain⟨t,ht,hq⟩:=hbody A outer s H vs Q E (hr.deeper _) hsp;have I:Inv (fU CX P w K mg base N qual scope f cdv A outer s H E) [] (start N vs) H s1:=ug S hr.hd e0 hl r x
 refine wpAny_mono (ht [] s1 (start N vs) H _ I hq) (fun fl s' hs=>?_) fun e s' hs=>hs
 have fin:∀ {σ':St} {H':Hp} {v:V} {u:Value},Inv (fU CX P w K mg base N qual scope f cdv A outer s H E) [] σ' H' s'->aP v u->Q v H'->CE outer P w H s Q u s':=
  fun {σ' H' v u} J rv q=>⟨v,H',J.os,J.bare,J.base,J.hok,rv,q⟩
 cases fl with
 |ret u=>
  obtain⟨v,σ',H',J,rv,q⟩:=hs;exact fin J rv q
 |next=>
  obtain⟨σ',H',J,q⟩:=hs;exact fin (v:=V.non) (u:=Value.none) J rfl q
 |brk=>
  obtain⟨_,_,_,q⟩:=hs;exact False.elim q
 |cont=>
  obtain⟨_,_,_,q⟩:=hs;exact False.elim q
section
variable{X:Cx}{x:Str}{p pos:Pos}{e:Expr}{es:List Expr}{t:TA}{id T:String}{r:List V->Hp->VK->Prop}
noncomputable def tCB(r:List V->Hp->VK->Prop)(t:TA):TE:=fun σ H Q=>t σ H fun vs H1=>r vs H1 Q
theorem ar(hc:bQ X (.builtin id) r)(hg:Gl X x)(hm:X.mg x=none)(hv:bootBuiltins x=some (.builtin id))(ha:PA X (e::es) t)(hn:x≠"__name__":=by decide)(hdb:(x == ("__debug__":Str))=false:=by decide)(he:starEach (e::es) X.env=(false,eval e X.env)::starEach es X.env:=by rfl)(hpl:(backTo pos (starEach es X.env)).any (·.1)=false:=by rfl):PE X (.Call (.Name x p) (e::es) [] pos) (tCB r t):=.mk <| by
 intro pins s σ H Q I h;refine wpAny_Call_Name_kw (mG I hg hm hv ?_ hn hdb);exact PyProof.Rows.callWith_builtin1 (thn (ha pos pins s σ H _ I h) fun us s1 ⟨vs,H1,I1,r1,q1⟩=>hc pins s1 σ H1 vs us Q I1 r1 q1) he hpl
theorem bD(hc:bQ X (.type T) r)(hg:Gl X x)(hm:X.mg x=none)(hv:bootBuiltins x=some (.type T))(ha:PA X (e::es) t)(hn:x≠"__name__":=by decide)(hdb:(x == ("__debug__":Str))=false:=by decide)(he:starEach (e::es) X.env=(false,eval e X.env)::starEach es X.env:=by rfl)(hpl:(backTo pos (starEach es X.env)).any (·.1)=false:=by rfl):PE X (.Call (.Name x p) (e::es) [] pos) (tCB r t):=.mk <| by
 intro pins s σ H Q I h;refine wpAny_Call_Name_kw (mG I hg hm hv ?_ hn hdb);exact PyProof.Rows.callWith_type1 (thn (ha pos pins s σ H _ I h) fun us s1 ⟨vs,H1,I1,r1,q1⟩=>hc pins s1 σ H1 vs us Q I1 r1 q1) he hpl
end
end L2
namespace HT
open PySem PyProof.Rows
section
open PySem.SeqAt
open PySem.AutoSeq1 (wpAny_loadPart')
open PySem.MeetsSeq PySem.MeetsSeq2 PySem.MeetsSeq3
end
section
variable{prog:Program}{w:World}{A:Around}{E:Value->Shared->Prop}{s:Shared}
theorem cat_tup{t b:Addr}{vs ws:List Value}{Q:Value->Shared->Prop}(ht:IsTup s.heap t vs.toArray)(hb:IsTup s.heap b ws.toArray)(hv:vs≠[])(h1:ws=[]->Q (.ref t) s)(h2:ws≠[]->Q (.ref s.heap.objs.size) { s with heap:=s.heap.push { cls:=.type "tuple",data:=.seq (vs++ws).toArray } })(hsz:vs.length+ws.length<=sizeLine):wpAny (model prog w) A (binaryOp .Add (.ref t) (.ref b)) Q E s:=by
 obtain⟨⟨cls,dd,data,sl⟩,ho,hc,n,hd⟩:=id ht;obtain⟨⟨cls2,dd2,data2,sl2⟩,ho2,hc2,n2,hd2⟩:=id hb;simp only at hc hd hc2 hd2;subst hc hd hc2 hd2;have e:vs.toArray++ws.toArray=(vs++ws).toArray:=by simp
 by_cases hw:ws=[]
 ·exact concat_meets ⟨_,ho,rfl⟩ ⟨_,ho2,rfl⟩ noFill_tuple_add seq_tuple_add PySem.F.slot_tuple_add PySem.F.entry_tuple_add (PySem.F.args_tuple_add_2 _ _)
   (tuple_addW1 t b vs.toArray ws.toArray n n2 dd dd2 sl sl2 (by simpa using hv) (by simp[hw])) ⟨ho,ho2,h1 hw⟩
 ·refine concat_meets ⟨_,ho,rfl⟩ ⟨_,ho2,rfl⟩ noFill_tuple_add seq_tuple_add PySem.F.slot_tuple_add PySem.F.entry_tuple_add (PySem.F.args_tuple_add_2 _ _)
   (tuple_addW2 t b vs.toArray ws.toArray n n2 dd dd2 sl sl2 (by simpa using hv) (by simpa using hw) (by rw[List.size_toArray,List.size_toArray];exact hsz)) ⟨ho,ho2,?_⟩
  rw[e];exact h2 hw
noncomputable def sIx(n d:Nat):Option Int->Nat
 |none=>d
 |some v=>if v<0 then (v+(n:Int)).toNat else min v.toNat n
theorem AX(n d:Nat)(hd:d<=n)(o:Option Int):sIx n d o<=n:=by
 cases o with
 |none=>exact hd
 |some v=>
  show (if v<0 then (v+(n:Int)).toNat else min v.toNat n)<=n
  by_cases hv:v<0
  ·rw[if_pos hv];omega
  ·rw[if_neg hv];exact Nat.min_le_right _ _
theorem r9(v:Int)(n d:Nat):(if v<0 then max (v+(n:Int)) 0 else min v (n:Int))=((sIx n d (some v):Nat):Int):=by
 show (if v<0 then max (v+(n:Int)) 0 else min v (n:Int))=(((if v<0 then (v+(n:Int)).toNat else min v.toNat n):Nat):Int)
 by_cases hv:v<0
 ·simp only[if_pos hv];omega
 ·simp only[if_neg hv];omega
theorem pZ(lo hi:Option Int)(n:Nat):Builtin.Slice.sliceAdjust lo hi 1 (n:Int)=(((sIx n 0 lo:Nat):Int),((sIx n n hi:Nat):Int)):=by
 have h1:¬ ((1:Int)<0):=by omega
 unfold Builtin.Slice.sliceAdjust;simp only[h1,if_false];refine Prod.ext ?_ ?_
 ·cases lo with
  |none=>rfl
  |some v=>exact r9 v n 0
 ·cases hi with
  |none=>rfl
  |some v=>exact r9 v n n
theorem qv(i j:Nat):Builtin.Slice.slicePlaces (i:Int) (j:Int) 1=j-i:=by
 unfold Builtin.Slice.slicePlaces;have h1:(1:Int)>0:=by omega
 simp only[h1,if_true,Int.ediv_one];split<;>omega
theorem jT{v:Value}{o:Option Int}{Q:Option Int->Shared->Prop}(p:IsPart v o)(h:Q o s):wpAny (model prog w) A (Builtin.Slice.slicePartIndex v) Q E s:=by
 cases p with
 |none=>exact slicePart_none h
 |int i t=>exact slicePart_int h
theorem sliceApplied_gen{sl:Addr}{vl vu:Value}{lo hi:Option Int}{n:Nat}{Q:Int×Int×Nat->Shared->Prop}(hs:s.heap.IsSliceOf sl vl vu .none)(pl:IsPart vl lo)(pu:IsPart vu hi)(h:Q (((sIx n 0 lo:Nat):Int),1,sIx n n hi-sIx n 0 lo) s):wpAny (model prog w) A (Builtin.Slice.sliceApplied (.ref sl) (pure (n:Int))) Q E s:=by
 obtain⟨os,hos,hcs,hds⟩:=id hs;unfold Builtin.Slice.sliceApplied Builtin.Slice.sliceFields;refine wpAny_bind (wpAny_bind (wpAny_field hos hds (x:=vl) rfl (wpAny_bind (wpAny_field hos hds (x:=vu) rfl (wpAny_bind (wpAny_field hos hds (x:=.none) rfl (wpAny_pure ?_)))))));refine wpAny_bind (slicePart_none ?_);show wpAny _ _ (if ((1:Int) == 0)=true then _ else _) _ _ s
 rw[if_neg (by decide)]
 refine wpAny_bind (jT pl (wpAny_bind (jT pu (wpAny_bind (wpAny_pure ?_)))));show wpAny _ _ (match Builtin.Slice.sliceAdjust lo hi 1 (n:Int) with|(lo,hi)=>pure (lo,(1:Int),Builtin.Slice.slicePlaces lo hi 1)) _ _ s
 rw[pZ lo hi n];show wpAny _ _ (pure (((sIx n 0 lo:Nat):Int),(1:Int),Builtin.Slice.slicePlaces ((sIx n 0 lo:Nat):Int) ((sIx n n hi:Nat):Int) 1)) _ _ s;rw[qv];exact wpAny_pure h
theorem vG(xs:Array Value)(i k:Nat):((List.range k).filterMap fun(m:Nat)=>xs[((i:Int)+(m:Int)*1).toNat]?).toArray=((xs.toList.drop i).take k).toArray:=by
 have e:(fun(m:Nat)=>xs[((i:Int)+(m:Int)*1).toNat]?)=fun m=>xs[i+m]?:=by
  funext m
  have:((i:Int)+(m:Int)*1).toNat=i+m:=by omega
  rw[this]
 rw[e];have:=pick_run xs i k;rw[List.filterMap_map] at this;have e2:((fun x=>xs[x]?) ∘ fun x=>i+x)=fun m=>xs[i+m]?:=rfl;rw[e2] at this;rw[this]
theorem getItem_tuple_cut{t sl:Addr}{items:Array Value}{vl vu:Value}{lo hi:Option Int}{Q:Value->Shared->Prop}(ht:IsTup s.heap t items)(hs:s.heap.IsSliceOf sl vl vu .none)(pl:IsPart vl lo)(pu:IsPart vu hi)(hw:¬ (sIx items.size 0 lo=0/\sIx items.size items.size hi=items.size))(h:Q (.ref s.heap.objs.size) { s with heap:=s.heap.push { cls:=.type "tuple",data:=.seq ((items.toList.drop (sIx items.size 0 lo)).take (sIx items.size items.size hi-sIx items.size 0 lo)).toArray } })(hsz:items.size<=sizeLine):wpAny (model prog w) A (getItem (.ref t) (.ref sl)) Q E s:=by
 have htake:sizeOk (.seq ((items.toList.drop (sIx items.size 0 lo)).take (sIx items.size items.size hi-sIx items.size 0 lo)).toArray):=by
  show ((items.toList.drop (sIx items.size 0 lo)).take (sIx items.size items.size hi-sIx items.size 0 lo)).toArray.size<=sizeLine;rw[List.size_toArray,List.length_take,List.length_drop,Array.length_toList];omega
 have hj:sIx items.size items.size hi<=items.size:=AX _ _ (Nat.le_refl _) hi;obtain⟨os,hos,hcs,hds⟩:=id hs;have hTs:s.TypeIs (.ref sl) "slice":=⟨os,hos,hcs⟩;unfold getItem
 try with_reducible refine wpAny_holding ?_
 first|refine wpAny_bind (wpAny_pure ?_)|skip
 refine wpAny_bind (wpAny_sequenceKey ht.typeIs (by decide) ?_)
 refine wpAny_bind (wpAny_callSpecial?_slot (name:=Str.ofString "__getitem__") ht.typeIs PyProof.Rows.slot_tuple_getitem
  (wpAny_call_entry PyProof.Rows.slot_tuple_getitem ht.typeIs entry_tuple_getitem ?_ (args_tuple_getitem _ _)))
 show wpAny _ _ (Builtin.Tuple.tupleItemsOf (.ref t) >>= _) _ _ s;refine wpAny_bind (tupleItemsOf_ ht ?_);refine wpAny_bind (wpAny_typeOf hTs ?_);rw[if_pos (by decide)]
 refine wpAny_bind (sliceApplied_gen hs pl pu ?_)
 have hno:¬ ((((sIx items.size 0 lo:Nat):Int) == 0 && (1:Int) == 1 && (sIx items.size items.size hi-sIx items.size 0 lo) == items.size)=true):=by
  intro q;rw[Bool.and_eq_true,Bool.and_eq_true] at q;have q1:((sIx items.size 0 lo:Nat):Int)=0:=eq_of_beq q.1.1;have q2:sIx items.size items.size hi-sIx items.size 0 lo=items.size:=eq_of_beq q.2;exact hw ⟨by omega,by omega⟩
 show wpAny _ _ (if (((sIx items.size 0 lo:Nat):Int) == 0 && (1:Int) == 1 && (sIx items.size items.size hi-sIx items.size 0 lo) == items.size)=true then _ else _) _ _ s
 rw[if_neg hno,vG]
 first
  |exact wpAny_bind (m:=Builtin.Tuple.tupleExact _) (wpAny_newObj_type (wpAny_pure ⟨_,rfl,wpAny_pure h⟩) htake)
  |exact wpAny_bind (m:=Builtin.Tuple.tupleExact _) (wpAny_newObj_type (wpAny_bind (wpAny_pure (wpAny_pure ⟨_,rfl,wpAny_pure h⟩))) htake)
  |exact wpAny_bind (wpAny_bind (m:=Builtin.Tuple.tupleExact _) (wpAny_newObj_type (wpAny_pure (wpAny_pure ⟨_,rfl,wpAny_pure h⟩)) htake))
  |exact wpAny_bind (wpAny_bind (m:=Builtin.Tuple.tupleExact _) (wpAny_newObj_type (wpAny_pure ⟨_,rfl,wpAny_pure h⟩) htake))
end
end HT
namespace L2
open PySem PySem.Spec PyProof.Rows
noncomputable abbrev TO:=St->Hp->(Option Int->Hp->Prop)->Prop
noncomputable def PO(X:Cx)(e:Option Expr)(t:TO):Prop:=
 ∀(pins:List (Addr×Obj)) (s:Shared) (σ:St) (H:Hp) (Q:Option Int->Hp->Prop),Inv X pins σ H s->t σ H Q ->
  wpAny (model X.prog X.w) X.A (evalPart e X.env) (fun u s'=>∃o H',Inv X pins σ H' s'/\IsPart u o/\Q o H') X.xe s
noncomputable def sU:TO:=fun _ H Q=>Q none H
noncomputable def zY(t:TE):TO:=fun σ H Q=>t σ H fun x H1=>∃i,x=.int i/\Q (some i) H1
section
variable{X:Cx}{e:Expr}{te:TE}{lo hi:Option Expr}{tl th:TO}{pos p2:Pos}
theorem dE:PO X none sU:=by
 intro pins s σ H Q I h;rw[evalPart_none];exact wpAny_pure ⟨none,H,I,.none,h⟩
theorem dG(h:PE X e te):PO X (some e) (zY te):=by
 intro pins s σ H Q I hw;rw[evalPart_some];refine thn (h pins s σ H _ I hw) fun u s1 ⟨x,H1,I1,r1,q1⟩=>?_;obtain⟨i,rfl,q⟩:=q1;obtain⟨t,rfl⟩:=r1;exact⟨some i,H1,I1,.int i t,q⟩
noncomputable def SlR(X:Cx)(r:V->Option Int->Option Int->Hp->VK->Prop):Prop:=
 ∀(pins:List (Addr×Obj)) (s:Shared) (σ:St) (H:Hp) (x:V) (v vl vu:Value) (lo hi:Option Int) (sl:Addr) (Q:VK),Inv X pins σ H s->aP x v->s.heap.IsSliceOf sl vl vu .none->IsPart vl lo->IsPart vu hi->r x lo hi H Q ->
  ∃T id,typeLookup (.type T) "__getitem__"=pure (some (.builtin id))/\s.TypeIs v T/\wpAny (model X.prog X.w) X.A (getItem v (.ref sl)) (EP X pins σ Q) X.xe s
noncomputable def tSl(r:V->Option Int->Option Int->Hp->VK->Prop)(te:TE)(tl th:TO):TE:=fun σ H Q=>te σ H fun x H1=>tl σ H1 fun l H2=>th σ H2 fun u H3=>r x l u H3 Q
theorem cS{r:V->Option Int->Option Int->Hp->VK->Prop}(hr:SlR X r)(he:PE X e te)(hl:PO X lo tl)(hu:PO X hi th):PE X (.Subscript e (.Slice lo hi none p2) pos) (tSl r te tl th):=.mk <| by
 intro pins s σ H Q I h;refine Subscript_ (thn (he pins s σ H _ I h) fun v s1 ⟨x,H1,I1,r1,q1⟩=>?_);refine wpAny_Slice (thn (hl pins s1 σ H1 _ I1 q1) fun vl s2 ⟨l,H2,I2,pl,q2⟩=>thn (hu pins s2 σ H2 _ I2 q2) fun vu s3 ⟨u,H3,I3,pu,q3⟩=>?_);rw[evalPart_none];refine wpAny_pure ?_;have I4:Inv X pins σ H3 { s3 with heap:=s3.heap.push { cls:=.type "slice",data:=.fields #[vl,vu,.none] } }:=I3.kept (t':=s3.toks) fun b ob q=>Heap.get?_push_of_some _ q
 obtain⟨T,id,hT,ht,hg⟩:=hr pins { s3 with heap:=s3.heap.push { cls:=.type "slice",data:=.fields #[vl,vu,.none] } } σ H3 x v vl vu l u s3.heap.objs.size Q I4 r1 (Heap.IsSliceOf.new ..) pl pu q3;show wpAny (model X.prog X.w) X.A (subscriptTail e (.Slice lo hi none p2) v (.ref s3.heap.objs.size)) (EP X pins σ Q) X.xe { s3 with heap:=s3.heap.push { cls:=.type "slice",data:=.fields #[vl,vu,.none] } };exact tail_any (ops:=[.ref s3.heap.objs.size,v]) ht hT hg (by with_unfolding_all rfl)
noncomputable def mQ(xs:List V)(lo hi:Option Int):List V:=(xs.drop (HT.sIx xs.length 0 lo)).take (HT.sIx xs.length xs.length hi-HT.sIx xs.length 0 lo)
theorem jh(xs:List V)(lo hi:Option Int):(mQ xs lo hi).length<=xs.length:=by
 unfold mQ;rw[List.length_take,List.length_drop];omega
noncomputable def DF(K:W.Frag):V->Option Int->Option Int->Hp->VK->Prop:=fun x lo hi H Q=>∃a xs,x=.ref a/\SqT K H a xs /\
 ¬ (HT.sIx xs.length 0 lo=0/\HT.sIx xs.length xs.length hi=xs.length)/\∀p,H p=none->Q (.ref p) (upd H p (.tup (mQ xs lo hi)))
theorem At:SlR X (DF X.K):=by
 intro pins s σ H x v vl vu lo hi sl Q I rx hs pl pu h;obtain⟨a,xs,rfl,hx,hw,q⟩:=h;cases rx;obtain⟨its,r,ht,hz⟩:=I.tuple hx;have hlen:its.toArray.size=xs.length:=by rw[List.size_toArray];exact r.length.symm
 refine⟨"tuple",_,PyProof.Rows.slot_tuple_getitem.lookup,ht.typeIs,?_⟩;refine HT.getItem_tuple_cut ht hs pl pu (by rw[hlen];exact hw) ?_ (by rw[hlen];exact hz)
 rw[hlen];refine⟨.ref s.heap.objs.size,_,I.laid (t':=s.toks) (o:=.tup (mQ xs lo hi)) (fun b ob q=>Heap.get?_push_of_some _ q) (Nat.le_refl _) ?_,rfl,q _ (I.hok.fresh (Nat.le_refl _))⟩;exact⟨Nat.le_trans (jh xs lo hi) hz,_,(r.drop (HT.sIx xs.length 0 lo)).take (HT.sIx xs.length xs.length hi-HT.sIx xs.length 0 lo),oP.new _ _⟩
noncomputable def Cg(K:W.Frag):R2:=fun x y H Q=>∃a b xs ys,x=.ref a/\y=.ref b/\SqT K H a xs/\SqT K H b ys/\xs≠[]/\xs.length+ys.length<=sizeLine /\
 (ys=[]->Q (.ref a) H)/\(ys≠[]->∀p,H p=none->Q (.ref p) (upd H p (.tup (xs++ys))))
theorem aB.Ee{xs:List V}{us:List Value}(r:aB xs us):us=[]↔xs=[]:=by
 cases r with
 |nil=>simp
 |cons _ _=>simp
theorem xS:OpR X (binaryOp .Add) (Cg X.K):=by
 intro pins s σ H x y v u Q I rx ry h;obtain⟨a,b,xs,ys,rfl,rfl,ha,hb,hx,hz,q1,q2⟩:=h;cases rx;cases ry;obtain⟨its,r1,p1,_⟩:=I.tuple ha;obtain⟨its2,r2,p2,_⟩:=I.tuple hb;refine HT.cat_tup p1 p2 (fun z=>hx (r1.Ee.mp z)) (fun z=>⟨.ref a,H,I,rfl,q1 (r2.Ee.mp z)⟩) (fun z=>?_) (by rw[←r1.length,←r2.length];exact hz)
 refine⟨.ref s.heap.objs.size,_,I.laid (t':=s.toks) (o:=.tup (xs++ys)) (fun b ob q=>Heap.get?_push_of_some _ q) (Nat.le_refl _) ?_,rfl,q2 (fun w=>z (r2.Ee.mpr w)) _ (I.hok.fresh (Nat.le_refl _))⟩;exact⟨by rw[List.length_append];exact hz,_,r1.append r2,oP.new _ _⟩
end
noncomputable def ixN(n:Nat)(i:Int):Option Nat:=if 0<=i then (if i<n then some i.toNat else none) else if -(n:Int)<=i then some (i+n).toNat else none
noncomputable def atI{α:Type}(xs:List α)(i:Int):Option α:=(ixN xs.length i).bind fun j=>xs[j]?
theorem sB{n:Nat}{i:Int}{j:Nat}(h:ixN n i=some j):seqIndex? i n=some j/\j<n/\-(n:Int)<=i/\i<n:=by
 unfold ixN at h;by_cases h0:0<=i
 ·rw[if_pos h0] at h
  by_cases h1:i<n
  ·rw[if_pos h1] at h
   have e:i.toNat=j:=Option.some.inj h;exact⟨by rw[seqIndex_of h0 h1,e],by omega,by omega,h1⟩
  ·rw[if_neg h1] at h;cases h
 ·rw[if_neg h0] at h
  by_cases h1:-(n:Int)<=i
  ·rw[if_pos h1] at h
   have e:(i+n).toNat=j:=Option.some.inj h;exact⟨by rw[seqIndex_neg (by omega) h1,e],by omega,h1,by omega⟩
  ·rw[if_neg h1] at h;cases h
theorem mP{α:Type}{xs:List α}{i:Int}{v:α}(h:atI xs i=some v):∃j,seqIndex? i xs.length=some j/\xs[j]?=some v/\j<xs.length/\-(xs.length:Int)<=i/\i<xs.length:=by
 unfold atI at h
 cases e:ixN xs.length i with
 |none=>rw[e] at h;cases h
 |some j=>
  rw[e] at h;obtain⟨h1,h2,h3,h4⟩:=sB e;exact⟨j,h1,h,h2,h3,h4⟩
noncomputable def xY(b:Expr):Prop:=∀o i,subscripted b false o i=operate [o,i] (getItem o i)
noncomputable def IxR(X:Cx)(r:R2):Prop:=
 ∀(value slice:Expr) (pins:List (Addr×Obj)) (s:Shared) (σ:St) (H:Hp) (x y:V) (v u:Value) (Q:VK),Inv X pins σ H s->aP x v->aP y u->r x y H Q ->
  subscripted slice false v u=operate [v,u] (getItem v u)->wpAny (model X.prog X.w) X.A (subscriptTail value slice v u) (EP X pins σ Q) X.xe s
noncomputable def MtR(X:Cx)(id:String)(r:V->List V->Hp->VK->Prop):Prop:=
 ∀(pins:List (Addr×Obj)) (s:Shared) (σ:St) (H:Hp) (x:V) (xs:List V) (v:Value) (us:List Value) (Q:VK),Inv X pins σ H s->aP x v->aB xs us->r x xs H Q ->
  wpAny (model X.prog X.w) X.A (call (.builtin id) (v::us)) (EP X pins σ Q) X.xe s
section
variable{X:Cx}{a b:Expr}{ta tb:TE}{pos:Pos}
theorem IxR.or{r r':R2}(h:IxR X r)(h':IxR X r'):IxR X (fun x y H Q=>r x y H Q\/r' x y H Q):=by
 intro value slice pins s σ H x y v u Q I rx ry q hs;rcases q with q|q
 ·exact h value slice pins s σ H x y v u Q I rx ry q hs
 ·exact h' value slice pins s σ H x y v u Q I rx ry q hs
theorem bR{r:R2}(hr:IxR X r)(ha:PE X a ta)(hb:PE X b tb)(hs:xY b):PE X (.Subscript a b pos) (tOp r ta tb):=.mk <| by
 intro pins s σ H Q I h;exact Subscript_ (Br ha hb I h fun v u s2 x y H2 I2 rx ry q=>hr a b pins s2 σ H2 x y v u Q I2 rx ry q (hs _ _))
noncomputable def Bp(K:W.Frag):R2:=fun x y H Q=>∃p xs i v,x=.ref p/\y=.int i/\SqL K H p xs/\atI xs i=some v/\Q v H
noncomputable def AF(K:W.Frag):R2:=fun x y H Q=>∃p xs i v,x=.ref p/\y=.int i/\SqT K H p xs/\atI xs i=some v/\Q v H
noncomputable def Ci:R2:=fun x y H Q=>∃z i c,x=.str z/\y=.int i/\z.length<=sizeLine/\atI z.cps.toList i=some c/\Q (.str ⟨#[c]⟩) H
theorem yR:IxR X (Bp X.K):=by
 intro value slice pins s σ H x y v u Q I rx ry h hs;obtain⟨p,xs,i,z,rfl,rfl,hq,he,q⟩:=h;cases rx;obtain⟨t,rfl⟩:=ry;obtain⟨its,r,pl,hz⟩:=I.list hq;obtain⟨j,h1,h2,h3,h4,h5⟩:=mP he;obtain⟨w,ew,rw'⟩:=r.get h2;have hl:=r.length;have hn:=iK;have fin:EP X pins σ Q w s:=⟨z,H,I,rw',q⟩;by_cases h0:0<=i
 ·have hj:i.toNat=j:=by
   rw[seqIndex_of h0 h5] at h1;exact Option.some.inj h1
  exact item_listR pl.isList h0 (by omega) (by rw[hj];simpa using ew) fin hs
 ·have hj:(i+(its.toArray.size:Int)).toNat=j:=by
   rw[seqIndex_neg (by omega) h4] at h1
   rw[List.size_toArray,←hl]
   exact Option.some.inj h1
  exact subscriptTail_builtinR (x:=w) pl.isList.typeIs slot_list_getitem.lookup
   (wpAny_getItem_list_neg (Q:=fun r s'=>r=w/\EP X pins σ Q r s') pl.isList (by omega) (by rw[List.size_toArray]<;>omega) (by omega) (by rw[hj];simpa using ew) ⟨rfl,fin⟩) hs
theorem AD:IxR X (AF X.K):=by
 intro value slice pins s σ H x y v u Q I rx ry h hs;obtain⟨p,xs,i,z,rfl,rfl,hq,he,q⟩:=h;cases rx;obtain⟨t,rfl⟩:=ry;obtain⟨its,r,pl,hz⟩:=I.tuple hq;obtain⟨j,h1,h2,h3,h4,h5⟩:=mP he;obtain⟨w,ew,rw'⟩:=r.get h2;have hl:=r.length;have hn:=iK;have fin:EP X pins σ Q w s:=⟨z,H,I,rw',q⟩
 exact subscriptTail_builtinR (x:=w) pl.typeIs slot_tuple_getitem.lookup
  (getItem_tuple (j:=j) (Q:=fun r s'=>r=w/\EP X pins σ Q r s') pl (by omega) (by omega) (by rw[List.size_toArray,←hl];exact h1) (by simpa using ew) ⟨rfl,fin⟩) hs
theorem Bw:IxR X Ci:=by
 intro value slice pins s σ H x y v u Q I rx ry h hs;obtain⟨z,i,c,rfl,rfl,hz,he,q⟩:=h;obtain⟨t,rfl⟩:=rx;obtain⟨t',rfl⟩:=ry;obtain⟨j,h1,h2,h3,h4,h5⟩:=mP he;have hl:z.cps.toList.length=z.length:=by simp[Str.length]
 rw[hl] at h1 h4 h5;have hn:=iK
 exact tail_any (typeIs_str s z t) slot_str_getitem.lookup (getItem_str (c:=c) (by
  have e1:decide (i < -(2^63:Int))=false:=decide_eq_false (by omega)
  have e2:decide (i ≥ 2^63)=false:=decide_eq_false (by omega)
  rw[e1,e2,Bool.or_false]) (by rw[h1];simpa using h2) ⟨.str ⟨#[c]⟩,H,I.tok _,⟨_,rfl⟩,q⟩) hs
noncomputable def rIx(K:W.Frag):R2:=fun x y H Q=>Bp K x y H Q\/AF K x y H Q\/Ci x y H Q
theorem Al:IxR X (rIx X.K):=yR.or (AD.or Bw)
theorem qb(its:List Value)(n j:Nat)(u:Value):Obj.mapSeq (·.setIfInBounds j u) { cls:=.type "list",data:=.seq its.toArray n }={ cls:=.type "list",data:=.seq (its.set j u).toArray n }:=by
 simp[Obj.mapSeq]
theorem Inv.lst{pins:List (Addr×Obj)}{σ:St}{H:Hp}{s:Shared}{p:Addr}{xs:List V}(I:Inv X pins σ H s)(h:H p=some (.lst xs)):
  ∃(its:List Value)(n:Nat),aB xs its/\s.heap.get? p=some { cls:=.type "list",data:=.seq its.toArray n }/\xs.length<=sizeLine:=by
 obtain⟨z,its,n,r,e⟩:=I.hok p _ h;exact⟨its,n,r,e,z⟩
theorem Inv.Et{pins:List (Addr×Obj)}{σ:St}{H:Hp}{s:Shared}{p:Addr}{xs ys:List V}{its its':List Value}{n n':Nat}{f:Obj->Obj}(I:Inv X pins σ H s)(h:H p=some (.lst xs))(ho:s.heap.get? p=some { cls:=.type "list",data:=.seq its.toArray n })(hf:f { cls:=.type "list",data:=.seq its.toArray n }={ cls:=.type "list",data:=.seq its'.toArray n' })(r:aB ys its')(hz:ys.length<=sizeLine)(t:Nat):
  Inv X pins σ (upd H p (.lst ys)) { s with heap:=s.heap.update p f,toks:=t }:=by
 have e:(s.heap.update p f).get? p=some { cls:=.type "list",data:=.seq its'.toArray n' }:=by
  rw[Heap.get?_update_self f ho (by rw[hf]<;>rfl),hf]
 refine I.write (x:=p) (e:=p) (by rw[h];trivial) (.inl rfl) (fun b u hb q=>(Heap.get?_update_other _ _ (Ne.symm hb)).trans q) ⟨_,e⟩ ?_
 exact⟨hz,its',n',r,e⟩
noncomputable def zE:V->V->V->Hp->(Hp->Prop)->Prop:=fun o i v H Q=>∃p xs k j,o=.ref p/\i=.int k/\H p=some (.lst xs)/\ixN xs.length k=some j/\Q (upd H p (.lst (xs.set j v)))
theorem kE:CI X zE:=by
 intro pins s σ H o i v ov iv u Q I ro ri rv h;obtain⟨p,xs,k,j,rfl,rfl,hp,hj,q⟩:=h;cases ro;obtain⟨t,rfl⟩:=ri;obtain⟨its,n,r,ho,hz⟩:=I.lst hp;obtain⟨h1,h2,h3,h4⟩:=sB hj;have hl:=r.length;have hn:=iK
 have I':Inv X pins σ (upd H p (.lst (xs.set j v))) { s with heap:=s.heap.update p (Obj.mapSeq (·.setIfInBounds j u)) }:=
  I.Et hp ho (qb its n j u) (r.set rv j) (by rw[List.length_set];exact hz) s.toks
 by_cases h0:0<=k
 ·have hk:k.toNat=j:=by
   rw[seqIndex_of h0 h4] at h1;exact Option.some.inj h1
  exact W.ki_setAt ho h0 (by omega) (by rw[List.size_toArray,←hl];exact h4) (by rw[hk];exact⟨_,I',q⟩)
 ·have hk:(k+(its.toArray.size:Int)).toNat=j:=by
   rw[seqIndex_neg (by omega) h3] at h1
   rw[List.size_toArray,←hl]
   exact Option.some.inj h1
  exact W.ki_setBack ho (by omega) (by rw[List.size_toArray,←hl];exact h3) (by omega) (by rw[hk];exact⟨_,I',q⟩)
theorem mX(lo hi:Option Int)(n:Nat):(sliceBounds lo hi none n).1=((HT.sIx n 0 lo:Nat):Int)/\(sliceBounds lo hi none n).2.1=((HT.sIx n n hi:Nat):Int)/\(sliceBounds lo hi none n).2.2=1:=by
 refine⟨?_,?_,rfl⟩
 ·cases lo with
  |none=>simp[sliceBounds,HT.sIx]
  |some i=>
   simp only[sliceBounds,HT.sIx,Option.getD_none,show (1:Int)>0 by decide,if_true]
   by_cases h:i<0
   ·simp only[h,if_true]<;>omega
   ·simp only[h,if_false]<;>omega
 ·cases hi with
  |none=>simp[sliceBounds,HT.sIx]
  |some i=>
   simp only[sliceBounds,HT.sIx,Option.getD_none,show (1:Int)>0 by decide,if_true]
   by_cases h:i<0
   ·simp only[h,if_true]<;>omega
   ·simp only[h,if_false]<;>omega
theorem kU(its:List Value)(lo hi:Option Int):slicePick its.toArray lo hi none=((its.drop (HT.sIx its.length 0 lo)).take (HT.sIx its.length its.length hi-HT.sIx its.length 0 lo)).toArray:=by
 obtain⟨h1,h2,h3⟩:=mX lo hi its.toArray.size;unfold slicePick;rw[h1,h2,h3];simp only[sliceRange_one,pick_run,List.size_toArray]<;>rfl
noncomputable def Do(K:W.Frag):V->Option Int->Option Int->Hp->VK->Prop:=fun x lo hi H Q=>∃a xs,x=.ref a/\SqL K H a xs/\∀p,H p=none->Q (.ref p) (upd H p (.lst (mQ xs lo hi)))
theorem yv:SlR X (Do X.K):=by
 intro pins s σ H x v vl vu lo hi sl Q I rx hs pl pu h;obtain⟨a,xs,rfl,hx,q⟩:=h;cases rx;obtain⟨its,r,ht,hz⟩:=I.list hx;have hlen:=r.length;refine⟨"list",_,slot_list_getitem.lookup,ht.isList.typeIs,?_⟩;refine wpAny_getItem_list_slice ht.isList hs pl pu .none (by simp) ?_ (by rw[List.size_toArray]<;>omega)
 rw[kU,←hlen]
 refine⟨.ref s.heap.objs.size,_,I.laid (t':=s.toks) (o:=.lst (mQ xs lo hi)) (fun b ob q=>Heap.get?_push_of_some _ q) (Nat.le_refl _) ?_,rfl,q _ (I.hok.fresh (Nat.le_refl _))⟩;exact⟨Nat.le_trans (jh xs lo hi) hz,_,0,(r.drop (HT.sIx xs.length 0 lo)).take (HT.sIx xs.length xs.length hi-HT.sIx xs.length 0 lo),Heap.get?_push_size _ rfl⟩
theorem mM:bQ X (.type "list") (fun xs H Q=>∃p ys,xs=[.ref p]/\(SqL X.K H p ys\/SqT X.K H p ys)/\∀l,H l=none->Q (.ref l) (upd H l (.lst ys))):=by
 intro pins s σ H xs us Q I r h;obtain⟨p,ys,rfl,hq,q⟩:=h;obtain⟨u,rfl,rx⟩:=fM r;cases rx
 have fin:∀(its:List Value),aB ys its->ys.length<=sizeLine->∀(h':Heap)(c':Nat),(∀b o',s.heap.get? b=some o'->h'.get? b=some o') ->
   h'.get? s.heap.objs.size=some { cls:=.type "list",dict:=none,data:=.seq its.toArray c',slots:=#[] }->EP X pins σ Q (.ref s.heap.objs.size) { s with heap:=h' }:=fun its r' hz h' c' kp e=>
  ⟨.ref s.heap.objs.size,_,I.laid (t':=s.toks) kp (Nat.le_refl _) (show bq X.prog X.w _ h' _ (.lst ys) from ⟨hz,its,c',r',e⟩),rfl,q _ (I.hok.fresh (Nat.le_refl _))⟩
 rcases hq with hq|hq
 ·obtain⟨its,r',pl,hz⟩:=I.list hq
  have hlen:=r'.length;obtain⟨o,ho,hc,n,hd⟩:=pl.isList;exact call_list_seq p (.inl rfl) ho hc hd (fun h' c' kp e=>fin its r' hz h' c' kp e) (by simp only[List.size_toArray]<;>omega)
 ·obtain⟨its,r',pl,hz⟩:=I.tuple hq
  have hlen:=r'.length;obtain⟨o,ho,hc,n,hd⟩:=pl;exact call_list_seq p (.inr rfl) ho hc hd (fun h' c' kp e=>fin its r' hz h' c' kp e) (by simp only[List.size_toArray]<;>omega)
theorem kR:bQ X (.type "tuple") (fun xs H Q=>∃p ys,xs=[.ref p]/\((SqL X.K H p ys/\∀l,H l=none->Q (.ref l) (upd H l (.tup ys)))\/(SqT X.K H p ys/\Q (.ref p) H))):=by
 intro pins s σ H xs us Q I r h;obtain⟨p,ys,rfl,h⟩:=h;obtain⟨u,rfl,rx⟩:=fM r;cases rx;rcases h with⟨hq,q⟩|⟨hq,q⟩
 ·obtain⟨its,r',pl,hz⟩:=I.list hq
  have hlen:=r'.length;refine call_tuple_list pl.isList (fun h' kp=>?_) (by simp only[List.size_toArray]<;>omega)
  have I1:Inv X pins σ H { s with heap:=h' }:=I.kept (t':=s.toks) kp
  have I2:Inv X pins σ (upd H h'.objs.size (.tup ys)) { s with heap:=h'.push { cls:=.type "tuple",data:=.seq its.toArray } }:=
   I1.laid (t':=s.toks) (fun b o e=>Heap.get?_push_of_some _ e) (Nat.le_refl _) (show bq X.prog X.w _ _ _ (.tup ys) from ⟨hz,its,r',oP.new _ _⟩)
  exact⟨.ref h'.objs.size,_,I2,rfl,q _ (I1.hok.fresh (Nat.le_refl _))⟩
 ·obtain⟨its,r',pl,hz⟩:=I.tuple hq
  exact call_tuple_same pl ⟨.ref p,H,I,rfl,q⟩
noncomputable def tyV(K:W.Frag)(T:String)(x:V)(H:Hp):Prop:=match x with
 |.str _=>T="str"
 |.int _=>T="int"
 |.ref p=>(T="list"/\∃xs,SqL K H p xs)\/(T="tuple"/\∃o,K.lookup p=some o/\o.cls=.type "tuple"/\o.dict=none) \/
   (T="dict"/\((∃kvs,H p=some (.dK kvs))\/∃kvs,H p=some (.dT kvs)))\/(T="set"/\∃S n,H p=some (.set S n))
 |_=>False
theorem wu{pins:List (Addr×Obj)}{σ:St}{H:Hp}{s:Shared}{T:String}{x:V}{v:Value}(I:Inv X pins σ H s)(r:aP x v)(ty:tyV X.K T x H):
  s.TypeIs v T/\∀a,v=.ref a->∃ob,s.heap.get? a=some ob/\ob.dict=none:=by
 cases x with
 |str z=>
  obtain⟨t,rfl⟩:=r;cases (show T="str" from ty)
  exact⟨typeIs_str s z t,fun _ e=>nomatch e⟩
 |int i=>
  obtain⟨t,rfl⟩:=r;cases (show T="int" from ty)
  exact⟨typeIs_int s i t,fun _ e=>nomatch e⟩
 |ref p=>
  cases r;rcases ty with⟨rfl,xs,hq⟩|⟨rfl,o,hk,hc,hd⟩|⟨rfl,hk⟩|⟨rfl,S,n,hk⟩
  ·obtain⟨its,_,pl,_⟩:=I.list hq
   refine⟨pl.isList.typeIs,fun a e=>?_⟩;cases e;obtain⟨o,n,e,c,hd,_⟩:=pl;exact⟨o,e,hd⟩
  ·refine⟨⟨o,I.kIn p o hk,hc⟩,fun a e=>?_⟩
   cases e;exact⟨o,I.kIn _ o hk,hd⟩
  ·have z:∃o,s.heap.get? p=some o/\o.ExactDict:=by
    rcases hk with⟨kvs,hk⟩|⟨kvs,hk⟩
    ·obtain⟨_,_,_,_,o,_,_,e,ex,_⟩:=I.hok p _ hk
     exact⟨o,e,ex⟩
    ·obtain⟨_,_,_,_,o,_,_,e,ex,_⟩:=I.hok p _ hk
     exact⟨o,e,ex⟩
   obtain⟨o,e,ex⟩:=z;refine⟨⟨o,e,ex.1⟩,fun a e2=>?_⟩;cases e2;exact⟨o,e,ex.2.1⟩
  ·obtain⟨o,_,_,_,e,ex,_⟩:=I.hok p _ hk
   refine⟨⟨o,e,ex.1⟩,fun a e2=>?_⟩;cases e2;exact⟨o,e,ex.2.1⟩
 |_=>exact False.elim ty
noncomputable def BZ(K:W.Frag)(T:String)(r:V->List V->Hp->VK->Prop)(to:TE):TE:=fun σ H Q=>to σ H fun x H1=>tyV K T x H1/\r x [] H1 Q
noncomputable def tBM(K:W.Frag)(T:String)(r:V->List V->Hp->VK->Prop)(to:TE)(t:TA):TE:=fun σ H Q=>to σ H fun x H1=>tyV K T x H1/\t σ H1 fun xs H2=>r x xs H2 Q
variable{o e:Expr}{es:List Expr}{to:TE}{t:TA}{name:Str}{apos cpos:Pos}{T id:String}{r:V->List V->Hp->VK->Prop}
theorem Bl(pa:PlainAttrs T)(slot:Slot T name id)(hty:typeOf (.builtin id)=pure (.type "method_descriptor"))(hm:MtR X id r)(ho:PE X o to)(hbase:attributeBase o name X.env (eval o X.env)=eval o X.env:=by rfl)(hline:(apos.endLine == cpos.line)=true:=by rfl):PE X (.Call (.Attribute o name apos) [] [] cpos) (BZ X.K T r to):=.mk <| by
 intro pins s σ H Q I h;refine wpAny_Call_method0_late hbase hline (thn (ho pins s σ H _ I h) fun v s1 ⟨x,H1,I1,r1,ty,q1⟩=>?_);obtain⟨h1,h2⟩:=wu I1 r1 ty;exact⟨T,id,pa,slot,hty,h1,h2,Calls.callWith_builtin rfl (PySem.evalArgs_none (hm pins s1 σ H1 x [] v [] Q I1 r1 .nil q1))⟩
theorem jJ(pa:PlainAttrs T)(slot:Slot T name id)(hty:typeOf (.builtin id)=pure (.type "method_descriptor"))(hm:MtR X id r)(ho:PE X o to)(ha:PA X (e::es) t)(hbase:attributeBase o name X.env (eval o X.env)=eval o X.env:=by rfl)
  (hfew:((backTo cpos (starEach (e::es) X.env)).all (fun x=>!x.1) && (backToKw cpos (keywordEach [] X.env)).all (fun x=>x.1.isSome)
   && decide ((e::es).length+([]:List Keyword).length+(if ([]:List Keyword).isEmpty then 0 else 1)<30))=true:=by rfl)
  (hline:(apos.endLine == cpos.line)=true:=by rfl) (hs:starEach (e::es) X.env=(false,eval e X.env)::starEach es X.env:=by rfl) (hplain:(backTo cpos (starEach es X.env)).any (·.1)=false:=by rfl) :
  PE X (.Call (.Attribute o name apos) (e::es) [] cpos) (tBM X.K T r to t):=.mk <| by
 intro pins s σ H Q I h;refine wpAny_Call_method_late hbase hfew hline rfl (thn (ho pins s σ H _ I h) fun v s1 ⟨x,H1,I1,r1,ty,q1⟩=>?_);obtain⟨h1,h2⟩:=wu I1 r1 ty;refine⟨T,id,pa,slot,hty,h1,h2,?_⟩;have hA:=ha cpos pins s1 σ H1 _ I1 q1;rw[hs] at hA ⊢;refine Calls.callWith_builtin (by show (false || (backTo cpos (starEach es X.env)).any (·.1))=false;rw[hplain]<;>rfl) (Calls.evalArgs_plain ?_)
 exact thn hA fun us s2 ⟨vs,H2,I2,r2,q2⟩=>hm pins s2 σ H2 x vs v us Q I2 r1 r2 q2
end
noncomputable def MtM(X:Cx)(id:String)(r:V->List V->Hp->VK->Prop):Prop:=
 ∀(pins:List (Addr×Obj)) (s:Shared) (σ:St) (H:Hp) (x:V) (xs:List V) (v:Value) (us:List Value) (Q:VK),Inv X pins σ H s->aP x v->aB xs us->r x xs H Q ->
  wpAny (model X.prog X.w) X.A (call (.builtin id) (v::us)) (EP X pins σ Q) X.xe s
theorem aB.one:∀ {x:V} {us:List Value},aB [x] us->∃u,us=[u]/\aP x u
 |_,_,.cons r .nil=>⟨_,rfl,r⟩
theorem aB.two:∀ {x y:V} {us:List Value},aB [x,y] us->∃u v,us=[u,v]/\aP x u/\aP y v
 |_,_,_,.cons r (.cons q .nil)=>⟨_,_,rfl,r,q⟩
theorem aB.eraseIdx:∀ {xs:List V} {us:List Value} (i:Nat),aB xs us->aB (xs.eraseIdx i) (us.eraseIdx i)
 |_,_,_,.nil=>.nil
 |_,_,0,.cons _ t=>t
 |_,_,i+1,.cons r t=>.cons r (aB.eraseIdx i t)
theorem aB.rep{xs:List V}{us:List Value}(h:aB xs us):∀k:Nat,aB (List.replicate k xs).flatten (List.replicate k us).flatten
 |0=>.nil
 |k+1=>by
  rw[List.replicate_succ,List.replicate_succ,List.flatten_cons,List.flatten_cons];exact aB.append h (aB.rep h k)
theorem lJ{α:Type}:∀(l:List α)(i:Nat),(l.eraseIdx i).length<=l.length
 | [],_=>Nat.le_refl _
 |_::_,0=>Nat.le_succ _
 |_::r,i+1=>Nat.succ_le_succ (lJ r i)
theorem lB(its:List Value):∀(k:Nat)(acc:List Value),
  List.foldl (fun x1 x2=>x1++x2) acc.toArray (List.replicate k its.toArray)=(acc++(List.replicate k its).flatten).toArray
 |0,acc=>by simp
 |k+1,acc=>by
  have e:acc.toArray++its.toArray=(acc++its).toArray:=by simp
  have e2:(acc++its)++(List.replicate k its).flatten=acc++(List.replicate (k+1) its).flatten:=by
   rw[List.replicate_succ,List.flatten_cons,List.append_assoc]
  rw[←e2,←lB its k (acc++its),←e,List.replicate_succ,List.foldl_cons]
section
variable{X:Cx}{pins:List (Addr×Obj)}{σ:St}{H:Hp}{s:Shared}{l b:Addr}{xs ys zs:List V}
theorem Inv.lset{its its':List Value}{n:Nat}{f:Array Value->Array Value}{t':Nat}(I:Inv X pins σ H s)(hH:H l=some (.lst xs))(e:s.heap.get? l=some { cls:=.type "list",data:=.seq its.toArray n })(hf:f its.toArray=its'.toArray)(hv:aB ys its')(hz:ys.length<=sizeLine):
  Inv X pins σ (upd H l (.lst ys)) { s with heap:=s.heap.update l (Obj.mapSeq f),toks:=t' }:=by
 have q:=PySem.IsL.update e f;rw[hf] at q;refine I.write (x:=l) (e:=l) (by rw[hH];exact trivial) (.inl rfl) (fun b' u hb hu=>(Heap.get?_update_other s.heap (Obj.mapSeq f) (Ne.symm hb)).trans hu) ⟨_,q⟩ ?_
 exact⟨hz,its',_,hv,q⟩
theorem Inv.lnew{its:List Value}{t':Nat}(I:Inv X pins σ H s)(hv:aB ys its)(hz:ys.length<=sizeLine):
  Inv X pins σ (upd H s.heap.objs.size (.lst ys)) { s with heap:=s.heap.push { cls:=.type "list",data:=.seq its.toArray },toks:=t' }:=
 I.laid (fun _ _ q=>Heap.get?_push_of_some _ q) (Nat.le_refl _) ⟨hz,its,0,hv,Heap.get?_push_size _ rfl⟩
theorem Inv.fresh(I:Inv X pins σ H s):H s.heap.objs.size=none:=I.hok.fresh (Nat.le_refl _)
theorem Inv.Ei(I:Inv X pins σ H s)(hH:H l=some (.lst xs)):xs.length<=sizeLine/\∃(its:List Value)(n:Nat),aB xs its/\xs.length=its.length/\s.heap.get? l=some { cls:=.type "list",data:=.seq its.toArray n }:=by
 obtain⟨z,its,n,r,e⟩:=I.hok l _ hH;exact⟨z,its,n,r,r.length,e⟩
theorem w9{n:Nat}(h:n<=sizeLine):Builtin.List.listTooLong n=false:=by
 unfold Builtin.List.listTooLong;exact decide_eq_false (by omega)
end
section
variable{X:Cx}
noncomputable def sS:V->List V->Hp->VK->Prop:=fun x vs H Q=>∃l xs y,x=.ref l/\vs=[y]/\H l=some (.lst xs)/\xs.length<sizeLine/\Q .non (upd H l (.lst (xs++[y])))
theorem lx:MtM X "list.append" sS:=by
 intro pins s σ H x vs v us Q I rx rv h;obtain⟨l,xs,y,rfl,rfl,hH,hz,q⟩:=h;cases rx;obtain⟨u,rfl,ru⟩:=rv.one;obtain⟨z,its,n,r,hl,e⟩:=I.Ei hH;refine call_meets F.slot_list_append ⟨_,e,rfl⟩ F.entry_list_append (F.args_list_append_2 _ _) (PySem.list_append l its.toArray n u (by rw[List.size_toArray];omega)) ⟨e,?_⟩
 refine⟨.non,_,I.lset (its':=its++[u]) hH e (by simp) (r.append (.cons ru .nil)) ?_,rfl,q⟩
 rw[List.length_append,List.length_singleton];omega
noncomputable def wA:V->List V->Hp->VK->Prop:=fun x vs H Q=>∃l xs i k y,x=.ref l/\vs=[.int i]/\H l=some (.lst xs)/\-(2^63)<=i/\i<2^63/\seqIndex? i xs.length=some k/\xs[k]?=some y/\Q y (upd H l (.lst (xs.eraseIdx k)))
theorem j3:MtM X "list.pop" wA:=by
 intro pins s σ H x vs v us Q I rx rv h;obtain⟨l,xs,i,k,y,rfl,rfl,hH,h1,h2,hk,hy,q⟩:=h;cases rx;obtain⟨u,rfl,ru⟩:=rv.one;obtain⟨t,rfl⟩:=ru;obtain⟨z,its,n,r,hl,e⟩:=I.Ei hH;obtain⟨w,hw,rw'⟩:=r.get hy
 refine call_meets F.slot_list_pop ⟨_,e,rfl⟩ F.entry_list_pop (F.args_list_pop_2 _ _)
  (MeetsSeq.list_pop_at l its.toArray n i t k w (fitsIndex_both h1 h2) (by rw[List.size_toArray,←hl];exact hk) (by rw[←Array.getElem?_toList];exact hw) (by rw[List.size_toArray];omega)) ⟨e,?_⟩
 refine⟨y,_,I.lset (its':=its.eraseIdx k) hH e ?_ (r.eraseIdx k) ?_,rw',q⟩
 ·show its.toArray.eraseIdxIfInBounds k=(its.eraseIdx k).toArray
  rw[List.eraseIdxIfInBounds_toArray]
 ·have:=lJ xs k
  omega
noncomputable def yK:R2:=fun x y H Q=>∃l b xs zs,x=.ref l/\y=.ref b/\H l=some (.lst xs)/\H b=some (.lst zs)/\xs.length+zs.length<=sizeLine/\∀p,H p=none->Q (.ref p) (upd H p (.lst (xs++zs)))
theorem aR:OpR X (binaryOp .Add) yK:=by
 intro pins s σ H x y v u Q I rx ry h;obtain⟨l,b,xs,zs,rfl,rfl,hH,hB,hz,q⟩:=h;cases rx;cases ry;obtain⟨z,its,n,r,hl,e⟩:=I.Ei hH;obtain⟨z2,its2,n2,r2,hl2,e2⟩:=I.Ei hB;refine PySem.P.add_list e e2 ?_ (by rw[List.size_toArray,List.size_toArray];omega)
 have ea:its.toArray++its2.toArray=(its++its2).toArray:=by simp
 rw[ea];exact⟨.ref _,_,I.lnew (t':=s.toks) (r.append r2) (by rw[List.length_append];omega),rfl,q _ I.fresh⟩
noncomputable def yt:R2:=fun x y H Q=>∃l k xs,x=.ref l/\y=.int k/\H l=some (.lst xs)/\-(2^63)<=k/\k<2^63/\xs.length*k.toNat<=sizeLine /\
 ∀p,H p=none->Q (.ref p) (upd H p (.lst (List.replicate k.toNat xs).flatten))
theorem mf{α:Type}(xs:List α)(k:Nat):(List.replicate k xs).flatten.length=k*xs.length:=by
 induction k with
 |zero=>simp
 |succ k ih=>rw[List.replicate_succ,List.flatten_cons,List.length_append,ih,Nat.succ_mul,Nat.add_comm]
theorem eJ:OpR X (binaryOp .Mult) yt:=by
 intro pins s σ H x y v u Q I rx ry h;obtain⟨l,k,xs,rfl,rfl,hH,h1,h2,hz,q⟩:=h;cases rx;obtain⟨t,rfl⟩:=ry;obtain⟨z,its,n,r,hl,e⟩:=I.Ei hH;have hlen:its.toArray.size*k.toNat<=sizeLine:=by rw[List.size_toArray,←hl];exact hz
 have hcap:¬ its.toArray.size*k.toNat>(2^63-1) / 8:=by
  have:(sizeLine:Nat)<=(2^63-1) / 8:=by decide
  omega
 have hfit:¬ (!Builtin.List.listFitsIndex k)=true:=by
  rw[fitsIndex_both h1 h2];exact Bool.false_ne_true
 have hlong:¬ Builtin.List.listTooLong (its.toArray.size*k.toNat)=true:=by
  rw[w9 hlen];exact Bool.false_ne_true
 have hnew:List.foldl (fun x1 x2=>x1++x2) #[] (List.replicate (if its.toArray.isEmpty=true then 0 else k.toNat) its.toArray)=(List.replicate k.toNat its).flatten.toArray:=by
  have f0:∀m:Nat,List.foldl (fun x1 x2=>x1++x2) #[] (List.replicate m its.toArray)=(List.replicate m its).flatten.toArray:=fun m=>by
   have:=lB its m [];rw[List.nil_append] at this;exact this
  rw[f0]
  cases its with
  |nil=>simp
  |cons a r'=>rw[if_neg (by simp)]
 refine wpAny_binaryOp_repeat_ref (T:="list") (U:="int") (by decide) ⟨_,e,rfl⟩ (fun s'=>typeIs_int s' k t) noFill_list_mul F.fills_int_mul F.slot_int_rmul repeat_list F.slot_int_index.lookup
  (call_meets F.slot_int_rmul (typeIs_int s k t) F.entry_int_rmul (F.args_int_rmul_2 _ _) (int___rmul___int_list k t l its.toArray n)
   ⟨e,rfl,⟨_,e,rfl⟩,call_meets F.slot_list_mul ⟨_,e,rfl⟩ F.entry_list_mul (F.args_list_mul_2 _ _) (AutoListH.list___mul___list_int_3 l its.toArray n k t hfit hcap hlong) ⟨e,?_⟩⟩)
 rw[hnew];exact⟨.ref _,_,I.lnew (t':=s.toks) (r.rep k.toNat) (by rw[mf,Nat.mul_comm];exact hz),rfl,q _ I.fresh⟩
end
section
variable{prog:Program}{w:World}{A:Around}{E:Value->Shared->Prop}{s:Shared}
set_option maxRecDepth 100000 in
end
section
variable{κ:Type}[DecidableEq κ]
noncomputable def pI(kvs:List (κ×V))(k:κ)(v:V):List (κ×V):=
 if (kvs.any fun kv=>decide (kv.1=k))=true then kvs.map (fun kv=>if kv.1=k then (kv.1,v) else kv) else kvs++[(k,v)]
theorem nF(kvs:List (κ×V))(k:κ)(v:V):(pI kvs k v).length<=kvs.length+1:=by
 unfold pI;split
 ·rw[List.length_map];omega
 ·rw[List.length_append,List.length_cons,List.length_nil];omega
theorem KV.any{kvs:List (κ×V)}{vs:List (κ×Value)}(r:KV kvs vs)(k:κ):(kvs.any fun kv=>decide (kv.1=k))=vs.any fun kv=>decide (kv.1=k):=by
 unfold KV at r
 induction r with
 |nil=>rfl
 |cons h t ih=>rw[List.any_cons,List.any_cons,ih,h.1]
theorem KV.repl{kvs:List (κ×V)}{vs:List (κ×Value)}(r:KV kvs vs)(k:κ){y:V}{u:Value}(ry:aP y u):
  KV (kvs.map fun kv=>if kv.1=k then (kv.1,y) else kv) (vs.map fun kv=>if kv.1=k then (kv.1,u) else kv):=by
 unfold KV at r ⊢
 induction r with
 |nil=>exact .nil
 | @cons p q ps qs h t ih=>
  rw[List.map_cons,List.map_cons];refine .cons ?_ ih;obtain⟨h1,h2⟩:=h;by_cases e:p.1=k
  ·rw[if_pos e,if_pos (h1.symm.trans e)];exact⟨h1,ry⟩
  ·rw[if_neg e,if_neg (fun z=>e (h1.trans z))];exact⟨h1,h2⟩
theorem KV.put{kvs:List (κ×V)}{vs:List (κ×Value)}(r:KV kvs vs)(k:κ){y:V}{u:Value}(ry:aP y u):KV (pI kvs k y) (stored vs k u):=by
 unfold pI stored;rw[r.any k];by_cases e:(vs.any fun kv=>decide (kv.1=k))=true
 ·rw[if_pos e,if_pos e];exact r.repl k ry
 ·rw[if_neg e,if_neg e];exact Paired.snoc r ⟨rfl,ry⟩
end
theorem y3{P:Program}{w:World}{k:Key}{u:Value}(r:aP (kV k) u):(bE P w).is k u=true:=by
 cases k with
 |inl i=>obtain⟨t,e⟩:=(show ∃t,u=Value.int i t from r);subst e;exact nU P w i t
 |inr x=>obtain⟨t,e⟩:=(show ∃t,u=Value.str x t from r);subst e;exact nM P w x t
theorem lY{P:Program}{w:World}:∀ {ks:List Key} {us:List Value},aB (ks.map kV) us->ItemsAre (bE P w) ks us
 | [],_,r=>by rw[List.map_nil] at r;cases r;exact .nil
 |k::ks,_,r=>by
  rw[List.map_cons] at r
  cases r with
  |cons h t=>exact .cons (y3 h) (lY t)
section
variable{P:Program}{w:World}{H:Hp}{h:Heap}{a:Addr}
theorem B2{u:HO}(ok:HOk P w H h)(e:Rd H a u):bq P w H h a u:=e.ok ok
theorem Cr{kvs:List (Key×V)}(ok:HOk P w H h)(e:Rd H a (.dK kvs)):kvs.length<=sizeLine/\(a == sysModules)=false/\∃vs,KV kvs vs/\h.DictOf (bE P w) a vs:=
 show bq P w H h a (.dK kvs) from B2 ok e
theorem zR{kvs:List (Key×V)}(ok:HOk P w H h)(e:H a=some (.dK kvs)):kvs.length<=sizeLine/\(a == sysModules)=false/\∃vs,KV kvs vs/\h.DictOf (bE P w) a vs:=Cr ok (.inl e)
theorem BP{ks:List Key}(ok:HOk P w H h)(e:H a=some (.tup (ks.map kV))):(tupleKind (bE P w)).is h ks a:=by
 obtain⟨_,its,r,⟨o,h1,h2,n,h3⟩,_⟩:=(show bq P w H h a (.tup (ks.map kV)) from ok a _ e)
 exact⟨o,its.toArray,n,h1,h2,h3,by simpa using lY r⟩
end
section
variable{X:Cx}{pins:List (Addr×Obj)}{σ:St}{H:Hp}{s:Shared}{a:Addr}{y v:V}{u r:Value}{o:Option V}{A:Around}{E:Value->Shared->Prop}
theorem Inv.big(I:Inv X pins σ H s):sysModules<s.heap.objs.size:=by
 have h:mainGlobals<s.heap.objs.size:=(I.mod.glob.keeps I.bk).lt;exact Nat.lt_trans (by decide) h
theorem ss{h':Heap}{t':Nat}{ob:HO}(I:Inv X pins σ H s)(mu:Mut (H a))(hs:Heap.SameBut a s.heap h')(he:∃q,h'.get? a=some q)(new:bq X.prog X.w (upd H a ob) h' a ob):
  Inv X pins σ (upd H a ob) { s with heap:=h',toks:=t' }:=
 I.write (x:=a) (e:=a) mu (.inl rfl) (fun b q hb z=>(hs.2 b hb).trans z) he new
theorem Ba{P:Program}{w:World}{H':Hp}{h':Heap}{kvs:List (Key×V)}{vs:List (Key×Value)}(z:kvs.length<=sizeLine)(hd:(a == sysModules)=false)(rel:KV kvs vs)(dd:h'.DictOf (bE P w) a vs):
  bq P w H' h' a (.dK kvs):=⟨z,hd,vs,rel,dd⟩
end
theorem j0{P:Program}{w:World}{H:Hp}(h:Heap)(hb:sysModules<h.objs.size):bq P w H (h.push { cls:=.type "dict",data:=.dict #[] }) h.objs.size (.dK []):=
 ⟨Nat.zero_le _,beq_eq_false_iff_ne.mpr (Ne.symm (Nat.ne_of_lt hb)),[],.nil,Heap.DictOf.new h⟩
noncomputable def vK:TE:=fun _ H Q=>∀p,H p=none->Q (.ref p) (upd H p (.dK []))
section
variable{X:Cx}{pos:Pos}
theorem pQ:PE X (.Dict [] [] pos) vK:=.mk <| fun pins s σ H Q I h=>
 wpAny_Dict_empty ⟨.ref s.heap.objs.size,_,I.laid (a:=s.heap.objs.size) (o:=.dK []) (t':=s.toks) (fun _ _ q=>Heap.get?_push_of_some _ q) (Nat.le_refl _) (j0 s.heap I.big),rfl,h _ (I.hok.fresh (Nat.le_refl _))⟩
end
noncomputable def qx:List (TE×TE)->St->Hp->(List (V×V)->Hp->Prop)->Prop
 | [],_,H,Q=>Q [] H
 |(tk,tv)::r,σ,H,Q=>tk σ H fun x H1=>tv σ H1 fun y H2=>qx r σ H2 fun ps H3=>Q ((x,y)::ps) H3
noncomputable abbrev VV:List (V×V)->List (Value×Value)->Prop:=Paired fun p q=>aP p.1 q.1/\aP p.2 q.2
noncomputable def PPs(X:Cx)(pos:Pos)(keys:List (Option Expr))(values:List Expr)(trs:List (TE×TE)):Prop:=
 ∀(pins:List (Addr×Obj)) (s:Shared) (σ:St) (H:Hp) (Q:List (V×V)->Hp->Prop),Inv X pins σ H s->qx trs σ H Q ->
  wpAny (model X.prog X.w) X.A (evalPairs (pairTrees keys values X.env pos)) (fun vs s'=>∃ps H',Inv X pins σ H' s'/\VV ps vs/\Q ps H') X.xe s
theorem xX{X:Cx}{pos:Pos}:PPs X pos [] [] []:=fun pins s σ H Q I h=>pairTrees_nil_walk ⟨[],H,I,.nil,h⟩
theorem wm{X:Cx}{pos:Pos}{k v:Expr}{ks:List (Option Expr)}{vs:List Expr}{tk tv:TE}{trs:List (TE×TE)}(hk:PE X k tk)(hv:PE X v tv)(hr:PPs X pos ks vs trs):
  PPs X pos (some k::ks) (v::vs) ((tk,tv)::trs):=fun pins s σ H Q I h=>
 pairTrees_cons_walk (thn (hk pins s σ H _ I h) fun u s1 ⟨x,H1,I1,rx,q1⟩=>thn (hv pins s1 σ H1 _ I1 q1) fun w2 s2 ⟨y,H2,I2,ry,q2⟩=>
  thn (hr pins s2 σ H2 _ I2 q2) fun ws s3 ⟨ps,H3,I3,rel,q3⟩=>⟨(x,y)::ps,H3,I3,.cons ⟨rx,ry⟩ rel,q3⟩)
noncomputable def iU(kvs more:List (Key×V)):List (Key×V):=more.foldl (fun acc kv=>pI acc kv.1 kv.2) kvs
theorem KV.merge:∀ {more:List (Key×V)} {rs:List (Key×Value)} {kvs:List (Key×V)} {vs:List (Key×Value)},KV more rs->KV kvs vs->KV (iU kvs more) (merged vs rs):=by
 intro more rs kvs vs r;unfold KV at r
 induction r generalizing kvs vs with
 |nil=>intro q;exact q
 | @cons p q ps qs h t ih=>
  intro r0
  have e:KV (pI kvs p.1 p.2) (stored vs q.1 q.2):=by
   have:=r0.put p.1 h.2;rw[←h.1];exact this
  exact ih e
theorem gJ:∀(more kvs:List (Key×V)),(iU kvs more).length<=kvs.length+more.length
 | [],kvs=>by show kvs.length<=kvs.length+0;omega
 |p::r,kvs=>by
  have h1:=gJ r (pI kvs p.1 p.2);have h2:=nF kvs p.1 p.2;show (iU (pI kvs p.1 p.2) r).length<=_;rw[List.length_cons];omega
theorem kG{P:Program}{w:World}:∀ {kvs:List (Key×V)} {ws:List (Value×Value)},VV (kvs.map fun kv=>(kV kv.1,kv.2)) ws->∃rs,Carries (bE P w) ws rs/\KV kvs rs
 | [],_,r=>by rw[List.map_nil] at r;cases r;exact⟨[],True.intro,.nil⟩
 |p::kvs,_,r=>by
  rw[List.map_cons] at r
  cases r with
  | @cons a b as bs h t=>
   obtain⟨rs,c,q⟩:=kG (P:=P) (w:=w) t;obtain⟨b1,b2⟩:=b;exact⟨(p.1,b2)::rs,⟨y3 h.1,rfl,c⟩,.cons ⟨rfl,h.2⟩ q⟩
noncomputable def zu(trs:List (TE×TE)):TE:=fun σ H Q=>∀p,H p=none->qx trs σ (upd H p (.dK [])) fun ps H2=>H2 p=some (.dK [])/\∃kvs:List (Key×V),ps=kvs.map (fun kv=>(kV kv.1,kv.2))/\kvs.length<=15/\Q (.ref p) (upd H2 p (.dK (iU [] kvs)))
theorem yc{X:Cx}{pos:Pos}{keys:List (Option Expr)}{values:List Expr}{trs:List (TE×TE)}(h:PPs X pos keys values trs)(hall:keys.all (·.isSome)=true)(hl:keys.length=values.length)(h0:keys≠[])(h15:keys.length<=15):PE X (.Dict keys values pos) (zu trs):=.mk <| by
 intro pins s σ H Q I q;have hn:=I.hok.fresh (Nat.le_refl s.heap.objs.size);have I1:=I.laid (a:=s.heap.objs.size) (o:=.dK []) (h':=s.heap.push { cls:=.type "dict",data:=.dict #[] }) (t':=s.toks) (fun _ _ q=>Heap.get?_push_of_some _ q) (Nat.le_refl _) (j0 s.heap I.big);refine wpAny_Dict_walk (knd:=bE X.prog X.w) hall hl h0 h15 (thn (h pins _ σ _ _ I1 (q _ hn)) fun ws s2 ⟨ps,H2,I2,rel,e,kvs,ep,lk,q2⟩=>?_)
 subst ep;obtain⟨rs,c,rk⟩:=kG (P:=X.prog) (w:=X.w) rel;obtain⟨z,hd,vs0,r0,dd⟩:=zR I2.hok e;cases r0;refine⟨rs,c,dd,fun h' dd' hs=>⟨.ref s.heap.objs.size,_,?_,rfl,q2⟩⟩
 have hz:(iU [] kvs).length<=sizeLine:=by
  have h1:=gJ kvs [];rw[List.length_nil] at h1;rw[sizeLine_eq];omega
 have he:∃q,h'.get? s.heap.objs.size=some q:=let ⟨q,_,_,hq,_⟩:=dd';⟨q,hq⟩
 exact ss I2 (by rw[e];exact True.intro) hs he (Ba hz hd (rk.merge .nil) dd')
structure M1(X:Cx)(o:Expr)(m:Str)(apos:Pos)(e:Expr)(cpos:Pos):Prop where
 base:attributeBase o m X.env (eval o X.env)=eval o X.env
 few:((backTo cpos (starEach [e] X.env)).all (fun x=>!x.1) && (backToKw cpos (keywordEach [] X.env)).all (fun x=>x.1.isSome)
  && decide (([e]:List Expr).length+([]:List Keyword).length+(if ([]:List Keyword).isEmpty then 0 else 1)<30))=true
 line:(apos.endLine == cpos.line)=true
 trees:backTo cpos (starEach [e] X.env)=[(false,eval e X.env)]
structure M2(X:Cx)(o:Expr)(m:Str)(apos:Pos)(e f:Expr)(cpos:Pos):Prop where
 base:attributeBase o m X.env (eval o X.env)=eval o X.env
 few:((backTo cpos (starEach [e,f] X.env)).all (fun x=>!x.1) && (backToKw cpos (keywordEach [] X.env)).all (fun x=>x.1.isSome)
  && decide (([e,f]:List Expr).length+([]:List Keyword).length+(if ([]:List Keyword).isEmpty then 0 else 1)<30))=true
 line:(apos.endLine == cpos.line)=true
 trees:backTo cpos (starEach [e,f] X.env)=[(false,eval e X.env),(false,eval f X.env)]
end L2
namespace Att
open PySem PySem.W PySem.Calls PyProof.Rows
theorem jk{P:Params}{h:Heap}:∀(ns:List Int)(vs:List Value),WellAll P h vs (ns.map WData.int)->IntsAre vs ns:=by
 intro ns
 induction ns with
 |nil=>
  intro vs w;rw[List.map_nil] at w;cases w;exact .nil
 |cons n ns ih=>
  intro vs w;rw[List.map_cons] at w
  cases w with
  |cons a b=>
   cases a;exact .cons _ _ (ih _ b)
theorem uC{l:OpenLaw}{n:Nat}(hn:l.most=some n){P:Params}{h:Heap}{args:List WData}{vals:List Value}(hpre:l.row.toRowW.claim.pre args=true)(hwl:WellAll P h vals args):
  ∃a vs ns,vals=[Value.ref a]/\args=[WData.list (ns.map WData.int)]/\h.get? a=some { cls:=.type "list",data:=.seq vs.toArray }/\IntsAre vs ns/\ns.length<=n:=by
 have hsh:WShape.hasAll [] args [.list .int]=true:=(pre_splitW hpre).1;have hc:l.pre.holds [] { args:=args }=true:=(pre_splitW hpre).2;obtain⟨d,r,rfl,h1,h2⟩:=hasAllW_cons hsh;obtain rfl:=hasAllW_nil h2;obtain⟨xs,rfl,h3⟩:=hasW_list h1;obtain⟨ns,rfl⟩:=items_int h3
 have hlen:ns.length<=n:=by
  unfold OpenLaw.pre at hc
  have h4:(WTm.not (.lt (.lit (.int (n:Int))) (.len (.arg 0)))).holds [] { args:=[.list (ns.map .int)] }=true:=by
   have h4:=(holds_andW hc).1;rw[hn] at h4;exact h4
  have h5:=condW_of h4 (w_not (w_lt w_lit (w_len_list (w_arg rfl))));rw[List.length_map] at h5;refine Nat.le_of_not_lt fun q=>?_;have q':(n:Int)<((ns.length:Nat):Int):=by omega
  first
   |(rw[decide_eq_true q'] at h5;exact absurd h5 (by decide))
   |(simp at h5;omega)
 cases hwl with
 |cons w1 w2=>
  cases w2
  cases w1 with
  |list ho hall=>exact⟨_,_,ns,rfl,rfl,ho,jk ns _ hall,hlen⟩
theorem uu(l:OpenLaw)(args:List WData):l.row.toRowW.claim.post args (.bool true) args=true:=
 postW_of (r:=l.row.toRowW) (X:=(true == true))
  (show WShape.has [] (.bool true) .bool=true by first|rfl|decide|simp[WShape.has,WShape.arms,WShape.armsAll])
  (show (WTm.eq .res (.lit (.bool true))).value [] { args:=args,res:=some (.bool true),after:=args }=some (.bool (true == true)) from w_eq_bool (w_res rfl) w_lit) rfl
theorem oo{l:OpenLaw}{n:Nat}{q:Program}{loose:List Str}{XP:(Str->Option Value)->Heap->Prop}{YP:World->Heap->Prop}{d:DefRec}(hn:l.most=some n)(hdf:d.params.defaults=[])
  (call:∀(w:World)(s₀ s₁:Shared)(mg mb:Str->Option Value)(fa:Addr)(o:Obj)(pm cd doc:Value)(a:Addr)(vs:List Value)(ns:List Int),
   Ground q loose [] XP w s₀ mg mb s₁.heap->YP w s₁.heap ->
   s₁.heap.get? fa=some o->o.data=.func (docDef d.name d.params d.body d.scope pm cd doc)->s₁.heap.CodeRec cd d.name->mg d.name=some (.ref fa) ->
   s₁.heap.get? a=some { cls:=.type "list",data:=.seq vs.toArray }->IntsAre vs ns->ns.length<=n->s₁.gens=#[] ->
   codeAny (model l.prog w) callerA (.call (.ref fa) ⟨[.ref a],[]⟩) (fun r s'=>r=.ok (.ret (.bool true))/\OldK s₁.heap s'.heap/\s'.os=s₁.os/\AllBare s'.gens) s₁) :
  WalkO q loose XP YP l.row.toRowW d [] (fun f vs=>PySem.call f vs):=by
 intro w s₀ s₁ mg mb G Y fa o pm cd doc dV kV ho hd hcd hD hmg hg args vals as hpre hlay hrd hwl hlo;obtain rfl:dV=.none:=Dflts.none hD hdf;obtain rfl:kV=.none:=Dflts.noKw hD;obtain⟨a,vs,ns,rfl,rfl,hobj,hints,hlen⟩:=uC hn hpre hwl;refine enter_call (codeAny_mono (call w s₀ s₁ mg mb fa o pm cd doc a vs ns G Y ho (fd_plain hd) hcd hmg hobj hints hlen hg) fun r s' hq=>?_);obtain⟨rfl,h2,h3,h4⟩:=hq
 exact⟨.inl ⟨.bool true,.bool true,[],rfl,fun _=>rfl,.bool true,uu l _,fun _=>⟨List.Pairwise.nil,fun _ hm=>(nomatch hm)⟩⟩,h2,h3,h4⟩
end Att
namespace L2
open PySem PySem.Spec PyProof.Rows
theorem lM:∀ {vs:List Value} {ns:List Int},IntsAre vs ns->aB (ns.map V.int) vs
 |_,_,.nil=>.nil
 |_,_,.cons n t h=>.cons ⟨t,rfl⟩ (lM h)
noncomputable def B6(_:Hp):Prop:=True
noncomputable abbrev KOf{K:W.Frag}{h:Heap}(_:K.In h):W.Frag:=K
noncomputable def defArgs(s:Stmt):Arguments:=match s with
 |.FunctionDef _ a _ _ _ _ _ _ _ _=>a
 |_=>{ posonlyargs:=[],args:=[],vararg:=none,kwonlyargs:=[],kw_defaults:=[],kwarg:=none,defaults:=[] }
noncomputable def defBody(s:Stmt):List Stmt:=match s with
 |.FunctionDef _ _ b _ _ _ _ _ _ _=>b
 |_=>[]
noncomputable def defScope(s:Stmt):Scope:=match s with
 |.FunctionDef _ _ _ _ _ _ sc _ _ _=>sc
 |_=>{ kind:=.function,names:=[],isGenerator:=false,isCoroutine:=false }
noncomputable abbrev CX0:CXT:=fun _ _ _ _ _ _=>False
noncomputable abbrev E0:XK:=fun _ _ _=>False
theorem aV{X:Cx}:l6 CX0 X E0:=fun _ _ _ _ _ _ _ h=>h.elim
structure Fun(K:W.Frag)(x qual:Str)(st:Stmt)(f:Addr)(fd:FuncData):Prop where
 ex:∃(oc:Value)(od:Option Addr)(kV doc pm:Value)(an:Option Addr)(cdv ct:Value) (osl:Array (Option Value)),
  fd=W.fnOf x qual (defArgs st) (defBody st) (defScope st) .none kV doc pm an cdv ct/\K.lookup f=some ⟨oc,od,.func fd,osl⟩/\W.codeIn K cdv qual=true
 kp:W.keepIn K (.ref f)=true
section
variable{P:Program}{w:World}{K:W.Frag}{mg:Str->Option Value}{base:Heap}
theorem Fun.ok{x qual:Str}{st:Stmt}{f:Addr}{fd:FuncData}{N ps:List Str}{k:Nat}{sp:Sp}(F:Fun K x qual st f fd)(S:aM N ps (defScope st))(len:∀vs H Q E,sp vs H Q E->vs.length=ps.length)
  (hbody:∀(cdv:Value)(A:Around)(outer:List Env)(s:Shared)(H:Hp)(vs:List V)(Q:VK)(E:XK),dn k (A.deeper (envOfC qual (defScope st) s.heap.objs.size f cdv))->sp vs H Q E ->
   ∃t,PSs (fU CX0 P w K mg base N qual (defScope st) f cdv A outer s H E).nox (defBody st) t/\t { nx:=fun _ H'=>Q .non H',rt:=Q } (start N vs) H):aY P w K mg base CX0 (k+1) f fd ps sp:=by
 obtain⟨oc,od,kV,doc,pm,an,cdv,ct,osl,rfl,lk,hcd⟩:=F.ex;refine zr lk hcd S len fun A outer s H vs Q E hr hsp=>?_;obtain⟨t,h,q⟩:=hbody cdv A outer s H vs Q E hr hsp;exact⟨t,h.nox,q⟩
theorem Fun.binds{x qual:Str}{st:Stmt}{f:Addr}{fd:FuncData}{ps:List Str}(F:Fun K x qual st f fd)(h:∀(kV doc pm:Value)(an:Option Addr)(cdv ct:Value)(us:List Value),us.length=ps.length->bindArgs (W.fnOf x qual (defArgs st) (defBody st) (defScope st) .none kV doc pm an cdv ct) ⟨us,[]⟩=pure (ps.zip us)):bB K fd ps []:=by
 obtain⟨oc,od,kV,doc,pm,an,cdv,ct,osl,rfl,lk,hcd⟩:=F.ex;exact .all (h kV doc pm an cdv ct)
theorem wI{x qual:Str}{st:Stmt}{f:Addr}{oc:Value}{od an:Option Addr}{osl:Array (Option Value)}{kV doc pm cdv ct:Value}(l:K.lookup f=some ⟨oc,od,.func (W.fnOf x qual (defArgs st) (defBody st) (defScope st) .none kV doc pm an cdv ct),osl⟩)(c:W.codeIn K cdv qual=true)(k:W.keepIn K (.ref f)=true):Fun K x qual st f (W.fnOf x qual (defArgs st) (defBody st) (defScope st) .none kV doc pm an cdv ct):=⟨⟨oc,od,kV,doc,pm,an,cdv,ct,osl,rfl,l,c⟩,k⟩
end
theorem CO{A:Around}{k:Nat}(hr:dn k A):A.units+1<cLine:=Nat.lt_of_le_of_lt (Nat.add_le_add_left (by decide:1<=64) _) hr.units
theorem aA{n:Nat}(h:n<=1000):n<sizeLine:=Nat.lt_of_le_of_lt h (by decide)
section
variable{X:Cx}
theorem pv(i:Nat){x:Str}{pos:Pos}(hN:X.N[i]?=some x:=by rfl)(hv:Vis X.env.scope x:=by first|exact Or.inl rfl|exact Or.inr (Or.inl rfl)|exact Or.inr (Or.inr rfl))(hd:(x == ("__debug__":Str))=false:=by decide)(hcd:(x == ("__classdict__":Str))=false:=by decide):PE X (.Name x pos) (wN i):=xH hN hv hd hcd
end
theorem mh{c A B:Prop}[Decidable c](h1:c->A)(h2:¬ c->B):if c then A else B:=by
 by_cases h:c
 ·rw[if_pos h]
  exact h1 h
 ·rw[if_neg h]
  exact h2 h
noncomputable def cw(H H':Hp):Prop:=∀b o,H b=some o->H' b=some o
theorem cw.refl(H:Hp):cw H H:=fun _ _ h=>h
theorem cw.trans{H H1 H2:Hp}(a:cw H H1)(b:cw H1 H2):cw H H2:=fun c o h=>b c o (a c o h)
end L2
set_option maxHeartbeats 1000000
namespace L2
open PySem PySem.Spec PyProof.Rows
section
variable{prog:Program}{w:World}{A:Around}{E:Value->Shared->Prop}{R:Result->Shared->Prop}{s:Shared}
noncomputable def e9(elt:Expr)(gens:List Comprehension)(scope:Scope)(pos:Pos)(d:Nat)(acc:Value)(env:Env):Sem Unit:=
 match gens[d+1]? with
 |some g'=>do
  let x ← eval g'.iter env
  standAt g'.iter.pos
  let x ← if g'.is_async != 0 then foldedIterable g'.iter x else foldedSetIterable g'.iter env x
  let _ ← runOwn (.compStart (.ListComp elt gens scope pos) (d+1) (← holding [x] (if g'.is_async != 0 then asyncIter x else pyIter x)) acc env) env
 |none=>do let _ ← call (.builtin "list.append") [acc,←eval elt env]
theorem na{elt target iter:Expr}{gens:List Comprehension}{ifs:List Expr}{scope:Scope}{pos:Pos}{d:Nat}{it acc:Value}{env:Env}(I:Nat->Shared->Prop)(hg:gens[d]?=some ⟨target,iter,ifs,0⟩)(ha:∀g',gens[d+1]?=some g'->g'.is_async=0)
  (turn:∀n s,I n s->wpAny (model prog w) A (pyNext it) (fun r s₁=>match r with
   |none=>R (.ok .next) s₁
   | some v=>wpAny (model prog w) A (letOwnedTupleGo target it v) (fun _ s₁'=>wpAny (model prog w) A (assign target env v) (fun _ s₂ =>
     wpAny (model prog w) A (forIn ifs true fun c r=>if r=true then do let ok ← isTrue c env (eval c env);pure (ForInStep.yield ok) else pure (ForInStep.yield r)) (fun ok s₃=>
      if ok=true then wpAny (model prog w) A (e9 elt gens scope pos d acc env) (fun _ s₅=>∃m,m<n/\I m s₅) (fun _ _=>False) s₃
      else ∃m,m<n/\I m s₃) (fun _ _=>False) s₂) (fun _ _=>False) s₁') (fun _ _=>False) s₁) (fun _ _=>False) s)
  (n:Nat) (h:I n s) :
  codeAny (model prog w) A (.compLoop (.ListComp elt gens scope pos) d it acc env) R s:=by
 refine codeAny_loop rfl I (fun n s hI=>?_) n h;show wpAny _ A ((compTurn (.ListComp elt gens scope pos) d it acc env).onRaise (fun x=>do noteFrame x env;theTreesLotGoes x)) _ _ s
 refine wpAny_noted ?_;unfold compTurn;simp only[hg];refine wpAny_bind (wpAny_standAt (wpAny_bind (wpAny_mono (turn n s hI) (fun r s₁ h₁=>?_) fun _ _ x=>x.elim)))
 cases r with
 |none=>exact wpAny_pure h₁
 |some v=>
  refine wpAny_bind (wpAny_mono h₁ (fun _ s₁' h₁'=>?_) fun _ _ x=>x.elim);refine wpAny_bind (wpAny_mono h₁' (fun _ s₂ h₂=>wpAny_bind (wpAny_mono h₂ (fun ok s₃ h₃=>?_) fun _ _ x=>x.elim)) fun _ _ x=>x.elim)
  cases ok with
  |false=>exact wpAny_pure ⟨rfl,h₃⟩
  |true=>
   have h₃':wpAny (model prog w) A (e9 elt gens scope pos d acc env) (fun _ s₅=>∃m,m<n/\I m s₅) (fun _ _=>False) s₃:=h₃;unfold e9 at h₃';rw[if_pos rfl]
   cases hd:gens[d+1]? with
   |none=>
    rw[hd] at h₃';exact wpAny_bind (wpAny_mono h₃' (fun _ s₅ h₅=>wpAny_pure ⟨rfl,h₅⟩) fun _ _ x=>x.elim)
   |some g'=>
    rw[hd] at h₃';have h0:=ha g' hd;have e0:(g'.is_async != 0)=false:=by rw[h0];rfl
    dsimp only at h₃' ⊢;simp only[e0,Bool.false_eq_true,if_false] at h₃' ⊢;intro Γ p hΓ;have q:=h₃' Γ p hΓ;simp only[Sem.wp_bind'] at q ⊢;refine Sem.wp_mono _ Γ _ (fun x p₁ s₄ q₁=>?_) (fun _ _ _ z=>z.elim) _ _ q;refine Sem.wp_mono _ Γ _ (fun _ p₂ s₄ q₂=>?_) (fun _ _ _ z=>z.elim) _ _ q₁;refine Sem.wp_mono _ Γ _ (fun x p₂ s₄ q₂=>?_) (fun _ _ _ z=>z.elim) _ _ q₂;refine Sem.wp_mono _ Γ _ (fun x p₂ s₄ q₂=>?_) (fun _ _ _ z=>z.elim) _ _ q₂
    refine Sem.wp_mono _ Γ _ (fun x p₂ s₄ q₂=>?_) (fun _ _ _ z=>z.elim) _ _ q₂;exact⟨rfl,q₂⟩
end
section
variable{prog:Program}{w:World}{A:Around}{E:Value->Shared->Prop}{R:Result->Shared->Prop}{s:Shared}
theorem gL{elt target iter:Expr}{gens:List Comprehension}{ifs:List Expr}{scope:Scope}{pos:Pos}{d:Nat}{it acc:Value}{env:Env}(hg:gens[d]?=some ⟨target,iter,ifs,0⟩)(h0:codeAny (model prog w) A (.compLoop (.ListComp elt gens scope pos) d it acc env) R s)(h:wpAny (model prog w) A (pyIter it) (fun it' s'=>codeAny (model prog w) A (.compLoop (.ListComp elt gens scope pos) d it' acc env) R s') (fun _ _=>False) s):
  codeAny (model prog w) A (.compStart (.ListComp elt gens scope pos) d it acc env) R s:=by
 refine codeAny_of_tree ?_;show wpAny _ _ ((compStart (.ListComp elt gens scope pos) d it acc env).onRaise (fun x=>do noteFrame x env;standAt theWindowsPlace)) _ _ s
 refine wpAny_notedAt ?_;unfold compStart;have hcl:clausesOf (.ListComp elt gens scope pos)=gens:=rfl;simp only[hcl,hg,Option.elim];refine wpAny_ite ?_;rw[if_neg (by decide)]
 refine wpAny_bind (wpAny_askSetting (wpAny_ite ?_));split
 ·first
   |exact wpAny_bind (wpAny_pure (wpAny_pure (And.intro rfl h0)))
   |exact wpAny_pure (And.intro rfl h0)
 ·exact wpAny_bind (wpAny_rule (wpAny_bind (wpAny_standAt (wpAny_bind (wpAny_mono h (fun it' s' h'=>wpAny_pure (And.intro rfl h')) fun _ _ x=>x.elim)))))
end
noncomputable abbrev TL:=Addr->St->Hp->(St->Hp->Prop)->Prop
noncomputable def PL(X:Cx)(elt:Expr)(gens:List Comprehension)(scope:Scope)(pos:Pos)(d:Nat)(t:TL):Prop:=
 ∀(pins:List (Addr×Obj)) (s:Shared) (σ:St) (H:Hp) (acc:Addr) (K:St->Hp->Prop),Inv X pins σ H s->t acc σ H K ->
  wpAny (model X.prog X.w) X.A (e9 elt gens scope pos d (.ref acc) X.env) (fun _ s'=>∃σ' H',Inv X pins σ' H' s'/\K σ' H') (fun _ _=>False) s
noncomputable def PTs(X:Cx)(ifs:List Expr)(t:TT):Prop:=
 ∀(pins:List (Addr×Obj)) (s:Shared) (σ:St) (H:Hp) (Q:Bool->Hp->Prop),Inv X pins σ H s->t σ H Q ->
  wpAny (model X.prog X.w) X.A (forIn ifs true fun c r=>if r=true then do let ok ← isTrue c X.env (eval c X.env);pure (ForInStep.yield ok) else pure (ForInStep.yield r)) (TP X pins σ Q) X.xe s
noncomputable def qJ:TT:=fun _ H Q=>Q true H
noncomputable def z9(te:TE):TL:=fun acc σ H K=>te σ H fun y H1=>∃xs,H1 acc=some (.lst xs)/\xs.length<sizeLine/\K σ (upd H1 acc (.lst (xs++[y])))
noncomputable def sR(J:It)(g:TG)(tc:TT)(l:TL):TL:=fun acc σ H K=>∃W:Nat->Nat->St->Hp->Prop,(∃m,W 0 m σ H)/\∀i m σ H,W i m σ H ->
 (J.stop i H/\K σ H)\/(J.go i H/\∀x H',J.yld i H x H'->g x σ H' fun σ2 H2=>tc σ2 H2 fun b H3=>
  if b=true then l acc σ2 H3 (fun σ3 H4=>∃m',m'<m/\W (i+1) m' σ3 H4) else ∃m',m'<m/\W (i+1) m' σ2 H3)
noncomputable def Co(wi:TI)(g:TG)(tc:TT)(l:TL):TL:=fun acc σ H K=>wi σ H fun J H1=>sR J g tc l acc σ H1 K
section
variable{X:Cx}{elt:Expr}{gens:List Comprehension}{scope:Scope}{pos:Pos}{d:Nat}{te:TE}{l:TL}{tg iter:Expr}{ifs:List Expr}{wi:TI}{g:TG}{tc:TT}
theorem cR:PTs X [] qJ:=fun pins s σ H Q I h=>wpAny_tests_nil ⟨H,I,h⟩
theorem sQ{c:Expr}(hc:PT X c tc):PTs X [c] tc:=fun pins s σ H Q I h=>wpAny_tests_one (hc pins s σ H Q I h)
theorem cD(hx:X.xe=fun _ _=>False)(hd:gens[d+1]?=none)(he:PE X elt te):PL X elt gens scope pos d (z9 te):=by
 intro pins s σ H acc K I h;unfold e9;rw[hd];have he':=he pins s σ H _ I h;rw[hx] at he';refine wpAny_bind (thn he' fun u s1 ⟨y,H1,I1,r1,xs,e1,z1,k1⟩=>?_);have ha:=lx pins s1 σ H1 (.ref acc) [y] (.ref acc) [u] (fun v H2=>v=.non/\H2=upd H1 acc (.lst (xs++[y]))) I1 rfl (.cons r1 .nil) ⟨acc,xs,y,rfl,rfl,e1,z1,rfl,rfl⟩;rw[hx] at ha;refine wpAny_bind (thn ha fun v s2 ⟨v',H2,I2,r2,e2,e3⟩=>wpAny_pure ⟨σ,H2,I2,by rw[e3];exact k1⟩)
theorem lc(hx:X.xe=fun _ _=>False)(hc:X.calm=true)(hd:gens[d]?=some ⟨tg,iter,ifs,0⟩)(ha:∀g',gens[d+1]?=some g'->g'.is_async=0)(hg:PG X tg g)(ht:PTs X ifs tc)(hl:PL X elt gens scope pos d l){pins:List (Addr×Obj)}{s:Shared}{σ:St}{H:Hp}{acc it:Addr}{fp:List Addr}{tn:Nat->Heap->Prop}{J:It}{K:St->Hp->Prop}{R:Result->Shared->Prop}(I:Inv X pins σ H s)(T:uR X.prog X.w X.K tg J fp it tn)(st:tn 0 s.heap)(f2:∀b∈fp,iM X pins H b)(h:sR J g tc l acc σ H K)(hR:∀σ' H' s',Inv X pins σ' H' s'->K σ' H'->R (.ok .next) s'):
  codeAny (model X.prog X.w) X.A (.compLoop (.ListComp elt gens scope pos) d (.ref it) (.ref acc) X.env) R s:=by
 obtain⟨W,⟨m0,w0⟩,turn⟩:=h;have stat:∀ {H':Hp},(∀b∈fp,H' b=none)->∀b∈fp,iM X pins H' b:=fun hn b hb=>⟨hn b hb,(f2 b hb).2⟩;refine na (fun n s'=>∃i σ' H',Inv X pins σ' H' s'/\tn i s'.heap/\(∀b∈fp,H' b=none)/\W i n σ' H') hd ha ?_ m0 ⟨0,σ,H,I,st,fun b hb=>(f2 b hb).1,w0⟩;rintro n s3 ⟨i,σ3,H3,I3,st3,fr3,w3⟩;rcases turn i n σ3 H3 w3 with⟨stop,qn⟩|⟨go,step⟩
 ·refine thn (T.done X rfl rfl rfl hc i pins s3 σ3 H3 _ I3 (stat fr3) st3 stop) fun r s4 ⟨hr,I4⟩=>?_
  subst hr;exact hR σ3 H3 s4 I4 qn
 ·refine thn (T.item X rfl rfl rfl hc i pins s3 σ3 H3 _ I3 (stat fr3) st3 go) fun r s4 ⟨u,hr,h4⟩=>?_
  subst hr;refine thn h4 fun _ s5 ⟨x,H5,I5,r5,y5,st5,fr5⟩=>?_;have I5':=I5.pinned (stat fr5) (T.obj _ _ st5)
  have again:∀ {σ7:St} {H7:Hp} {s7:Shared} {m':Nat},Inv X (pins++ku fp s5.heap) σ7 H7 s7->m'<n->W (i+1) m' σ7 H7->∃m,m<n/\∃i σ' H',Inv X pins σ' H' s7/\tn i s7.heap/\(∀b∈fp,H' b=none)/\W i m σ' H':=fun {σ7 H7 s7 m'} I7 hm w7=>by
   refine⟨m',hm,i+1,σ7,H7,I7.unpinned,T.keep _ _ _ st5 fun b hb o e=>(I7.pin (b,o) (List.mem_append_right _ (List.mem_append_right _ (fE hb e)))).1,fun b hb=>?_,w7⟩;obtain⟨o,e,d⟩:=T.obj _ _ st5 b hb;exact(I7.pin (b,o) (List.mem_append_right _ (List.mem_append_right _ (fE hb e)))).2.1
  have hg':=hg _ s5 σ3 H5 x u _ I5' r5 (step x H5 y5);rw[hx] at hg';refine thn hg' fun _ s6 ⟨σ6,H6,I6,q6⟩=>?_;have ht':=ht _ s6 σ6 H6 _ I6 q6;rw[hx] at ht';refine thn ht' fun ok s7 ⟨H7,I7,q7⟩=>?_
  cases ok with
  |false=>
   rw[if_neg Bool.false_ne_true] at q7 ⊢;obtain⟨m',hm,w7⟩:=q7;exact again I7 hm w7
  |true=>
   rw[if_pos rfl] at q7 ⊢;refine thn (hl _ s7 σ6 H7 acc _ I7 q7) fun _ s8 ⟨σ8,H8,I8,m',hm,w8⟩=>?_;exact again I8 hm w8
theorem AN(hx:X.xe=fun _ _=>False)(hc:X.calm=true)(hd:gens[d+1]?=some ⟨tg,iter,ifs,0⟩)(ha:∀g',gens[d+2]?=some g'->g'.is_async=0)(hi:PI X tg iter wi)(hg:PG X tg g)(ht:PTs X ifs tc)(hl:PL X elt gens scope pos (d+1) l)(hs:∀x,foldedSetIterable iter X.env x=pure x:=by intro _;rfl):PL X elt gens scope pos d (Co wi g tc l):=by
 intro pins s σ H acc K I h;unfold e9;rw[hd];dsimp only;have e0:((0:Int) != 0)=false:=by decide
 simp only[show (((⟨tg,iter,ifs,0⟩:Comprehension).is_async != 0)=false) from rfl,Bool.false_eq_true,if_false]
 have hi':=hi pins s σ H _ I h;rw[hx] at hi';refine wpAny_bind (thn hi' fun v s1 h1=>wpAny_bind (wpAny_standAt (wpAny_bind (wpAny_of_eq (hs v) ?_))));refine wpAny_bind (wpAny_holding (thn h1 fun itv s2 h2=>?_));obtain⟨it,fp,tn,J,H2,e,I2,T,st2,f2,q⟩:=h2;subst e
 have loop:codeAny (model X.prog X.w) X.A (.compLoop (.ListComp elt gens scope pos) (d+1) (.ref it) (.ref acc) X.env) (fun r s'=>match r with|.ok f=>wpAny (model X.prog X.w) X.A (pure ():Sem Unit) (fun _ s'=>∃σ' H',Inv X pins σ' H' s'/\K σ' H') (fun _ _=>False) s'|.error e=>cameBackBy (model X.prog X.w) X.A X.env (fun _ _=>False) e s') s2:=
  lc hx hc hd ha hg ht hl I2 T st2 f2 q fun σ' H' s' I' k'=>wpAny_pure ⟨σ',H',I',k'⟩
 exact wpAny_bind (wpAny_runOwn (gL hd loop (T.self X.A 0 s2 _ _ st2 loop)))
end
noncomputable def fO(env:Env):List (Str×NameKind)->List (Str×Addr)->List (Str×Addr)
 | [],acc=>acc
 |(n,k)::r,acc=>if k == .free then fO env r ((n,(env.cells.lookup n).getD 0)::acc) else fO env r acc
theorem qG{scope:Scope}{env:Env}(h:∀y∈scope.names,y.2=.free->∃c,env.cells.lookup y.1=some c):closureFor scope env=pure (fO env scope.names []):=by
 have gen:∀(names:List (Str×NameKind)) (acc:List (Str×Addr)),(∀y∈names,y.2=.free->∃c,env.cells.lookup y.1=some c) ->
   (forIn names acc fun(x:Str×NameKind) (r:List (Str×Addr))=>(if (x.2 == NameKind.free)=true then do let a ← cellOf env x.1;pure (ForInStep.yield ((x.1,a)::r)) else pure (ForInStep.yield r):Sem _))=pure (fO env names acc):=by
  intro names
  induction names with
  |nil=>intro acc _;rfl
  |cons y r ih=>
   intro acc hy;obtain⟨n,k⟩:=y;rw[List.forIn_cons];unfold fO
   cases hk:k == NameKind.free with
   |true=>
    obtain⟨c,hc⟩:=hy (n,k) (List.mem_cons_self ..) (by simpa using hk)
    simp only[hk,if_true,cellOf,hc,Option.getD_some];exact ih _ fun y hy'=>hy y (List.mem_cons_of_mem _ hy')
   |false=>
    simp only[hk,Bool.false_eq_true,if_false];exact ih _ fun y hy'=>hy y (List.mem_cons_of_mem _ hy')
 have:=gen scope.names [] h;unfold closureFor;show ((forIn scope.names ([]:List (Str×Addr)) fun(x:Str×NameKind) (r:List (Str×Addr))=>(if (x.2 == NameKind.free)=true then do let a ← cellOf env x.1;pure (ForInStep.yield ((x.1,a)::r)) else pure (ForInStep.yield r):Sem _)) >>= fun z=>pure z)=_
 rw[this];rfl
theorem ff{env:Env}:∀ {names:List (Str×NameKind)} {acc:List (Str×Addr)} {n:Str} {c:Addr},(n,c)∈fO env names acc->(n,c)∈acc\/((n,NameKind.free)∈names/\c=(env.cells.lookup n).getD 0)
 | [],_,_,_,h=>.inl h
 |(m,k)::r,acc,n,c,h=>by
  unfold fO at h;split at h
  ·rename_i hk
   rcases ff h with h|⟨h1,h2⟩
   ·rcases List.mem_cons.mp h with e|e
    ·cases e
     have:k=.free:=by simpa using hk
     subst this;exact .inr ⟨List.mem_cons_self ..,rfl⟩
    ·exact .inl e
   ·exact .inr ⟨List.mem_cons_of_mem _ h1,h2⟩
  ·rcases ff h with h|⟨h1,h2⟩
   ·exact .inl h
   ·exact .inr ⟨List.mem_cons_of_mem _ h1,h2⟩
theorem im{env:Env}:∀ {names:List (Str×NameKind)} {acc:List (Str×Addr)} {n:Str},((n,NameKind.free)∈names\/∃c,(n,c)∈acc)->∃c,(n,c)∈fO env names acc
 | [],_,_,h=>by
  rcases h with h|h
  ·cases h
  ·exact h
 |(m,k)::r,acc,n,h=>by
  unfold fO;split
  ·rename_i hk
   apply im;rcases h with h|⟨c,h⟩
   ·rcases List.mem_cons.mp h with e|e
    ·cases e;exact .inr ⟨_,List.mem_cons_self ..⟩
    ·exact .inl e
   ·exact .inr ⟨c,List.mem_cons_of_mem _ h⟩
  ·rename_i hk
   apply im;rcases h with h|h
   ·rcases List.mem_cons.mp h with e|e
    ·cases e;simp at hk
    ·exact .inl e
   ·exact .inr h
theorem eQ:∀ {names:List (Str×NameKind)} {h:Heap} {acc:List (Str×Addr)} {n:Str} {c:Addr},(n,c)∈cellsFrom h.objs.size names acc ->
  (n,c)∈acc\/((n,NameKind.cell)∈names/\h.objs.size<=c/\(pushCells h names).IsCell c none)
 | [],_,_,_,_,m=>.inl m
 |(x,k)::r,h,acc,n,c,m=>by
  unfold cellsFrom at m;unfold pushCells;split at m
  ·rename_i hk
   rw[if_pos hk];have sz:(h.push { cls:=.type "cell",data:=.cell none }).objs.size=h.objs.size+1:=Heap.size_push ..;rw[←sz] at m
   rcases eQ m with m|⟨m1,m2,m3⟩
   ·rcases List.mem_cons.mp m with e|e
    ·cases e
     have:k=.cell:=by simpa using hk
     subst this;exact .inr ⟨List.mem_cons_self ..,Nat.le_refl _,⟨_,pushCells_keeps _ _ _ _ (Heap.get?_push_size _ rfl),rfl⟩⟩
    ·exact .inl e
   ·exact .inr ⟨List.mem_cons_of_mem _ m1,by omega,m3⟩
  ·rename_i hk
   rw[if_neg hk];rcases eQ m with m|⟨m1,m2,m3⟩
   ·exact .inl m
   ·exact .inr ⟨List.mem_cons_of_mem _ m1,m2,m3⟩
theorem cA:∀ {names:List (Str×NameKind)} {k:Nat} {acc:List (Str×Addr)} {n:Str},((n,NameKind.cell)∈names\/∃c,(n,c)∈acc)->∃c,(n,c)∈cellsFrom k names acc
 | [],_,_,_,h=>by
  rcases h with h|h
  ·cases h
  ·exact h
 |(m,k)::r,j,acc,n,h=>by
  unfold cellsFrom;split
  ·rename_i hk
   apply cA;rcases h with h|⟨c,h⟩
   ·rcases List.mem_cons.mp h with e|e
    ·cases e;exact .inr ⟨_,List.mem_cons_self ..⟩
    ·exact .inl e
   ·exact .inr ⟨c,List.mem_cons_of_mem _ h⟩
  ·rename_i hk
   apply cA;rcases h with h|h
   ·rcases List.mem_cons.mp h with e|e
    ·cases e;simp at hk
    ·exact .inl e
   ·exact .inr h
theorem eP:∀ {names:List (Str×NameKind)} {k:Nat} {acc:List (Str×Addr)},(∀n c,(n,c)∈acc->c<k)->(∀n m c,(n,c)∈acc->(m,c)∈acc->n=m) ->
  ∀n m c,(n,c)∈cellsFrom k names acc->(m,c)∈cellsFrom k names acc->n=m
 | [],_,_,_,h2,n,m,c,a,b=>h2 n m c a b
 |(x,kd)::r,k,acc,h1,h2,n,m,c,a,b=>by
  unfold cellsFrom at a b;split at a
  ·rename_i hk
   rw[if_pos hk] at b;refine eP (k:=k+1) ?_ ?_ n m c a b
   ·intro n c h
    rcases List.mem_cons.mp h with e|e
    ·cases e;exact Nat.lt_succ_self _
    ·exact Nat.lt_succ_of_lt (h1 n c e)
   ·intro n m c h h'
    rcases List.mem_cons.mp h with e|e<;>rcases List.mem_cons.mp h' with e'|e'
    ·cases e;cases e';rfl
    ·cases e;exact absurd (h1 _ _ e') (Nat.lt_irrefl _)
    ·cases e';exact absurd (h1 _ _ e) (Nat.lt_irrefl _)
    ·exact h2 n m c e e'
  ·rename_i hk
   rw[if_neg hk] at b;exact eP h1 h2 n m c a b
theorem cH{α:Type}:∀ {l:List (Str×α)} {n:Str},(∃c,(n,c)∈l)->∃c,l.lookup n=some c
 | [],_,⟨_,h⟩=>by cases h
 |(k,v)::r,n,⟨c,h⟩=>by
  rw[List.lookup_cons]
  cases hb:n == k with
  |true=>exact⟨v,rfl⟩
  |false=>
   rcases List.mem_cons.mp h with e|e
   ·cases e;simp at hb
   ·exact cH ⟨c,e⟩
noncomputable def dz(scope osc:Scope)(N:List Str)(src:List (Option Nat))(ON:List Str):Bool:=
 (scope.kind == .function) && (osc.kind == .function) && decide (src.length=N.length) &&
 (scope.names.all fun y=>(scope.names.lookup y.1 == some y.2) && (if y.2 == .free then osc.names.lookup y.1 == some .cell else true)) &&
 ((N.zip src).all fun p=>match p.2 with|none=>true|some j=>(ON[j]? == some p.1) && (scope.names.lookup p.1 == some .free))
noncomputable def oE(src:List (Option Nat))(σ:St):St:=src.map fun o=>match o with|none=>none|some j=>(σ[j]?).join
noncomputable def Cx.blk(X:Cx)(scope:Scope)(N:List Str)(cs:List (Str×Addr))(C:Addr)(s:Shared)(H:Hp)(ex:List Addr)(pn:List (Addr×Obj)):Cx:=
 { X with N:=N,s₀:=s,H₀:=H,env:=compEnvC scope cs C X.env,outer:=X.stack,stack:=X.stack,ex:=ex,fn:=fun x=>decide (scope.names.lookup x=some .cell),pn:=pn,xe:=fun _ _=>False }
section
variable{X:Cx}{pins:List (Addr×Obj)}{σ:St}{H:Hp}{s:Shared}{scope:Scope}{N:List Str}{src:List (Option Nat)}
theorem lE{osc:Scope}{ON:List Str}(h:dz scope osc N src ON=true):scope.kind=.function/\osc.kind=.function/\src.length=N.length /\
  (∀y∈scope.names,scope.names.lookup y.1=some y.2)/\(∀y∈scope.names,y.2=.free->osc.names.lookup y.1=some .cell) /\
  (∀(i:Nat)(x:Str)(j:Nat),N[i]?=some x->src[i]?=some (some j)->ON[j]?=some x/\scope.names.lookup x=some .free):=by
 unfold dz at h;simp only[Bool.and_eq_true,decide_eq_true_eq,beq_iff_eq,List.all_eq_true] at h;obtain⟨⟨⟨⟨h1,h2⟩,h3⟩,h4⟩,h5⟩:=h;refine⟨h1,h2,h3,fun y hy=>(h4 y hy).1,fun y hy e=>?_,fun i x j e1 e2=>?_⟩
 ·have:=(h4 y hy).2
  rw[e] at this;simpa using this
 ·have hm:(x,some j)∈N.zip src:=by
   apply List.mem_of_getElem? (i:=i);rw[List.getElem?_zip_eq_some];exact⟨e1,e2⟩
  have:=h5 _ hm;simpa using this
theorem gg{env:Env}(hk:env.scope.kind=.function):∀ {names:List (Str×NameKind)} {x:Str} {k:NameKind},names.lookup x=some k->(k=.free->env.kindOf x=some .cell) ->
  (names.map fun(n,k)=>if (k == NameKind.free && env.scope.kind == .function && env.kindOf n == some .cell) then (n,NameKind.cell) else (n,k)).lookup x=some (if k=.free then .cell else k)
 | [],_,_,h,_=>by simp at h
 |(n,k')::r,x,k,h,hf=>by
  have ih:=@gg env hk r x k;show List.lookup x ((if (k' == NameKind.free && env.scope.kind == .function && env.kindOf n == some .cell)=true then (n,NameKind.cell) else (n,k'))::_)=_
  cases hx:x == n with
  |true=>
   simp only[List.lookup_cons,hx] at h;have e:x=n:=by simpa using hx
   subst e;cases h;by_cases hfr:k'=.free
   ·have:=hf hfr
    subst hfr;rw[if_pos (by rw[this,hk];rfl)]
    simp[List.lookup_cons]
   ·have hfr':(k' == NameKind.free)=false:=by simpa using hfr
    rw[if_neg (by rw[hfr'];simp),if_neg hfr]
    simp[List.lookup_cons]
  |false=>
   simp only[List.lookup_cons,hx] at h;by_cases hc:(k' == NameKind.free && env.scope.kind == .function && env.kindOf n == some .cell)=true
   ·rw[if_pos hc];simp only[List.lookup_cons,hx];exact ih h hf
   ·rw[if_neg hc];simp only[List.lookup_cons,hx];exact ih h hf
theorem ou{env:Env}{names:List (Str×NameKind)}{x:Str}(h:(names.map fun(n,k)=>if (k == NameKind.free && env.scope.kind == .function && env.kindOf n == some .cell) then (n,NameKind.cell) else (n,k)).lookup x=some .cell):
  (x,NameKind.cell)∈names\/(x,NameKind.free)∈names:=by
 have hm:=mem_of_lookup h;obtain⟨⟨n,k⟩,hy,e⟩:=List.mem_map.mp hm;dsimp only at e;split at e
 ·rename_i hc
  cases e;simp only[Bool.and_eq_true,beq_iff_eq] at hc;rw[hc.1.1] at hy;exact .inr hy
 ·cases e;exact .inl hy
theorem mK{env:Env}{names:List (Str×NameKind)}{x:Str}(hk:env.scope.kind=.function)(hfr:∀y∈names,y.2=.free->env.kindOf y.1=some .cell)(h:(names.map fun(n,k)=>if (k == NameKind.free && env.scope.kind == .function && env.kindOf n == some .cell) then (n,NameKind.cell) else (n,k)).lookup x=some .free):False:=by
 have hm:=mem_of_lookup h;obtain⟨⟨n,k⟩,hy,e⟩:=List.mem_map.mp hm;dsimp only at e;split at e
 ·cases e
 ·rename_i hc
  cases e;have:=hfr _ hy rfl;exact hc (by rw[this,hk];rfl)
theorem uE{fp:List Addr}(I:Inv X pins σ H s)(hb:dz scope X.env.scope N src X.N=true)(f2:∀b∈fp,iM X pins H b)(fo:∀b∈fp,∃o,s.heap.get? b=some o){t:Nat}:
  Inv (X.blk scope N (cellsFrom (s.heap.objs.size+1) scope.names (fO X.env scope.names [])) s.heap.objs.size s H fp (X.pn++pins)) [] (oE src σ) H { s with heap:=pushCells (s.heap.push { cls:=.type "dict",data:=.dict #[] }) scope.names,toks:=t }:=by
 obtain⟨hk,hok,hlen,hnd,hfr,hsrc⟩:=lE hb;have keep:∀b o,s.heap.get? b=some o->(pushCells (s.heap.push { cls:=.type "dict",data:=.dict #[] }) scope.names).get? b=some o:=fun b o e=>pushCells_keeps _ _ b o (Heap.get?_push_of_some _ e);have hfr':∀y∈scope.names,y.2=.free->X.env.kindOf y.1=some .cell:=hfr;have sz:(s.heap.push { cls:=.type "dict",data:=.dict #[] }).objs.size=s.heap.objs.size+1:=Heap.size_push ..
 have cell:∀n c,(n,c)∈cellsFrom (s.heap.objs.size+1) scope.names (fO X.env scope.names []) ->
   (X.env.cells.lookup n=some c/\(n,NameKind.free)∈scope.names)\/((n,NameKind.cell)∈scope.names/\s.heap.objs.size<c/\(pushCells (s.heap.push { cls:=.type "dict",data:=.dict #[] }) scope.names).IsCell c none):=by
  intro n c h;rw[←sz] at h
  rcases eQ h with h|⟨h1,h2,h3⟩
  ·rcases ff h with h|⟨h1,h2⟩
   ·cases h
   ·obtain⟨c',hc'⟩:=I.ok.has n (.inl (hfr' _ h1 rfl))
    rw[hc'] at h2;exact .inl ⟨by rw[hc',h2];rfl,h1⟩
  ·exact .inr ⟨h1,by rw[sz] at h2;exact h2,h3⟩
 have oldc:∀n c,X.env.cells.lookup n=some c->c<s.heap.objs.size:=fun n c e=>by
  obtain⟨v,o,ho,_⟩:=I.cell n c e;exact Heap.lt_size ho
 have hH:H s.heap.objs.size=none:=I.hok.fresh (Nat.le_refl _)
 have ok:(X.blk scope N (cellsFrom (s.heap.objs.size+1) scope.names (fO X.env scope.names [])) s.heap.objs.size s H fp (X.pn++pins)).Ok:={
  mod:=I.ok.mod
  kind:=hk
  glob:=I.ok.glob
  blt:=I.ok.blt
  above:=Nat.le_refl _
  inj:=fun x y c a b=>by
   refine eP (k:=s.heap.objs.size+1) (acc:=fO X.env scope.names []) ?_ ?_ x y c (mem_of_lookup a) (mem_of_lookup b)
   ·intro n c h
    rcases ff h with h|⟨h1,h2⟩
    ·cases h
    ·obtain⟨c',hc'⟩:=I.ok.has n (.inl (hfr' _ h1 rfl))
     rw[hc'] at h2;rw[h2];exact Nat.lt_succ_of_lt (oldc n c' hc')
   ·intro n m c h h'
    rcases ff h with h|⟨h1,h2⟩
    ·cases h
    ·rcases ff h' with h'|⟨h1',h2'⟩
     ·cases h'
     ·obtain⟨c1,hc1⟩:=I.ok.has n (.inl (hfr' _ h1 rfl))
      obtain⟨c2,hc2⟩:=I.ok.has m (.inl (hfr' _ h1' rfl));rw[hc1] at h2;rw[hc2] at h2';have e1:c=c1:=h2;have e2:c=c2:=h2';exact I.ok.inj n m c (by rw[e1];exact hc1) (by rw[e2];exact hc2)
  has:=fun x h=>by
   have hm:(x,NameKind.cell)∈scope.names\/(x,NameKind.free)∈scope.names:=by
    rcases h with h|h
    ·exact ou (env:=X.env) h
    ·exact(mK (env:=X.env) hok hfr' h).elim
   have:∃c,(x,c)∈cellsFrom (s.heap.objs.size+1) scope.names (fO X.env scope.names []):=by
    rcases hm with hm|hm
    ·exact cA (.inl hm)
    ·exact cA (.inr (im (.inl hm)))
   exact cH this
  cab:=fun x c hf e=>by
   have hf':scope.names.lookup x=some .cell:=of_decide_eq_true hf;rcases cell x c (mem_of_lookup e) with⟨_,h⟩|⟨_,h,_⟩
   ·have:=hnd _ h
    rw[hf'] at this;cases this
   ·exact Nat.le_of_lt h
  hd:=I.ok.hd
  frames:=I.ok.frames
  stk:=.inl rfl
  exf:=fun b hb=>by
   obtain⟨o,ho⟩:=fo b hb;have hlt:=Heap.lt_size ho;refine⟨Nat.ne_of_lt hlt,fun x c e=>?_⟩;rcases cell x c (mem_of_lookup e) with⟨h,_⟩|⟨_,h,_⟩
   ·exact(f2 b hb).2.2.2.2.1 x c h
   ·exact Nat.ne_of_gt (Nat.lt_trans hlt h)
  bs:=I.bs
  bsz:=Nat.le_trans I.ok.bsz I.sz
  noex:=fun b o e hb=>by
   rcases(f2 b hb).2.2.2.1 with h|h
   ·exact I.ok.noex b o e h
   ·exact absurd (Nat.lt_of_lt_of_le (Heap.lt_size e) (Nat.le_trans I.ok.bsz h)) (Nat.lt_irrefl _)
  exfs:=fun b hb hm=>by
   rcases List.mem_cons.mp (I.Ed b hm) with h|h
   ·exact(f2 b hb).2.1 h
   ·exact(f2 b hb).2.2.1 h
  funs:=I.stack
  frf:=I.Ea
  tt:=I.ok.tt.mono I.base.tbls }
 refine⟨ok,rfl,I.bare,Un.kept keep,⟨fun _=>none,(Heap.Ns.new s.heap (.type "dict")).keeps (pushCells_keeps _ _),fun i x v e1 e2 e3=>?_⟩,fun x c e=>?_,hH,fun x c e=>?_,fun p hp=>?_,I.hok.kept keep,?_⟩
 ·-- a captured name
  have e2':(src.map fun o=>match o with|none=>none|some j=>(σ[j]?).join)[i]?=some (some v):=e2
  rw[List.getElem?_map] at e2'
  cases hs:src[i]? with
  |none=>rw[hs] at e2';cases e2'
  |some o=>
   rw[hs] at e2'
   cases o with
   |none=>cases e2'
   |some j=>
    have ej:(σ[j]?).join=some v:=by simpa using e2'
    have ej':σ[j]?=some (some v):=by
     cases hq:σ[j]? with
     |none=>rw[hq] at ej;cases ej
     |some z=>rw[hq] at ej;simpa using ej
    obtain⟨n1,n2⟩:=hsrc i x j e1 hs;have hfree:X.env.kindOf x=some .cell:=hfr' (x,.free) (mem_of_lookup n2) rfl;obtain⟨m,hn,hl⟩:=I.loc;obtain⟨u,r,l⟩:=hl j x v n1 ej' (.inr (.inl hfree));refine⟨u,r,.inr ⟨.inl ?_,?_⟩⟩
    ·have:=gg (env:=X.env) hok n2 (fun _=>hfree)
     exact this
    ·rcases l with⟨h,_⟩|⟨_,c,hc,hcell⟩
     ·rw[hfree] at h;cases h
     ·have:∃c',(x,c')∈cellsFrom (s.heap.objs.size+1) scope.names (fO X.env scope.names []):=cA (.inr (im (.inl (mem_of_lookup n2))))
      obtain⟨c',hc'⟩:=cH this;refine⟨c',hc',?_⟩;rcases cell x c' (mem_of_lookup hc') with⟨h,_⟩|⟨h,_,_⟩
      ·rw[hc] at h
       cases h;obtain⟨oc,ho,hd⟩:=hcell;exact⟨oc,keep _ _ ho,hd⟩
      ·have:=hnd _ h
       rw[n2] at this;cases this
 ·rcases cell x c (mem_of_lookup e) with⟨h,_⟩|⟨_,_,h⟩
  ·obtain⟨v,o,ho,hd⟩:=I.cell x c h
   exact⟨v,o,keep _ _ ho,hd⟩
  ·exact⟨_,h⟩
 ·rcases cell x c (mem_of_lookup e) with⟨h,_⟩|⟨_,h,_⟩
  ·exact I.freeC x c h
  ·exact I.hok.fresh (Nat.le_of_lt h)
 ·rw[List.append_nil] at hp
  obtain⟨e,n,ne,nf,d⟩:=I.pin p hp;refine⟨keep _ _ e,n,Nat.ne_of_lt (Heap.lt_size e),fun hm=>?_,d⟩;rcases List.mem_cons.mp (I.Ed _ hm) with h|h
  ·exact ne h
  ·exact nf h
 ·show (src.map _).length=N.length
  rw[List.length_map];exact hlen
theorem xR{fp:List Addr}{cs:List (Str×Addr)}{C:Addr}{σ':St}{H':Hp}{s':Shared}{pins':List (Addr×Obj)}(I:Inv X pins σ H s)(f2:∀b∈fp,iM X pins H b)(I':Inv (X.blk scope N cs C s H fp (X.pn++pins)) pins' σ' H' s'):Inv X pins σ H' s':=
 I.call' (ch:=fp) I'.os I'.base I'.hok I'.bare fun b hb=>⟨(f2 b hb).2.2.2.1,(f2 b hb).2.1,(f2 b hb).2.2.2.2.1,(f2 b hb).2.2.2.2.2⟩
theorem nX{C:Addr}{h':Heap}(I:Inv X pins σ H s)(hC:H C=none)(hL:C≠X.env.locals)(h1:X.s₀.heap.objs.size<=C)(h2:∀x c,X.env.cells.lookup x=some c->c≠C)(h3:∀p∈X.pn++pins,p.1≠C)(hs:Heap.SameBut C s.heap h'):Inv X pins σ H { s with heap:=h' }:=
 I.turned (t':=s.toks) (fun b o hb e=>(hs.2 b hb).trans e) hC hL (.inr h1) h2 h3
end
section
variable{M:Model}{A:Around}{E:Value->Shared->Prop}{s:Shared}
theorem pS{scope:Scope}{globals:Addr}{cl:List (Str×Addr)}{qual:Str}{env:Env}{Q:Env->Shared->Prop}(hQ:Q (newEnv scope s.heap.objs.size globals (cellsFrom (s.heap.objs.size+1) scope.names cl) qual none .none (some env) builtinsNs) { s with heap:=pushCells (s.heap.push { cls:=.type "dict",data:=.dict #[] }) scope.names }):
  wpAny M A (newFunctionEnv scope globals cl [] qual none .none (some env)) Q E s:=by
 simp only[newFunctionEnv,Option.isSome_some,if_true];refine wpAny_bind (wpAny_alloc ?_);refine wpAny_bind (wpAny_layCells _ (fun name kind cells=>by cases hkc:kind == NameKind.cell<;>simp[hkc]) _ _ _ _ ?_)
 rw[show ({ s with heap:=s.heap.push { cls:=.type "dict",data:=.dict #[] } }:Shared).heap.objs.size=s.heap.objs.size+1 from Heap.size_push ..]
 simp only[List.forIn_nil];exact wpAny_bind (wpAny_pure (wpAny_pure hQ))
end
section
variable{X:Cx}{elt tg iter:Expr}{ifs:List Expr}{bA:List Comprehension}{scope:Scope}{pos:Pos}{N:List Str}{src:List (Option Nat)}{wi:TI}{g:TG}{tc:TT}{l:TL}
noncomputable def lP(src:List (Option Nat))(wi:TI)(g:TG)(tc:TT)(l:TL):TE:=fun σ H Q=>wi σ H fun J H1=>∀acc,H1 acc=none->sR J g tc l acc (oE src σ) (upd H1 acc (.lst [])) fun _ H'=>Q (.ref acc) H'
theorem oK{use:Option (Value->Sem Unit)}{pins:List (Addr×Obj)}{s:Shared}{σ:St}{H:Hp}{Q:Value->Shared->Prop}{Q':VK}(hc:X.calm=true)(hb:dz scope X.env.scope N src X.N=true)(ha:∀g',bA[0]?=some g'->g'.is_async=0)(hi:PI X tg iter wi)(hg:∀cs C s H ex pn,PG (X.blk scope N cs C s H ex pn) tg g)(ht:∀cs C s H ex pn,PTs (X.blk scope N cs C s H ex pn) ifs tc)(hl:∀cs C s H ex pn,PL (X.blk scope N cs C s H ex pn) elt (⟨tg,iter,ifs,0⟩::bA) scope pos 0 l)(hs:∀x,foldedSetIterable iter X.env x=pure x)(I:Inv X pins σ H s)(h:lP src wi g tc l σ H Q')
  (hQ:∀(acc C:Addr)(H':Hp)(s':Shared)(m:Str->Option Value),Inv X pins σ H' s'->Q' (.ref acc) H'->s'.heap.Ns C m->H' C=none->C≠X.env.locals->X.s₀.heap.objs.size<=C->(∀x c,X.env.cells.lookup x=some c->c≠C)->(∀p∈X.pn++pins,p.1≠C) ->
   compPost (model X.prog X.w) X.A X.xe use Q (.ref acc) C (.ok .next) s') :
  wpAny (model X.prog X.w) X.A (comprehension (.ListComp elt (⟨tg,iter,ifs,0⟩::bA) scope pos) scope X.env (firstIterPos (⟨tg,iter,ifs,0⟩::bA) pos) (newList []) false (firstIter (⟨tg,iter,ifs,0⟩::bA) X.env) use) Q X.xe s:=by
 obtain⟨hk,hok,hlen,hnd,hfr,hsrc⟩:=lE hb;refine wpAny_comprehension_free (g:=⟨tg,iter,ifs,0⟩) (gs:=bA) rfl hs (qG fun y hy e=>I.ok.has y.1 (.inl (hfr y hy e))) hk (fun y hy e=>by have:=hnd y hy;rw[e] at this;exact this) ?_
 refine thn (hi pins s σ H _ I h) fun v s1 h1=>thn h1 fun itv s2 h2=>?_;obtain⟨it,fp,tn,J,H2,e,I2,T,st2,f2,q⟩:=h2;subst e;have hfresh:H2 s2.heap.objs.size=none:=I2.hok.fresh (Nat.le_refl _);refine wpAny_newObj_type (pS ?_);dsimp only;have old:∀b o,s2.heap.get? b=some o->(s2.heap.push { cls:=.type "list",dict:=none,data:=.seq ([]:List Value).toArray }).get? b=some o:=fun b o e=>Heap.get?_push_of_some _ e
 have I3:Inv X pins σ (upd H2 s2.heap.objs.size (.lst [])) { s2 with heap:=s2.heap.push { cls:=.type "list",dict:=none,data:=.seq ([]:List Value).toArray } }:=
  I2.lnew (its:=[]) (t':=s2.toks) .nil (by decide)
 have f3:∀b∈fp,iM X pins (upd H2 s2.heap.objs.size (.lst [])) b:=fun b hb=>by
  obtain⟨o,ho,_⟩:=T.obj _ _ st2 b hb;exact⟨by rw[aq (Nat.ne_of_lt (Heap.lt_size ho))];exact(f2 b hb).1,(f2 b hb).2⟩
 have fo3:∀b∈fp,∃o,({ s2 with heap:=s2.heap.push { cls:=.type "list",dict:=none,data:=.seq ([]:List Value).toArray } }:Shared).heap.get? b=some o:=fun b hb=>by
  obtain⟨o,ho,_⟩:=T.obj _ _ st2 b hb;exact⟨o,old b o ho⟩
 generalize hs3:({ s2 with heap:=s2.heap.push { cls:=.type "list",dict:=none,data:=.seq ([]:List Value).toArray } }:Shared)=s3 at I3 fo3 ⊢
 have st3:tn 0 s3.heap:=by
  rw[←hs3]
  exact T.keep _ _ _ st2 fun b _ o e=>old b o e
 have IB:=uE (t:=s3.toks) I3 hb f3 fo3;have stB:tn 0 (pushCells (s3.heap.push { cls:=.type "dict",data:=.dict #[] }) scope.names):=T.keep _ _ _ st3 fun b _ o e=>pushCells_keeps _ _ b o (Heap.get?_push_of_some _ e)
 have fB:∀b∈fp,iM (X.blk scope N (cellsFrom (s3.heap.objs.size+1) scope.names (fO X.env scope.names [])) s3.heap.objs.size s3 (upd H2 s2.heap.objs.size (.lst [])) fp (X.pn++pins)) [] (upd H2 s2.heap.objs.size (.lst [])) b:=fun b hb=>by
  obtain⟨n0,n1,n2,n3,n4,n5⟩:=f3 b hb;refine⟨n0,(IB.ok.exf b hb).1,IB.ok.exfs b hb,.inl hb,(IB.ok.exf b hb).2,fun p hp=>?_⟩;rw[List.append_nil] at hp;exact n5 p hp
 have loop:codeAny (model X.prog X.w) X.A (.compLoop (.ListComp elt (⟨tg,iter,ifs,0⟩::bA) scope pos) 0 (.ref it) (.ref s2.heap.objs.size) (compEnvC scope (cellsFrom (s3.heap.objs.size+1) scope.names (fO X.env scope.names [])) s3.heap.objs.size X.env))
   (compPost (model X.prog X.w) X.A X.xe use Q (.ref s2.heap.objs.size) s3.heap.objs.size) { s3 with heap:=pushCells (s3.heap.push { cls:=.type "dict",data:=.dict #[] }) scope.names }:=by
  refine lc (X:=X.blk scope N (cellsFrom (s3.heap.objs.size+1) scope.names (fO X.env scope.names [])) s3.heap.objs.size s3 (upd H2 s2.heap.objs.size (.lst [])) fp (X.pn++pins)) rfl hc rfl (by simpa using ha) (hg _ _ _ _ _ _) (ht _ _ _ _ _ _) (hl _ _ _ _ _ _) IB T stB fB (q _ hfresh) fun σ' H' s' I' k'=>?_
  obtain⟨m,hn,_⟩:=I'.loc;refine hQ _ _ H' s' m (xR I3 f3 I') k' hn I'.free ?_ I3.sz ?_ ?_
  ·exact Nat.ne_of_gt I3.lt
  ·intro x c e
   obtain⟨v,o,ho,_⟩:=I3.cell x c e;exact Nat.ne_of_lt (Heap.lt_size ho)
  ·intro p hp
   exact Nat.ne_of_lt (Heap.lt_size (I3.pin p hp).1)
 subst hs3;exact gL (d:=0) rfl loop (T.self X.A 0 _ _ _ stB loop)
theorem cT(hc:X.calm=true)(hb:dz scope X.env.scope N src X.N=true)(ha:∀g',bA[0]?=some g'->g'.is_async=0)(hi:PI X tg iter wi)(hg:∀cs C s H ex pn,PG (X.blk scope N cs C s H ex pn) tg g)(ht:∀cs C s H ex pn,PTs (X.blk scope N cs C s H ex pn) ifs tc)(hl:∀cs C s H ex pn,PL (X.blk scope N cs C s H ex pn) elt (⟨tg,iter,ifs,0⟩::bA) scope pos 0 l)(hs:∀x,foldedSetIterable iter X.env x=pure x:=by intro _;rfl):PE X (.ListComp elt (⟨tg,iter,ifs,0⟩::bA) scope pos) (lP src wi g tc l):=.mk <| by
 intro pins s σ H Q I h;rw[eval_ListComp];refine oK (use:=none) hc hb ha hi hg ht hl hs I h fun acc C H' s' m I' q' hn hC hL h1 h2 h3=>?_;exact⟨m,hn,fun h' hs'=>⟨.ref acc,H',nX I' hC hL h1 h2 h3 hs',rfl,q'⟩⟩
theorem xV{i:Nat}{x:Str}{pos' spos:Pos}(hN:X.N.Nodup)(hi0:X.N[i]?=some x)(hx:Loc X.env.scope x)(hc:X.calm=true)(hb:dz scope X.env.scope N src X.N=true)(ha:∀g',bA[0]?=some g'->g'.is_async=0)(hi:PI X tg iter wi)(hg:∀cs C s H ex pn,PG (X.blk scope N cs C s H ex pn) tg g)(ht:∀cs C s H ex pn,PTs (X.blk scope N cs C s H ex pn) ifs tc)(hl:∀cs C s H ex pn,PL (X.blk scope N cs C s H ex pn) elt (⟨tg,iter,ifs,0⟩::bA) scope pos 0 l)(hs:∀x,foldedSetIterable iter X.env x=pure x:=by intro _;rfl)(hsw:swapsWith (.ListComp elt (⟨tg,iter,ifs,0⟩::bA) scope pos) (some (.Name x pos')) spos.line X.env=pure true:=by rfl)(hf:X.fn x=true\/X.env.scope.names.lookup x=some .local:=by first|exact .inl rfl|exact .inr rfl|assumption):
  PS X (.Assign [.Name x pos'] (.ListComp elt (⟨tg,iter,ifs,0⟩::bA) scope pos) spos) (um (lP src wi g tc l) (lU i)):=.mk <| by
 intro pins s σ H D I h;rw[exec_Assign_Name_used _ _ _ _ hsw];refine wpAny_bind (wpAny_standAt (wpAny_bind ?_));show wpAny _ X.A (do let _ ← comprehension (.ListComp elt (⟨tg,iter,ifs,0⟩::bA) scope pos) scope X.env (firstIterPos (⟨tg,iter,ifs,0⟩::bA) pos) (newList []) false (firstIter (⟨tg,iter,ifs,0⟩::bA) X.env) (some (assign (.Name x pos') X.env))) _ _ s
 refine wpAny_bind (wpAny_mono (oK (use:=some (assign (.Name x pos') X.env)) (Q:=fun _ s'=>SP X pins D .next s') hc hb ha hi hg ht hl hs I h fun acc C H' s' m I' q' hn hC hL h1 h2 h3=>?_) (fun _ s' hq=>wpAny_pure (wpAny_pure hq)) fun _ _ e=>e);show wpAny _ X.A (assign (.Name x pos') X.env (.ref acc)) _ _ _;refine wpAny_assign_Name (k8 (v:=.ref acc) I' hN hi0 hx rfl (fun s'' I'' ⟨a,hsb,hwh⟩=>?_) hf)
 have hne:C≠a:=by
  rcases hwh with e|e
  ·rw[e];exact hL
  ·exact fun z=>h2 x a e z.symm
 exact⟨m,hn.sameBut hsb hne,fun h' hs'=>⟨σ.set i (some (.ref acc)),H',nX I'' hC hL h1 h2 h3 hs',q'⟩⟩
end
section
variable{X:Cx}
noncomputable def dv(H:Hp):V->Option String
 |.non=>some "NoneType"
 |.bl _=>some "bool"
 |.int _=>some "int"
 |.str _=>some "str"
 |.ref a=>match H a with
  |some (.lst _)=>some "list"
  |some (.tup _)=>some "tuple"
  |some (.dK _)=>some "dict"
  |some (.dT _)=>some "dict"
  |some (.frz _ (.lst _))=>some "list"
  |_=>none
 |_=>none
noncomputable def isA(H:Hp)(x:V)(T:String):Bool:=match dv H x with
 |some t=>t == T || (t == "bool" && T == "int")
 |none=>false
theorem tI{K:W.Frag}{H:Hp}{x:V}{t:String}(h:dv H x=some t):iG K H x (.type t):=by
 cases x with
 |non=>cases h;exact .non
 |bl b=>cases h;exact .bl b
 |int i=>cases h;exact .int i
 |str z=>cases h;exact .str z
 |byt b=>cases h
 |flt b=>cases h
 |ty n=>cases h
 |ref a=>
  unfold dv at h;dsimp only at h;split at h
  ·rename_i e;cases h;exact .lst e
  ·rename_i e;cases h;exact .tup e
  ·rename_i e;cases h;exact .dK e
  ·rename_i e;cases h;exact .dT e
  ·rename_i e;cases h;exact .frz e
  ·cases h
noncomputable def gK:List String:=["NoneType","bool","int","str","list","tuple","dict"]
theorem jf{H:Hp}{x:V}{t:String}(h:dv H x=some t):t∈gK:=by
 cases x with
 |non=>cases h;decide
 |bl b=>cases h;decide
 |int i=>cases h;decide
 |str z=>cases h;decide
 |byt b=>cases h
 |flt b=>cases h
 |ty n=>cases h
 |ref a=>
  unfold dv at h;dsimp only at h;split at h<;>first|(cases h;decide)|cases h
theorem Bv(K:W.Frag){t T:String}(ht:t∈gK)(hT:T∈gK):W.kitOne K (.type t) (.type T)=some (t == T || (t == "bool" && T == "int")):=by
 simp only[gK,List.mem_cons,List.not_mem_nil,or_false] at ht hT;rcases ht with rfl|rfl|rfl|rfl|rfl|rfl|rfl<;>rcases hT with rfl|rfl|rfl|rfl|rfl|rfl|rfl<;>with_unfolding_all rfl
theorem fc:bQ X (.builtin "isinstance") (fun xs H Q=>∃x T,xs=[x,.ty T]/\T∈gK/\(dv H x).isSome=true/\Q (.bl (isA H x T)) H):=by
 intro pins s σ H xs us Q I r h;obtain⟨x,T,rfl,hT,hs,q⟩:=h;obtain⟨u,w',rfl,rx,rT⟩:=xq r;cases (show w'=Value.type T from rT)
 obtain⟨t,ht⟩:=Option.isSome_iff_exists.mp hs;refine t8 I rx (tI ht) (Bv X.K (jf ht) hT) fun tk=>⟨.bl (isA H x T),H,I.tok tk,?_,q⟩;show _=Value.bool (isA H x T);unfold isA;rw[ht]
theorem mT:∀ {bs:List Bool} {its:List Value},aB (bs.map V.bl) its->its=bs.map Value.bool
 | [],_,.nil=>rfl
 |_::_,_,.cons r t=>by
  have e:_=Value.bool _:=r;rw[e,mT t];rfl
theorem uA(bs:List Bool):(List.range bs.length).all (fun i=>bs.getD i false)=bs.all id:=by
 rw[Bool.eq_iff_iff];simp only[List.all_eq_true,List.mem_range,id];constructor
 ·intro h b hb
  obtain⟨i,hi,e⟩:=List.getElem_of_mem hb;have:=h i hi;rw[List.getD_eq_getElem?_getD,List.getElem?_eq_getElem hi] at this;rw[←e];exact this
 ·intro h i hi
  rw[List.getD_eq_getElem?_getD,List.getElem?_eq_getElem hi];exact h _ (List.getElem_mem hi)
theorem tU(bs:List Bool):(List.range bs.length).any (fun i=>bs.getD i false)=bs.any id:=by
 rw[Bool.eq_iff_iff];simp only[List.any_eq_true,List.mem_range,id];constructor
 ·rintro⟨i,hi,h⟩
  rw[List.getD_eq_getElem?_getD,List.getElem?_eq_getElem hi] at h;exact⟨_,List.getElem_mem hi,h⟩
 ·rintro⟨b,hb,h⟩
  obtain⟨i,hi,e⟩:=List.getElem_of_mem hb;refine⟨i,hi,?_⟩;rw[List.getD_eq_getElem?_getD,List.getElem?_eq_getElem hi,e];exact h
theorem vd(hc:X.calm=true):bQ X (.builtin "all") (fun xs H Q=>∃(a:Addr)(bs:List Bool),xs=[.ref a]/\SqL X.K H a (bs.map V.bl)/\Q (.bl (bs.all id)) H):=by
 intro pins s σ H xs us Q I r h;obtain⟨a,bs,rfl,hq,q⟩:=h;obtain⟨u,rfl,rx⟩:=fM r;cases rx;obtain⟨its,rv,p,hz⟩:=I.list hq;have e:=mT rv;subst e
 have hlt:a<s.heap.objs.size:=by
  obtain⟨o,ho,_⟩:=p.isList;exact Heap.lt_size ho
 refine call_all_walk (wpAny_pyIter_list p.isList ?_);refine⟨s.heap.objs.size,_,_,_,_,_,fun i=>bs.getD i false,rfl,Walks.list (A:=X.A.in1) (I.ok.hd hc) _ a (Nat.ne_of_lt hlt) _,⟨⟨_,Heap.get?_push_size _ rfl,rfl,rfl⟩,p.isList.push _⟩,?_,fun h' tk hk=>?_⟩
 ·intro i v s' Q' E' hP hQ'
  have:(bs.map Value.bool)[i]?=some v:=by simpa using hP
  rw[List.getElem?_map] at this
  cases e:bs[i]? with
  |none=>rw[e] at this;cases this
  |some b=>
   rw[e] at this;cases this;refine wpAny_truthy_bool ?_;dsimp only at hQ';rw[List.getD_eq_getElem?_getD,e] at hQ';exact hQ'
 ·refine⟨.bl (bs.all id),H,I.kept (t':=tk) fun b o e=>hk b o (fun hm=>?_) (Heap.get?_push_of_some _ e),?_,q⟩
  ·have:b=s.heap.objs.size:=by simpa using hm
   exact absurd (this ▸ Heap.lt_size e) (Nat.lt_irrefl _)
  ·show _=Value.bool _
   rw[←uA]
   simp
theorem vI(hc:X.calm=true):bQ X (.builtin "any") (fun xs H Q=>∃(a:Addr)(bs:List Bool),xs=[.ref a]/\SqL X.K H a (bs.map V.bl)/\Q (.bl (bs.any id)) H):=by
 intro pins s σ H xs us Q I r h;obtain⟨a,bs,rfl,hq,q⟩:=h;obtain⟨u,rfl,rx⟩:=fM r;cases rx;obtain⟨its,rv,p,hz⟩:=I.list hq;have e:=mT rv;subst e
 have hlt:a<s.heap.objs.size:=by
  obtain⟨o,ho,_⟩:=p.isList;exact Heap.lt_size ho
 refine call_any_walk (wpAny_pyIter_list p.isList ?_);refine⟨s.heap.objs.size,_,_,_,_,_,fun i=>bs.getD i false,rfl,Walks.list (A:=X.A.in1) (I.ok.hd hc) _ a (Nat.ne_of_lt hlt) _,⟨⟨_,Heap.get?_push_size _ rfl,rfl,rfl⟩,p.isList.push _⟩,?_,fun h' tk hk=>?_⟩
 ·intro i v s' Q' E' hP hQ'
  have:(bs.map Value.bool)[i]?=some v:=by simpa using hP
  rw[List.getElem?_map] at this
  cases e:bs[i]? with
  |none=>rw[e] at this;cases this
  |some b=>
   rw[e] at this;cases this;refine wpAny_truthy_bool ?_;dsimp only at hQ';rw[List.getD_eq_getElem?_getD,e] at hQ';exact hQ'
 ·refine⟨.bl (bs.any id),H,I.kept (t':=tk) fun b o e=>hk b o (fun hm=>?_) (Heap.get?_push_of_some _ e),?_,q⟩
  ·have:b=s.heap.objs.size:=by simpa using hm
   exact absurd (this ▸ Heap.lt_size e) (Nat.lt_irrefl _)
  ·show _=Value.bool _
   rw[←tU]
   simp
end
end L2
set_option autoImplicit false
namespace L2
open PySem PySem.Spec PyProof.Rows
inductive D where
 |non|bl (b:Bool)|int (i:Int)|str (x:Str)|tup (ds:List D)|lst (ds:List D)
 |dk (ks:List Int)|dt (ks:List (List Int))
noncomputable def dkO(ks:List Int):List (Key×V):=ks.map fun k=>(Sum.inl k,V.int 1)
noncomputable def dtO(ks:List (List Int)):List (List Key×V):=ks.map fun k=>(k.map Sum.inl,V.int 1)
theorem sP:∀ {a b:List Int},dkO a=dkO b->a=b
 | [],[],_=>rfl
 |x::a,y::b,h=>by
  simp only[dkO,List.map_cons,List.cons.injEq,Prod.mk.injEq,Sum.inl.injEq,and_true] at h;rw[h.1,sP h.2]
 | [],_::_,h=>by simp[dkO] at h
 |_::_,[],h=>by simp[dkO] at h
theorem rj:∀ {a b:List Int},(a.map Sum.inl:List Key)=b.map Sum.inl->a=b
 | [],[],_=>rfl
 |x::a,y::b,h=>by
  simp only[List.map_cons,List.cons.injEq,Sum.inl.injEq] at h;rw[h.1,rj h.2]
 | [],_::_,h=>by simp at h
 |_::_,[],h=>by simp at h
theorem qR:∀ {a b:List (List Int)},dtO a=dtO b->a=b
 | [],[],_=>rfl
 |x::a,y::b,h=>by
  simp only[dtO,List.map_cons,List.cons.injEq,Prod.mk.injEq,and_true] at h;rw[rj h.1,qR h.2]
 | [],_::_,h=>by simp[dtO] at h
 |_::_,[],h=>by simp[dtO] at h
mutual
noncomputable def Dat(H:Hp):D->V->Prop
 |.non,v=>v=.non
 |.bl b,v=>v=.bl b
 |.int i,v=>v=.int i
 |.str x,v=>v=.str x
 |.tup ds,v=>∃a xs,v=.ref a/\H a=some (.tup xs)/\aw H ds xs
 |.lst ds,v=>∃a xs,v=.ref a/\H a=some (.lst xs)/\aw H ds xs
 |.dk ks,v=>∃a xs,v=.ref a/\H a=some (.dK (dkO xs))/\xs=ks
 |.dt ks,v=>∃a xs,v=.ref a/\H a=some (.dT (dtO xs))/\xs=ks
noncomputable def aw(H:Hp):List D->List V->Prop
 | [],xs=>xs=[]
 |d::ds,xs=>∃x r,xs=x::r/\Dat H d x/\aw H ds r
end
mutual
noncomputable def dep:D->Nat
 |.tup ds=>dw ds+1
 |.lst ds=>dw ds+1
 |.dk _=>1000000
 |.dt _=>1000000
 |_=>0
noncomputable def dw:List D->Nat
 | []=>0
 |d::ds=>max (dep d) (dw ds)
end
mutual
noncomputable def eqD:D->D->Bool
 |.non,.non=>true
 |.bl a,.bl b=>a == b
 |.bl a,.int b=>(if a then 1 else 0) == b
 |.int a,.bl b=>a == (if b then 1 else 0)
 |.int a,.int b=>a == b
 |.str a,.str b=>a == b
 |.tup a,.tup b=>eh a b
 |.lst a,.lst b=>eh a b
 |.dk a,.dk b=>a == b
 |.dt a,.dt b=>a == b
 |_,_=>false
noncomputable def eh:List D->List D->Bool
 | [],[]=>true
 |x::xs,y::ys=>eqD x y && eh xs ys
 |_,_=>false
end
theorem j9:∀ {ds:List D} {d:D},d∈ds->dep d<=dw ds
 |d::ds,e,h=>by
  unfold dw;rcases List.mem_cons.mp h with rfl|h
  ·exact Nat.le_max_left _ _
  ·exact Nat.le_trans (j9 h) (Nat.le_max_right _ _)
theorem aw.length:∀ {H:Hp} {ds:List D} {xs:List V},aw H ds xs->xs.length=ds.length
 |H,[],xs,h=>by
  have e:xs=[]:=by simpa[aw] using h
  rw[e];rfl
 |H,d::ds,xs,h=>by
  obtain⟨x,r,rfl,_,t⟩:∃x r,xs=x::r/\Dat H d x/\aw H ds r:=by simpa only[aw] using h
  rw[List.length_cons,List.length_cons,aw.length t]
theorem aw.get:∀ {H:Hp} {ds:List D} {xs:List V} {i:Nat} {d:D},aw H ds xs->ds[i]?=some d->∃x,xs[i]?=some x/\Dat H d x
 |H,[],xs,i,d,h,e=>by simp at e
 |H,d'::ds,xs,i,d,h,e=>by
  obtain⟨x,r,rfl,hx,t⟩:∃x r,xs=x::r/\Dat H d' x/\aw H ds r:=by simpa only[aw] using h
  cases i with
  |zero=>simp at e;subst e;exact⟨x,rfl,hx⟩
  |succ i=>simpa using aw.get t (i:=i) (by simpa using e)
theorem aw.of_get:∀ {H:Hp} {ds:List D} {xs:List V},xs.length=ds.length->(∀(i:Nat)(d:D)(x:V),ds[i]?=some d->xs[i]?=some x->Dat H d x)->aw H ds xs
 |H,[],[],_,_=>by simp[aw]
 |H,d::ds,x::xs,hl,h=>by
  simp only[aw];exact⟨x,xs,rfl,h 0 d x rfl rfl,aw.of_get (by simpa using hl) fun i d x e1 e2=>h (i+1) d x (by simpa using e1) (by simpa using e2)⟩
 |H,[],_::_,hl,_=>by simp at hl
 |H,_::_,[],hl,_=>by simp at hl
theorem aw.append:∀ {H:Hp} {ds es:List D} {xs ys:List V},aw H ds xs->aw H es ys->aw H (ds++es) (xs++ys)
 |H,[],es,xs,ys,h,h'=>by
  have e:xs=[]:=by simpa[aw] using h
  rw[e];exact h'
 |H,d::ds,es,xs,ys,h,h'=>by
  obtain⟨x,r,rfl,hx,t⟩:∃x r,xs=x::r/\Dat H d x/\aw H ds r:=by simpa only[aw] using h
  show aw H (d::(ds++es)) (x::(r++ys));simp only[aw];exact⟨x,r++ys,rfl,hx,aw.append t h'⟩
mutual
theorem Dat.same{H H':Hp}(e:cw H H'):∀ {d:D} {v:V},Dat H d v->Dat H' d v
 |.non,v,h=>by simpa only[Dat] using h
 |.bl b,v,h=>by simpa only[Dat] using h
 |.int i,v,h=>by simpa only[Dat] using h
 |.str x,v,h=>by simpa only[Dat] using h
 |.tup ds,v,h=>by
  simp only[Dat] at h ⊢;obtain⟨a,xs,rfl,h1,h2⟩:=h;exact⟨a,xs,rfl,e a _ h1,aw.same e h2⟩
 |.lst ds,v,h=>by
  simp only[Dat] at h ⊢;obtain⟨a,xs,rfl,h1,h2⟩:=h;exact⟨a,xs,rfl,e a _ h1,aw.same e h2⟩
 |.dk ks,v,h=>by
  simp only[Dat] at h ⊢;obtain⟨a,xs,rfl,h1,h2⟩:=h;exact⟨a,xs,rfl,e a _ h1,h2⟩
 |.dt ks,v,h=>by
  simp only[Dat] at h ⊢;obtain⟨a,xs,rfl,h1,h2⟩:=h;exact⟨a,xs,rfl,e a _ h1,h2⟩
theorem aw.same{H H':Hp}(e:cw H H'):∀ {ds:List D} {xs:List V},aw H ds xs->aw H' ds xs
 | [],xs,h=>by simpa only[aw] using h
 |d::ds,xs,h=>by
  simp only[aw] at h ⊢;obtain⟨x,r,rfl,h1,h2⟩:=h;exact⟨x,r,rfl,Dat.same e h1,aw.same e h2⟩
end
mutual
theorem Dat.inj{H:Hp}:∀ {d e:D} {v:V},Dat H d v->Dat H e v->d=e
 |.non,e,v,h,h'=>by
  simp only[Dat] at h;subst h;cases e<;>simp only[Dat] at h'<;>first|rfl|(obtain⟨_,_,h',_⟩:=h';cases h';done)|(cases h';done)
 |.bl b,e,v,h,h'=>by
  simp only[Dat] at h;subst h;cases e<;>simp only[Dat] at h'<;>first|(obtain⟨_,_,h',_⟩:=h';cases h';done)|(cases h';rfl)|(cases h';done)
 |.int i,e,v,h,h'=>by
  simp only[Dat] at h;subst h;cases e<;>simp only[Dat] at h'<;>first|(obtain⟨_,_,h',_⟩:=h';cases h';done)|(cases h';rfl)|(cases h';done)
 |.str x,e,v,h,h'=>by
  simp only[Dat] at h;subst h;cases e<;>simp only[Dat] at h'<;>first|(obtain⟨_,_,h',_⟩:=h';cases h';done)|(cases h';rfl)|(cases h';done)
 |.tup ds,e,v,h,h'=>by
  simp only[Dat] at h;obtain⟨a,xs,rfl,h1,h2⟩:=h
  cases e with
  |tup es=>
   simp only[Dat] at h';obtain⟨b,ys,e1,h3,h4⟩:=h';cases e1;rw[h1] at h3;cases h3;rw[aw.inj h2 h4]
  |lst es=>
   simp only[Dat] at h';obtain⟨b,ys,e1,h3,h4⟩:=h';cases e1;rw[h1] at h3;cases h3
  |dk es=>
   simp only[Dat] at h';obtain⟨b,ys,e1,h3,h4⟩:=h';cases e1;rw[h1] at h3;cases h3
  |dt es=>
   simp only[Dat] at h';obtain⟨b,ys,e1,h3,h4⟩:=h';cases e1;rw[h1] at h3;cases h3
  |_=>simp only[Dat] at h';cases h'
 |.lst ds,e,v,h,h'=>by
  simp only[Dat] at h;obtain⟨a,xs,rfl,h1,h2⟩:=h
  cases e with
  |lst es=>
   simp only[Dat] at h';obtain⟨b,ys,e1,h3,h4⟩:=h';cases e1;rw[h1] at h3;cases h3;rw[aw.inj h2 h4]
  |tup es=>
   simp only[Dat] at h';obtain⟨b,ys,e1,h3,h4⟩:=h';cases e1;rw[h1] at h3;cases h3
  |dk es=>
   simp only[Dat] at h';obtain⟨b,ys,e1,h3,h4⟩:=h';cases e1;rw[h1] at h3;cases h3
  |dt es=>
   simp only[Dat] at h';obtain⟨b,ys,e1,h3,h4⟩:=h';cases e1;rw[h1] at h3;cases h3
  |_=>simp only[Dat] at h';cases h'
 |.dk ds,e,v,h,h'=>by
  simp only[Dat] at h;obtain⟨a,xs,rfl,h1,rfl⟩:=h
  cases e with
  |tup es=>
   simp only[Dat] at h';obtain⟨b,ys,e1,h3,h4⟩:=h';cases e1;rw[h1] at h3;cases h3
  |lst es=>
   simp only[Dat] at h';obtain⟨b,ys,e1,h3,h4⟩:=h';cases e1;rw[h1] at h3;cases h3
  |dk es=>
   simp only[Dat] at h';obtain⟨b,ys,e1,h3,h4⟩:=h';cases e1;rw[h1] at h3;rw[←h4,sP (a:=xs) (b:=ys)]
   simpa using h3
  |dt es=>
   simp only[Dat] at h';obtain⟨b,ys,e1,h3,h4⟩:=h';cases e1;rw[h1] at h3;cases h3
  |_=>simp only[Dat] at h';cases h'
 |.dt ds,e,v,h,h'=>by
  simp only[Dat] at h;obtain⟨a,xs,rfl,h1,rfl⟩:=h
  cases e with
  |tup es=>
   simp only[Dat] at h';obtain⟨b,ys,e1,h3,h4⟩:=h';cases e1;rw[h1] at h3;cases h3
  |lst es=>
   simp only[Dat] at h';obtain⟨b,ys,e1,h3,h4⟩:=h';cases e1;rw[h1] at h3;cases h3
  |dk es=>
   simp only[Dat] at h';obtain⟨b,ys,e1,h3,h4⟩:=h';cases e1;rw[h1] at h3;cases h3
  |dt es=>
   simp only[Dat] at h';obtain⟨b,ys,e1,h3,h4⟩:=h';cases e1;rw[h1] at h3;rw[←h4,qR (a:=xs) (b:=ys)]
   simpa using h3
  |_=>simp only[Dat] at h';cases h'
theorem aw.inj{H:Hp}:∀ {ds es:List D} {xs:List V},aw H ds xs->aw H es xs->ds=es
 | [],[],_,_,_=>rfl
 | [],e::es,xs,h,h'=>by
  simp only[aw] at h h';obtain⟨x,r,rfl,_⟩:=h';cases h
 |d::ds,[],xs,h,h'=>by
  simp only[aw] at h h';obtain⟨x,r,rfl,_⟩:=h;cases h'
 |d::ds,e::es,xs,h,h'=>by
  simp only[aw] at h h';obtain⟨x,r,rfl,h1,h2⟩:=h;obtain⟨x',r',e1,h3,h4⟩:=h';cases e1;rw[Dat.inj h1 h3,aw.inj h2 h4]
end
mutual
theorem nS:∀d:D,eqD d d=true
 |.non=>by simp[eqD]
 |.bl b=>by simp[eqD]
 |.int i=>by simp[eqD]
 |.str x=>by simp[eqD]
 |.tup ds=>by simp only[eqD];exact eZ ds
 |.lst ds=>by simp only[eqD];exact eZ ds
 |.dk ks=>by simp[eqD]
 |.dt ks=>by simp[eqD]
theorem eZ:∀ds:List D,eh ds ds=true
 | []=>by simp[eh]
 |d::ds=>by simp only[eh,nS d,eZ ds,Bool.and_self]
end
theorem jM:∀ {ds es:List D},ds.length≠es.length->eh ds es=false
 | [],[],h=>absurd rfl h
 | [],_::_,_=>by simp[eh]
 |_::_,[],_=>by simp[eh]
 |d::ds,e::es,h=>by
  simp only[eh,jM (ds:=ds) (es:=es) (by simpa using h),Bool.and_false]
theorem gT:∀ {ds es:List D},ds.length=es.length->(List.range ds.length).all (fun j=>eqD (ds.getD j .non) (es.getD j .non))=eh ds es
 | [],[],_=>by simp[eh]
 | [],_::_,h=>by simp at h
 |_::_,[],h=>by simp at h
 |d::ds,e::es,h=>by
  have ih:=gT (ds:=ds) (es:=es) (by simpa using h)
  rw[List.length_cons,List.range_succ_eq_map,List.all_cons,List.all_map];simp only[eh,←ih]
  rfl
end L2
namespace L2
open PySem PySem.Spec PyProof.Rows AutoSeq1
noncomputable def nK(h:Heap)(l:Addr):Prop:=∃es ep,h.get? l=some { cls:=.type "dict",data:=.dict es ep }
theorem io:isSubtype (.type "NoneType") (.type "dict")=pure false:=by rw[isSubtype_type];kernel_rfl
theorem ja:isSubtype (.type "bool") (.type "dict")=pure false:=by rw[isSubtype_type];kernel_rfl
theorem i6:isSubtype (.type "int") (.type "dict")=pure false:=by rw[isSubtype_type];kernel_rfl
theorem i7:isSubtype (.type "str") (.type "dict")=pure false:=by rw[isSubtype_type];kernel_rfl
theorem jg:isSubtype (.type "tuple") (.type "dict")=pure false:=by rw[isSubtype_type];kernel_rfl
theorem jd:isSubtype (.type "list") (.type "dict")=pure false:=by rw[isSubtype_type];kernel_rfl
theorem o8:isSubtype (.type "dict") (.type "NoneType")=pure false:=by rw[isSubtype_type];kernel_rfl
theorem rH:isSubtype (.type "dict") (.type "bool")=pure false:=by rw[isSubtype_type];kernel_rfl
theorem gw:isSubtype (.type "dict") (.type "int")=pure false:=by rw[isSubtype_type];kernel_rfl
theorem jq:isSubtype (.type "dict") (.type "str")=pure false:=by rw[isSubtype_type];kernel_rfl
theorem jB:isSubtype (.type "dict") (.type "tuple")=pure false:=by rw[isSubtype_type];kernel_rfl
theorem jC:isSubtype (.type "dict") (.type "list")=pure false:=by rw[isSubtype_type];kernel_rfl
section
variable(l b:Addr)(es:Array DictEntry)(ep:Nat)
noncomputable abbrev DO(es:Array DictEntry)(ep:Nat):Obj:={ cls:=.type "dict",data:=.dict es ep }
theorem A9:Meets (Builtin.«dict.__eq__» ⟨[.ref l,.none],[]⟩) (fun _ R s=>s.heap.get? l=some (DO es ep)/\R (.ok (.ret .notImplemented)) s):=
 .of_wp fun prog w A R s h=>by obtain⟨hp,g,d,tk,os⟩:=s;obtain⟨hl,h⟩:=h;have f1:=io;wp_walk using wpAny_loadPart' hl,wpAny_load hl;exact⟨_,rfl,h⟩
theorem A6:Meets (Builtin.«dict.__ne__» ⟨[.ref l,.none],[]⟩) (fun _ R s=>s.heap.get? l=some (DO es ep)/\R (.ok (.ret .notImplemented)) s):=
 .of_wp fun prog w A R s h=>by obtain⟨hp,g,d,tk,os⟩:=s;obtain⟨hl,h⟩:=h;have f1:=io;wp_walk using wpAny_loadPart' hl,wpAny_load hl;exact⟨_,rfl,h⟩
theorem Cq(c:Bool):Meets (Builtin.«dict.__eq__» ⟨[.ref l,.bool c],[]⟩) (fun _ R s=>s.heap.get? l=some (DO es ep)/\R (.ok (.ret .notImplemented)) s):=
 .of_wp fun prog w A R s h=>by obtain⟨hp,g,d,tk,os⟩:=s;obtain⟨hl,h⟩:=h;have f1:=ja;wp_walk using wpAny_loadPart' hl,wpAny_load hl;exact⟨_,rfl,h⟩
theorem Ct(c:Bool):Meets (Builtin.«dict.__ne__» ⟨[.ref l,.bool c],[]⟩) (fun _ R s=>s.heap.get? l=some (DO es ep)/\R (.ok (.ret .notImplemented)) s):=
 .of_wp fun prog w A R s h=>by obtain⟨hp,g,d,tk,os⟩:=s;obtain⟨hl,h⟩:=h;have f1:=ja;wp_walk using wpAny_loadPart' hl,wpAny_load hl;exact⟨_,rfl,h⟩
theorem Dh(c:Int)(u:Tok):Meets (Builtin.«dict.__eq__» ⟨[.ref l,.int c u],[]⟩) (fun _ R s=>s.heap.get? l=some (DO es ep)/\R (.ok (.ret .notImplemented)) s):=
 .of_wp fun prog w A R s h=>by obtain⟨hp,g,d,tk,os⟩:=s;obtain⟨hl,h⟩:=h;have f1:=i6;wp_walk using wpAny_loadPart' hl,wpAny_load hl;exact⟨_,rfl,h⟩
theorem Ck(c:Int)(u:Tok):Meets (Builtin.«dict.__ne__» ⟨[.ref l,.int c u],[]⟩) (fun _ R s=>s.heap.get? l=some (DO es ep)/\R (.ok (.ret .notImplemented)) s):=
 .of_wp fun prog w A R s h=>by obtain⟨hp,g,d,tk,os⟩:=s;obtain⟨hl,h⟩:=h;have f1:=i6;wp_walk using wpAny_loadPart' hl,wpAny_load hl;exact⟨_,rfl,h⟩
theorem CY(c:Str)(u:Tok):Meets (Builtin.«dict.__eq__» ⟨[.ref l,.str c u],[]⟩) (fun _ R s=>s.heap.get? l=some (DO es ep)/\R (.ok (.ret .notImplemented)) s):=
 .of_wp fun prog w A R s h=>by obtain⟨hp,g,d,tk,os⟩:=s;obtain⟨hl,h⟩:=h;have f1:=i7;wp_walk using wpAny_loadPart' hl,wpAny_load hl;exact⟨_,rfl,h⟩
theorem CL(c:Str)(u:Tok):Meets (Builtin.«dict.__ne__» ⟨[.ref l,.str c u],[]⟩) (fun _ R s=>s.heap.get? l=some (DO es ep)/\R (.ok (.ret .notImplemented)) s):=
 .of_wp fun prog w A R s h=>by obtain⟨hp,g,d,tk,os⟩:=s;obtain⟨hl,h⟩:=h;have f1:=i7;wp_walk using wpAny_loadPart' hl,wpAny_load hl;exact⟨_,rfl,h⟩
theorem C5(its:Array Value)(n:Nat)(dd:Option Addr)(sl:Array (Option Value)):Meets (Builtin.«dict.__eq__» ⟨[.ref l,.ref b],[]⟩) (fun _ R s=>s.heap.get? l=some (DO es ep)/\s.heap.get? b=some ⟨.type "tuple",dd,.seq its n,sl⟩/\R (.ok (.ret .notImplemented)) s):=
 .of_wp fun prog w A R s h=>by obtain⟨hp,g,d,tk,os⟩:=s;obtain⟨hl,hb,h⟩:=h;have f1:=jg;wp_walk using wpAny_loadPart' hl,wpAny_load hl,wpAny_loadPart' hb,wpAny_load hb;exact⟨_,rfl,h⟩
theorem CM(its:Array Value)(n:Nat)(dd:Option Addr)(sl:Array (Option Value)):Meets (Builtin.«dict.__ne__» ⟨[.ref l,.ref b],[]⟩) (fun _ R s=>s.heap.get? l=some (DO es ep)/\s.heap.get? b=some ⟨.type "tuple",dd,.seq its n,sl⟩/\R (.ok (.ret .notImplemented)) s):=
 .of_wp fun prog w A R s h=>by obtain⟨hp,g,d,tk,os⟩:=s;obtain⟨hl,hb,h⟩:=h;have f1:=jg;wp_walk using wpAny_loadPart' hl,wpAny_load hl,wpAny_loadPart' hb,wpAny_load hb;exact⟨_,rfl,h⟩
theorem CA(its:Array Value)(n:Nat)(dd:Option Addr)(sl:Array (Option Value)):Meets (Builtin.«dict.__eq__» ⟨[.ref l,.ref b],[]⟩) (fun _ R s=>s.heap.get? l=some (DO es ep)/\s.heap.get? b=some ⟨.type "list",dd,.seq its n,sl⟩/\R (.ok (.ret .notImplemented)) s):=
 .of_wp fun prog w A R s h=>by obtain⟨hp,g,d,tk,os⟩:=s;obtain⟨hl,hb,h⟩:=h;have f1:=jd;wp_walk using wpAny_loadPart' hl,wpAny_load hl,wpAny_loadPart' hb,wpAny_load hb;exact⟨_,rfl,h⟩
theorem Cf(its:Array Value)(n:Nat)(dd:Option Addr)(sl:Array (Option Value)):Meets (Builtin.«dict.__ne__» ⟨[.ref l,.ref b],[]⟩) (fun _ R s=>s.heap.get? l=some (DO es ep)/\s.heap.get? b=some ⟨.type "list",dd,.seq its n,sl⟩/\R (.ok (.ret .notImplemented)) s):=
 .of_wp fun prog w A R s h=>by obtain⟨hp,g,d,tk,os⟩:=s;obtain⟨hl,hb,h⟩:=h;have f1:=jd;wp_walk using wpAny_loadPart' hl,wpAny_load hl,wpAny_loadPart' hb,wpAny_load hb;exact⟨_,rfl,h⟩
theorem Dg(c:Bool):Meets (Builtin.«int.__eq__» ⟨[.bool c,.ref l],[]⟩) (fun _ R s=>s.heap.get? l=some (DO es ep)/\R (.ok (.ret .notImplemented)) s):=
 .of_wp fun prog w A R s h=>by obtain⟨hp,g,d,tk,os⟩:=s;obtain⟨hl,h⟩:=h;have f1:=gw;wp_walk using wpAny_loadPart' hl,wpAny_load hl;exact⟨_,rfl,h⟩
theorem Dm(c:Bool):Meets (Builtin.«int.__ne__» ⟨[.bool c,.ref l],[]⟩) (fun _ R s=>s.heap.get? l=some (DO es ep)/\R (.ok (.ret .notImplemented)) s):=
 .of_wp fun prog w A R s h=>by obtain⟨hp,g,d,tk,os⟩:=s;obtain⟨hl,h⟩:=h;have f1:=gw;wp_walk using wpAny_loadPart' hl,wpAny_load hl;exact⟨_,rfl,h⟩
theorem Di(c:Int)(u:Tok):Meets (Builtin.«int.__eq__» ⟨[.int c u,.ref l],[]⟩) (fun _ R s=>s.heap.get? l=some (DO es ep)/\R (.ok (.ret .notImplemented)) s):=
 .of_wp fun prog w A R s h=>by obtain⟨hp,g,d,tk,os⟩:=s;obtain⟨hl,h⟩:=h;have f1:=gw;wp_walk using wpAny_loadPart' hl,wpAny_load hl;exact⟨_,rfl,h⟩
theorem Cm(c:Int)(u:Tok):Meets (Builtin.«int.__ne__» ⟨[.int c u,.ref l],[]⟩) (fun _ R s=>s.heap.get? l=some (DO es ep)/\R (.ok (.ret .notImplemented)) s):=
 .of_wp fun prog w A R s h=>by obtain⟨hp,g,d,tk,os⟩:=s;obtain⟨hl,h⟩:=h;have f1:=gw;wp_walk using wpAny_loadPart' hl,wpAny_load hl;exact⟨_,rfl,h⟩
theorem Dy(c:Str)(u:Tok):Meets (Builtin.«str.__eq__» ⟨[.str c u,.ref l],[]⟩) (fun _ R s=>s.heap.get? l=some (DO es ep)/\R (.ok (.ret .notImplemented)) s):=
 .of_wp fun prog w A R s h=>by obtain⟨hp,g,d,tk,os⟩:=s;obtain⟨hl,h⟩:=h;have f1:=jq;wp_walk using wpAny_loadPart' hl,wpAny_load hl;exact⟨_,rfl,h⟩
theorem DD(c:Str)(u:Tok):Meets (Builtin.«str.__ne__» ⟨[.str c u,.ref l],[]⟩) (fun _ R s=>s.heap.get? l=some (DO es ep)/\R (.ok (.ret .notImplemented)) s):=
 .of_wp fun prog w A R s h=>by obtain⟨hp,g,d,tk,os⟩:=s;obtain⟨hl,h⟩:=h;have f1:=jq;wp_walk using wpAny_loadPart' hl,wpAny_load hl;exact⟨_,rfl,h⟩
theorem DQ(its:Array Value)(n:Nat)(dd:Option Addr)(sl:Array (Option Value)):Meets (Builtin.«tuple.__eq__» ⟨[.ref b,.ref l],[]⟩) (fun _ R s=>s.heap.get? l=some (DO es ep)/\s.heap.get? b=some ⟨.type "tuple",dd,.seq its n,sl⟩/\R (.ok (.ret .notImplemented)) s):=
 .of_wp fun prog w A R s h=>by obtain⟨hp,g,d,tk,os⟩:=s;obtain⟨hl,hb,h⟩:=h;have f1:=jB;wp_walk using wpAny_loadPart' hl,wpAny_load hl,wpAny_loadPart' hb,wpAny_load hb;exact⟨_,rfl,h⟩
theorem DR(its:Array Value)(n:Nat)(dd:Option Addr)(sl:Array (Option Value)):Meets (Builtin.«tuple.__ne__» ⟨[.ref b,.ref l],[]⟩) (fun _ R s=>s.heap.get? l=some (DO es ep)/\s.heap.get? b=some ⟨.type "tuple",dd,.seq its n,sl⟩/\R (.ok (.ret .notImplemented)) s):=
 .of_wp fun prog w A R s h=>by obtain⟨hp,g,d,tk,os⟩:=s;obtain⟨hl,hb,h⟩:=h;have f1:=jB;wp_walk using wpAny_loadPart' hl,wpAny_load hl,wpAny_loadPart' hb,wpAny_load hb;exact⟨_,rfl,h⟩
theorem DK(its:Array Value)(n:Nat)(dd:Option Addr)(sl:Array (Option Value)):Meets (Builtin.«list.__eq__» ⟨[.ref b,.ref l],[]⟩) (fun _ R s=>s.heap.get? l=some (DO es ep)/\s.heap.get? b=some ⟨.type "list",dd,.seq its n,sl⟩/\R (.ok (.ret .notImplemented)) s):=
 .of_wp fun prog w A R s h=>by obtain⟨hp,g,d,tk,os⟩:=s;obtain⟨hl,hb,h⟩:=h;have f1:=jC;wp_walk using wpAny_loadPart' hl,wpAny_load hl,wpAny_loadPart' hb,wpAny_load hb;exact⟨_,rfl,h⟩
theorem DG(its:Array Value)(n:Nat)(dd:Option Addr)(sl:Array (Option Value)):Meets (Builtin.«list.__ne__» ⟨[.ref b,.ref l],[]⟩) (fun _ R s=>s.heap.get? l=some (DO es ep)/\s.heap.get? b=some ⟨.type "list",dd,.seq its n,sl⟩/\R (.ok (.ret .notImplemented)) s):=
 .of_wp fun prog w A R s h=>by obtain⟨hp,g,d,tk,os⟩:=s;obtain⟨hl,hb,h⟩:=h;have f1:=jC;wp_walk using wpAny_loadPart' hl,wpAny_load hl,wpAny_loadPart' hb,wpAny_load hb;exact⟨_,rfl,h⟩
end
noncomputable def Eq3(A:Around)(s:Shared)(v u:Value)(b:Bool):Prop:=SeqAt.RcAt A s v u b/\SeqAt.EqAt A s v u b/\SeqAt.RcNeAt A s v u (!b)
section
variable{A:Around}{s:Shared}{l:Addr}
theorem eY{v:Value}(hne:v≠.ref l)(h:SeqAt.RcAt A s v (.ref l) false):SeqAt.EqAt A s v (.ref l) false:=fun prog w E Q q=>by
 unfold eqBool;refine wpAny_holding ?_;refine wpAny_ite_split (fun hab=>absurd (eq_of_beq hab) hne) (fun _=>?_);cases v<;>exact wpAny_bind (h prog w E _ (wpAny_truthy_bool q))
theorem vY(d:nK s.heap l)(hu:A.units<cLine):Eq3 A s .none (.ref l) false:=by
 obtain⟨es,ep,ho⟩:=d
 have a:SeqAt.RcAt A s .none (.ref l) false:=fun prog w E Q h=>SeqAt.rc_eq_decline_or (k:=false) rfl ⟨_,ho,rfl⟩ (by decide) o8 F.slot_NoneType_eq F.slot_dict_eq_refl
  (fun _ hq=>call_gives F.slot_NoneType_eq rfl F.entry_NoneType_eq (F.args_NoneType_eq_2 _ _) (SeqAt.NoneType___eq___none_ref_0 l) hq)
  (fun _ hq=>call_meets F.slot_dict_eq_refl ⟨_,ho,rfl⟩ F.entry_dict_eq (F.args_dict_eq_2 _ _) (A9 l es ep) ⟨ho,hq⟩)
  (fun _ hq=>wpAny_of_eq (rfl:isSame .none (.ref l)=pure false) hq) (.inr hu) h
 exact⟨a,eY nofun a,fun prog w E Q h=>SeqAt.rc_ne_decline_or (k:=false) rfl ⟨_,ho,rfl⟩ (by decide) o8 F.slot_NoneType_ne F.slot_dict_ne_refl
  (fun _ hq=>call_gives F.slot_NoneType_ne rfl F.entry_NoneType_ne (F.args_NoneType_ne_2 _ _) (SeqAt.NoneType___ne___none_ref_0 l) hq)
  (fun _ hq=>call_meets F.slot_dict_ne_refl ⟨_,ho,rfl⟩ F.entry_dict_ne (F.args_dict_ne_2 _ _) (A6 l es ep) ⟨ho,hq⟩)
  (fun _ hq=>wpAny_of_eq (rfl:isSame .none (.ref l)=pure false) hq) (.inr hu) h⟩
theorem zb(c:Bool)(d:nK s.heap l)(hu:A.units<cLine):Eq3 A s (.bool c) (.ref l) false:=by
 obtain⟨es,ep,ho⟩:=d
 have a:SeqAt.RcAt A s (.bool c) (.ref l) false:=fun prog w E Q h=>SeqAt.rc_eq_decline_or (k:=false) rfl ⟨_,ho,rfl⟩ (by decide) rH F.slot_bool_eq F.slot_dict_eq_refl
  (fun _ hq=>call_meets F.slot_bool_eq rfl F.entry_int_eq (F.args_int_eq_2 _ _) (Dg l es ep c) ⟨ho,hq⟩)
  (fun _ hq=>call_meets F.slot_dict_eq_refl ⟨_,ho,rfl⟩ F.entry_dict_eq (F.args_dict_eq_2 _ _) (Cq l es ep c) ⟨ho,hq⟩)
  (fun _ hq=>wpAny_of_eq (rfl:isSame (.bool c) (.ref l)=pure false) hq) (.inr hu) h
 exact⟨a,eY nofun a,fun prog w E Q h=>SeqAt.rc_ne_decline_or (k:=false) rfl ⟨_,ho,rfl⟩ (by decide) rH F.slot_bool_ne F.slot_dict_ne_refl
  (fun _ hq=>call_meets F.slot_bool_ne rfl F.entry_int_ne (F.args_int_ne_2 _ _) (Dm l es ep c) ⟨ho,hq⟩)
  (fun _ hq=>call_meets F.slot_dict_ne_refl ⟨_,ho,rfl⟩ F.entry_dict_ne (F.args_dict_ne_2 _ _) (Ct l es ep c) ⟨ho,hq⟩)
  (fun _ hq=>wpAny_of_eq (rfl:isSame (.bool c) (.ref l)=pure false) hq) (.inr hu) h⟩
theorem zK(c:Int)(u:Tok)(d:nK s.heap l)(hu:A.units<cLine):Eq3 A s (.int c u) (.ref l) false:=by
 obtain⟨es,ep,ho⟩:=d
 have a:SeqAt.RcAt A s (.int c u) (.ref l) false:=fun prog w E Q h=>SeqAt.rc_eq_decline_or (k:=false) (typeIs_int s c u) ⟨_,ho,rfl⟩ (by decide) gw F.slot_int_eq F.slot_dict_eq_refl
  (fun _ hq=>call_meets F.slot_int_eq (typeIs_int s c u) F.entry_int_eq (F.args_int_eq_2 _ _) (Di l es ep c u) ⟨ho,hq⟩)
  (fun _ hq=>call_meets F.slot_dict_eq_refl ⟨_,ho,rfl⟩ F.entry_dict_eq (F.args_dict_eq_2 _ _) (Dh l es ep c u) ⟨ho,hq⟩)
  (fun _ hq=>wpAny_of_eq (rfl:isSame (.int c u) (.ref l)=pure false) hq) (.inr hu) h
 exact⟨a,eY nofun a,fun prog w E Q h=>SeqAt.rc_ne_decline_or (k:=false) (typeIs_int s c u) ⟨_,ho,rfl⟩ (by decide) gw F.slot_int_ne F.slot_dict_ne_refl
  (fun _ hq=>call_meets F.slot_int_ne (typeIs_int s c u) F.entry_int_ne (F.args_int_ne_2 _ _) (Cm l es ep c u) ⟨ho,hq⟩)
  (fun _ hq=>call_meets F.slot_dict_ne_refl ⟨_,ho,rfl⟩ F.entry_dict_ne (F.args_dict_ne_2 _ _) (Ck l es ep c u) ⟨ho,hq⟩)
  (fun _ hq=>wpAny_of_eq (rfl:isSame (.int c u) (.ref l)=pure false) hq) (.inr hu) h⟩
theorem y9(c:Str)(u:Tok)(d:nK s.heap l)(hu:A.units<cLine):Eq3 A s (.str c u) (.ref l) false:=by
 obtain⟨es,ep,ho⟩:=d
 have a:SeqAt.RcAt A s (.str c u) (.ref l) false:=fun prog w E Q h=>SeqAt.rc_eq_decline_or (k:=false) (typeIs_str s c u) ⟨_,ho,rfl⟩ (by decide) jq F.slot_str_eq F.slot_dict_eq_refl
  (fun _ hq=>call_meets F.slot_str_eq (typeIs_str s c u) F.entry_str_eq (F.args_str_eq_2 _ _) (Dy l es ep c u) ⟨ho,hq⟩)
  (fun _ hq=>call_meets F.slot_dict_eq_refl ⟨_,ho,rfl⟩ F.entry_dict_eq (F.args_dict_eq_2 _ _) (CY l es ep c u) ⟨ho,hq⟩)
  (fun _ hq=>wpAny_of_eq (rfl:isSame (.str c u) (.ref l)=pure false) hq) (.inr hu) h
 exact⟨a,eY nofun a,fun prog w E Q h=>SeqAt.rc_ne_decline_or (k:=false) (typeIs_str s c u) ⟨_,ho,rfl⟩ (by decide) jq F.slot_str_ne F.slot_dict_ne_refl
  (fun _ hq=>call_meets F.slot_str_ne (typeIs_str s c u) F.entry_str_ne (F.args_str_ne_2 _ _) (DD l es ep c u) ⟨ho,hq⟩)
  (fun _ hq=>call_meets F.slot_dict_ne_refl ⟨_,ho,rfl⟩ F.entry_dict_ne (F.args_dict_ne_2 _ _) (CL l es ep c u) ⟨ho,hq⟩)
  (fun _ hq=>wpAny_of_eq (rfl:isSame (.str c u) (.ref l)=pure false) hq) (.inr hu) h⟩
theorem jy{b:Addr}{ob ol:Obj}{Q:Bool->Shared->Prop}{M:Model}{E:Value->Shared->Prop}(h1:s.heap.get? b=some ob)(h2:s.heap.get? l=some ol)(hb:ob.cls≠ol.cls)(hl:ol.cls≠.type "tuple")(q:Q false s):wpAny M A (isSame (.ref b) (.ref l)) Q E s:=
 SeqAt.wpAny_isSame_ref_other' (fun e=>by subst e;rw[h1] at h2;cases h2;exact hb rfl) h1 h2 hl q
theorem zh{b:Addr}{its:Array Value}(hb:s.heap.IsTuple b its)(d:nK s.heap l)(hu:A.units<cLine):Eq3 A s (.ref b) (.ref l) false:=by
 obtain⟨es,ep,ho⟩:=d;obtain⟨⟨cls,dd,data,sl⟩,hp,hc,n,hd⟩:=id hb;simp only at hc hd;subst hc hd;have ne:Value.ref b≠Value.ref l:=fun e=>by cases e;exact absurd (congrArg (fun o:Obj=>o.cls) (Option.some.inj (hp.symm.trans ho))) (by simp)
 have a:SeqAt.RcAt A s (.ref b) (.ref l) false:=fun prog w E Q h=>SeqAt.rc_eq_decline_or (k:=false) ⟨_,hp,rfl⟩ ⟨_,ho,rfl⟩ (by decide) jB F.slot_tuple_eq F.slot_dict_eq_refl
  (fun _ hq=>call_meets F.slot_tuple_eq ⟨_,hp,rfl⟩ F.entry_tuple_eq (F.args_tuple_eq_2 _ _) (DQ l b es ep _ _ _ _) ⟨ho,hp,hq⟩)
  (fun _ hq=>call_meets F.slot_dict_eq_refl ⟨_,ho,rfl⟩ F.entry_dict_eq (F.args_dict_eq_2 _ _) (C5 l b es ep _ _ _ _) ⟨ho,hp,hq⟩)
  (fun _ hq=>jy hp ho (by simp) (by simp) hq) (.inr hu) h
 exact⟨a,eY ne a,fun prog w E Q h=>SeqAt.rc_ne_decline_or (k:=false) ⟨_,hp,rfl⟩ ⟨_,ho,rfl⟩ (by decide) jB F.slot_tuple_ne F.slot_dict_ne_refl
  (fun _ hq=>call_meets F.slot_tuple_ne ⟨_,hp,rfl⟩ F.entry_tuple_ne (F.args_tuple_ne_2 _ _) (DR l b es ep _ _ _ _) ⟨ho,hp,hq⟩)
  (fun _ hq=>call_meets F.slot_dict_ne_refl ⟨_,ho,rfl⟩ F.entry_dict_ne (F.args_dict_ne_2 _ _) (CM l b es ep _ _ _ _) ⟨ho,hp,hq⟩)
  (fun _ hq=>jy hp ho (by simp) (by simp) hq) (.inr hu) h⟩
theorem zV{b:Addr}{its:Array Value}(hb:s.heap.IsList b its)(d:nK s.heap l)(hu:A.units<cLine):Eq3 A s (.ref b) (.ref l) false:=by
 obtain⟨es,ep,ho⟩:=d;obtain⟨⟨cls,dd,data,sl⟩,hp,hc,n,hd⟩:=id hb;simp only at hc hd;subst hc hd;have ne:Value.ref b≠Value.ref l:=fun e=>by cases e;exact absurd (congrArg (fun o:Obj=>o.cls) (Option.some.inj (hp.symm.trans ho))) (by simp)
 have a:SeqAt.RcAt A s (.ref b) (.ref l) false:=fun prog w E Q h=>SeqAt.rc_eq_decline_or (k:=false) ⟨_,hp,rfl⟩ ⟨_,ho,rfl⟩ (by decide) jC F.slot_list_eq F.slot_dict_eq_refl
  (fun _ hq=>call_meets F.slot_list_eq ⟨_,hp,rfl⟩ F.entry_list_eq (F.args_list_eq_2 _ _) (DK l b es ep _ _ _ _) ⟨ho,hp,hq⟩)
  (fun _ hq=>call_meets F.slot_dict_eq_refl ⟨_,ho,rfl⟩ F.entry_dict_eq (F.args_dict_eq_2 _ _) (CA l b es ep _ _ _ _) ⟨ho,hp,hq⟩)
  (fun _ hq=>jy hp ho (by simp) (by simp) hq) (.inr hu) h
 exact⟨a,eY ne a,fun prog w E Q h=>SeqAt.rc_ne_decline_or (k:=false) ⟨_,hp,rfl⟩ ⟨_,ho,rfl⟩ (by decide) jC F.slot_list_ne F.slot_dict_ne_refl
  (fun _ hq=>call_meets F.slot_list_ne ⟨_,hp,rfl⟩ F.entry_list_ne (F.args_list_ne_2 _ _) (DG l b es ep _ _ _ _) ⟨ho,hp,hq⟩)
  (fun _ hq=>call_meets F.slot_dict_ne_refl ⟨_,ho,rfl⟩ F.entry_dict_ne (F.args_dict_ne_2 _ _) (Cf l b es ep _ _ _ _) ⟨ho,hp,hq⟩)
  (fun _ hq=>jy hp ho (by simp) (by simp) hq) (.inr hu) h⟩
end
end L2
namespace L2
open PySem PySem.Spec PyProof.Rows
section
variable{X:Cx}{pins:List (Addr×Obj)}{σ:St}{H:Hp}{s:Shared}
theorem rh:∀ {xs:List V} {us:List Value} {j:Nat} {x:V},aB xs us->xs[j]?=some x->∀(h:j<us.toArray.size),aP x us.toArray[j]:=fun {xs us j x} r e h=>by
 obtain⟨u,h1,h2⟩:=r.get e
 have:us[j]?=some us.toArray[j]:=by
  rw[List.getElem?_eq_getElem (by simpa using h)]
  simp
 rw[h1] at this;cases this;exact h2
theorem eB(I:Inv X pins σ H s){a:Addr}{xs:List V}(h:H a=some (.tup xs)):∃its:List Value,aB xs its/\s.heap.IsTuple a its.toArray:=by
 obtain⟨its,r,p,_⟩:=I.tuple (SqT.of (K:=X.K) h);exact⟨its,r,p⟩
theorem gO(I:Inv X pins σ H s){a:Addr}{xs:List V}(h:H a=some (.lst xs)):∃its:List Value,aB xs its/\s.heap.IsList a its.toArray:=by
 obtain⟨its,r,p,_⟩:=I.list (SqL.of (K:=X.K) h);exact⟨its,r,p.isList⟩
theorem k6(I:Inv X pins σ H s){a:Addr}{kvs:List (Key×V)}(h:H a=some (.dK kvs)):nK s.heap a:=by
 obtain⟨_,_,vs,_,o,es,ep,e1,⟨c1,c2,c3⟩,e2,_⟩:=I.hok _ _ h;obtain⟨cls,dd,data,sl⟩:=o;simp only at c1 c2 c3 e2;subst c1 c2 c3 e2;exact⟨_,_,e1⟩
theorem jW(I:Inv X pins σ H s){a:Addr}{kvs:List (List Key×V)}(h:H a=some (.dT kvs)):nK s.heap a:=by
 obtain⟨_,_,vs,_,o,es,ep,e1,⟨c1,c2,c3⟩,e2,_⟩:=I.hok _ _ h;obtain⟨cls,dd,data,sl⟩:=o;simp only at c1 c2 c3 e2;subst c1 c2 c3 e2;exact⟨_,_,e1⟩
theorem wJ{ds es:List D}:((List.range (min ds.length es.length)).all (fun j=>eqD (ds.getD j .non) (es.getD j .non)) && ds.length == es.length)=eh ds es:=by
 by_cases h:ds.length=es.length
 ·rw[←gT h]
  have:min ds.length es.length=ds.length:=by omega
  rw[this];simp[h]
 ·rw[jM h]
  have:(ds.length == es.length)=false:=by simpa using h
  rw[this,Bool.and_false]
theorem mY(I:Inv X pins σ H s)(n:Nat):∀(d e:D)(x y:V)(v u:Value)(A:Around),dep d<=n->A.units+n<cLine->Dat H d x->Dat H e y->aP x v->aP y u ->
  SeqAt.RcAt A s v u (eqD d e)/\SeqAt.EqAt A s v u (eqD d e)/\SeqAt.RcNeAt A s v u (!eqD d e):=by
 induction n with
 |zero=>
  intro d e x y v u A hd hu hx hy rx ry;have hu':A.units<cLine:=by omega
  cases d with
  |tup ds=>simp only[dep] at hd;omega
  |lst ds=>simp only[dep] at hd;omega
  |dk ds=>simp only[dep] at hd;omega
  |dt ds=>simp only[dep] at hd;omega
  |non=>
   simp only[Dat] at hx;subst hx;cases rx
   cases e with
   |non=>simp only[Dat] at hy;subst hy;cases ry;exact⟨SeqAt.RcAt.none_none,SeqAt.EqAt.same _,SeqAt.RcNeAt.none_none⟩
   |bl b=>simp only[Dat] at hy;subst hy;cases ry;exact⟨SeqAt.RcAt.none_bool b,SeqAt.EqAt.none_bool b,SeqAt.RcNeAt.none_bool b⟩
   |int b=>simp only[Dat] at hy;subst hy;obtain⟨t,rfl⟩:=ry;exact⟨SeqAt.RcAt.none_int b t,SeqAt.EqAt.none_int b t,SeqAt.RcNeAt.none_int b t⟩
   |str b=>simp only[Dat] at hy;subst hy;obtain⟨t,rfl⟩:=ry;exact⟨SeqAt.RcAt.none_str b t,SeqAt.EqAt.none_str b t,SeqAt.RcNeAt.none_str b t⟩
   |tup es=>
    simp only[Dat] at hy;obtain⟨b,ys,rfl,hb,_⟩:=hy;cases ry;obtain⟨its,_,p⟩:=eB I hb;exact⟨SeqAt.RcAt.none_tuple p hu',SeqAt.EqAt.none_tuple p hu',SeqAt.RcNeAt.none_tuple p hu'⟩
   |lst es=>
    simp only[Dat] at hy;obtain⟨b,ys,rfl,hb,_⟩:=hy;cases ry;obtain⟨its,_,p⟩:=gO I hb;exact⟨SeqAt.RcAt.none_list p hu',SeqAt.EqAt.none_list p hu',SeqAt.RcNeAt.none_list p hu'⟩
   |dk es=>
    simp only[Dat] at hy;obtain⟨b,ys,rfl,hb,_⟩:=hy;cases ry;exact vY (k6 I hb) hu'
   |dt es=>
    simp only[Dat] at hy;obtain⟨b,ys,rfl,hb,_⟩:=hy;cases ry;exact vY (jW I hb) hu'
  |bl a=>
   simp only[Dat] at hx;subst hx;cases rx
   cases e with
   |non=>simp only[Dat] at hy;subst hy;cases ry;exact⟨SeqAt.RcAt.bool_none a,SeqAt.EqAt.bool_none a,SeqAt.RcNeAt.bool_none a⟩
   |bl b=>simp only[Dat] at hy;subst hy;cases ry;exact⟨SeqAt.RcAt.bool_bool a b,SeqAt.EqAt.bool_bool a b,SeqAt.RcNeAt.bool_bool a b⟩
   |int b=>simp only[Dat] at hy;subst hy;obtain⟨t,rfl⟩:=ry;exact⟨SeqAt.RcAt.bool_int a b t,SeqAt.EqAt.bool_int a b t,SeqAt.RcNeAt.bool_int a b t⟩
   |str b=>simp only[Dat] at hy;subst hy;obtain⟨t,rfl⟩:=ry;exact⟨SeqAt.RcAt.bool_str a b t,SeqAt.EqAt.bool_str a b t,SeqAt.RcNeAt.bool_str a b t⟩
   |tup es=>
    simp only[Dat] at hy;obtain⟨b,ys,rfl,hb,_⟩:=hy;cases ry;obtain⟨its,_,p⟩:=eB I hb;exact⟨SeqAt.RcAt.bool_tuple a p hu',SeqAt.EqAt.bool_tuple a p hu',SeqAt.RcNeAt.bool_tuple a p hu'⟩
   |lst es=>
    simp only[Dat] at hy;obtain⟨b,ys,rfl,hb,_⟩:=hy;cases ry;obtain⟨its,_,p⟩:=gO I hb;exact⟨SeqAt.RcAt.bool_list a p hu',SeqAt.EqAt.bool_list a p hu',SeqAt.RcNeAt.bool_list a p hu'⟩
   |dk es=>
    simp only[Dat] at hy;obtain⟨b,ys,rfl,hb,_⟩:=hy;cases ry;exact zb a (k6 I hb) hu'
   |dt es=>
    simp only[Dat] at hy;obtain⟨b,ys,rfl,hb,_⟩:=hy;cases ry;exact zb a (jW I hb) hu'
  |int a=>
   simp only[Dat] at hx;subst hx;obtain⟨t',rfl⟩:=rx
   cases e with
   |non=>simp only[Dat] at hy;subst hy;cases ry;exact⟨SeqAt.RcAt.int_none a t',SeqAt.EqAt.int_none a t',SeqAt.RcNeAt.int_none a t'⟩
   |bl b=>simp only[Dat] at hy;subst hy;cases ry;exact⟨SeqAt.RcAt.int_bool a t' b,SeqAt.EqAt.int_bool a t' b,SeqAt.RcNeAt.int_bool a t' b⟩
   |int b=>simp only[Dat] at hy;subst hy;obtain⟨t,rfl⟩:=ry;exact⟨SeqAt.RcAt.int_int a t' b t,SeqAt.EqAt.int_int a t' b t,SeqAt.RcNeAt.int_int a t' b t⟩
   |str b=>simp only[Dat] at hy;subst hy;obtain⟨t,rfl⟩:=ry;exact⟨SeqAt.RcAt.int_str a t' b t,SeqAt.EqAt.int_str a t' b t,SeqAt.RcNeAt.int_str a t' b t⟩
   |tup es=>
    simp only[Dat] at hy;obtain⟨b,ys,rfl,hb,_⟩:=hy;cases ry;obtain⟨its,_,p⟩:=eB I hb;exact⟨SeqAt.RcAt.int_tuple a t' p hu',SeqAt.EqAt.int_tuple a t' p hu',SeqAt.RcNeAt.int_tuple a t' p hu'⟩
   |lst es=>
    simp only[Dat] at hy;obtain⟨b,ys,rfl,hb,_⟩:=hy;cases ry;obtain⟨its,_,p⟩:=gO I hb;exact⟨SeqAt.RcAt.int_list a t' p hu',SeqAt.EqAt.int_list a t' p hu',SeqAt.RcNeAt.int_list a t' p hu'⟩
   |dk es=>
    simp only[Dat] at hy;obtain⟨b,ys,rfl,hb,_⟩:=hy;cases ry;exact zK a t' (k6 I hb) hu'
   |dt es=>
    simp only[Dat] at hy;obtain⟨b,ys,rfl,hb,_⟩:=hy;cases ry;exact zK a t' (jW I hb) hu'
  |str a=>
   simp only[Dat] at hx;subst hx;obtain⟨t',rfl⟩:=rx
   cases e with
   |non=>simp only[Dat] at hy;subst hy;cases ry;exact⟨SeqAt.RcAt.str_none a t',SeqAt.EqAt.str_none a t',SeqAt.RcNeAt.str_none a t'⟩
   |bl b=>simp only[Dat] at hy;subst hy;cases ry;exact⟨SeqAt.RcAt.str_bool a t' b,SeqAt.EqAt.str_bool a t' b,SeqAt.RcNeAt.str_bool a t' b⟩
   |int b=>simp only[Dat] at hy;subst hy;obtain⟨t,rfl⟩:=ry;exact⟨SeqAt.RcAt.str_int a t' b t,SeqAt.EqAt.str_int a t' b t,SeqAt.RcNeAt.str_int a t' b t⟩
   |str b=>simp only[Dat] at hy;subst hy;obtain⟨t,rfl⟩:=ry;exact⟨SeqAt.RcAt.str_str a t' b t,SeqAt.EqAt.str_str a t' b t,SeqAt.RcNeAt.str_str a t' b t⟩
   |tup es=>
    simp only[Dat] at hy;obtain⟨b,ys,rfl,hb,_⟩:=hy;cases ry;obtain⟨its,_,p⟩:=eB I hb;exact⟨SeqAt.RcAt.str_tuple a t' p hu',SeqAt.EqAt.str_tuple a t' p hu',SeqAt.RcNeAt.str_tuple a t' p hu'⟩
   |lst es=>
    simp only[Dat] at hy;obtain⟨b,ys,rfl,hb,_⟩:=hy;cases ry;obtain⟨its,_,p⟩:=gO I hb;exact⟨SeqAt.RcAt.str_list a t' p hu',SeqAt.EqAt.str_list a t' p hu',SeqAt.RcNeAt.str_list a t' p hu'⟩
   |dk es=>
    simp only[Dat] at hy;obtain⟨b,ys,rfl,hb,_⟩:=hy;cases ry;exact y9 a t' (k6 I hb) hu'
   |dt es=>
    simp only[Dat] at hy;obtain⟨b,ys,rfl,hb,_⟩:=hy;cases ry;exact y9 a t' (jW I hb) hu'
 |succ n ih=>
  intro d e x y v u A hd hu hx hy rx ry;have hu':A.units<cLine:=by omega
  by_cases h0:dep d<=n
  ·exact ih d e x y v u A h0 (by omega) hx hy rx ry
  have hin:A.in1.units+n<cLine:=by show A.units+1+n<cLine;omega
  have items:∀(ds es:List D)(xs ys:List V)(its its2:List Value),dw ds<=n->aw H ds xs->aw H es ys->aB xs its->aB ys its2 ->
    ∀j (h1:j<its.toArray.size) (h2:j<its2.toArray.size),SeqAt.EqAt A.in1 s its.toArray[j] its2.toArray[j] (eqD (ds.getD j .non) (es.getD j .non)):=by
   intro ds es xs ys its its2 hdp hxs hys r1 r2 j h1 h2;have l1:j<ds.length:=by rw[←hxs.length,r1.length];simpa using h1
   have l2:j<es.length:=by rw[←hys.length,r2.length];simpa using h2
   obtain⟨x',ex,hx'⟩:=hxs.get (List.getElem?_eq_getElem l1);obtain⟨y',ey,hy'⟩:=hys.get (List.getElem?_eq_getElem l2);have g1:ds.getD j .non=ds[j]:=by rw[List.getD_eq_getElem?_getD,List.getElem?_eq_getElem l1];rfl
   have g2:es.getD j .non=es[j]:=by rw[List.getD_eq_getElem?_getD,List.getElem?_eq_getElem l2];rfl
   rw[g1,g2];exact(ih ds[j] es[j] x' y' _ _ A.in1 (Nat.le_trans (j9 (List.getElem_mem l1)) hdp) hin hx' hy' (rh r1 ex h1) (rh r2 ey h2)).2.1
  cases d with
  |non=>simp only[dep] at h0;omega
  |bl a=>simp only[dep] at h0;omega
  |int a=>simp only[dep] at h0;omega
  |str a=>simp only[dep] at h0;omega
  |dk ds=>simp only[dep] at hd;have:cLine=9900:=rfl;omega
  |dt ds=>simp only[dep] at hd;have:cLine=9900:=rfl;omega
  |tup ds=>
   simp only[dep] at hd;have hx0:=hx;simp only[Dat] at hx;obtain⟨a,xs,rfl,ha,hxs⟩:=hx;cases rx;obtain⟨its,r1,p⟩:=eB I ha
   cases e with
   |non=>simp only[Dat] at hy;subst hy;cases ry;exact⟨SeqAt.RcAt.tuple_none p hu',SeqAt.EqAt.tuple_none p hu',SeqAt.RcNeAt.tuple_none p hu'⟩
   |bl b=>simp only[Dat] at hy;subst hy;cases ry;exact⟨SeqAt.RcAt.tuple_bool b p hu',SeqAt.EqAt.tuple_bool b p hu',SeqAt.RcNeAt.tuple_bool b p hu'⟩
   |int b=>simp only[Dat] at hy;subst hy;obtain⟨t,rfl⟩:=ry;exact⟨SeqAt.RcAt.tuple_int b t p hu',SeqAt.EqAt.tuple_int b t p hu',SeqAt.RcNeAt.tuple_int b t p hu'⟩
   |str b=>simp only[Dat] at hy;subst hy;obtain⟨t,rfl⟩:=ry;exact⟨SeqAt.RcAt.tuple_str b t p hu',SeqAt.EqAt.tuple_str b t p hu',SeqAt.RcNeAt.tuple_str b t p hu'⟩
   |lst es=>
    simp only[Dat] at hy;obtain⟨b,ys,rfl,hb,_⟩:=hy;cases ry;obtain⟨its2,_,p2⟩:=gO I hb;exact⟨SeqAt.RcAt.tuple_list p p2 hu',SeqAt.EqAt.tuple_list p p2 hu',SeqAt.RcNeAt.tuple_list p p2 hu'⟩
   |dk es=>
    simp only[Dat] at hy;obtain⟨b,ys,rfl,hb,_⟩:=hy;cases ry;exact zh p (k6 I hb) hu'
   |dt es=>
    simp only[Dat] at hy;obtain⟨b,ys,rfl,hb,_⟩:=hy;cases ry;exact zh p (jW I hb) hu'
   |tup es=>
    have hy0:=hy;simp only[Dat] at hy;obtain⟨b,ys,rfl,hb,hys⟩:=hy;cases ry;obtain⟨its2,r2,p2⟩:=eB I hb;have it:=items ds es xs ys its its2 (by omega) hxs hys r1 r2
    have z1:its.toArray.size=ds.length:=by rw[←hxs.length,r1.length];simp
    have z2:its2.toArray.size=es.length:=by rw[←hys.length,r2.length];simp
    have e0:=wJ (ds:=ds) (es:=es)
    have rc:SeqAt.RcAt A s (.ref a) (.ref b) (eh ds es):=by
     have:=SeqAt.RcAt.tuples p p2 hu' it;rw[z1,z2,e0] at this;exact this
    have rn:SeqAt.RcNeAt A s (.ref a) (.ref b) (!eh ds es):=by
     have:=SeqAt.RcNeAt.tuples p p2 hu' it;rw[z1,z2,e0] at this;exact this
    simp only[eqD];refine⟨rc,?_,rn⟩;by_cases hab:a=b
    ·subst hab
     have:D.tup ds=D.tup es:=hx0.inj hy0;cases this;rw[eZ];exact SeqAt.EqAt.same _
    ·exact .of_refs hab rc
  |lst ds=>
   simp only[dep] at hd;have hx0:=hx;simp only[Dat] at hx;obtain⟨a,xs,rfl,ha,hxs⟩:=hx;cases rx;obtain⟨its,r1,p⟩:=gO I ha
   cases e with
   |non=>simp only[Dat] at hy;subst hy;cases ry;exact⟨SeqAt.RcAt.list_none p hu',SeqAt.EqAt.list_none p hu',SeqAt.RcNeAt.list_none p hu'⟩
   |bl b=>simp only[Dat] at hy;subst hy;cases ry;exact⟨SeqAt.RcAt.list_bool b p hu',SeqAt.EqAt.list_bool b p hu',SeqAt.RcNeAt.list_bool b p hu'⟩
   |int b=>simp only[Dat] at hy;subst hy;obtain⟨t,rfl⟩:=ry;exact⟨SeqAt.RcAt.list_int b t p hu',SeqAt.EqAt.list_int b t p hu',SeqAt.RcNeAt.list_int b t p hu'⟩
   |str b=>simp only[Dat] at hy;subst hy;obtain⟨t,rfl⟩:=ry;exact⟨SeqAt.RcAt.list_str b t p hu',SeqAt.EqAt.list_str b t p hu',SeqAt.RcNeAt.list_str b t p hu'⟩
   |tup es=>
    simp only[Dat] at hy;obtain⟨b,ys,rfl,hb,_⟩:=hy;cases ry;obtain⟨its2,_,p2⟩:=eB I hb;exact⟨SeqAt.RcAt.list_tuple p p2 hu',SeqAt.EqAt.list_tuple p p2 hu',SeqAt.RcNeAt.list_tuple p p2 hu'⟩
   |dk es=>
    simp only[Dat] at hy;obtain⟨b,ys,rfl,hb,_⟩:=hy;cases ry;exact zV p (k6 I hb) hu'
   |dt es=>
    simp only[Dat] at hy;obtain⟨b,ys,rfl,hb,_⟩:=hy;cases ry;exact zV p (jW I hb) hu'
   |lst es=>
    have hy0:=hy;simp only[Dat] at hy;obtain⟨b,ys,rfl,hb,hys⟩:=hy;cases ry;obtain⟨its2,r2,p2⟩:=gO I hb;have it:=items ds es xs ys its its2 (by omega) hxs hys r1 r2
    have z1:its.toArray.size=ds.length:=by rw[←hxs.length,r1.length];simp
    have z2:its2.toArray.size=es.length:=by rw[←hys.length,r2.length];simp
    have both:SeqAt.RcAt A s (.ref a) (.ref b) (eh ds es)/\SeqAt.RcNeAt A s (.ref a) (.ref b) (!eh ds es):=by
     by_cases hl:ds.length=es.length
     ·have r:=SeqAt.RcAt.lists p p2 (by rw[z1,z2];exact hl) hu' it
      have q:=SeqAt.RcNeAt.lists p p2 (by rw[z1,z2];exact hl) hu' it
      rw[z1,gT hl] at r q;exact⟨r,q⟩
     ·have hne:(its.toArray.size != its2.toArray.size)=true:=by rw[z1,z2];simpa using hl
      rw[jM hl];exact⟨SeqAt.RcAt.lists_lengths p p2 hne hu',SeqAt.RcNeAt.lists_lengths p p2 hne hu'⟩
    simp only[eqD];refine⟨both.1,?_,both.2⟩;by_cases hab:a=b
    ·subst hab
     have:D.lst ds=D.lst es:=hx0.inj hy0;cases this;rw[eZ];exact SeqAt.EqAt.same _
    ·exact .of_refs hab both.1
noncomputable def BY(neg:Bool):R2:=fun x y H Q=>∃d e,Dat H d x/\Dat H e y/\dep d<=100/\Q (.bl (if neg then !eqD d e else eqD d e)) H
theorem cG(hu:X.A.units+100<cLine):OpR X (compareOp .Eq) (BY false):=by
 intro pins s σ H x y v u Q I rx ry h;obtain⟨d,e,hx,hy,hd,q⟩:=h;exact(mY I 100 d e x y v u X.A hd hu hx hy rx ry).1 X.prog X.w _ _ ⟨.bl _,H,I,rfl,q⟩
theorem w6(hu:X.A.units+100<cLine):OpR X (compareOp .NotEq) (BY true):=by
 intro pins s σ H x y v u Q I rx ry h;obtain⟨d,e,hx,hy,hd,q⟩:=h;exact(mY I 100 d e x y v u X.A hd hu hx hy rx ry).2.2 X.prog X.w _ _ ⟨.bl _,H,I,rfl,q⟩
end
theorem jV{H:Hp}{p:Addr}{o:HO}(h:H p=none):cw H (upd H p o):=fun b u e=>by
 rw[aq (aN e h)];exact e
theorem ie{H:Hp}:∀ {ns:List Int} {xs:List V},aw H (ns.map D.int) xs->xs=ns.map V.int
 | [],xs,h=>by simpa[aw] using h
 |n::r,xs,h=>by
  simp only[List.map_cons,aw] at h;obtain⟨x,t,rfl,h1,h2⟩:=h;rw[ie h2];simp only[Dat] at h1;rw[h1];rfl
section
variable{X:Cx}
theorem t6:MtR X "int.bit_length" (fun x xs H Q=>∃i,x=.int i/\xs=[]/\Q (.int ((Builtin.Int.intBits i:Nat):Int)) H):=by
 intro pins s σ H x xs v us Q I rx rv h;obtain⟨i,rfl,rfl,q⟩:=h;obtain⟨t,rfl⟩:=rx;cases rv;refine call_gives F.slot_int_bit_length (typeIs_int s i t) F.entry_int_bit_length (F.args_int_bit_length_1 _) (AutoIntG2.int_bit_length_int_0 i t) ?_;exact⟨.int _,H,I.tok _,⟨_,rfl⟩,q⟩
end
theorem jL{e k y:Int}(h:0<k)(h2:k<=2^64):kW (e%k) y:=by
 have h1:=Int.emod_nonneg e (Int.ne_of_gt h);have h3:=Int.emod_lt_of_pos e h;exact .inl ⟨by omega,by omega⟩
theorem iT{x y:Int}(h:-(2^64)<x/\x<2^64):kW x y:=.inl h
theorem AB{x y:Int}(h:-(2^64)<y/\y<2^64):kW x y:=.inr h
section
variable{X:Cx}{tg a b l:Expr}{ta tb tl:TE}{pos:Pos}
theorem aO(K:W.Frag)(h:X.K=K):IxR X (rIx K):=h ▸ Al
theorem aH(K:W.Frag)(h:X.K=K):bQ X (.builtin "len") (fun xs H Q=>∃x n,xs=[x]/\yi K x H n/\Q (.int n) H):=h ▸ vN
theorem i3(K:W.Frag)(h:X.K=K)(hc:X.calm=true):bQ X (.builtin "all") (fun xs H Q=>∃(a:Addr)(bs:List Bool),xs=[.ref a]/\SqL K H a (bs.map V.bl)/\Q (.bl (bs.all id)) H):=h ▸ vd hc
theorem uf(K:W.Frag)(h:X.K=K)(hc:X.calm=true):bQ X (.builtin "any") (fun xs H Q=>∃(a:Addr)(bs:List Bool),xs=[.ref a]/\SqL K H a (bs.map V.bl)/\Q (.bl (bs.any id)) H):=h ▸ vI hc
theorem bb(K:W.Frag)(h:X.K=K)(ha:PE X a ta)(he:∀whole,isTrue a X.env whole=(do let v ← whole;standAt a.pos;holding [v] (truthy v))):
  PT X a (fun σ H Q=>ta σ H fun x H'=>∃k,nI K x H' k/\Q k H'):=h ▸ vf ha he
theorem eO(K:W.Frag)(h:X.K=K):bQ X (.type "list") (fun xs H Q=>∃p ys,xs=[.ref p]/\(SqL K H p ys\/SqT K H p ys)/\∀l,H l=none->Q (.ref l) (upd H l (.lst ys))):=h ▸ mM
theorem bw(K:W.Frag)(h:X.K=K):bQ X (.type "tuple") (fun xs H Q=>∃p ys,xs=[.ref p]/\((SqL K H p ys/\∀l,H l=none->Q (.ref l) (upd H l (.tup ys)))\/(SqT K H p ys/\Q (.ref p) H))):=h ▸ kR
end
noncomputable def DE(J:It)(g:TG)(tb:TS)(D:fK)(σ:St)(H:Hp):Prop:=∃W:Nat->Nat->St->Hp->Prop,(∃m,W 0 m σ H)/\∀i m σ H,W i m σ H ->
 (J.stop i H/\D.nx σ H)\/(J.go i H/\∃N:St->Hp->Prop,(∀σ' H',N σ' H'->∃m',m'<m/\W (i+1) m' σ' H')/\∀x H',J.yld i H x H'->g x σ H' fun σ2 H2=>tb { D with nx:=N,ct:=N,bk:=D.nx } σ2 H2)
theorem x6(wi:TI)(g:TG)(tb:TS)(D:fK)(σ:St)(H:Hp):AM wi g tb D σ H=wi σ H fun J H1=>DE J g tb D σ H1:=rfl
noncomputable def vT(H H':Hp):Prop:=∀b xs,H b=some (.tup xs)->H' b=some (.tup xs)
mutual
noncomputable def noL:D->Bool
 |.lst _=>false
 |.dk _=>false
 |.dt _=>false
 |.tup ds=>D7 ds
 |_=>true
noncomputable def D7:List D->Bool
 | []=>true
 |d::ds=>noL d && D7 ds
end
mutual
theorem Dat.t{H H':Hp}(e:vT H H'):∀ {d:D} {v:V},noL d=true->Dat H d v->Dat H' d v
 |.non,v,_,h=>by simpa only[Dat] using h
 |.bl b,v,_,h=>by simpa only[Dat] using h
 |.int i,v,_,h=>by simpa only[Dat] using h
 |.str x,v,_,h=>by simpa only[Dat] using h
 |.tup ds,v,n,h=>by
  simp only[Dat] at h ⊢;simp only[noL] at n;obtain⟨a,xs,rfl,h1,h2⟩:=h;exact⟨a,xs,rfl,e a _ h1,aw.t e n h2⟩
 |.lst ds,v,n,h=>by simp[noL] at n
 |.dk ds,v,n,h=>by simp[noL] at n
 |.dt ds,v,n,h=>by simp[noL] at n
theorem aw.t{H H':Hp}(e:vT H H'):∀ {ds:List D} {xs:List V},D7 ds=true->aw H ds xs->aw H' ds xs
 | [],xs,_,h=>by simpa only[aw] using h
 |d::ds,xs,n,h=>by
  simp only[aw] at h ⊢;simp only[D7,Bool.and_eq_true] at n;obtain⟨x,r,rfl,h1,h2⟩:=h;exact⟨x,r,rfl,Dat.t e n.1 h1,aw.t e n.2 h2⟩
end
theorem ia:∀ {ds:List D},(∀d∈ds,noL d=true)->D7 ds=true
 | [],_=>by simp[D7]
 |d::ds,h=>by
  simp only[D7,Bool.and_eq_true];exact⟨h d (List.mem_cons_self ..),ia fun e he=>h e (List.mem_cons_of_mem _ he)⟩
theorem tQ(ns:List Int):D7 (ns.map D.int)=true:=ia fun d hd=>by
 obtain⟨n,_,rfl⟩:=List.mem_map.mp hd;simp[noL]
end L2
namespace L2
end L2
namespace L2
open PySem
theorem dn.D6{k:Nat}{A:Around}(r:dn k A):A.units+100<cLine:=by have:=r.un;omega
theorem mq:∀ {ds:List D} {n:Nat},(∀d∈ds,dep d<=n)->dw ds<=n
 | [],n,_=>by simp[dw]
 |d::ds,n,h=>by
  simp only[dw];exact Nat.max_le.mpr ⟨h d (List.mem_cons_self ..),mq fun e he=>h e (List.mem_cons_of_mem _ he)⟩
theorem uF(ns:List Int):dw (ns.map D.int)=0:=by
 have:dw (ns.map D.int)<=0:=mq fun d hd=>by
  obtain⟨n,_,rfl⟩:=List.mem_map.mp hd;simp[dep]
 omega
end L2
namespace L2
open PySem PySem.Spec PyProof.Rows
end L2
namespace L2
open PySem
theorem aw.take{H:Hp}:∀ {ds:List D} {xs:List V} (n:Nat),aw H ds xs->aw H (ds.take n) (xs.take n):=fun {ds xs} n h=>by
 refine aw.of_get (by rw[List.length_take,List.length_take,h.length]) fun i d x e1 e2=>?_
 rw[List.getElem?_take] at e1 e2;split at e1
 ·rename_i hi
  rw[if_pos hi] at e2;obtain⟨x',h1,h2⟩:=h.get e1;rw[e2] at h1;cases h1;exact h2
 ·cases e1
theorem aw.drop{H:Hp}:∀ {ds:List D} {xs:List V} (n:Nat),aw H ds xs->aw H (ds.drop n) (xs.drop n):=fun {ds xs} n h=>by
 refine aw.of_get (by rw[List.length_drop,List.length_drop,h.length]) fun i d x e1 e2=>?_
 rw[List.getElem?_drop] at e1 e2;obtain⟨x',h1,h2⟩:=h.get e1;rw[e2] at h1;cases h1;exact h2
end L2
namespace L2
open PySem PySem.Spec PyProof.Rows
noncomputable def LD(H:Hp)(l:Addr)(ds:List D):Prop:=D7 ds=true/\∃xs,H l=some (.lst xs)/\aw H ds xs
theorem pe{ds es:List D}:D7 (ds++es)=(D7 ds && D7 es):=by
 induction ds with
 |nil=>simp[D7]
 |cons d ds ih=>simp[D7,ih,Bool.and_assoc]
inductive Tr where
 |lf (x:List D)
 |nd (x:List D) (l r:Tr)
namespace Tr
noncomputable def d:Tr->D
 |.lf x=>.tup x
 |.nd x l r=>.tup (x++[l.d,r.d])
noncomputable def size:Tr->Nat
 |.lf _=>1
 |.nd _ l r=>l.size+r.size+1
noncomputable def dp:Tr->Nat
 |.lf _=>0
 |.nd _ l r=>1+max l.dp r.dp
noncomputable def post:Tr->List Tr
 |.lf x=>[.lf x]
 |.nd x l r=>l.post++r.post++[.nd x l r]
noncomputable def pre:Tr->List Tr
 |.lf x=>[.lf x]
 |.nd x l r=>.nd x l r::(r.pre++l.pre)
noncomputable def ok(lw:Str):Tr->Prop
 |.lf x=>x[0]?=some (.str lw)/\D7 x=true
 |.nd x l r=>(∃w,x[0]?=some (.str w)/\w≠lw)/\D7 x=true/\l.ok lw/\r.ok lw
theorem ok.noL{lw:Str}:∀ {t:Tr},t.ok lw->noL t.d=true
 |.lf x,h=>by simp only[d,L2.noL];exact h.2
 |.nd x l r,h=>by
  obtain⟨_,h1,h2,h3⟩:=h;simp only[d,L2.noL,pe,Bool.and_eq_true];exact⟨h1,by simp[D7,ok.noL h2,ok.noL h3]⟩
theorem ok.post{lw:Str}:∀ {t:Tr},t.ok lw->∀u∈t.post,u.ok lw
 |.lf x,h,u,hu=>by simp only[Tr.post,List.mem_singleton] at hu;subst hu;exact h
 |.nd x l r,h,u,hu=>by
  simp only[Tr.post,List.mem_append,List.mem_singleton] at hu;rcases hu with(hu|hu)|hu
  ·exact ok.post h.2.2.1 u hu
  ·exact ok.post h.2.2.2 u hu
  ·subst hu;exact h
theorem ok.D7{lw:Str}{ts:List Tr}(h:∀t∈ts,t.ok lw):D7 (ts.map d)=true:=ia fun e he=>by
 obtain⟨t,ht,rfl⟩:=List.mem_map.mp he;exact(h t ht).noL
end Tr
section
variable{X:Cx}
theorem gF{prog:Program}{w:World}{A:Around}{E:Value->Shared->Prop}{s:Shared}{t sl:Addr}{items:Array Value}{vl vu:Value}{lo hi:Option Int}{Q:Value->Shared->Prop}(ht:IsTup s.heap t items)(hs:s.heap.IsSliceOf sl vl vu .none)(pl:IsPart vl lo)(pu:IsPart vu hi)(hw:HT.sIx items.size 0 lo=0/\HT.sIx items.size items.size hi=items.size)(h:Q (.ref t) s):wpAny (model prog w) A (getItem (.ref t) (.ref sl)) Q E s:=by
 obtain⟨os,hos,hcs,hds⟩:=id hs;have hTs:s.TypeIs (.ref sl) "slice":=⟨os,hos,hcs⟩;unfold getItem
 try with_reducible refine wpAny_holding ?_
 first|refine wpAny_bind (wpAny_pure ?_)|skip
 refine wpAny_bind (wpAny_sequenceKey ht.typeIs (by decide) ?_)
 refine wpAny_bind (wpAny_callSpecial?_slot (name:=Str.ofString "__getitem__") ht.typeIs PyProof.Rows.slot_tuple_getitem
  (wpAny_call_entry PyProof.Rows.slot_tuple_getitem ht.typeIs PyProof.Rows.entry_tuple_getitem ?_ (PyProof.Rows.args_tuple_getitem _ _)))
 show wpAny _ _ (Builtin.Tuple.tupleItemsOf (.ref t) >>= _) _ _ s;refine wpAny_bind (tupleItemsOf_ ht ?_);refine wpAny_bind (wpAny_typeOf hTs ?_);rw[if_pos (by decide)]
 refine wpAny_bind (HT.sliceApplied_gen hs pl pu ?_)
 have hyes:(((HT.sIx items.size 0 lo:Nat):Int) == 0 && (1:Int) == 1 && (HT.sIx items.size items.size hi-HT.sIx items.size 0 lo) == items.size)=true:=by
  rw[hw.1,hw.2];simp
 show wpAny _ _ (if (((HT.sIx items.size 0 lo:Nat):Int) == 0 && (1:Int) == 1 && (HT.sIx items.size items.size hi-HT.sIx items.size 0 lo) == items.size)=true then _ else _) _ _ s
 rw[if_pos hyes];unfold Builtin.Tuple.tupleIsExact;refine wpAny_bind (wpAny_bind (wpAny_typeOf ht.typeIs (wpAny_pure ?_)));rw[if_pos (by decide)]
 exact wpAny_bind (wpAny_rule (wpAny_pure ⟨_,rfl,wpAny_pure h⟩))
noncomputable def yZ(K:W.Frag):V->Option Int->Option Int->Hp->VK->Prop:=fun x lo hi H Q=>∃a xs,x=.ref a/\SqT K H a xs /\
 if HT.sIx xs.length 0 lo=0/\HT.sIx xs.length xs.length hi=xs.length then Q (.ref a) H else ∀p,H p=none->Q (.ref p) (upd H p (.tup (mQ xs lo hi)))
theorem yF:SlR X (yZ X.K):=by
 intro pins s σ H x v vl vu lo hi sl Q I rx hs pl pu h;obtain⟨a,xs,rfl,hx,h⟩:=h;by_cases hw:HT.sIx xs.length 0 lo=0/\HT.sIx xs.length xs.length hi=xs.length
 ·rw[if_pos hw] at h
  cases rx;obtain⟨its,r,ht,hz⟩:=I.tuple hx;have hlen:its.toArray.size=xs.length:=by rw[List.size_toArray];exact r.length.symm
  exact⟨"tuple",_,PyProof.Rows.slot_tuple_getitem.lookup,ht.typeIs,gF ht hs pl pu (by rw[hlen];exact hw) ⟨.ref a,H,I,rfl,h⟩⟩
 ·rw[if_neg hw] at h
  exact At pins s σ H (.ref a) v vl vu lo hi sl Q I rx hs pl pu ⟨a,xs,rfl,hx,hw,h⟩
end
noncomputable def wdD(w:List Int):D:=.tup (w.map D.int)
noncomputable def csD(pl:Nat)(ys ns:List (List Int)):D:=.tup [.int pl,.tup (ys.map wdD),.tup (ns.map wdD)]
theorem BI(w:List Int):noL (wdD w)=true:=by simp only[wdD,noL];exact tQ w
theorem pj(ws:List (List Int)):D7 (ws.map wdD)=true:=ia fun d hd=>by
 obtain⟨w,_,rfl⟩:=List.mem_map.mp hd;exact BI w
structure SN(n:Nat)(H:Hp)(S:Addr)(ad:Nat->Addr)(fs:Nat->List D):Prop where
 s:H S=some (.lst ((List.range n).map fun i=>.ref (ad i)))
 l:∀i,i<n->LD H (ad i) (fs i)
open Classical in
noncomputable def eqF(H:Hp)(dx:D)(u:Value):Bool:=if h:∃d,∃x,aP x u/\Dat H d x then eqD (Classical.choose h) dx else false
theorem vm{H:Hp}{dx d:D}{x:V}{u:Value}(r:aP x u)(h:Dat H d x):eqF H dx u=eqD d dx:=by
 have hex:∃d,∃x,aP x u/\Dat H d x:=⟨d,x,r,h⟩;unfold eqF;rw[dif_pos hex];obtain⟨x',r',h'⟩:=Classical.choose_spec hex;have:x'=x:=r'.inj r;subst this;rw[Dat.inj h' h]
theorem m5{H:Hp}{dx:D}:∀ {ds:List D} {xs:List V} {its:List Value},aw H ds xs->aB xs its->its.any (eqF H dx)=ds.any fun d=>eqD d dx
 | [],xs,its,h,r=>by
  simp only[aw] at h;subst h;cases r;rfl
 |d::ds,xs,its,h,r=>by
  simp only[aw] at h;obtain⟨x,xr,rfl,h1,h2⟩:=h
  cases r with
  |cons r1 r2=>rw[List.any_cons,List.any_cons,vm r1 h1,m5 h2 r2]
theorem pK{H:Hp}:∀ {ds:List D} {xs:List V} {its:List Value},aw H ds xs->aB xs its->∀u∈its,∃d x,d∈ds/\aP x u/\Dat H d x
 | [],xs,its,h,r,u,hu=>by simp only[aw] at h;subst h;cases r;cases hu
 |d::ds,xs,its,h,r,u,hu=>by
  simp only[aw] at h;obtain⟨x,xr,rfl,h1,h2⟩:=h
  cases r with
  |cons r1 r2=>
   rcases List.mem_cons.mp hu with rfl|hu
   ·exact⟨d,x,List.mem_cons_self ..,r1,h1⟩
   ·obtain⟨d',x',m,q⟩:=pK h2 r2 u hu
    exact⟨d',x',List.mem_cons_of_mem _ m,q⟩
theorem sX:∀ {ds:List D} {d:D},d∈ds->dep d<=dw ds
 |e::ds,d,h=>by
  simp only[dw];rcases List.mem_cons.mp h with rfl|h
  ·omega
  ·have:=sX h;omega
noncomputable def inD(dx:D)(ds:List D):Bool:=ds.any fun d=>eqD d dx
noncomputable def C6(neg:Bool):R2:=fun x y H Q=>∃dx ds,Dat H dx x/\(Dat H (.lst ds) y\/Dat H (.tup ds) y)/\dw ds<=90/\Q (.bl (if neg then !inD dx ds else inD dx ds)) H
section
variable{X:Cx}
theorem Ap(hu:X.A.units+100<cLine):OpR X (compareOp .In) (C6 false):=by
 intro pins s σ H x y v u Q I rx ry h;obtain⟨dx,ds,hx,hy,hdp,q⟩:=h
 have he:∀ {xs:List V} {its:List Value},aw H ds xs->aB xs its->∀w,w∈its.toArray->SeqAt.EqAt X.A.in1 s w v (eqF H dx w):=fun hd r w hw=>by
  obtain⟨d,z,hm,rz,hz⟩:=pK hd r w (by simpa using hw)
  rw[vm rz hz];exact(mY I 90 d dx z x w v X.A.in1 (Nat.le_trans (sX hm) hdp) (by show X.A.units+1+90<cLine;omega) hz hx rz rx).2.1
 rcases hy with hy|hy
 ·simp only[Dat] at hy
  obtain⟨a,xs,rfl,ha,hd⟩:=hy;cases ry;obtain⟨its,r,pl,_⟩:=I.list (SqL.of ha);refine SeqAt.in_listAt (eqF H dx) pl.isList (he hd r) ⟨.bl _,H,I,rfl,?_⟩;rw[show its.toArray.any (eqF H dx)=its.any (eqF H dx) by simp,m5 hd r]
  exact q
 ·simp only[Dat] at hy
  obtain⟨a,xs,rfl,ha,hd⟩:=hy;cases ry;obtain⟨its,r,pl,_⟩:=I.tuple (SqT.of ha);refine SeqAt.in_tupleAt (eqF H dx) pl (he hd r) ⟨.bl _,H,I,rfl,?_⟩;rw[show its.toArray.any (eqF H dx)=its.any (eqF H dx) by simp,m5 hd r]
  exact q
end
end L2
namespace L2
open PySem PySem.Spec PyProof.Rows
mutual
noncomputable def pyD:D->PyData
 |.non=>.none
 |.bl b=>.bool b
 |.int i=>.int i
 |.str x=>.str x
 |.tup ds=>.tuple (eK ds)
 |.lst ds=>.list (eK ds)
 |.dk ks=>.dict (ks.map fun k=>(.int k,.int 1))
 |.dt ks=>.dict (ks.map fun k=>(.tuple (k.map .int),.int 1))
noncomputable def eK:List D->List PyData
 | []=>[]
 |d::ds=>pyD d::eK ds
end
noncomputable def jm(d:D):Str:=(pyD d).shown
theorem o9{P:Program}{w:World}{h:Heap}:∀ {ks:List Int} {vs:List (Key×Value)} {es:List DictEntry},KV (dkO ks) vs->Pairs (bE P w) es vs ->
  ReadsAll h (es.map (·.key)) (ks.map PyData.int) []/\ReadsAll h (es.map (·.val)) (ks.map fun _=>PyData.int 1) []
 | [],vs,es,r,p=>by
  cases r;cases p;exact⟨.nil,.nil⟩
 |k::ks,vs,es,r,p=>by
  cases r with
  |cons r1 r2=>
   cases p with
   |cons hk hv p2=>
    obtain⟨e1,e2⟩:=r1;obtain⟨q1,q2⟩:=o9 r2 p2;dsimp only at e1 e2;rw[←e1] at hk
    rcases bu (k:=Sum.inl k) hk with⟨i,t,e3,e4⟩|⟨x,t,e3,e4⟩
    ·cases e3
     obtain⟨u,e2⟩:=e2;refine⟨?_,?_⟩
     ·show ReadsAll h (_::_) (_::_) ([]++[])
      refine .cons ?_ q1;dsimp only;rw[e4];exact .int k t
     ·show ReadsAll h (_::_) (_::_) ([]++[])
      refine .cons ?_ q2;dsimp only;rw[hv,e2];exact .int 1 u
    ·cases e3
theorem kC{h:Heap}:∀ {k:List Int} {its:List Value},aB ((k.map Sum.inl).map kV) its->ReadsAll h its (k.map PyData.int) []
 | [],its,r=>by cases r;exact .nil
 |i::k,its,r=>by
  cases r with
  |cons r1 r2=>
   obtain⟨u,rfl⟩:=r1;exact ReadsAll.cons (as:=[]) (bs:=[]) (.int i u) (kC r2)
section
variable{X:Cx}{pins:List (Addr×Obj)}{σ:St}{H:Hp}{s:Shared}
theorem oR(I:Inv X pins σ H s):∀ {ks:List (List Int)} {xs:List (List Key×Addr×Value)},Paired (fun(p:List Key×V) (q:List Key×Addr×Value)=>p.1=q.1/\H q.2.1=some (.tup (p.1.map kV))/\aP p.2 q.2.2) (dtO ks) xs ->
  ReadsAll s.heap ((xs.map (entryOfKey (tupleKind (bE X.prog X.w)))).map (·.key)) (ks.map fun k=>PyData.tuple (k.map .int)) []/\ReadsAll s.heap ((xs.map (entryOfKey (tupleKind (bE X.prog X.w)))).map (·.val)) (ks.map fun _=>PyData.int 1) []
 | [],xs,r=>by cases r;exact⟨.nil,.nil⟩
 |k::ks,xs,r=>by
  cases r with
  |cons r1 r2=>
   obtain⟨e1,e2,e3⟩:=r1;obtain⟨q1,q2⟩:=oR I r2;obtain⟨its,rv,⟨o,h1,h2,n,h3⟩,_⟩:=I.tuple (SqT.of (K:=X.K) e2);obtain⟨u,e3⟩:=e3;refine⟨?_,?_⟩
   ·show ReadsAll s.heap (_::_) (_::_) ([]++[])
    refine .cons ?_ q1;show Reads s.heap (.ref _) (.tuple _) [];exact .tuple h1 h2 h3 (by simpa using kC rv)
   ·show ReadsAll s.heap (_::_) (_::_) ([]++[])
    refine .cons ?_ q2;dsimp only[entryOfKey];rw[e3];exact .int 1 u
mutual
theorem kI(I:Inv X pins σ H s):∀ {d:D} {v:V} {u:Value},Dat H d v->aP v u->∃as,Reads s.heap u (pyD d) as/\∀b∈as,∃o,H b=some o
 |.non,v,u,h,r=>by
  simp only[Dat] at h;subst h;cases r;exact⟨_,.none,by simp⟩
 |.bl b,v,u,h,r=>by
  simp only[Dat] at h;subst h;cases r;exact⟨_,.bool b,by simp⟩
 |.int i,v,u,h,r=>by
  simp only[Dat] at h;subst h;obtain⟨t,rfl⟩:=r;exact⟨_,.int i t,by simp⟩
 |.str x,v,u,h,r=>by
  simp only[Dat] at h;subst h;obtain⟨t,rfl⟩:=r;exact⟨_,.str x t,by simp⟩
 |.tup ds,v,u,h,r=>by
  simp only[Dat] at h;obtain⟨a,xs,rfl,ha,hd⟩:=h;cases r;obtain⟨its,rv,⟨o,h1,h2,n,h3⟩,_⟩:=I.tuple (SqT.of ha);obtain⟨as,hr,hm⟩:=gb I hd rv;exact⟨_,.tuple h1 h2 h3 (by simpa using hr),hm⟩
 |.lst ds,v,u,h,r=>by
  simp only[Dat] at h;obtain⟨a,xs,rfl,ha,hd⟩:=h;cases r;obtain⟨its,rv,⟨o,n,h1,h2,h3,h4⟩,_⟩:=I.list (SqL.of ha);obtain⟨as,hr,hm⟩:=gb I hd rv;refine⟨_,.list h1 h2 h4 (by simpa using hr),fun b hb=>?_⟩
  rcases List.mem_cons.mp hb with rfl|hb
  ·exact⟨_,ha⟩
  ·exact hm b hb
 |.dk ks,v,u,h,r=>by
  simp only[Dat] at h;obtain⟨a,xs,rfl,ha,rfl⟩:=h;cases r;obtain⟨_,_,vs,kv,o,es,ep,e1,⟨c1,_,_⟩,e2,_,p,_⟩:=I.hok _ _ ha;obtain⟨q1,q2⟩:=o9 (h:=s.heap) kv p;refine⟨_,.dict (kvs:=xs.map fun k=>(PyData.int k,PyData.int 1)) e1 c1 e2 (by simpa[List.map_map,Function.comp_def] using q1) (by simpa[List.map_map,Function.comp_def] using q2),fun b hb=>?_⟩
  simp only[List.append_nil,List.mem_singleton] at hb;subst hb;exact⟨_,ha⟩
 |.dt ks,v,u,h,r=>by
  simp only[Dat] at h;obtain⟨a,xs,rfl,ha,rfl⟩:=h;cases r;obtain⟨_,_,ys,pr,o,es,ep,e1,⟨c1,_,_⟩,e2,e3,_⟩:=I.hok _ _ ha;obtain⟨q1,q2⟩:=oR I pr;rw[←e3] at q1 q2
  refine⟨_,.dict (kvs:=xs.map fun k:List Int=>(PyData.tuple (k.map PyData.int),PyData.int 1)) e1 c1 e2 (by simpa[List.map_map,Function.comp_def] using q1) (by simpa[List.map_map,Function.comp_def] using q2),fun b hb=>?_⟩
  simp only[List.append_nil,List.mem_singleton] at hb;subst hb;exact⟨_,ha⟩
theorem gb(I:Inv X pins σ H s):∀ {ds:List D} {xs:List V} {us:List Value},aw H ds xs->aB xs us->∃as,ReadsAll s.heap us (eK ds) as/\∀b∈as,∃o,H b=some o
 | [],xs,us,h,r=>by
  simp only[aw] at h;subst h;cases r;exact⟨_,.nil,by simp⟩
 |d::ds,xs,us,h,r=>by
  simp only[aw] at h;obtain⟨x,xr,rfl,h1,h2⟩:=h
  cases r with
  |cons r1 r2=>
   obtain⟨as,a1,m1⟩:=kI I h1 r1;obtain⟨bs,b1,m2⟩:=gb I h2 r2;exact⟨_,.cons a1 b1,fun b hb=>(List.mem_append.mp hb).elim (m1 b) (m2 b)⟩
end
end
mutual
noncomputable def wt:D->Nat
 |.non=>4
 |.bl _=>5
 |.int i=>i.natAbs.log2+3
 |.str x=>(reprText x).length
 |.tup ds=>wts ds+3
 |.lst ds=>wts ds+2
 |.dk ks=>(ks.map fun k=>k.natAbs.log2+10).sum+2
 |.dt ks=>(ks.map fun k=>(k.map fun i=>i.natAbs.log2+5).sum+10).sum+2
noncomputable def wts:List D->Nat
 | []=>0
 |d::ds=>wt d+2+wts ds
end
mutual
noncomputable def fit:D->Bool
 |.int i=>decide (i.natAbs.log2<1920)
 |.tup ds=>nA ds
 |.lst ds=>nA ds
 |.dk ks=>ks.all fun i=>decide (i.natAbs.log2<1920)
 |.dt ks=>ks.all fun k=>k.all fun i=>decide (i.natAbs.log2<1920)
 |_=>true
noncomputable def nA:List D->Bool
 | []=>true
 |d::ds=>fit d && nA ds
end
theorem k9:∀ {k:List Int},(k.all fun i=>decide (i.natAbs.log2<1920))=true->PyData.showableAll (k.map .int)=true
 | [],_=>rfl
 |i::k,h=>by
  simp only[List.all_cons,Bool.and_eq_true] at h;simp only[List.map_cons,PyData.showableAll,PyData.showable,Bool.and_eq_true];exact⟨h.1,k9 h.2⟩
theorem sM:∀ {ks:List Int},(ks.all fun i=>decide (i.natAbs.log2<1920))=true->PyData.showableKv (ks.map fun k=>(PyData.int k,PyData.int 1))=true
 | [],_=>rfl
 |i::k,h=>by
  simp only[List.all_cons,Bool.and_eq_true] at h;simp only[List.map_cons,PyData.showableKv,PyData.showable,Bool.and_eq_true];exact⟨⟨h.1,by decide⟩,sM h.2⟩
theorem rD:∀ {ks:List (List Int)},(ks.all fun k=>k.all fun i=>decide (i.natAbs.log2<1920))=true->PyData.showableKv (ks.map fun k=>(PyData.tuple (k.map .int),PyData.int 1))=true
 | [],_=>rfl
 |i::k,h=>by
  simp only[List.all_cons,Bool.and_eq_true] at h;simp only[List.map_cons,PyData.showableKv,PyData.showable,Bool.and_eq_true];exact⟨⟨k9 h.1,by decide⟩,rD h.2⟩
mutual
theorem j5:∀ {d:D},fit d=true->(pyD d).showable=true
 |.non,h=>rfl
 |.bl b,h=>rfl
 |.int i,h=>h
 |.str x,h=>rfl
 |.tup ds,h=>i4 (ds:=ds) (by simpa only[fit] using h)
 |.lst ds,h=>i4 (ds:=ds) (by simpa only[fit] using h)
 |.dk ks,h=>sM (ks:=ks) (by simpa only[fit] using h)
 |.dt ks,h=>rD (ks:=ks) (by simpa only[fit] using h)
theorem i4:∀ {ds:List D},nA ds=true->PyData.showableAll (eK ds)=true
 | [],h=>rfl
 |d::ds,h=>by
  simp only[nA,Bool.and_eq_true] at h;simp only[eK,PyData.showableAll,Bool.and_eq_true];exact⟨j5 h.1,i4 h.2⟩
end
mutual
theorem rm:∀(d:D),dep d<=1000->(pyD d).hasDict=false/\(pyD d).depth=dep d
 |.non,_=>by simp[pyD,PyData.depth,PyData.hasDict,dep]
 |.bl b,_=>by simp[pyD,PyData.depth,PyData.hasDict,dep]
 |.int i,_=>by simp[pyD,PyData.depth,PyData.hasDict,dep]
 |.str x,_=>by simp[pyD,PyData.depth,PyData.hasDict,dep]
 |.tup ds,h=>by
  simp only[dep] at h;obtain⟨a,b⟩:=kz ds (by omega)
  simp only[pyD,PyData.depth,PyData.hasDict,dep,a,b,true_and]
 |.lst ds,h=>by
  simp only[dep] at h;obtain⟨a,b⟩:=kz ds (by omega)
  simp only[pyD,PyData.depth,PyData.hasDict,dep,a,b,true_and]
 |.dk ks,h=>by simp[dep] at h
 |.dt ks,h=>by simp[dep] at h
theorem kz:∀(ds:List D),dw ds<=1000->PyData.hasDictAll (eK ds)=false/\PyData.depthAll (eK ds)=dw ds
 | [],_=>by simp[eK,PyData.depthAll,PyData.hasDictAll,dw]
 |d::ds,h=>by
  simp only[dw] at h;obtain⟨a,b⟩:=rm d (by omega)
  obtain⟨a',b'⟩:=kz ds (by omega)
  simp only[eK,PyData.hasDictAll,PyData.depthAll,dw,a,a',b,b',Bool.or_self,true_and]
end
theorem je:∀(ts:List Str)(k:Nat)(acc:Str),(textFrom k acc ts).length<=acc.length+(ts.map fun t=>t.length+2).sum
 | [],k,acc=>by simp[textFrom]
 |t::ts,k,acc=>by
  have ih:=je ts (k+1) (acc++(if k>0 then ", " else "":String)++t)
  have e:(acc++(if k>0 then ", " else "":String)++t).length<=acc.length+2+t.length:=by
   rw[strLen_append,strLen_append];have:(((if k>0 then ", " else "":String):Str)).length<=2:=by split<;>decide
   omega
  simp only[textFrom,List.map_cons,List.sum_cons];omega
theorem hZ:∀ts:List Str,(Str.join ", " ts).length<=(ts.map fun t=>t.length+2).sum
 | []=>by simp[Str.join];decide
 | [x]=>by
  show x.length<=_;simp
 |x::y::r=>by
  have ih:=hZ (y::r);show (x ++ ", "++Str.join ", " (y::r)).length<=_;rw[strLen_append,strLen_append];have e2:((", ":String):Str).length=2:=rfl;simp only[List.map_cons,List.sum_cons] at ih ⊢;omega
theorem jF(i:Int):((toString i:String):Str).length<=i.natAbs.log2+3:=by
 have h:=int_text_length_le (a:=i) (k:=i.natAbs.log2+1) (Nat.succ_pos _) (Nat.lt_succ_self _);rw[show ((toString i:String):Str).length=(toString i).length from PySem.ofString_length _]
 omega
theorem pR:∀(k:List Int),((PyData.shownAll (k.map .int)).map fun t=>t.length+2).sum<=(k.map fun i=>i.natAbs.log2+5).sum
 | []=>by simp[PyData.shownAll]
 |i::k=>by
  have h1:=jF i;have h2:=pR k;simp only[List.map_cons,PyData.shownAll,PyData.shown,List.sum_cons];omega
theorem nE(ps:List Str):(dictText ps).length<=(ps.map fun t=>t.length+2).sum+2:=by
 unfold dictText;rw[strLen_append,strLen_append];have h1:=hZ ps;have h2:(("{":String):Str).length=1:=rfl;have h3:(("}":String):Str).length=1:=rfl;omega
theorem zH:∀(ks:List Int),((PyData.shownKv (ks.map fun k=>(PyData.int k,PyData.int 1))).map fun t=>t.length+2).sum<=(ks.map fun k=>k.natAbs.log2+10).sum
 | []=>by simp[PyData.shownKv]
 |i::k=>by
  have h1:=jF i;have h2:=zH k;have h3:=jF 1;have h4:((1:Int).natAbs).log2=0:=by decide
  have h5:((": ":String):Str).length=2:=rfl;simp only[List.map_cons,PyData.shownKv,PyData.shown,List.sum_cons,strLen_append];have h6:((toString (1:Int):String):Str).length=1:=rfl;omega
theorem zM:∀(ks:List (List Int)),((PyData.shownKv (ks.map fun k=>(PyData.tuple (k.map .int),PyData.int 1))).map fun t=>t.length+2).sum<=(ks.map fun k=>(k.map fun i=>i.natAbs.log2+5).sum+10).sum
 | []=>by simp[PyData.shownKv]
 |i::k=>by
  have h1:=pR i;have h2:=zM k;have h5:((": ":String):Str).length=2:=rfl
  have h7:(tupleText (PyData.shownAll (i.map .int))).length<=(i.map fun i=>i.natAbs.log2+5).sum+3:=by
   unfold tupleText;rw[strLen_append,strLen_append];have h1:=hZ (PyData.shownAll (i.map .int));have h2:(("(":String):Str).length=1:=rfl;have h3:(((if (PyData.shownAll (i.map .int)).length == 1 then ",)" else ")":String)):Str).length<=2:=by split<;>decide
   omega
  simp only[List.map_cons,PyData.shownKv,PyData.shown,List.sum_cons,strLen_append];have h6:((toString (1:Int):String):Str).length=1:=rfl;omega
mutual
theorem uS:∀(d:D),(pyD d).shown.length<=wt d
 |.non=>by show (("None":String):Str).length<=4;decide
 |.bl b=>by cases b<;>(show (_:Str).length<=5)<;>decide
 |.int i=>jF i
 |.str x=>Nat.le_refl _
 |.tup ds=>by
  have h:=qp ds;show (tupleText (PyData.shownAll (eK ds))).length<=wts ds+3;unfold tupleText;rw[strLen_append,strLen_append];have h1:=hZ (PyData.shownAll (eK ds));have h2:(("(":String):Str).length=1:=rfl;have h3:(((if (PyData.shownAll (eK ds)).length == 1 then ",)" else ")":String)):Str).length<=2:=by split<;>decide
  omega
 |.lst ds=>by
  have h:=qp ds;show (listText (PyData.shownAll (eK ds))).length<=wts ds+2;unfold listText;rw[strLen_append];have h1:=je (PyData.shownAll (eK ds)) 0 "[";have h2:(("[":String):Str).length=1:=rfl;have h3:(("]":String):Str).length=1:=rfl;omega
 |.dk ks=>Nat.le_trans (nE _) (Nat.add_le_add_right (zH ks) 2)
 |.dt ks=>Nat.le_trans (nE _) (Nat.add_le_add_right (zM ks) 2)
theorem qp:∀(ds:List D),((PyData.shownAll (eK ds)).map fun t=>t.length+2).sum<=wts ds
 | []=>by simp[eK,PyData.shownAll,wts]
 |d::ds=>by
  have h1:=uS d;have h2:=qp ds;simp only[eK,PyData.shownAll,List.map_cons,List.sum_cons,wts];omega
end
section
variable{X:Cx}
theorem j7(hg:X.A.guards=some [])(hu:X.A.units+100<cLine):bQ X (.builtin "repr") (fun xs H Q=>∃(a:Addr)(d:D),xs=[.ref a]/\Dat H d (.ref a)/\dep d<=90/\fit d=true/\wt d<=1000000/\Q (.str (jm d)) H):=by
 intro pins s σ H xs us Q I r h;obtain⟨a,d,rfl,hd,hdp,hf,hw,q⟩:=h;obtain⟨u,rfl,rx⟩:=fM r;have ru:=rx;cases rx;obtain⟨as,hr,_⟩:=kI I hd ru;obtain⟨nd,dp⟩:=rm d (by omega)
 refine repr_of_reads' hr (j5 hf) (fun z=>by rw[nd] at z;cases z) hg (by rw[dp];omega) (fun _ _ e=>e) (fun h' t tk hk=>?_) (Nat.le_trans (uS d) (Nat.le_trans hw (by decide)))
 exact⟨.str (jm d),H,I.kept (t':=tk) hk,⟨t,rfl⟩,q⟩
theorem fq(hg:X.A.guards=some [])(hu:X.A.units+100<cLine)(hs:(X.K.lookup sysModules).isSome=true):bQ X (.builtin "repr") (fun xs H Q=>∃(a:Addr)(d:D),xs=[.ref a]/\Dat H d (.ref a)/\(pyD d).depth<=90/\fit d=true/\wt d<=1000000/\Q (.str (jm d)) H):=by
 intro pins s σ H xs us Q I r h;obtain⟨a,d,rfl,hd,hdp,hf,hw,q⟩:=h;obtain⟨u,rfl,rx⟩:=fM r;have ru:=rx;cases rx;obtain⟨as,hr,hm⟩:=kI I hd ru
 have hn:sysModules ∉ as:=fun z=>by
  obtain⟨o,e⟩:=hm _ z;obtain⟨ob,e2⟩:=Option.isSome_iff_exists.mp hs;have h1:=I.ok.mod.kin _ _ e2;have h2:=I.base.free _ _ (I.ok.bs _ _ h1).1 (I.ok.bs _ _ h1).2 (I.ok.noex _ _ h1);rw[e] at h2;cases h2
 refine repr_of_reads' hr (j5 hf) (fun _=>hn) hg (by omega) (fun _ _ e=>e) (fun h' t tk hk=>?_) (Nat.le_trans (uS d) (Nat.le_trans hw (by decide)))
 exact⟨.str (jm d),H,I.kept (t':=tk) hk,⟨t,rfl⟩,q⟩
end
section
variable{prog:Program}{w:World}{A:Around}{E:Value->Shared->Prop}
theorem B8{it a:Addr}{vs:Array Value}(ha:a≠it)(n:Nat):∀(i:Nat)(s:Shared)(Q:List Value->Shared->Prop),s.heap.IsListIter it a i->s.heap.IsList a vs->i+n<=vs.size ->
  (∀h',h'.IsListIter it a (i+n)->Heap.SameBut it s.heap h'->Q ((vs.toList.drop i).take n) { s with heap:=h' })->wpAny (model prog w) A (draw (.ref it) n) Q E s:=by
 induction n with
 |zero=>
  intro i s Q st ls le q;refine wpAny_pure ?_;have:=q s.heap st (Heap.SameBut.refl ..);simpa using this
 |succ n ih=>
  intro i s Q st ls le q;have lt:i<vs.size:=by omega
  refine wpAny_bind (m:=pyNext (.ref it)) (wpAny_pyNext_list_item st ls (x:=vs[i]) (by simp[lt]) fun h1 st1 sb1=>?_)
  refine wpAny_bind (wpAny_holding (ih (i+1) _ _ st1 (ls.extBut sb1.extBut ha) (by omega) fun h2 st2 sb2=>wpAny_pure ?_))
  have e1:vs.toList.drop i=vs[i]::vs.toList.drop (i+1):=by simp[List.drop_eq_getElem_cons,lt]
  have q2:=q h2 (by rw[←Nat.add_assoc,Nat.add_right_comm];exact st2) (sb1.trans sb2)
  rwa [e1,List.take_succ_cons] at q2
theorem xZ{a:Addr}{vs:Array Value}{s:Shared}{Q:List Value->Shared->Prop}(hh:A.handled=none)(ls:s.heap.IsList a vs)(q:∀h',Heap.ExtBut s.heap.objs.size s.heap h'->Q vs.toList { s with heap:=h' }):wpAny (model prog w) A (unpackItems (.ref a) vs.size none) Q E s:=by
 have ne:a≠s.heap.objs.size:=by
  obtain⟨o,ho,_⟩:=ls;exact Nat.ne_of_lt (Heap.lt_size ho)
 unfold unpackItems notIterableAtAll;refine wpAny_bind (wpAny_bind (wpAny_specialOf ls.typeIs PySem.F.slot_list_iter.lookup (wpAny_pure ?_)));simp only[Option.isNone_some,Bool.false_eq_true,if_false];refine wpAny_bind (wpAny_holding (wpAny_pyIter_list ls (wpAny_bind (wpAny_holding (B8 ne vs.size 0 _ _ ⟨_,Heap.get?_push_size _ rfl,rfl,rfl⟩ (ls.push _) (by omega) fun h1 st1 sb1=>?_)))))
 have eall:List.take vs.size (List.drop 0 vs.toList)=vs.toList:=by rw[List.drop_zero,List.take_of_length_le (by simp)]
 rw[eall,if_neg (by simp)]
 refine wpAny_bind (wpAny_holding (wpAny_pyNext_list_end hh st1 ((ls.push _).extBut sb1.extBut ne) (by simp) fun h2 eb=>?_))
 simp only[Option.isSome_none,Bool.false_eq_true,if_false];exact wpAny_pure (q h2 fun b o hb e=>eb b o hb (sb1.extBut b o hb (Heap.get?_push_of_some _ e)))
end
section
variable{X:Cx}{pos:Pos}
noncomputable def Cu(K:W.Frag)(n:Nat)(t:TGs):TG:=fun v σ H Q=>∃a xs,v=.ref a/\SqL K H a xs/\xs.length=n/\t xs σ H Q
theorem A4{es:List Expr}{k:Nat}{t:TGs}{n:Nat}(hc:X.calm=true)(h:PGs X es t)(hn:(assignEach es X.env).length=n:=by rfl)(hst:(assignEach es X.env).findIdx? (·.1)=none:=by rfl):PG X (.Tuple es k pos) (Cu X.K n t):=by
 intro pins s σ H v u Q I r hw;obtain⟨a,xs,e1,hq,hl,hw⟩:=hw;subst e1;cases r;obtain⟨its,rv,ht,hz⟩:=I.list hq;have hlen:(assignEach es X.env).length=its.toArray.size:=by simp[hn,←hl,rv.length]
 rw[assign_Tuple];refine wpAny_bind (wpAny_standAt ?_);unfold unpack;rw[hlen,hst];refine wpAny_bind (wpAny_holding (xZ (I.ok.hd hc) ht.isList fun h' hx=>?_));have I1:Inv X pins σ H { s with heap:=h' }:=I.kept (t':=s.toks) fun b o e=>hx b o (Nat.ne_of_lt (Heap.lt_size e)) e;exact h pins _ σ H xs _ Q I1 (by simpa using rv) hw
end
section
variable{X:Cx}
theorem bX{es fs x1 pos te t}(ha:PE X (.Tuple fs x1 pos) te)(hr:PA X es t):PA X (.Tuple fs x1 pos::es) (ic te t):=ac ha hr (by rfl)
theorem dU{es fs pos te t}(ha:PE X (.List fs pos) te)(hr:PA X es t):PA X (.List fs pos::es) (ic te t):=ac ha hr (by rfl)
theorem aj{es c j pos te t}(ha:PE X (.Constant c j pos) te)(hr:PA X es t):PA X (.Constant c j pos::es) (ic te t):=ac ha hr (by rfl)
end
end L2
namespace L2
open PySem PySem.Spec PySem.Calls PyProof.Rows
noncomputable def Frz(H H':Hp):Prop:=∀b o u,H b=some (.frz o u)->H' b=some (.frz o u)
noncomputable def DP(K:W.Frag)(c P:Addr):Bool:=match K.lookup c with
 | some o=>(o.cls == .type "code") && c != P && (match o.data with
  | .fields vs=>(vs[11]? == some (.ref P)) && (match vs.getD 18 .none,vs.getD 7 .none,vs.getD 9 .none,vs.getD 10 .none with
   |.str _ _,.int _ _,.bool _,.int _ _=>true
   |_,_,_,_=>false)
  |_=>false)
 |none=>false
structure Clo(P:Program)(w:World)(K:W.Frag)(mg:Str->Option Value)(base:Heap)(H₀:Hp)(k:Nat)(f:Addr)(n:Nat)(sp:Sp):Prop where
 fn:(∃(oc:Value)(od:Option Addr)(fd:FuncData) (sl:Array (Option Value)) (u:HO),H₀ f=some (.frz ⟨oc,od,.func fd,sl⟩ u))\/∃(oc:Value)(od:Option Addr)(fd:FuncData) (sl:Array (Option Value)),K.lookup f=some ⟨oc,od,.func fd,sl⟩
 len:∀vs H Q E,sp vs H Q E->vs.length=n
 run:∀(A:Around)(outer:List Env)(s:Shared)(H:Hp)(us:List Value)(vs:List V)(Q:VK)(E:XK),dn k A->tL P w K mg base A outer s H->Frz H₀ H->aB vs us->sp vs H Q E ->
  codeAny (model P w) A (.call (.ref f) ⟨us,[]⟩) (CR CX0 outer P w H s Q E) s
structure Dv(ps cs:List Str)(sc:Scope):Prop where
 kind:sc.kind=.function
 co:sc.isCoroutine=false
 gen:sc.isGenerator=false
 nd:(ps++cs).Nodup
 par:∀x∈ps,sc.names.lookup x=some .local
 free:∀x∈cs,sc.names.lookup x=some .free
 has:∀y∈sc.names,y.2≠.cell/\(y.2=.free->y.1∈cs)
structure DZ(K:W.Frag)(x qual:Str)(st:Stmt)(f:Addr)(fd:FuncData)(c p:Addr):Prop where
 ex:∃(oc:Value)(od:Option Addr)(kV doc pm:Value)(an:Option Addr)(ct:Value) (osl:Array (Option Value)),
  fd=W.fnOf x qual (defArgs st) (defBody st) (defScope st) .none kV doc pm an (.ref c) ct/\K.lookup f=some ⟨oc,od,.func fd,osl⟩/\W.codeIn K (.ref c) qual=true
 tab:(x,c,p)∈ji K
 hd:DP K c p=true
noncomputable def ndB:List Nat->Bool
 | []=>true
 |a::r=>!(r.contains a) && ndB r
theorem qX{α:Type}(f:α->Nat):∀ {l:List α} {q:α},ndB (l.map f)=true->q∈l->l.find? (fun t=>f t == f q)=some q
 | [],_,_,m=>nomatch m
 |a::r,q,h,m=>by
  rw[List.map_cons,ndB,Bool.and_eq_true] at h;obtain⟨h1,h2⟩:=h;rcases List.mem_cons.mp m with e|m
  ·subst e
   rw[List.find?_cons_of_pos (by simp)]
  ·have ne:(f a == f q)=false:=by
    cases z:f a == f q with
    |false=>rfl
    |true=>
     have z':f a=f q:=eq_of_beq z
     have:(r.map f).contains (f a)=true:=by
      rw[z'];simpa using⟨q,m,rfl⟩
     rw[this] at h1;cases h1
   rw[List.find?_cons_of_neg (by rw[ne];simp)]
   exact qX f h2 m
noncomputable def kS(K:W.Frag)(b:Addr):Option HO:=((ji K).find? fun t=>t.2.2 == b).map fun t=>HO.tbl #[.str (t.1 ++ ".<locals>." ++ "<lambda>") 0]
theorem kh{K:W.Frag}{b:Addr}{o:HO}(e:kS K b=some o):∃t∈ji K,t.2.2=b/\o=HO.tbl #[.str (t.1 ++ ".<locals>." ++ "<lambda>") 0]:=by
 unfold kS at e
 cases q:(ji K).find? (fun t=>t.2.2 == b) with
 |none=>rw[q] at e;cases e
 |some t=>
  rw[q] at e;cases e;have:=List.find?_some q;exact⟨t,List.mem_of_find?_eq_some q,eq_of_beq this,rfl⟩
noncomputable def ve(K:W.Frag)(names:List Str):Bool:=W.noTabs K && ndB ((ji K).map fun t=>t.2.2) && (ji K).all fun t=>names.contains t.1
theorem yJ{K:W.Frag}{t:Str×Addr×Addr}(h:t∈ji K):W.tabIn K t.1=some t.2:=by
 unfold ji at h;split at h
 ·obtain⟨e,_,q⟩:=List.mem_filterMap.mp h
  split at q
  ·rename_i x tk hx
   cases z:W.tabIn K x with
   |none=>rw[z] at q;cases q
   |some r=>rw[z] at q;cases q;exact z
  ·cases q
 ·cases h
theorem tZ{P:Program}{w:World}{K:W.Frag}{mg mb:Str->Option Value}{CX:CXT}{k:Nat}{fa a:Addr}{fd:FuncData}{x:Str}{sp:Sp}{s₁:Shared}{vs:List Value}{ns:List Int}(KX:K.In s₁.heap)(hns:s₁.heap.Ns mainGlobals mg)(hb:s₁.heap.Ns builtinsNs mb)(hbb:∀x:Str,x≠"__name__"->mb x=bootBuiltins x)(hlim:s₁.heap.NoLimit)(hg:s₁.gens=#[])(hbm:∃bm ob,mg "__builtins__"=some (.ref bm)/\bm≠builtinsNs/\s₁.heap.get? bm=some ob/\ob.cls=.type "module"/\ob.dict=some builtinsNs/\ob.data=.plain)(hT:∀t∈ji K,W.CodeHd s₁.heap t.2.1 t.2.2/\s₁.heap.get? t.2.2=some (W.tabObj #[]))(nt:W.noTabs K=true)(nd:ndB ((ji K).map fun t=>t.2.2)=true)(ha:s₁.heap.get? a=some { cls:=.type "list",data:=.seq vs.toArray })(hi:IntsAre vs ns)(hl:ns.length<=sizeLine)(hr:dn k callerA)(F:∀base:Heap,aY P w K mg base CX k fa fd [x] sp)(hbind:∀(s:Shared)(u:Value),BindsTo s fd ⟨[u],[]⟩ [(x,u)])(hsp:∀H:Hp,SqL K H a (ns.map V.int)->sp [.ref a] H (fun v _=>v=.bl true) fun _ _ _=>False)(hCX:∀H e s',CX [] H s₁ (fun _ _ _=>False) e s'->False):
  codeAny (model P w) callerA (.call (.ref fa) ⟨[.ref a],[]⟩) (fun r s'=>r=.ok (.ret (.bool true))/\OldK s₁.heap s'.heap/\s'.os=s₁.os/\AllBare s'.gens) s₁:=by
 have rv:=lM hi;have lenV:=hi.length
 have tabNot:∀b o,K.lookup b=some o->kS K b=none:=fun b o e=>by
  cases q:kS K b with
  |none=>rfl
  |some u=>
   obtain⟨t,ht,rfl,_⟩:=kh q;have e1:=(hT t ht).2;rw[KX _ _ e] at e1;cases e1;have h2:=List.all_eq_true.mp nt _ (W.mem_of_lookupK e);exact absurd (show false=true from h2) Bool.false_ne_true
 have tabA:kS K a=none:=by
  cases q:kS K a with
  |none=>rfl
  |some u=>
   obtain⟨t,ht,e,_⟩:=kh q;have e1:=(hT t ht).2;rw[e,ha] at e1;cases e1
 have core:∀H:Hp,(∀b,b≠a->H b=kS K b)->(H a=none\/(K.lookup a=none/\H a=some (.frz { cls:=.type "list",data:=.seq vs.toArray } (.lst (ns.map V.int)))))->SqL K H a (ns.map V.int) ->
   codeAny (model P w) callerA (.call (.ref fa) ⟨[.ref a],[]⟩) (fun r s'=>r=.ok (.ret (.bool true))/\OldK s₁.heap s'.heap/\s'.os=s₁.os/\AllBare s'.gens) s₁:=by
  intro H hH hA hS
  have what:∀b u,H b=some u->(b=a/\K.lookup a=none/\u=.frz { cls:=.type "list",data:=.seq vs.toArray } (.lst (ns.map V.int)))\/∃t∈ji K,t.2.2=b/\u=HO.tbl #[.str (t.1 ++ ".<locals>." ++ "<lambda>") 0]:=fun b u e=>by
   by_cases hb:b=a
   ·subst hb
    rcases hA with z|⟨z1,z2⟩
    ·rw[z] at e;cases e
    ·rw[z2] at e;cases e
     exact .inl ⟨rfl,z1,rfl⟩
   ·rw[hH b hb] at e
    exact .inr (kh e)
  have hok:HOk P w H s₁.heap:=fun b u e=>by
   rcases what b u e with⟨rfl,_,rfl⟩|⟨t,ht,rfl,rfl⟩
   ·exact⟨ha,by rw[List.length_map];exact hl,vs,_,rv,ha⟩
   ·exact⟨#[],(hT t ht).2,trivial,fun pos cv q=>by cases q⟩
  have tt:tq K H:=fun t ht=>by
   refine⟨#[.str (t.1 ++ ".<locals>." ++ "<lambda>") 0],?_,rfl⟩
   have ne:t.2.2≠a:=fun z=>by
    have e1:=(hT t ht).2;rw[z,ha] at e1;cases e1
   rw[hH _ ne];unfold kS;rw[qX (fun t:Str×Addr×Addr=>t.2.2) nd ht];rfl
  have base_of:∀ {b:Addr} {o:Obj},s₁.heap.get? b=some o->H b=none->(mn s₁.heap H).get? b=some o:=fun e n=>wx e n
  have freeB:∀ {b:Addr} {o:Obj},s₁.heap.get? b=some o->o.cls≠.none->o.cls≠.type "list"->H b=none:=fun {b o} e c1 c2=>by
   cases q:H b with
   |none=>rfl
   |some u=>
    rcases what b u q with⟨rfl,_,_⟩|⟨t,ht,rfl,_⟩
    ·rw[ha] at e;cases e;exact absurd rfl c2
    ·rw[(hT t ht).2] at e;cases e;exact absurd rfl c1
  have noD:∀ {b:Addr} {o:Obj} {es:Array DictEntry} {ep:Nat},s₁.heap.get? b=some o->o.data=.dict es ep->H b=none:=fun {b o es ep} e d=>by
   cases q:H b with
   |none=>rfl
   |some u=>
    rcases what b u q with⟨rfl,_,_⟩|⟨t,ht,rfl,_⟩
    ·rw[ha] at e;cases e;cases d
    ·rw[(hT t ht).2] at e;cases e;cases d
  have nsK:∀ {b:Addr} {m:Str->Option Value},s₁.heap.Ns b m->(mn s₁.heap H).Ns b m:=fun {b m} ⟨o,es,ep,e,d,r⟩=>⟨o,es,ep,base_of e (noD e d),d,r⟩
  have hKb : K.In (mn s₁.heap H):=fun b o e=>base_of (KX b o e) (by
   cases q:H b with
   |none=>rfl
   |some u=>
    by_cases hb:b=a
    ·subst hb
     rcases hA with z|⟨z1,_⟩
     ·rw[z] at q;cases q
     ·rw[e] at z1;cases z1
    ·rw[hH b hb,tabNot b o e] at q;cases q)
  have hM:Mod K mg (mn s₁.heap H):=⟨hKb,nsK hns,⟨mb,nsK hb,hbb⟩,let ⟨mc,h1,h2⟩:=hlim;⟨mc,nsK h1,h2⟩,
   let ⟨bm,ob,b1,b2,b3,b4,b5,b6⟩:=hbm;⟨bm,ob,b1,b2,base_of b3 (freeB b3 (by rw[b4];nofun) (by rw[b4];decide)),b4,b5,b6⟩⟩
  have e0:tL P w K mg (mn s₁.heap H) callerA [] s₁ H:=⟨rfl,hM,fun b o e=>xT e,Nat.le_of_eq (tF _ _),trivial,fun b hb=>absurd (show b∈([]:List Addr) from hb) (by simp),tt,hok,.of_eq hg⟩
  refine codeAny_mono ((F _).run callerA [] s₁ H ⟨[.ref a],[]⟩ [.ref a] [.ref a] _ _ hr e0 (hbind s₁ (.ref a)) (.cons rfl .nil) (hsp H hS)) fun r s' h=>?_
  cases r with
  |error e=>exact(hCX H e s' h).elim
  |ok fl=>
   cases fl with
   |next=>exact False.elim h
   |brk=>exact False.elim h
   |cont=>exact False.elim h
   |ret u=>
    obtain⟨v,H',os,bare,un,hok',r',q⟩:=h;have q':v=.bl true:=q;subst q';obtain rfl:u=Value.bool true:=r';refine⟨rfl,⟨fun b o e=>?_,fun b o e=>un.there b o e (by simp)⟩,os,bare⟩
    cases q:H b with
    |none=>exact .inl (un.keep b o e q (by intro z;exact absurd (show b∈([]:List Addr) from z) (by simp)) (by simp))
    |some u=>
     rcases what b u q with⟨rfl,_,rfl⟩|⟨t,ht,rfl,rfl⟩
     ·have z2:=un.frzs _ _ _ q
      obtain⟨e1,_⟩:=hok _ _ q;obtain⟨e2,_⟩:=hok' _ _ z2;rw[e] at e1;cases e1;exact .inl e2
     ·obtain⟨more,z2⟩:=un.tbls _ _ q
      obtain⟨qs,e2,_⟩:=hok' _ _ z2;have e1:=(hT t ht).2;rw[e] at e1;obtain rfl:=Option.some.inj e1;exact .inr (.inl ⟨((hT t ht).1.tab (hT t ht).2).isCodeTable,rfl,#[],qs,rfl,by rw[Array.empty_append];exact e2⟩)
 cases hk:K.lookup a with
 |some o=>
  have e:=KX a o hk;rw[ha] at e;cases e;exact core (fun b=>kS K b) (fun _ _=>rfl) (.inl tabA) (.inr ⟨_,vs.toArray,_,hk,rfl,rfl,rfl,by rw[List.size_toArray,lenV];exact hl,by simpa using rv⟩)
 |none=>
  refine core (fun b=>if b=a then some (.frz { cls:=.type "list",data:=.seq vs.toArray } (.lst (ns.map V.int))) else kS K b) (fun b hb=>if_neg hb) (.inr ⟨hk,if_pos rfl⟩) (.inl (.inr ⟨_,if_pos rfl⟩))
theorem uK{l:W.OpenLaw}{n k:Nat}{q:Program}{loose:List Str}{XP:(Str->Option Value)->Heap->Prop}{YP:World->Heap->Prop}{d:DefRec}{K:Params->W.Frag}{CX:CXT}{sp:W.Frag->Sp}{x:Str}(hn:l.most=some n)(hn2:n<=sizeLine)(hdf:d.params.defaults=[])(hr:dn k callerA)(hY:∀(w:World)(h:Heap),YP w h->(K w.params).In h)(tabs:∀w:World,ve (K w.params) ((recsOf q).map (·.name))=true)
  (F:∀(w:World)(mg:Str->Option Value)(fa:Addr)(h:Heap),(K w.params).In h->h.Ns mainGlobals mg->mg d.name=some (.ref fa) ->
   ∃fd:FuncData,(∀(s:Shared)(u:Value),BindsTo s fd ⟨[u],[]⟩ [(x,u)])/\∀base:Heap,aY l.prog w (K w.params) mg base CX k fa fd [x] (sp (K w.params)))
  (hsp:∀(K:W.Frag)(H:Hp)(a:Addr)(ns:List Int),ns.length<=n->B6 H->SqL K H a (ns.map V.int)->sp K [.ref a] H (fun v _=>v=.bl true) fun _ _ _=>False)
  (hCX:∀(H:Hp)(s:Shared)(e:Value)(s':Shared),CX [] H s (fun _ _ _=>False) e s'->False) :
  W.WalkO q loose XP YP l.row.toRowW d [] (fun f vs=>PySem.call f vs):=by
 refine Att.oo hn hdf fun w s₀ s₁ mg mb fa o pm cd doc a vs ns G Y ho hd hcd hmg hobj hints hlen hg=>?_;have KX:=hY w _ Y;have tb:=tabs w;unfold ve at tb;rw[Bool.and_eq_true,Bool.and_eq_true] at tb;obtain⟨⟨t1,t2⟩,t3⟩:=tb;obtain⟨fd,hb,hF⟩:=F w mg fa _ KX G.T.g hmg;refine tZ KX G.T.g G.T.b G.T.builtins G.T.nolimit hg G.T.bmain (fun t ht=>?_) t1 t2 hobj hints (Nat.le_trans hlen hn2) hr hF hb (fun H hS=>hsp _ H a ns hlen trivial hS) fun H e s'=>hCX H s₁ e s'
 have hc:=List.all_eq_true.mp t3 t ht;have hm:t.1∈(recsOf q).map (·.name):=by simpa using hc
 obtain⟨r,hr1,hr2⟩:=List.mem_map.mp hm
 cases z:(recsOf q).find? (fun e=>e.name == t.1) with
 |none=>
  have:=List.find?_eq_none.mp z r hr1;rw[hr2] at this;simp at this
 |some d'=>exact W.tab_of G.T KX z (yJ ht)
end L2
namespace L2
open PySem PySem.Spec PySem.Calls PyProof.Rows
open AutoSeq1 (wpAny_loadPart')
section
variable{prog:Program}{w:World}{A:Around}{E:Value->Shared->Prop}{S:Shared}
set_option maxHeartbeats 2000000 in
end
end L2
namespace L2
open PySem PySem.Spec PySem.Calls PyProof.Rows
structure Src(prog:Program)(w:World)(A:Around)(j q:Addr)(its:Array Value)(It1:Nat->Heap->Prop)(Sq1:Heap->Prop):Prop where
 item:∀(n:Nat)(v:Value)(S:Shared)(Q:Value->Shared->Prop)(E:Value->Shared->Prop),It1 n S.heap->Sq1 S.heap->its[n]?=some v->(∀h1,It1 (n+1) h1->Heap.SameBut j S.heap h1->Q v { S with heap:=h1 })->wpAny (model prog w) A (Builtin.SmallTypes.nextOf (.ref j)) Q E S
 stop:∀(n:Nat)(S:Shared)(Q:Value->Shared->Prop)(E:Value->Shared->Prop),It1 n S.heap->Sq1 S.heap->its[n]?=none->(∀h1 e,Heap.ExtBut j S.heap h1->(∃o,h1.get? e=some o/\o.cls=.type "StopIteration")->E (.ref e) { S with heap:=h1 })->wpAny (model prog w) A (Builtin.SmallTypes.nextOf (.ref j)) Q E S
 mv:∀(n:Nat)(h h1:Heap),It1 n h->(∀o,h.get? j=some o->h1.get? j=some o)->It1 n h1
 sv:∀(h h1:Heap),Sq1 h->(∀o,h.get? q=some o->h1.get? q=some o)->Sq1 h1
 live:∀(n:Nat)(h:Heap),It1 n h->∃o vs,h.get? j=some o/\o.data=.fields vs
structure Kd(cls:String)(Sa:W.Frag->Hp->Addr->List V->Prop)(Iti:Heap->Addr->Addr->Nat->Prop)(Is:Heap->Addr->Array Value->Prop):Prop where
 got:∀ {X:Cx} {pins:List (Addr×Obj)} {σ:St} {H:Hp} {s:Shared} {a:Addr} {xs:List V},Inv X pins σ H s->Sa X.K H a xs->∃its:List Value,aB xs its/\Is s.heap a its.toArray
 inj:∀ {X:Cx} {pins:List (Addr×Obj)} {σ:St} {H:Hp} {s:Shared} {a:Addr} {xs ys:List V},Inv X pins σ H s->Sa X.K H a xs->Sa X.K H a ys->xs=ys
 src:∀(prog:Program)(w:World)(A:Around)(j q:Addr)(its:Array Value),A.handled=none->Src prog w A j q its (fun n h=>Iti h j q n) (fun h=>Is h q its)
 seq:∀ {h:Heap} {a:Addr} {its:Array Value},Is h a its->∃o n,h.get? a=some o/\o.data=.seq its n
 ne:∀ {X:Cx} {pins:List (Addr×Obj)} {σ:St} {H:Hp} {s:Shared} {a b:Addr} {xs:List V},Inv X pins σ H s->Sa X.K H a xs->iM X pins H b->a≠b
 itr:∀ {prog:Program} {w:World} {A:Around} {E:Value->Shared->Prop} {S:Shared} {a:Addr} {its:Array Value} {Q:Value->Shared->Prop},Is S.heap a its->Q (.ref S.heap.objs.size) { S with heap:=S.heap.push { cls:=.type cls,data:=.fields #[.ref a,.int 0 0] } }->wpAny (model prog w) A (pyIter (.ref a)) Q E S
 sv:∀ {h h1:Heap} {a:Addr} {its:Array Value},Is h a its->(∀ob,h.get? a=some ob->h1.get? a=some ob)->Is h1 a its
 new:∀ {h:Heap} {j q:Addr},h.get? j=some { cls:=.type cls,data:=.fields #[.ref q,.int 0 0] }->Iti h j q 0
theorem yx{X:Cx}(K:W.Frag)(h:X.K=K){ts:List Expr}{k n:Nat}{pos:Pos}{t:TGs}(hc:X.calm=true)(hts:PGs X ts t)(hn:(assignEach ts X.env).length=n:=by rfl)(hst:(assignEach ts X.env).findIdx? (·.1)=none:=by rfl):PG X (.Tuple ts k pos) (AU K n t):=h ▸ An hc hts hn hst
noncomputable def a7{α:Type}(c:Nat->Nat->Bool):W.KasT α->α
 |.ret a=>a
 |.ask i j k=>a7 c (k (c i j))
noncomputable def KG{α:Type}(n:Nat)(R:α->Prop):W.KasT α->Prop
 |.ret a=>R a
 |.ask i j k=>i<n/\j<n/\∀b,KG n R (k b)
theorem KG.fin{α:Type}{n:Nat}{R:α->Prop}(c:Nat->Nat->Bool):∀ {t:W.KasT α},KG n R t->R (a7 c t)
 |.ret _,h=>h
 |.ask i j k,h=>KG.fin c (t:=k (c i j)) (h.2.2 (c i j))
theorem KG.mono{α:Type}{n:Nat}{R S:α->Prop}(q:∀a,R a->S a):∀ {t:W.KasT α},KG n R t->KG n S t
 |.ret a,h=>q a h
 |.ask _ _ k,h=>⟨h.1,h.2.1,fun b=>KG.mono q (t:=k b) (h.2.2 b)⟩
theorem KG.bind{α β:Type}{n:Nat}{R:β->Prop}{f:α->W.KasT β}:∀ {t:W.KasT α},KG n (fun a=>KG n R (f a)) t->KG n R (t.bind f)
 |.ret _,h=>h
 |.ask _ _ k,h=>⟨h.1,h.2.1,fun b=>KG.bind (t:=k b) (h.2.2 b)⟩
theorem KG.wp{α:Type}{n:Nat}{R:α->Prop}{c:Nat->Nat->Bool}{cmp:Nat->Nat->(Bool->Shared->Prop)->Shared->Prop}{Q:α->Shared->Prop}{s:Shared}(hc:∀i j C,i<n->j<n->C (c i j) s->cmp i j C s):
  ∀ {t:W.KasT α},KG n R t->Q (a7 c t) s->t.kasWp cmp Q s
 |.ret _,_,q=>q
 |.ask i j k,h,q=>hc i j _ h.1 h.2.1 (KG.wp hc (t:=k (c i j)) (h.2.2 (c i j)) q)
noncomputable def Ord(n:Nat)(p:Array Nat):Prop:=p.Perm (List.range n).toArray
theorem Ord.lt{n:Nat}{p:Array Nat}(hn:0<n)(h:Ord n p)(k:Nat):p.getD k 0<n:=by
 by_cases hk:k<p.size
 ·have hm:p[k]∈p:=Array.getElem_mem hk
  have h2:=(h.mem_iff (a:=p[k])).mp hm;simp at h2;simp[Array.getD,hk];exact h2
 ·simp[Array.getD,hk]
  exact hn
theorem Ord.rev{n i j:Nat}{p:Array Nat}(h:Ord n p):Ord n (W.kas_rev p i j):=(mirror_perm p i j _).trans h
theorem Ord.bub{n i j:Nat}{p:Array Nat}(h:Ord n p):Ord n (bubble p i j):=(bubble_perm p i j).trans h
section
variable{n:Nat}(hn:0<n)
include hn
theorem qa{p:Array Nat}(hp:Ord n p):∀f k,KG n (fun _=>True) (W.kas_asc p f k)
 |0,_=>trivial
 |f+1,k=>⟨hp.lt hn _,hp.lt hn _,fun b=>by
  cases b
  ·exact qa hp f (k+1)
  ·exact trivial⟩
theorem ju:∀f (p:Array Nat) k q,Ord n p->KG n (fun r=>Ord n r.1) (W.kas_desc f p k q)
 |0,_,_,_,hp=>hp
 |f+1,p,k,q,hp=>by
  refine⟨hp.lt hn _,hp.lt hn _,fun b=>?_⟩;cases b
  ·refine⟨hp.lt hn _,hp.lt hn _,fun d=>?_⟩
   cases d
   ·exact ju f _ _ _ hp
   ·exact hp
  ·show KG n _ (if q>0 then _ else _)
   split
   ·exact ju f _ _ _ hp.rev
   ·exact ju f _ _ _ hp
theorem pE{p:Array Nat}(hp:Ord n p)(a b:Nat):KG n (fun r=>Ord n r.2) (W.kas_tail3 a b p):=KG.bind ((qa hn hp.rev _ _).mono fun _ _=>hp.rev)
theorem i9{p:Array Nat}(hp:Ord n p)(a b:Nat):KG n (fun r=>Ord n r.2) (W.kas_descPart a b p):=KG.bind ((ju hn _ _ _ _ hp).mono fun r hr=>by
 split
 ·exact pE hn hr.rev _ _
 ·exact pE hn hr _ _)
theorem wc{p:Array Nat}(hp:Ord n p)(a:Nat):KG n (fun r=>Ord n r.2) (W.kas_count a p):=KG.bind ((qa hn hp _ _).mono fun k _=>by
 split
 ·exact hp
 ·split
  ·refine⟨hp.lt hn _,hp.lt hn _,fun b=>?_⟩
   cases b
   ·exact i9 hn hp.rev _ _
   ·exact hp
  ·exact i9 hn hp _ _)
theorem jH{p:Array Nat}(hp:Ord n p)(k:Nat):∀f l r,KG n (fun _=>True) (W.kas_place p k f l r)
 |0,_,_=>trivial
 |f+1,l,r=>by
  show KG n _ (if l ≥ r then _ else _)
  split
  ·exact trivial
  ·refine⟨hp.lt hn _,hp.lt hn _,fun b=>?_⟩
   cases b
   ·exact jH hp k f _ _
   ·exact jH hp k f _ _
theorem wD:∀f (p:Array Nat) k,Ord n p->KG n (Ord n) (W.kas_bin f p k)
 |0,_,_,hp=>hp
 |f+1,_,k,hp=>KG.bind ((jH hn hp _ _ _ _).mono fun _ _=>wD f _ _ hp.bub)
theorem r6:KG n (Ord n) (W.kas_sort n):=KG.bind ((wc hn (.refl _) n).mono fun r hr=>by
 split
 ·exact wD hn _ _ _ hr
 ·exact hr)
end
noncomputable def Zs:List Value->List Int->Prop
 | [],[]=>True
 |v::vs,n::ns=>(∃t,v=.int n t)/\Zs vs ns
 |_,_=>False
noncomputable def ltF(e:Bool):List Int->List Int->Bool
 |x::xs,y::ys=>if x=y then ltF e xs ys else decide (x<y)
 |_,_=>e
noncomputable def ltZ(x y:List Int):Bool:=ltF (decide (x.length<y.length)) x y
theorem Zs.len:∀ {vs:List Value} {ns:List Int},Zs vs ns->vs.length=ns.length
 | [],[],_=>rfl
 |_::_,_::_,h=>congrArg (·+1) (Zs.len h.2)
 | [],_::_,h=>h.elim
 |_::_,[],h=>h.elim
section
variable{prog:Program}{w:World}{A:Around}{E:Value->Shared->Prop}{s:Shared}
theorem yL{b:Bool}{x y:Int}{t u:Tok}{Q:Bool->Shared->Prop}(h:Q (decide (x<y)) s):wpAny (model prog w) A (oneLt' b (.int x t) (.int y u)) Q E s:=by
 cases b
 ·exact W.kat_one _ _ (wpAny_lt_int h)
 ·exact oneLt_int h
theorem sZ{b e:Bool}{Q:Bool->Shared->Prop}:∀ {xs ys:List Value} {ns ms:List Int} (i:Nat),Zs xs ns->Zs ys ms->Q (ltF e ns ms) s->W.KatLex prog w A b e Q (xs.zip ys) i s
 | [],_,[],_,_,_,_,q=>W.kat_nil (by simpa[ltF] using q)
 |_::_,[],_::_,[],_,_,_,q=>W.kat_nil (by simpa[ltF] using q)
 |x::xs,y::ys,n::ns,m::ms,i,hx,hy,q=>by
  obtain⟨⟨t,rfl⟩,hx⟩:=hx;obtain⟨⟨u,rfl⟩,hy⟩:=hy;refine W.kat_cons (wpAny_eqBool_int ?_);unfold ltF at q;by_cases h:n=m
  ·rw[if_pos h] at q
   rw[show (n == m)=true by simpa using h]
   exact W.kat_yes (sZ (i+1) hx hy q)
  ·rw[if_neg h] at q
   rw[show (n == m)=false by simpa using h]
   exact W.kat_no (yL q)
 | [],_,_::_,_,_,h,_,_=>h.elim
 |_::_,_,[],_,_,h,_,_=>h.elim
 |_::_,[],_,_::_,_,_,h,_=>h.elim
 |_::_,_::_,_,[],_,_,h,_=>h.elim
end
noncomputable def TW(h:Heap):List Value->List (List Int)->Prop
 | [],[]=>True
 |v::vs,x::xs=>(∃a o its n,v=.ref a/\h.get? a=some o/\o.cls=.type "tuple"/\o.data=.seq its n/\Zs its.toList x)/\TW h vs xs
 |_,_=>False
theorem TW.len{h:Heap}:∀ {vs:List Value} {W:List (List Int)},TW h vs W->vs.length=W.length
 | [],[],_=>rfl
 |_::_,_::_,q=>congrArg (·+1) (TW.len q.2)
 | [],_::_,q=>q.elim
 |_::_,[],q=>q.elim
theorem TW.keep{h h':Heap}(k:∀b o,h.get? b=some o->o.cls=.type "tuple"->h'.get? b=some o):∀ {vs:List Value} {W:List (List Int)},TW h vs W->TW h' vs W
 | [],[],_=>trivial
 |_::_,_::_,⟨⟨a,o,its,n,e1,e2,e3,e4⟩,q⟩=>⟨⟨a,o,its,n,e1,k _ _ e2 e3,e3,e4⟩,TW.keep k q⟩
 | [],_::_,q=>q.elim
 |_::_,[],q=>q.elim
theorem TW.at{h:Heap}:∀ {vs:List Value} {W:List (List Int)} {i:Nat},TW h vs W->i<vs.length->∃a o its n,vs.getD i Value.none=.ref a/\h.get? a=some o/\o.data=.seq its n/\Zs its.toList (W.getD i [])
 |_::_,_::_,0,⟨⟨a,o,its,n,e1,e2,e3,e4,e5⟩,_⟩,_=>⟨a,o,its,n,by simpa using e1,e2,e4,by simpa using e5⟩
 |_::_,_::_,i+1,⟨_,q⟩,hi=>by
  obtain⟨a,o,its,n,e1,e2,e3,e4⟩:=TW.at (i:=i) q (by simpa using hi)
  exact⟨a,o,its,n,by simpa using e1,e2,e3,by simpa using e4⟩
 | [],_,_,_,hi=>absurd hi (by simp)
 |_::_,[],_,q,_=>q.elim
theorem TW.tups{h:Heap}:∀ {vs:List Value} {W:List (List Int)},TW h vs W->(∀x∈W,x≠[])->∃fs,PySem.W.KatTups h vs fs/\fs.length=vs.length/\∀v∈fs,∃n t,v=.int n t
 | [],[],_,_=>⟨[],trivial,rfl,by simp⟩
 |_::vs,x::xs,⟨⟨a,o,its,n,rfl,e2,e3,e4,e5⟩,q⟩,ne=>by
  obtain⟨fs,g1,g2,g3⟩:=TW.tups q fun y hy=>ne y (List.mem_cons_of_mem _ hy);have e6:=ne x List.mem_cons_self
  match hi:its.toList,x,e5,e6 with
  | [],[],_,e6=>exact absurd rfl e6
  | [],_::_,e5,_=>exact e5.elim
  |_::_,[],e5,_=>exact e5.elim
  |f::r,m::ms,e5,_=>
   obtain⟨t,ht⟩:=e5.1;refine⟨f::fs,PySem.W.KatTups.cons e2 e3 e4 ?_ g1,by simp[g2],?_⟩
   ·rw[←Array.getElem?_toList,hi];rfl
   ·intro v hv
    rcases List.mem_cons.mp hv with rfl|hv
    ·exact⟨m,t,ht⟩
    ·exact g3 v hv
 | [],_::_,q,_=>q.elim
 |_::_,[],q,_=>q.elim
noncomputable def dA(W:List (List Int)):Array Nat:=if W.length<2 then (List.range W.length).toArray else a7 (fun i j=>ltZ (W.getD i []) (W.getD j [])) (PySem.W.kas_sort W.length)
theorem dP(W:List (List Int)):Ord W.length (dA W):=by
 unfold dA;split
 ·exact .refl _
 ·exact KG.fin _ (r6 (by omega))
section
variable{prog:Program}{w:World}{A:Around}{E:Value->Shared->Prop}{s:Shared}
noncomputable def md(vs:List Value)(W:List (List Int)):Array Value:=List.toArray ((dA W).toList.map fun i=>vs.getD i Value.none)
theorem t5{h:Heap}{vs:List Value}{W:List (List Int)}(tw:TW h vs W):(md vs W).size=vs.length:=by
 have a:=(dP W).size_eq;have b:=tw.len;simp[md];simp at a;omega
theorem uH{vs:List Value}{W:List (List Int)}{b:Bool}{s:Shared}(tw:TW s.heap vs W){Q:Array Nat->Shared->Prop}(h2:0<vs.length)(q:Q (a7 (fun i j=>ltZ (W.getD i []) (W.getD j [])) (PySem.W.kas_sort vs.length)) s):
  (PySem.W.kas_sort vs.length).kasWp (PySem.W.kas_ask prog w A (tuples' b) vs) Q s:=by
 refine KG.wp (fun i j C hi hj hC=>?_) (r6 h2) q;obtain⟨a1,o1,i1,n1,e1,e2,e3,e4⟩:=tw.at hi;obtain⟨a2,o2,i2,n2,f1,f2,f3,f4⟩:=tw.at hj;show wpAny (model prog w) A (keyLt' (tuples' b) (vs.getD i Value.none) (vs.getD j Value.none)) C _ s;rw[e1,f1];refine PySem.W.kat_lt e2 e3 f2 f3 (sZ 0 e4 f4 ?_);have g1:=e4.len;have g2:=f4.len;rw[Array.length_toList] at g1 g2;rw[g1,g2];exact hC
theorem t9:∀(vs:List Value),vs.length<2->Array.map (·.2) (vs.toArray.zip vs.toArray)=List.toArray ((List.range vs.length).map fun i=>vs.getD i Value.none)
 | [],_=>by simp
 | [v],_=>by simp
 |_::_::_,h=>absurd h (by simp)
theorem uv{a:Addr}{vs:List Value}{W:List (List Int)}{k:Nat}{P:PySem.Fin->Shared->Prop}(g:s.heap.get? a=some (seqObj "list" vs.toArray k))(tw:TW s.heap vs W)(ne:2<=W.length->∀x∈W,x≠[])(hs:vs.length<64)(q:P (.done (.ret .none)) { s with heap:=sortedHeap s.heap a vs (md vs W) }):wpAny (model prog w) A (Builtin.«list.sort» ⟨[.ref a],[]⟩) P E s:=by
 have line:64<=sizeLine:=by rw[sizeLine_eq];omega
 have room:vs.toArray.size<=sizeLine:=by rw[List.size_toArray];omega
 have la:a<s.heap.objs.size:=Heap.lt_size g;have osz:=t5 tw;rw[list_sort_plain];obtain⟨e1,g1⟩:∃e1,(s.heap.update a (Obj.mapSeq fun _=>(#[]:Array Value))).get? a=some (seqObj "list" #[] e1):=⟨_,get?_update_seq g fun _=>#[]⟩;refine wpAny_bind (listItems_at g rfl (wpAny_bind (listUpdate_at g rfl (wpAny_bind (seqEpoch_at g1 rfl (wpAny_bind (wpAny_newTuple (wpAny_bind (wpAny_newList (wpAny_holding ?_) (Nat.zero_le _))) ?_)))) room (Nat.zero_le _))))
 case refine_2=>show vs.length<=_;omega
 have g3:(((s.heap.update a (Obj.mapSeq fun _=>(#[]:Array Value))).push (seqObj "tuple" vs.toArray 0)).push (seqObj "list" #[] 0)).get? a=some (seqObj "list" #[] e1):=Heap.get?_push_of_some _ (Heap.get?_push_of_some _ g1)
 have tw3:TW (((s.heap.update a (Obj.mapSeq fun _=>(#[]:Array Value))).push (seqObj "tuple" vs.toArray 0)).push (seqObj "list" #[] 0)) vs W:=tw.keep fun b o e c=>by
  have nb:b≠a:=fun z=>by
   subst z;rw[g] at e;cases e;exact absurd (show Value.type "list"=Value.type "tuple" from c) (fun z=>by injection z with z;exact absurd z (by decide))
  exact Heap.get?_push_of_some _ (Heap.get?_push_of_some _ ((Heap.get?_update_ne _ _ _ _ nb).trans e))
 show wpAny (model prog w) A _ P E { s with heap:=((s.heap.update a (Obj.mapSeq fun _=>(#[]:Array Value))).push (seqObj "tuple" vs.toArray 0)).push (seqObj "list" #[] 0) }
 have fin:∀out:Array Value,out=md vs W->P (.done (.ret .none)) { s with heap:=(((s.heap.update a (Obj.mapSeq fun _=>(#[]:Array Value))).push (seqObj "tuple" vs.toArray 0)).push (seqObj "list" #[] 0)).update a (Obj.mapSeq fun _=>out) }:=fun out e=>by
  subst e;exact q
 generalize hh:((s.heap.update a (Obj.mapSeq fun _=>(#[]:Array Value))).push (seqObj "tuple" vs.toArray 0)).push (seqObj "list" #[] 0)=hp at g3 tw3 fin ⊢;dsimp only;by_cases h2:vs.toArray.size<2
 ·rw[if_pos h2,if_pos h2]
  refine wpAny_bind (wpAny_pure ?_);rw[StateT.run_pure];refine wpAny_bind (wpAny_pure ?_);dsimp only
  have same:(arrOf (SortSt.mk' general' (vs.toArray.zip vs.toArray) #[] 7 none)).map (·.2)=md vs W:=by
   have hl:=tw.len;rw[List.size_toArray] at h2;unfold md dA;rw[if_pos (by omega),←hl]
   exact t9 vs h2
  rw[same];refine wpAny_bind (seqEpoch_at g3 rfl (wpAny_bind (listUpdate_at g3 rfl ?_ (Nat.zero_le _) (by omega))))
  simp only[bne_self_eq_false,Bool.false_eq_true,if_false];exact wpAny_pure (fin _ rfl)
 ·rw[if_neg h2,if_neg h2]
  rw[List.size_toArray] at h2;obtain⟨fs,t1,t2,t3⟩:=tw3.tups (ne (by have:=tw.len;omega))
  refine wpAny_bind (PySem.W.kat_kind (T:=.type "int") t1 (by omega) (fun v hv=>?_) rfl ?_)
  ·obtain⟨n,t,rfl⟩:=t3 v hv
   exact PySem.W.Looks.now
  refine wpAny_bind (wpAny_mono (PySem.W.kat_run (E:=E) (Q:=fun st' s'=>failedOf st'=none/\(arrOf st').map (·.2)=md vs W/\s'={ s with heap:=hp }) (G:=fun p s'=>p=dA W/\s'={ s with heap:=hp }) rfl (by omega) hs (fun p st' s' _ b1 b2 b3=>⟨b2,?_,b3.2⟩) (uH tw3 (by omega) ⟨?_,rfl⟩)) ?_ fun _ _ e=>e)
  ·rw[PySem.W.kat_snds rfl b1,b3.1]
   rfl
  ·have hl:=tw.len
   unfold dA;rw[if_neg (by omega),←hl]
  ·rintro⟨⟨⟩,st'⟩ s' ⟨b1,b2,rfl⟩
   dsimp only at b1 b2 ⊢;rw[b2];refine wpAny_bind (seqEpoch_at g3 rfl (wpAny_bind (listUpdate_at g3 rfl ?_ (Nat.zero_le _) (by omega))))
   rw[b1];simp only[bne_self_eq_false,Bool.false_eq_true,if_false];exact wpAny_pure (fin _ rfl)
theorem oQ{l:Addr}{vs:List Value}{W:List (List Int)}{Q:Value->Shared->Prop}(g:s.heap.IsList l vs.toArray)(tw:TW s.heap vs W)(ne:2<=W.length->∀x∈W,x≠[])(hs:vs.length<64)(q:Q (.ref (s.heap.objs.size+1)) { s with heap:=sortedAll s.heap vs (md vs W) }):wpAny (model prog w) A (call (.builtin "sorted") [.ref l]) Q E s:=by
 have line:64<=sizeLine:=by rw[sizeLine_eq];omega
 refine Calls.call_function_entry kind_sorted plain_sorted entry_sorted (args_sorted1 _) ?_;unfold Builtin.«sorted»;have n1:((s.heap.push (seqObj "list" #[] 0)).update s.heap.objs.size (Obj.mapSeq (·++vs.toArray))).objs.size=s.heap.objs.size+1:=by rw[Heap.size_update,size_push']
 refine wpAny_bind (m:=checkCount "sorted" 1 1 _) (wpAny_pure (wpAny_bind (collect_list g (wpAny_bind (wpAny_newList ?_ (by omega))) (by omega))))
 have g2:(((s.heap.push (seqObj "list" #[] 0)).update s.heap.objs.size (Obj.mapSeq (·++vs.toArray))).push (seqObj "list" vs.toArray 0)).get? (s.heap.objs.size+1)=some (seqObj "list" vs.toArray 0):=by
  rw[←n1];exact Heap.get?_push_size _ rfl
 have tw2:TW (((s.heap.push (seqObj "list" #[] 0)).update s.heap.objs.size (Obj.mapSeq (·++vs.toArray))).push (seqObj "list" vs.toArray 0)) vs W:=tw.keep fun b o e _=>by
  have lt:=Heap.lt_size e;exact Heap.get?_push_of_some _ ((Heap.get?_update_ne _ _ _ _ (Nat.ne_of_lt lt)).trans (Heap.get?_push_of_some _ e))
 show wpAny _ _ _ _ _ { s with heap:=((s.heap.push (seqObj "list" #[] 0)).update s.heap.objs.size (Obj.mapSeq (·++vs.toArray))).push (seqObj "list" vs.toArray 0) }
 rw[n1];exact wpAny_bind (wpAny_holding (wpAny_call_entry slot_list_sort ⟨_,g2,rfl⟩ entry_list_sort (uv g2 tw2 ne hs ⟨_,rfl,wpAny_pure ⟨_,rfl,q⟩⟩) (args_list_sort _)))
end
noncomputable def srt(xs:List V)(W:List (List Int)):List V:=(dA W).toList.map fun i=>xs.getD i .non
noncomputable def TWv(H:Hp):List V->List (List Int)->Prop
 | [],[]=>True
 |v::vs,x::xs=>(∃a,v=.ref a/\H a=some (.tup (x.map V.int)))/\TWv H vs xs
 |_,_=>False
section
variable{X:Cx}
theorem Zs.of:∀ {ns:List Int} {its:List Value},aB (ns.map V.int) its->Zs its ns
 | [],[],_=>trivial
 |n::ns,v::vs,h=>by
  cases h with
  |cons r rr=>
   exact⟨r,Zs.of rr⟩
 | [],_::_,h=>by cases h
 |_::_,[],h=>by cases h
theorem TWv.tw{pins:List (Addr×Obj)}{σ:St}{H:Hp}{s:Shared}(I:Inv X pins σ H s):∀ {xs:List V} {W:List (List Int)} {us:List Value},TWv H xs W->aB xs us->TW s.heap us W
 | [],[],[],_,_=>trivial
 |v::vs,x::ys,u::us,⟨⟨a,e1,e2⟩,q⟩,h=>by
  subst e1
  cases h with
  |cons r rr=>
   cases r;obtain⟨_,its,e4,⟨o,e5,e6,n,e7⟩,_⟩:=I.hok a _ e2;exact⟨⟨a,o,its.toArray,n,rfl,e5,e6,e7,Zs.of e4⟩,TWv.tw I q rr⟩
 | [],[],_::_,_,h=>by cases h
 |_::_,_,[],_,h=>by cases h
 | [],_::_,_,q,_=>q.elim
 |_::_,[],_,q,_=>q.elim
theorem pF{α:Type}{f:α->V}{g:α->Value}:∀ {l:List α},(∀i∈l,aP (f i) (g i))->aB (l.map f) (l.map g)
 | [],_=>.nil
 |_::_,h=>.cons (h _ (List.mem_cons_self ..)) (pF fun j hj=>h j (List.mem_cons_of_mem _ hj))
theorem Ord.mem{n:Nat}{p:Array Nat}(h:Ord n p){i:Nat}(hi:i∈p.toList):i<n:=by
 have:=(h.mem_iff (a:=i)).mp (Array.mem_toList_iff.mp hi);simpa using this
theorem mx:bQ X (.builtin "sorted") (fun xs H Q=>∃p ys W,xs=[.ref p]/\SqL X.K H p ys/\TWv H ys W/\(2<=W.length->∀x∈W,x≠[])/\W.length<64/\∀l,H l=none->Q (.ref l) (upd H l (.lst (srt ys W)))):=by
 intro pins s σ H xs us Q I r h;obtain⟨p,ys,W,rfl,hq,hT,hne,hW,q⟩:=h;obtain⟨u,rfl,rx⟩:=fM r;cases rx;obtain⟨its,r',pl,hz⟩:=I.list hq;have tw:=TWv.tw I hT r';have e1:=tw.len;have e2:=r'.length;obtain⟨e,he⟩:=sortedAll_at s.heap its (md its W)
 have hv:aB (srt ys W) ((dA W).toList.map fun i=>its.getD i Value.none):=pF fun i hi=>by
  have hi':=(dP W).mem hi;obtain⟨u,hu,ru⟩:=r'.get (List.getElem?_eq_getElem (by omega:i<ys.length))
  rw[List.getD_eq_getElem?_getD,List.getD_eq_getElem?_getD,hu,List.getElem?_eq_getElem (by omega:i<ys.length)]
  exact ru
 have hl:(srt ys W).length<=sizeLine:=by
  have a:=(dP W).size_eq;have b:64<=sizeLine:=by rw[sizeLine_eq];omega
  simp[srt] at a ⊢;omega
 exact oQ pl.isList tw hne (by omega) ⟨.ref (s.heap.objs.size+1),_,I.laid (t':=s.toks) (fun b o e=>sortedAll_old e) (Nat.le_succ _) (show bq X.prog X.w _ _ _ (.lst (srt ys W)) from ⟨hl,_,e,hv,he⟩),rfl,q _ (I.hok.fresh (Nat.le_succ _))⟩
end
noncomputable def dB(W:List (List Int)):List (List Int):=(dA W).toList.map fun i=>W.getD i []
theorem iC(W:List (List Int)):(dB W).Perm W:=by
 have h:(dA W).toList.Perm (List.range W.length):=by
  have:=(dP W).toList;simpa using this
 have:=h.map fun i=>W.getD i [];refine this.trans (.of_eq ?_);apply List.ext_getElem?;intro i;by_cases hi:i<W.length
 ·rw[List.getElem?_map,List.getElem?_range hi,List.getElem?_eq_getElem hi]
  simp[hi]
 ·rw[List.getElem?_eq_none (by simpa using hi),List.getElem?_eq_none (by simpa using hi)]
theorem sL{H:Hp}:∀ {ns:List Int} {xs:List V},aw H (ns.map D.int) xs->xs=ns.map V.int
 | [],xs,h=>by simpa[aw] using h
 |n::ns,xs,h=>by
  simp only[List.map_cons,aw,Dat] at h;obtain⟨x,r,rfl,rfl,h2⟩:=h;rw[sL h2];rfl
theorem TWv.of{H:Hp}:∀ {W:List (List Int)} {xs:List V},aw H (W.map wdD) xs->TWv H xs W
 | [],xs,h=>by
  have:xs=[]:=by simpa[aw] using h
  subst this;exact trivial
 |x::W,xs,h=>by
  simp only[List.map_cons,aw] at h;obtain⟨v,r,rfl,hv,h2⟩:=h;simp only[wdD,Dat] at hv;obtain⟨a,ys,rfl,ha,hy⟩:=hv;rw[sL hy] at ha;exact⟨⟨a,rfl,ha⟩,TWv.of h2⟩
theorem lN{H:Hp}{W:List (List Int)}{xs:List V}(h:aw H (W.map wdD) xs):∀ {l:List Nat},(∀i∈l,i<W.length)->aw H ((l.map fun i=>W.getD i []).map wdD) (l.map fun i=>xs.getD i .non)
 | [],_=>by simp[aw]
 |i::l,q=>by
  simp only[List.map_cons,aw];have hi:=q i (List.mem_cons_self ..);obtain⟨x,e,hx⟩:=h.get (i:=i) (d:=wdD (W.getD i [])) (by rw[List.getElem?_map,List.getD_eq_getElem?_getD,List.getElem?_eq_getElem hi];rfl)
  refine⟨_,_,rfl,?_,lN h fun j hj=>q j (List.mem_cons_of_mem _ hj)⟩;rw[show xs.getD i V.non=x by rw[List.getD_eq_getElem?_getD,e];rfl]
  exact hx
theorem xG{H:Hp}{W:List (List Int)}{xs:List V}(h:aw H (W.map wdD) xs):aw H ((dB W).map wdD) (srt xs W):=lN h fun i hi=>(dP W).mem hi
theorem iB(W:List (List Int)):(dB W).length=W.length:=(iC W).length_eq
theorem xh{W:List (List Int)}{x:List Int}:x∈dB W↔x∈W:=(iC W).mem_iff
section
variable{X:Cx}
theorem pp:bQ X (.builtin "sorted") (fun xs H Q=>∃p W,xs=[.ref p]/\LD H p (W.map wdD)/\(∀x∈W,x≠[])/\W.length<64/\∀l H',H l=none->cw H H'->LD H' l ((dB W).map wdD)->Q (.ref l) H'):=by
 intro pins s σ H xs us Q I r h;obtain⟨p,W,rfl,⟨hn,ys,hy,hd⟩,ne,hl,q⟩:=h;exact mx pins s σ H _ us Q I r ⟨p,ys,W,rfl,SqL.of hy,TWv.of hd,fun _=>ne,hl,fun l hl=>q l _ hl (jV hl) ⟨pj _,_,bn,(xG hd).same (jV hl)⟩⟩
end
structure x8(c:Nat->Nat->Bool):Prop where
 as:∀i j,c i j=true->c j i=false
 tr:∀i j k,c j i=false->c k j=false->c k i=false
theorem dS{α β:Type}(c:Nat->Nat->Bool){f:α->W.KasT β}:∀t:W.KasT α,a7 c (t.bind f)=a7 c (f (a7 c t))
 |.ret _=>rfl
 |.ask i j k=>dS c (k (c i j))
section
variable{c:Nat->Nat->Bool}(L:x8 c)
noncomputable def Up(c:Nat->Nat->Bool)(p:Array Nat)(k:Nat):Prop:=∀i j,i<=j->j<k->c (p.getD j 0) (p.getD i 0)=false
noncomputable def Dn(c:Nat->Nat->Bool)(p:Array Nat)(k:Nat):Prop:=∀i j,i<=j->j<k->c (p.getD i 0) (p.getD j 0)=false
include L
theorem x8.rf(i:Nat):c i i=false:=by
 cases h:c i i with
 |false=>rfl
 |true=>rw[L.as i i h] at h;cases h
theorem AW(p:Array Nat):Up c p 1:=fun i j h1 h2=>by
 have:i=j:=by omega
 subst this;exact L.rf _
theorem yg{p:Array Nat}{k:Nat}(h:Up c p k)(hk:1<=k)(q:c (p.getD k 0) (p.getD (k-1) 0)=false):Up c p (k+1):=fun i j h1 h2=>by
 by_cases hj:j<k
 ·exact h i j h1 hj
 ·have:j=k:=by omega
  subst this;by_cases hi:i=j
  ·subst hi;exact L.rf _
  ·exact L.tr _ (p.getD (j-1) 0) _ (h i (j-1) (by omega) (by omega)) q
theorem ir{p:Array Nat}{k:Nat}(h:Dn c p k)(hk:1<=k)(q:c (p.getD (k-1) 0) (p.getD k 0)=false):Dn c p (k+1):=fun i j h1 h2=>by
 by_cases hj:j<k
 ·exact h i j h1 hj
 ·have:j=k:=by omega
  subst this;by_cases hi:i=j
  ·subst hi;exact L.rf _
  ·exact L.tr _ (p.getD (j-1) 0) _ q (h i (j-1) (by omega) (by omega))
theorem qr{p:Array Nat}:∀f k,1<=k->Up c p k->Up c p (a7 c (W.kas_asc p f k))/\k<=a7 c (W.kas_asc p f k)/\a7 c (W.kas_asc p f k)<=k+f
 |0,k,_,h=>⟨h,Nat.le_refl _,Nat.le_refl _⟩
 |f+1,k,hk,h=>by
  unfold W.kas_asc;simp only[a7]
  cases q:c (p.getD k 0) (p.getD (k-1) 0) with
  |true=>exact⟨h,Nat.le_refl _,by simp[a7]⟩
  |false=>
   have:=qr f (k+1) (by omega) (yg L h hk q)
   simp only[Bool.false_eq_true,if_false];exact⟨this.1,by omega,by omega⟩
end
theorem cC{p:Array Nat}{i j:Nat}(hj:j<=p.size)(k:Nat):(W.kas_rev p i j).getD k 0=if i<=k/\k<j then p.getD (i+j-1-k) 0 else p.getD k 0:=by
 have:=getElem?_mirror_all (xs:=p) (i:=i) hj k;simp only[Array.getD_eq_getD_getElem?];unfold W.kas_rev;rw[this];split<;>rfl
theorem oy{p:Array Nat}{s d:Nat}(hs:s<p.size)(hd:d<=s)(k:Nat):(bubble p s d).getD k 0=if k=s-d then p.getD s 0 else if s-d<k/\k<=s then p.getD (k-1) 0 else p.getD k 0:=by
 have:=getElem?_bubble hs d hd k;simp only[Array.getD_eq_getD_getElem?];rw[this];split
 ·rfl
 ·split<;>rfl
section
variable{c:Nat->Nat->Bool}(L:x8 c)
include L
theorem yG{p:Array Nat}{k:Nat}(hk:k<=p.size)(h:Dn c p k):Up c (W.kas_rev p 0 k) k:=fun i j h1 h2=>by
 rw[cC hk,cC hk,if_pos (by omega),if_pos (by omega)]
 exact h _ _ (by omega) (by omega)
theorem kH{p:Array Nat}{k:Nat}(hu:Up c p k):∀f l r,r-l<=f->l<=r->r<=k->(∀i,i<l->c (p.getD k 0) (p.getD i 0)=false)->(∀i,r<=i->i<k->c (p.getD k 0) (p.getD i 0)=true) ->
  a7 c (W.kas_place p k f l r)<=k/\(∀i,i<a7 c (W.kas_place p k f l r)->c (p.getD k 0) (p.getD i 0)=false)/\(∀i,a7 c (W.kas_place p k f l r)<=i->i<k->c (p.getD k 0) (p.getD i 0)=true)
 |0,l,r,hf,hl,hr,h1,h2=>by
  have:l=r:=by omega
  subst this;exact⟨hr,h1,h2⟩
 |f+1,l,r,hf,hl,hr,h1,h2=>by
  unfold W.kas_place;by_cases h:l ≥ r
  ·rw[if_pos h]
   have:l=r:=by omega
   subst this;exact⟨hr,h1,h2⟩
  ·rw[if_neg h]
   simp only[a7]
   cases q:c (p.getD k 0) (p.getD ((l+r) / 2) 0) with
   |true=>
    simp only[if_true];refine kH hu f l ((l+r) / 2) (by omega) (by omega) (by omega) h1 fun i hi hik=>?_
    cases e:c (p.getD k 0) (p.getD i 0) with
    |true=>rfl
    |false=>
     have:=L.tr (p.getD ((l+r) / 2) 0) (p.getD i 0) (p.getD k 0) (hu _ _ hi hik) e;rw[this] at q;cases q
   |false=>
    simp only[Bool.false_eq_true,if_false];refine kH hu f ((l+r) / 2+1) r (by omega) (by omega) hr (fun i hi=>?_) h2
    exact L.tr (p.getD i 0) (p.getD ((l+r) / 2) 0) (p.getD k 0) (hu _ _ (by omega) (by omega)) q
theorem xz:∀f (p:Array Nat) k,k+f<=p.size->Up c p k->Up c (a7 c (W.kas_bin f p k)) (k+f)
 |0,_,_,_,h=>h
 |f+1,p,k,hz,h=>by
  unfold W.kas_bin;rw[dS];obtain⟨h1,h2,h3⟩:=kH L h k 0 k (by omega) (by omega) (Nat.le_refl _) (fun i hi=>absurd hi (by omega)) (fun i hi hik=>absurd hik (by omega))
  generalize a7 c (W.kas_place p k k 0 k)=l at h1 h2 h3 ⊢
  have:=xz f (bubble p k (k - l)) (k + 1) (by rw [bubble_size];omega) (fun i j hij hj=>by
   rw[oy (by omega) (by omega),oy (by omega) (by omega),show k-(k-l)=l by omega]
   by_cases j1:j=l
   ·rw[if_pos j1]
    by_cases i1:i=l
    ·rw[if_pos i1];exact L.rf _
    ·rw[if_neg i1,if_neg (by omega)];exact h2 i (by omega)
   ·rw[if_neg j1]
    by_cases j2:l<j/\j<=k
    ·rw[if_pos j2]
     by_cases i1:i=l
     ·rw[if_pos i1];exact L.as _ _ (h3 (j-1) (by omega) (by omega))
     ·rw[if_neg i1]
      by_cases i2:l<i/\i<=k
      ·rw[if_pos i2];exact h _ _ (by omega) (by omega)
      ·rw[if_neg i2];exact h _ _ (by omega) (by omega)
    ·rw[if_neg j2,if_neg (by omega),if_neg (by omega)];exact h _ _ hij (by omega))
  rw[show k+(f+1)=k+1+f by omega]
  exact this
noncomputable def sV(c:Nat->Nat->Bool)(p:Array Nat)(a b:Nat):Prop:=∀i j,a<=i->i<b->a<=j->j<b->c (p.getD i 0) (p.getD j 0)=false
theorem xt{p:Array Nat}{a k:Nat}(hk:k<=p.size)(h:Dn c p k)(al:sV c p a k):Dn c (W.kas_rev p a k) k:=fun i j hij hj=>by
 rw[cC hk,cC hk];by_cases j1:a<=j/\j<k
 ·rw[if_pos j1]
  by_cases i1:a<=i/\i<k
  ·rw[if_pos i1];exact al _ _ (by omega) (by omega) (by omega) (by omega)
  ·rw[if_neg i1]
   exact h _ _ (by omega) (by omega)
 ·rw[if_neg j1,if_neg (by omega)];exact h _ _ hij hj
theorem jE:∀f (p:Array Nat) n q,1<=n->q+1<=n->n+f<=p.size->Dn c p n->sV c p (n-(q+1)) n ->
  (a7 c (W.kas_desc f p n q)).1.size=p.size/\1<=(a7 c (W.kas_desc f p n q)).2.1/\(a7 c (W.kas_desc f p n q)).2.1<=n+f/\(a7 c (W.kas_desc f p n q)).2.2+1<=(a7 c (W.kas_desc f p n q)).2.1 /\
  Dn c (a7 c (W.kas_desc f p n q)).1 (a7 c (W.kas_desc f p n q)).2.1/\sV c (a7 c (W.kas_desc f p n q)).1 ((a7 c (W.kas_desc f p n q)).2.1-((a7 c (W.kas_desc f p n q)).2.2+1)) (a7 c (W.kas_desc f p n q)).2.1
 |0,p,n,q,h1,h2,h3,h4,h5=>⟨rfl,h1,Nat.le_refl _,h2,h4,h5⟩
 |f+1,p,n,q,h1,h2,h3,h4,h5=>by
  have single:∀p':Array Nat,sV c p' (n+1-(0+1)) (n+1):=fun p' i j a1 a2 a3 a4=>by
   have:i=j:=by omega
   subst this;exact L.rf _
  unfold W.kas_desc;simp only[a7]
  cases e:c (p.getD n 0) (p.getD (n-1) 0) with
  |true=>
   simp only[if_true];by_cases hq:q>0
   ·rw[if_pos hq]
    have d1:=xt L (by omega:n<=p.size) h4 h5
    have d2 : Dn c (W.kas_rev p (n - (q + 1)) n) (n + 1):=ir L d1 h1 (by
     rw[cC (by omega),cC (by omega),if_pos (by omega),if_neg (by omega)]
     exact L.tr _ (p.getD (n-1) 0) _ (L.as _ _ e) (h5 _ _ (by omega) (by omega) (by omega) (by omega)))
    have:=jE f (W.kas_rev p (n-(q+1)) n) (n+1) 0 (by omega) (by omega) (by rw[W.kas_rev_size];omega) d2 (single _)
    rw[W.kas_rev_size] at this;exact⟨this.1,this.2.1,by omega,this.2.2.2⟩
   ·rw[if_neg hq]
    have:=jE f p (n+1) 0 (by omega) (by omega) (by omega) (ir L h4 h1 (L.as _ _ e)) (single _)
    exact⟨this.1,this.2.1,by omega,this.2.2.2⟩
  |false=>
   simp only[Bool.false_eq_true,if_false,a7]
   cases e2:c (p.getD (n-1) 0) (p.getD n 0) with
   |true=>exact⟨rfl,h1,by simp[a7],h2,h4,h5⟩
   |false=>
    simp only[Bool.false_eq_true,if_false]
    have:=jE f p (n + 1) (q + 1) (by omega) (by omega) (by omega) (ir L h4 h1 e2) (fun i j a1 a2 a3 a4=>by
     have low:∀i,n-(q+1)<=i->i<n+1->c (p.getD i 0) (p.getD n 0)=false:=fun i b1 b2=>by
      by_cases hi:i=n
      ·subst hi;exact L.rf _
      ·exact L.tr _ (p.getD (n-1) 0) _ e2 (h5 _ _ (by omega) (by omega) (by omega) (by omega))
     have high:∀i,n-(q+1)<=i->i<n+1->c (p.getD n 0) (p.getD i 0)=false:=fun i b1 b2=>by
      by_cases hi:i=n
      ·subst hi;exact L.rf _
      ·exact L.tr _ (p.getD (n-1) 0) _ (h5 _ _ (by omega) (by omega) (by omega) (by omega)) e
     exact L.tr _ (p.getD n 0) _ (high j (by omega) a4) (low i (by omega) a2))
    exact⟨this.1,this.2.1,by omega,this.2.2.2⟩
theorem oN{p:Array Nat}{n z:Nat}(h1:1<=n)(h2:n<=z)(hz:z=p.size)(h:Dn c p n):(a7 c (W.kas_tail3 n z p)).2.size=z/\1<=(a7 c (W.kas_tail3 n z p)).1/\(a7 c (W.kas_tail3 n z p)).1<=z/\Up c (a7 c (W.kas_tail3 n z p)).2 (a7 c (W.kas_tail3 n z p)).1:=by
 unfold W.kas_tail3;rw[dS];simp only[a7];have:=qr L (p:=W.kas_rev p 0 n) (z-n) n h1 (yG L (by omega) h)
 exact⟨by rw[W.kas_rev_size];exact hz.symm,by omega,by omega,this.1⟩
theorem jb{p:Array Nat}{n z:Nat}(h1:1<=n)(h2:n<z)(hz:z=p.size)(h:Dn c p (n+1)):(a7 c (W.kas_descPart n z p)).2.size=z/\1<=(a7 c (W.kas_descPart n z p)).1/\(a7 c (W.kas_descPart n z p)).1<=z/\Up c (a7 c (W.kas_descPart n z p)).2 (a7 c (W.kas_descPart n z p)).1:=by
 unfold W.kas_descPart;rw[dS]
 obtain ⟨a1,a2,a3,a4,a5,a6⟩:=jE L (z - (n + 1)) p (n + 1) 0 (by omega) (by omega) (by omega) h (fun i j b1 b2 b3 b4=>by
  have:i=j:=by omega
  subst this
  exact L.rf _)
 generalize a7 c (W.kas_desc (z-(n+1)) p (n+1) 0)=r at a1 a2 a3 a4 a5 a6 ⊢;split
 ·exact oN L a2 (by omega) (by rw[W.kas_rev_size];omega) (xt L (by omega) a5 a6)
 ·exact oN L a2 (by omega) (by omega) a5
theorem oa{p:Array Nat}:∀f k,a7 c (W.kas_asc p f k)=k+f\/c (p.getD (a7 c (W.kas_asc p f k)) 0) (p.getD (a7 c (W.kas_asc p f k)-1) 0)=true
 |0,k=>.inl rfl
 |f+1,k=>by
  unfold W.kas_asc;simp only[a7]
  cases q:c (p.getD k 0) (p.getD (k-1) 0) with
  |true=>exact .inr (by simpa[a7] using q)
  |false=>
   simp only[Bool.false_eq_true,if_false];rcases oa f (k+1) with h|h
   ·exact .inl (by rw[h];omega)
   ·exact .inr h
theorem xj{p:Array Nat}{z:Nat}(h1:1<=z)(hz:z=p.size):(a7 c (W.kas_count z p)).2.size=z/\1<=(a7 c (W.kas_count z p)).1/\(a7 c (W.kas_count z p)).1<=z/\Up c (a7 c (W.kas_count z p)).2 (a7 c (W.kas_count z p)).1:=by
 unfold W.kas_count;rw[dS];obtain⟨a1,a2,a3⟩:=qr L (p:=p) (z-1) 1 (Nat.le_refl _) (AW L p);have a4:=oa L (p:=p) (z-1) 1;generalize a7 c (W.kas_asc p (z-1) 1)=n at a1 a2 a3 a4 ⊢;by_cases e:(n == z)=true
 ·rw[if_pos e]
  have:n=z:=by simpa using e
  exact⟨hz.symm,a2,by show n<=z;omega,a1⟩
 ·rw[if_neg e]
  have hne:n≠z:=by simpa using e
  have st:c (p.getD n 0) (p.getD (n-1) 0)=true:=by
   rcases a4 with h|h
   ·exact absurd h (by omega)
   ·exact h
  by_cases h2:n>1
  ·rw[if_pos h2]
   simp only[a7]
   cases q:c (p.getD 0 0) (p.getD (n-1) 0) with
   |true=>exact⟨hz.symm,a2,by show n<=z;omega,a1⟩
   |false=>
    simp only[Bool.false_eq_true,if_false]
    have al:∀i j,i<n->j<n->c (p.getD i 0) (p.getD j 0)=false:=fun i j hi hj=>by
     have b1:c (p.getD i 0) (p.getD 0 0)=false->True:=fun _=>trivial;have b2:=a1 j (n-1) (by omega) (by omega)
     have b3:=a1 0 i (by omega) (by omega)
     have b4:=a1 i (n-1) (by omega) (by omega)
     have b5:=a1 0 j (by omega) (by omega)
     have up1:c (p.getD (n-1) 0) (p.getD j 0)=false:=a1 j (n-1) (by omega) (by omega)
     have x1:c (p.getD 0 0) (p.getD j 0)=false:=L.tr (p.getD j 0) (p.getD (n-1) 0) (p.getD 0 0) up1 q;exact L.tr (p.getD j 0) (p.getD 0 0) (p.getD i 0) x1 b3
    have d0:Dn c (W.kas_rev p 0 n) n:=fun i j hij hj=>by
     rw[cC (by omega),cC (by omega),if_pos (by omega),if_pos (by omega)]
     exact al _ _ (by omega) (by omega)
    have d1 : Dn c (W.kas_rev p 0 n) (n + 1):=ir L d0 (by omega) (by
     rw[cC (by omega),cC (by omega),if_pos (by omega),if_neg (by omega)]
     exact L.tr _ (p.getD (n-1) 0) _ (L.as _ _ st) (al _ _ (by omega) (by omega)))
    exact jb L (by omega) (by omega) (by rw[W.kas_rev_size];exact hz) d1
  ·rw[if_neg h2]
   have n1:n=1:=by omega
   subst n1
   have d0:Dn c p 1:=fun i j hij hj=>by
    have:i=j:=by omega
    subst this;exact L.rf _
   exact jb L (by omega) (by omega) hz (ir L d0 (by omega) (L.as _ _ st))
theorem yW{z:Nat}(h1:1<=z):Up c (a7 c (W.kas_sort z)) z:=by
 unfold W.kas_sort;rw[dS];obtain⟨a1,a2,a3,a4⟩:=xj L (p:=List.toArray (List.range z)) h1 (by simp)
 generalize a7 c (W.kas_count z (List.toArray (List.range z)))=r at a1 a2 a3 a4 ⊢;split
 ·rw[show max r.1 1=r.1 by omega]
  have:=xz L (z-r.1) r.2 r.1 (by omega) a4
  rwa [show r.1+(z-r.1)=z by omega] at this
 ·have:r.1=z:=by omega
  rw[this] at a4;exact a4
end
noncomputable def cq:List Int->List Int->Bool
 | [],[]=>false
 | [],_::_=>true
 |_::_,[]=>false
 |x::xs,y::ys=>if x=y then cq xs ys else decide (x<y)
theorem jp:∀x y:List Int,ltZ x y=cq x y
 | [],[]=>rfl
 | [],_::_=>by simp[ltZ,ltF,cq]
 |_::_,[]=>by simp[ltZ,ltF,cq]
 |x::xs,y::ys=>by
  have:=jp xs ys;unfold ltZ at this ⊢;unfold ltF cq;have e:decide ((x::xs).length<(y::ys).length)=decide (xs.length<ys.length):=by simp
  rw[e,this]
theorem pY:∀x y:List Int,cq x y=true->cq y x=false
 | [],[],h=>by simp[cq] at h
 | [],_::_,_=>rfl
 |_::_,[],h=>by simp[cq] at h
 |x::xs,y::ys,h=>by
  unfold cq at h ⊢;by_cases e:x=y
  ·rw[if_pos e] at h;rw[if_pos e.symm];exact pY xs ys h
  ·rw[if_neg e] at h;rw[if_neg (Ne.symm e)]
   simp at h ⊢;omega
theorem vb:∀x y z:List Int,cq y x=false->cq z y=false->cq z x=false
 | [],_,[],_,_=>rfl
 | [],_,_::_,_,_=>rfl
 |_::_,[],_,h,_=>by simp[cq] at h
 |_::_,_::_,[],_,h=>by simp[cq] at h
 |x::xs,y::ys,z::zs,h1,h2=>by
  unfold cq at h1 h2 ⊢;by_cases e1:y=x
  ·subst e1
   rw[if_pos rfl] at h1;by_cases e2:z=y
   ·subst e2
    rw[if_pos rfl] at h2 ⊢;exact vb xs ys zs h1 h2
   ·rw[if_neg e2] at h2 ⊢;exact h2
  ·rw[if_neg e1] at h1
   simp at h1;by_cases e2:z=y
   ·subst e2
    rw[if_neg e1];simpa using h1
   ·rw[if_neg e2] at h2
    simp at h2;rw[if_neg (by omega)]
    simp;omega
theorem xm:∀x y:List Int,cq y x=false->cq x y=false->x=y
 | [],[],_,_=>rfl
 | [],_::_,_,h=>by simp[cq] at h
 |_::_,[],h,_=>by simp[cq] at h
 |x::xs,y::ys,h1,h2=>by
  unfold cq at h1 h2;by_cases e:x=y
  ·subst e
   rw[if_pos rfl] at h1 h2;rw[xm xs ys h1 h2]
  ·rw[if_neg e] at h2
   rw[if_neg (Ne.symm e)] at h1;simp at h1 h2;omega
theorem qz(W:List (List Int)):x8 fun i j=>ltZ (W.getD i []) (W.getD j []) where
 as i j h:=by rw[jp] at h ⊢;exact pY _ _ h
 tr i j k h1 h2:=by rw[jp] at h1 h2 ⊢;exact vb _ _ _ h1 h2
noncomputable def Ris(W:List (List Int)):Prop:=W.Pairwise fun a b=>cq b a=false
theorem xL(W:List (List Int)):Ris (dB W):=by
 have hs:(dA W).size=W.length:=by
  have:=(dP W).size_eq;simpa using this
 unfold Ris;rw[List.pairwise_iff_getElem];intro i j hi hj hij;have hl:(dB W).length=W.length:=iB W
 have at_:∀k (hk:k<(dB W).length),(dB W)[k]=W.getD ((dA W).getD k 0) []:=fun k hk=>by
  have hk2:k<(dA W).size:=by omega
  have q:(dB W)[k]?=some (W.getD ((dA W).getD k 0) []):=by
   unfold dB;rw[List.getElem?_map,Array.getElem?_toList,Array.getElem?_eq_getElem hk2,Array.getD_eq_getD_getElem?,Array.getElem?_eq_getElem hk2];rfl
  exact(List.getElem?_eq_some_iff.mp q).2
 rw[at_ i hi,at_ j hj];by_cases h2:W.length<2
 ·omega
 ·have:=yW (qz W) (z:=W.length) (by omega) i j (by omega) (by omega)
  have e:dA W=a7 (fun i j=>ltZ (W.getD i []) (W.getD j [])) (PySem.W.kas_sort W.length):=by unfold dA;rw[if_neg h2]
  rw[←e] at this
  rw[←jp]
  exact this
end L2
namespace L2
open PySem PySem.Spec PyProof.Rows
inductive AV where
 |d (x:D)
 |r (v:V)
 |p (v:V) (P:Hp->Prop)
inductive OC where
 |own (xs:List AV)
 |frz (ds:List D)
 |dic (kvs:List (Str×AV))
noncomputable abbrev Om:=Addr->Option OC
noncomputable abbrev SA:=List (Option AV)
noncomputable abbrev Fs:=Addr->Bool
noncomputable def Om.put(ω:Om)(l:Addr)(c:OC):Om:=fun b=>if b=l then some c else ω b
theorem Om.D3{ω:Om}{l:Addr}{c:OC}:ω.put l c l=some c:=by unfold Om.put;rw[if_pos rfl]
theorem Om.D2{ω:Om}{l b:Addr}{c:OC}(h:b≠l):ω.put l c b=ω b:=by unfold Om.put;rw[if_neg h]
theorem Om.D4{ω:Om}{l:Addr}{c e:OC}:(ω.put l c).put l e=ω.put l e:=by funext b;unfold Om.put;split<;>rfl
theorem Om.Eb{ω:Om}{l p:Addr}{c e:OC}(h:p≠l):(ω.put l c).put p e=(ω.put p e).put l c:=by
 funext b;unfold Om.put;split<;>split<;>simp_all
theorem Om.Ek{ω:Om}{l:Addr}{c:OC}(h:ω l=some c):ω.put l c=ω:=by
 funext b;unfold Om.put;split
 ·rename_i e;rw[e,h]
 ·rfl
noncomputable def ow:Option OC->Bool
 |some (.own _)=>true
 |some (.dic _)=>true
 |_=>false
noncomputable def Fs.add(F:Fs)(l:Addr):Fs:=fun b=>decide (b=l) || F b
noncomputable def cut(F:Fs)(H:Hp)(ω:Om):Hp:=fun b=>if (ow (ω b) || F b)=true then none else H b
noncomputable def RV(G:Hp):AV->V->Prop
 |.d x,v=>Dat G x v
 |.r u,v=>v=u
 |.p u P,v=>v=u/\∀G',cw G G'->P G'
noncomputable def RVs(G:Hp):List AV->List V->Prop
 | [],vs=>vs=[]
 |a::as,vs=>∃v r,vs=v::r/\RV G a v/\RVs G as r
noncomputable def RS(G:Hp)(ρ:SA)(σ:St):Prop:=ρ.length=σ.length/\∀(i:Nat)(a:AV),ρ[i]?=some (some a)->∃v,σ[i]?=some (some v)/\RV G a v
noncomputable def RKs(G:Hp):List (Str×AV)->List (Key×V)->Prop
 | [],ks=>ks=[]
 |p::r,ks=>∃v r',ks=((Sum.inr p.1:Key),v)::r'/\RV G p.2 v/\RKs G r r'
structure Rep(F:Fs)(H:Hp)(ω:Om):Prop where
 own:∀l xs,ω l=some (.own xs)->∃vs,H l=some (.lst vs)/\RVs (cut F H ω) xs vs
 frz:∀l ds,ω l=some (.frz ds)->Dat (cut F H ω) (.lst ds) (.ref l)
 hid:∀b,F b=true->ω b=none/\∃vs,H b=some (.lst vs)
 dic:∀l kvs,ω l=some (.dic kvs)->∃ks,H l=some (.dK ks)/\RKs (cut F H ω) kvs ks
structure Fr(F:Fs)(H:Hp)(ω:Om)(H':Hp)(ω':Om):Prop where
 st:∀b o,ow (ω b)=false->F b=false->H b=some o->H' b=some o/\ow (ω' b)=false
 hd:∀b,F b=true->H' b=H b
section
variable{F:Fs}{H H1 H2 H':Hp}{ω ω1 ω2 ω':Om}{G G':Hp}
theorem Fr.refl:Fr F H ω H ω:=⟨fun _ _ h _ e=>⟨e,h⟩,fun _ _=>rfl⟩
theorem Fr.trans(a:Fr F H ω H1 ω1)(b:Fr F H1 ω1 H2 ω2):Fr F H ω H2 ω2:=
 ⟨fun c o h f e=>let ⟨x,y⟩:=a.st c o h f e;b.st c o y f x,fun c h=>(b.hd c h).trans (a.hd c h)⟩
theorem ba{b:Addr}{o:HO}:cut F H ω b=some o↔ow (ω b)=false/\F b=false/\H b=some o:=by
 unfold cut;cases ow (ω b)<;>cases F b<;>simp
theorem Fr.same(a:Fr F H ω H' ω'):cw (cut F H ω) (cut F H' ω'):=fun b o e=>by
 obtain⟨h,f,e⟩:=ba.mp e;obtain⟨x,y⟩:=a.st b o h f e;exact ba.mpr ⟨y,f,x⟩
theorem aK:cw (cut F H ω) H:=fun b o e=>(ba.mp e).2.2
theorem RV.same(e:cw G G'):∀ {a:AV} {v:V},RV G a v->RV G' a v
 |.d _,_,h=>Dat.same e h
 |.r _,_,h=>h
 |.p _ _,_,h=>⟨h.1,fun G2 s=>h.2 G2 (e.trans s)⟩
theorem RVs.same(e:cw G G'):∀ {as:List AV} {vs:List V},RVs G as vs->RVs G' as vs
 | [],_,h=>h
 |_::_,_,⟨v,r,h1,h2,h3⟩=>⟨v,r,h1,h2.same e,h3.same e⟩
theorem RKs.same(e:cw G G'):∀ {as:List (Str×AV)} {vs:List (Key×V)},RKs G as vs->RKs G' as vs
 | [],_,h=>h
 |_::_,_,⟨v,r,h1,h2,h3⟩=>⟨v,r,h1,h2.same e,h3.same e⟩
theorem RS.same(e:cw G G'){ρ:SA}{σ:St}(h:RS G ρ σ):RS G' ρ σ:=⟨h.1,fun i a q=>let ⟨v,x,y⟩:=h.2 i a q;⟨v,x,y.same e⟩⟩
theorem RVs.length:∀ {as:List AV} {vs:List V},RVs G as vs->vs.length=as.length
 | [],_,h=>by cases h;rfl
 |_::_,_,⟨v,r,h1,_,h3⟩=>by subst h1;simp[h3.length]
theorem RVs.get:∀ {as:List AV} {vs:List V} {i:Nat} {a:AV},RVs G as vs->as[i]?=some a->∃v,vs[i]?=some v/\RV G a v
 | [],_,_,_,_,e=>by simp at e
 |_::_,_,0,_,⟨v,r,h1,h2,_⟩,e=>by subst h1;simp at e;subst e;exact⟨v,rfl,h2⟩
 |_::_,_,i+1,_,⟨v,r,h1,_,h3⟩,e=>by subst h1;simp at e;obtain⟨v',e1,e2⟩:=h3.get e;exact⟨v',by simpa using e1,e2⟩
theorem RVs.append:∀ {as bs:List AV} {vs us:List V},RVs G as vs->RVs G bs us->RVs G (as++bs) (vs++us)
 | [],_,_,_,h,k=>by cases h;exact k
 |_::_,_,_,_,⟨v,r,h1,h2,h3⟩,k=>by subst h1;exact⟨v,_,rfl,h2,h3.append k⟩
theorem RVs.one{a:AV}{v:V}(h:RV G a v):RVs G [a] [v]:=⟨v,[],rfl,h,rfl⟩
theorem RVs.dats:∀ {ds:List D} {vs:List V},RVs G (ds.map AV.d) vs↔aw G ds vs
 | [],_=>by simp[RVs,aw]
 |d::ds,vs=>by
  simp only[List.map_cons,RVs,aw,RV];constructor
  ·rintro⟨v,r,h1,h2,h3⟩;exact⟨v,r,h1,h2,RVs.dats.mp h3⟩
  ·rintro⟨v,r,h1,h2,h3⟩;exact⟨v,r,h1,h2,RVs.dats.mpr h3⟩
theorem RVs.set{as:List AV}{vs:List V}(i:Nat){a:AV}{v:V}(h:RVs G as vs)(k:RV G a v):RVs G (as.set i a) (vs.set i v):=by
 induction as generalizing vs i with
 |nil=>cases h;exact rfl
 |cons b as ih=>
  obtain⟨u,r,rfl,h2,h3⟩:=h
  cases i with
  |zero=>exact⟨v,r,rfl,k,h3⟩
  |succ i=>exact⟨u,_,rfl,h2,ih i h3⟩
theorem Rep.free(R:Rep F H ω){p:Addr}(h:H p=none):ω p=none/\F p=false:=by
 constructor
 ·cases e:ω p with
  |none=>rfl
  |some c=>cases c with
   |own xs=>obtain⟨vs,q,_⟩:=R.own p xs e;rw[h] at q;cases q
   |frz ds=>
    have q:=R.frz p ds e;simp only[Dat] at q;obtain⟨a,xs,e1,e2,_⟩:=q;cases e1;rw[aK _ _ e2] at h;cases h
   |dic kvs=>obtain⟨vs,q,_⟩:=R.dic p kvs e;rw[h] at q;cases q
 ·cases e:F p with
  |false=>rfl
  |true=>obtain⟨_,o,q⟩:=R.hid p e;rw[h] at q;cases q
theorem Rep.lay(R:Rep F H ω){p:Addr}{o:HO}(h:H p=none):Rep F (upd H p o) ω/\Fr F H ω (upd H p o) ω/\cut F (upd H p o) ω p=some o:=by
 have hs:=jV (o:=o) h
 have fr:Fr F H ω (upd H p o) ω:=⟨fun b u x f e=>⟨hs _ _ e,x⟩,fun b f=>by
  obtain⟨_,u,q⟩:=R.hid b f
  rw[aq (aN q h)]⟩
 obtain⟨f1,f2⟩:=R.free h;refine⟨⟨fun l xs e=>?_,fun l ds e=>(R.frz l ds e).same fr.same,fun b f=>?_,fun l ks e=>(by obtain⟨vs,e1,e2⟩:=R.dic l ks e;exact⟨vs,hs _ _ e1,e2.same fr.same⟩)⟩,fr,ba.mpr ⟨by rw[f1];rfl,f2,bn⟩⟩
 ·obtain⟨vs,e1,e2⟩:=R.own l xs e
  exact⟨vs,hs _ _ e1,e2.same fr.same⟩
 ·obtain⟨x,u,q⟩:=R.hid b f
  exact⟨x,u,hs _ _ q⟩
theorem tJ{l:Addr}{xs ys:List AV}{o:HO}(h:ω l=some (.own xs)):cut F (upd H l o) (ω.put l (.own ys))=cut F H ω:=by
 funext b
 unfold cut Om.put;by_cases hb:b=l
 ·subst hb;rw[if_pos rfl,h];simp[ow]
 ·rw[if_neg hb,aq hb]
theorem Rep.write(R:Rep F H ω){l:Addr}{xs ys:List AV}{vs:List V}(h:ω l=some (.own xs))(hv:RVs (cut F H ω) ys vs):
  Rep F (upd H l (.lst vs)) (ω.put l (.own ys))/\Fr F H ω (upd H l (.lst vs)) (ω.put l (.own ys)):=by
 have c:=tJ (F:=F) (H:=H) (ys:=ys) (o:=.lst vs) h
 refine ⟨⟨fun k zs e=>?_,fun k ds e=>?_,fun b f=>?_,fun k ks e=>(by
  have hk:k≠l:=fun z=>(by subst z;rw[Om.D3] at e;cases e)
  rw[Om.D2 hk] at e;rw[c,aq hk];exact R.dic k ks e)⟩,fun b o x f e=>?_,fun b f=>?_⟩
 ·rw[c]
  by_cases hk:k=l
  ·subst hk;rw[Om.D3] at e;cases e;exact⟨vs,bn,hv⟩
  ·rw[Om.D2 hk] at e;rw[aq hk];exact R.own k zs e
 ·rw[c]
  by_cases hk:k=l
  ·subst hk;rw[Om.D3] at e;cases e
  ·rw[Om.D2 hk] at e;exact R.frz k ds e
 ·obtain⟨x,o,q⟩:=R.hid b f
  have hb:b≠l:=fun z=>by subst z;rw[h] at x;cases x
  exact⟨by rw[Om.D2 hb];exact x,o,by rw[aq hb];exact q⟩
 ·have hb:b≠l:=fun z=>by subst z;rw[h] at x;cases x
  rw[Om.D2 hb,aq hb];exact⟨e,x⟩
 ·obtain⟨x,o,q⟩:=R.hid b f
  have hb:b≠l:=fun z=>by subst z;rw[h] at x;cases x
  exact aq hb
theorem Rep.mk'(R:Rep F H ω){l:Addr}{xs:List AV}{vs:List V}(h:H l=none)(hv:RVs (cut F H ω) xs vs):
  Rep F (upd H l (.lst vs)) (ω.put l (.own xs))/\Fr F H ω (upd H l (.lst vs)) (ω.put l (.own xs)):=by
 obtain⟨f1,f2⟩:=R.free h
 have c:cut F (upd H l (.lst vs)) (ω.put l (.own xs))=cut F H ω:=by
  funext b
  unfold cut Om.put;by_cases hb:b=l
  ·subst hb;rw[if_pos rfl,f1,f2,h];simp[ow]
  ·rw[if_neg hb,aq hb]
 refine ⟨⟨fun k zs e=>?_,fun k ds e=>?_,fun b f=>?_,fun k ks e=>(by
  have hk:k≠l:=fun z=>(by subst z;rw[Om.D3] at e;cases e)
  rw[Om.D2 hk] at e;rw[c,aq hk];exact R.dic k ks e)⟩,fun b o x f e=>?_,fun b f=>?_⟩
 ·rw[c]
  by_cases hk:k=l
  ·subst hk;rw[Om.D3] at e;cases e;exact⟨vs,bn,hv⟩
  ·rw[Om.D2 hk] at e;rw[aq hk];exact R.own k zs e
 ·rw[c]
  by_cases hk:k=l
  ·subst hk;rw[Om.D3] at e;cases e
  ·rw[Om.D2 hk] at e;exact R.frz k ds e
 ·obtain⟨x,o,q⟩:=R.hid b f
  have hb:b≠l:=aN q h;exact⟨by rw[Om.D2 hb];exact x,o,by rw[aq hb];exact q⟩
 ·have hb:b≠l:=aN e h
  rw[Om.D2 hb,aq hb];exact⟨e,x⟩
 ·obtain⟨x,o,q⟩:=R.hid b f
  exact aq (aN q h)
theorem Rep.freeze(R:Rep F H ω){l:Addr}{ds:List D}(h:ω l=some (.own (ds.map AV.d))):
  Rep F H (ω.put l (.frz ds))/\Fr F H ω H (ω.put l (.frz ds))/\Dat (cut F H (ω.put l (.frz ds))) (.lst ds) (.ref l):=by
 have fr:Fr F H ω H (ω.put l (.frz ds)):=⟨fun b o x f e=>⟨e,by
  by_cases hb:b=l
  ·subst hb;rw[h] at x;cases x
  ·rw[Om.D2 hb];exact x⟩,fun _ _=>rfl⟩
 obtain⟨vs,e1,e2⟩:=R.own l _ h
 have hF:F l=false:=by
  cases e:F l with
  |false=>rfl
  |true=>have:=(R.hid l e).1;rw[h] at this;cases this
 have dl:Dat (cut F H (ω.put l (.frz ds))) (.lst ds) (.ref l):=by
  simp only[Dat];exact⟨l,vs,rfl,ba.mpr ⟨by rw[Om.D3];rfl,hF,e1⟩,(RVs.dats.mp e2).same fr.same⟩
 refine ⟨⟨fun k zs e=>?_,fun k es e=>?_,fun b f=>?_,fun k ks e=>(by
  have hk:k≠l:=fun z=>(by subst z;rw[Om.D3] at e;cases e)
  rw[Om.D2 hk] at e;obtain⟨us,q1,q2⟩:=R.dic k ks e;exact⟨us,q1,q2.same fr.same⟩)⟩,fr,dl⟩
 ·by_cases hk:k=l
  ·subst hk;rw[Om.D3] at e;cases e
  ·rw[Om.D2 hk] at e
   obtain⟨us,q1,q2⟩:=R.own k zs e;exact⟨us,q1,q2.same fr.same⟩
 ·by_cases hk:k=l
  ·subst hk;rw[Om.D3] at e;cases e;exact dl
  ·rw[Om.D2 hk] at e;exact(R.frz k es e).same fr.same
 ·obtain⟨x,o,q⟩:=R.hid b f
  have hb:b≠l:=fun z=>by subst z;rw[h] at x;cases x
  exact⟨by rw[Om.D2 hb];exact x,o,q⟩
theorem Rep.hide(R:Rep F H ω){l:Addr}{vs:List V}(h:H l=none):Rep (F.add l) (upd H l (.lst vs)) ω/\cut (F.add l) (upd H l (.lst vs)) ω=cut F H ω:=by
 obtain⟨f1,f2⟩:=R.free h
 have c:cut (F.add l) (upd H l (.lst vs)) ω=cut F H ω:=by
  funext b
  unfold cut Fs.add;by_cases hb:b=l
  ·subst hb;simp[h]
  ·rw[aq hb];simp[hb]
 refine⟨⟨fun k zs e=>?_,fun k ds e=>?_,fun b f=>?_,fun k ks e=>(by rw[c];obtain⟨us,q1,q2⟩:=R.dic k ks e;exact⟨us,by rw[aq (aN q1 h)];exact q1,q2⟩)⟩,c⟩
 ·rw[c]
  obtain⟨us,q1,q2⟩:=R.own k zs e;exact⟨us,by rw[aq (aN q1 h)];exact q1,q2⟩
 ·rw[c];exact R.frz k ds e
 ·by_cases hb:b=l
  ·subst hb;exact⟨f1,_,bn⟩
  ·have f':F b=true:=by simpa[Fs.add,hb] using f
   obtain⟨x,o,q⟩:=R.hid b f';exact⟨x,o,by rw[aq hb];exact q⟩
theorem Rep.hwrite(R:Rep F H ω){l:Addr}{vs:List V}(h:F l=true):Rep F (upd H l (.lst vs)) ω/\cut F (upd H l (.lst vs)) ω=cut F H ω:=by
 have c:cut F (upd H l (.lst vs)) ω=cut F H ω:=by
  funext b
  unfold cut;by_cases hb:b=l
  ·subst hb;simp[h]
  ·rw[aq hb]
 refine ⟨⟨fun k zs e=>?_,fun k ds e=>?_,fun b f=>?_,fun k ks e=>(by
  have hk:k≠l:=fun z=>(by subst z;rw[(R.hid _ h).1] at e;cases e)
  rw[c,aq hk];exact R.dic k ks e)⟩,c⟩
 ·rw[c]
  obtain⟨us,q1,q2⟩:=R.own k zs e;have hk:k≠l:=fun z=>by subst z;rw[(R.hid _ h).1] at e;cases e
  exact⟨us,by rw[aq hk];exact q1,q2⟩
 ·rw[c];exact R.frz k ds e
 ·by_cases hb:b=l
  ·subst hb;exact⟨(R.hid _ h).1,_,bn⟩
  ·obtain⟨x,o,q⟩:=R.hid b f
   exact⟨x,o,by rw[aq hb];exact q⟩
theorem Rep.unhide{l:Addr}{vs:List V}(R:Rep (F.add l) H ω)(hF:F l=false)(h:H l=some (.lst vs)):
  Rep F H ω/\cw (cut (F.add l) H ω) (cut F H ω)/\cut F H ω l=some (.lst vs):=by
 have hl:ω l=none:=(R.hid l (by simp[Fs.add])).1
 have sm:cw (cut (F.add l) H ω) (cut F H ω):=fun b o e=>by
  obtain⟨x,f,e⟩:=ba.mp e;refine ba.mpr ⟨x,?_,e⟩;unfold Fs.add at f
  cases q:F b with
  |false=>rfl
  |true=>rw[q] at f;simp at f
 refine⟨⟨fun k zs e=>?_,fun k ds e=>(R.frz k ds e).same sm,fun b f=>R.hid b (by simp[Fs.add,f]),fun k ks e=>(by obtain⟨us,q1,q2⟩:=R.dic k ks e;exact⟨us,q1,q2.same sm⟩)⟩,sm,ba.mpr ⟨by rw[hl];rfl,hF,h⟩⟩
 obtain⟨us,q1,q2⟩:=R.own k zs e;exact⟨us,q1,q2.same sm⟩
theorem Rep.En{l:Addr}{vs:List V}{xs:List AV}(R:Rep (F.add l) H ω)(hF:F l=false)(h:H l=some (.lst vs))(hv:RVs (cut (F.add l) H ω) xs vs):
  Rep F H (ω.put l (.own xs))/\cw (cut (F.add l) H ω) (cut F H (ω.put l (.own xs))):=by
 have hl:ω l=none:=(R.hid l (by simp[Fs.add])).1
 have sm:cw (cut (F.add l) H ω) (cut F H (ω.put l (.own xs))):=fun b o e=>by
  obtain⟨x,f,e⟩:=ba.mp e;have hb:b≠l:=fun z=>by subst z;simp[Fs.add] at f
  refine ba.mpr ⟨by rw[Om.D2 hb];exact x,?_,e⟩
  unfold Fs.add at f
  cases q:F b with
  |false=>rfl
  |true=>rw[q] at f;simp at f
 refine ⟨⟨fun k zs e=>?_,fun k ds e=>?_,fun b f=>?_,fun k ks e=>(by
  have hk:k≠l:=fun z=>(by subst z;rw[Om.D3] at e;cases e)
  rw[Om.D2 hk] at e;obtain⟨us,q1,q2⟩:=R.dic k ks e;exact⟨us,q1,q2.same sm⟩)⟩,sm⟩
 ·by_cases hk:k=l
  ·subst hk;rw[Om.D3] at e;cases e;exact⟨vs,h,hv.same sm⟩
  ·rw[Om.D2 hk] at e
   obtain⟨us,q1,q2⟩:=R.own k zs e;exact⟨us,q1,q2.same sm⟩
 ·by_cases hk:k=l
  ·subst hk;rw[Om.D3] at e;cases e
  ·rw[Om.D2 hk] at e;exact(R.frz k ds e).same sm
 ·have hb:b≠l:=fun z=>by subst z;rw[f] at hF;cases hF
  rw[Om.D2 hb];exact R.hid b (by simp[Fs.add,f])
end
noncomputable def LP{α β:Type}(R:Hp->α->β->Prop)(F:Fs)(H:Hp)(ω:Om)(Q':α->Om->Prop)(Q:β->Hp->Prop):Prop:=
 ∀a ω' v H',Rep F H' ω'->Fr F H ω H' ω'->R (cut F H' ω') a v->Q' a ω'->Q v H'
theorem LP.fr{α β:Type}{R:Hp->α->β->Prop}{F:Fs}{H H1:Hp}{ω ω1:Om}{Q':α->Om->Prop}{Q:β->Hp->Prop}(k:LP R F H ω Q' Q)(f:Fr F H ω H1 ω1):LP R F H1 ω1 Q' Q:=
 fun a ω' v H' rp fr rv q=>k a ω' v H' rp (f.trans fr) rv q
structure Ref{α β:Type}(R:Hp->α->β->Prop)(t:St->Hp->(β->Hp->Prop)->Prop)(t':SA->Om->(α->Om->Prop)->Prop):Prop where
 run:∀(F:Fs)(H:Hp)(ω:Om)(σ:St)(ρ:SA)(Q:β->Hp->Prop)(Q':α->Om->Prop),Rep F H ω->RS (cut F H ω) ρ σ->t' ρ ω Q'->LP R F H ω Q' Q->t σ H Q
theorem Ref.go{α β:Type}{R:Hp->α->β->Prop}{t:St->Hp->(β->Hp->Prop)->Prop}{t':SA->Om->(α->Om->Prop)->Prop}(h:Ref R t t'){F:Fs}{H:Hp}{ω:Om}{σ:St}{ρ:SA}{Q:β->Hp->Prop}{Q':α->Om->Prop}(rp:Rep F H ω)(rs:RS (cut F H ω) ρ σ)(w:t' ρ ω Q')(k:∀a ω1 v H1,Rep F H1 ω1->Fr F H ω H1 ω1->RS (cut F H1 ω1) ρ σ->R (cut F H1 ω1) a v->Q' a ω1->Q v H1):t σ H Q:=
 h.run F H ω σ ρ Q Q' rp rs w fun a ω1 v H1 rp1 fr1 rv q=>k a ω1 v H1 rp1 fr1 (rs.same fr1.same) rv q
noncomputable abbrev AE:=SA->Om->(AV->Om->Prop)->Prop
noncomputable abbrev AT:=SA->Om->(Bool->Om->Prop)->Prop
noncomputable abbrev AA:=SA->Om->(List AV->Om->Prop)->Prop
noncomputable def REq{α:Type}(_:Hp)(a b:α):Prop:=a=b
noncomputable abbrev aZ(t:TE)(t':AE):Prop:=Ref RV t t'
noncomputable abbrev fN(t:TT)(t':AT):Prop:=Ref REq t t'
noncomputable abbrev fP(t:TA)(t':AA):Prop:=Ref RVs t t'
structure bC where
 nx:SA->Om->Prop
 rt:AV->Om->Prop
 bk:SA->Om->Prop:=fun _ _=>False
 ct:SA->Om->Prop:=fun _ _=>False
noncomputable abbrev AS:=bC->SA->Om->Prop
structure LE(F:Fs)(H:Hp)(ω:Om)(D':bC)(D:fK):Prop where
 nx:LP RS F H ω D'.nx D.nx
 rt:LP RV F H ω D'.rt D.rt
 bk:LP RS F H ω D'.bk D.bk
 ct:LP RS F H ω D'.ct D.ct
theorem LE.fr{F:Fs}{H H1:Hp}{ω ω1:Om}{D':bC}{D:fK}(k:LE F H ω D' D)(f:Fr F H ω H1 ω1):LE F H1 ω1 D' D:=⟨k.nx.fr f,k.rt.fr f,k.bk.fr f,k.ct.fr f⟩
structure fF(t:TS)(t':AS):Prop where
 run:∀(F:Fs)(H:Hp)(ω:Om)(σ:St)(ρ:SA)(D:fK)(D':bC),Rep F H ω->RS (cut F H ω) ρ σ->t' D' ρ ω->LE F H ω D' D->t D σ H
noncomputable abbrev AG:=AV->SA->Om->(SA->Om->Prop)->Prop
noncomputable abbrev AGs:=List AV->SA->Om->(SA->Om->Prop)->Prop
structure jo(g:TG)(g':AG):Prop where
 run:∀(F:Fs)(H:Hp)(ω:Om)(σ:St)(ρ:SA)(v:V)(a:AV)(Q:St->Hp->Prop)(Q':SA->Om->Prop),Rep F H ω->RS (cut F H ω) ρ σ->RV (cut F H ω) a v->g' a ρ ω Q'->LP RS F H ω Q' Q->g v σ H Q
structure oD(g:TGs)(g':AGs):Prop where
 run:∀(F:Fs)(H:Hp)(ω:Om)(σ:St)(ρ:SA)(v:List V)(a:List AV)(Q:St->Hp->Prop)(Q':SA->Om->Prop),Rep F H ω->RS (cut F H ω) ρ σ->RVs (cut F H ω) a v->g' a ρ ω Q'->LP RS F H ω Q' Q->g v σ H Q
noncomputable abbrev ASp:=List AV->Om->(AV->Om->Prop)->Prop
noncomputable def dY(sp:ASp):Sp:=fun vs H Q _=>∃(F:Fs)(xs:List AV)(ω:Om)(Q':AV->Om->Prop),Rep F H ω/\RVs (cut F H ω) xs vs/\sp xs ω Q'/\LP RV F H ω Q' Q
noncomputable def rS:AS:=fun D ρ ω=>D.nx ρ ω
noncomputable def yC(t u:AS):AS:=fun D ρ ω=>t { D with nx:=u D } ρ ω
noncomputable def ww(te:AE):AS:=fun D ρ ω=>te ρ ω fun _ ω1=>D.nx ρ ω1
noncomputable def tN(te:AE):AS:=fun D ρ ω=>te ρ ω D.rt
noncomputable def xO(c:AT)(t u:AS):AS:=fun D ρ ω=>c ρ ω fun b ω1=>if b=true then t D ρ ω1 else u D ρ ω1
noncomputable def Bj(te:AE)(g:AG):AS:=fun D ρ ω=>te ρ ω fun x ω1=>g x ρ ω1 D.nx
noncomputable def jK(i:Nat):AG:=fun v ρ ω Q=>Q (ρ.set i (some v)) ω
noncomputable def Ac:AGs:=fun vs ρ ω Q=>vs=[]/\Q ρ ω
noncomputable def wg(t:AG)(u:AGs):AGs:=fun vs ρ ω Q=>∃v r,vs=v::r/\t v ρ ω fun ρ' ω'=>u r ρ' ω' Q
section
variable{t u:TS}{t' u':AS}{te:TE}{te':AE}{tc:TT}{tc':AT}{g:TG}{g':AG}{gs:TGs}{gs':AGs}
theorem RS.set{G:Hp}{ρ:SA}{σ:St}{i:Nat}{a:AV}{v:V}(h:RS G ρ σ)(r:RV G a v):RS G (ρ.set i (some a)) (σ.set i (some v)):=by
 refine⟨by simp[h.1],fun j b e=>?_⟩
 by_cases hj:j=i
 ·subst hj
  rw[List.getElem?_set] at e;rw[List.getElem?_set];simp only[if_true] at e ⊢;split at e
  ·rename_i hl
   cases e;rw[if_pos (h.1 ▸ hl)];exact⟨v,rfl,r⟩
  ·cases e
 ·rw[List.getElem?_set_ne (Ne.symm hj)] at e
  rw[List.getElem?_set_ne (Ne.symm hj)];exact h.2 j b e
theorem br:fF y7 rS:=⟨fun F H ω σ ρ D D' rp rs h k=>k.nx ρ ω σ H rp .refl rs h⟩
theorem aF(h1:fF t t')(h2:fF u u'):fF (BL t u) (yC t' u'):=⟨fun F H ω σ ρ D D' rp rs h k=>
 h1.run F H ω σ ρ _ _ rp rs h ⟨fun ρ1 ω1 σ1 H1 rp1 fr1 rs1 q=>h2.run F H1 ω1 σ1 ρ1 D D' rp1 rs1 q (k.fr fr1),k.rt,k.bk,k.ct⟩⟩
theorem ni(h:aZ te te'):fF (nO te) (ww te'):=⟨fun F H ω σ ρ D D' rp rs w k=>h.go rp rs w fun a ω1 v H1 rp1 fr1 rs1 rv q=>k.nx ρ ω1 σ H1 rp1 fr1 rs1 q⟩
theorem bG(h:aZ te te'):fF (Ca te) (tN te'):=⟨fun F H ω σ ρ D D' rp rs w k=>h.run F H ω σ ρ _ _ rp rs w k.rt⟩
theorem gj(hc:fN tc tc')(h1:fF t t')(h2:fF u u'):fF (Bo tc t u) (xO tc' t' u'):=⟨fun F H ω σ ρ D D' rp rs w k=>
 hc.go rp rs w fun a ω1 v H1 rp1 fr1 rs1 rv q=>by
  cases (show a=v from rv)
  cases a with
  |true=>rw[if_pos rfl] at q ⊢;exact h1.run F H1 ω1 σ ρ D D' rp1 rs1 q (k.fr fr1)
  |false=>rw[if_neg Bool.false_ne_true] at q ⊢;exact h2.run F H1 ω1 σ ρ D D' rp1 rs1 q (k.fr fr1)⟩
theorem aL(h:aZ te te')(hg:jo g g'):fF (um te g) (Bj te' g'):=⟨fun F H ω σ ρ D D' rp rs w k=>h.go rp rs w fun a ω1 v H1 rp1 fr1 rs1 rv q=>
 hg.run F H1 ω1 σ ρ v a _ _ rp1 rs1 rv q (k.nx.fr fr1)⟩
theorem ao{i:Nat}:jo (lU i) (jK i):=⟨fun F H ω σ ρ v a Q Q' rp rs rv w k=>k _ ω _ H rp .refl (rs.set rv) w⟩
theorem y4:oD Dd Ac:=⟨fun F H ω σ ρ vs as Q Q' rp rs rv w k=>by
 obtain⟨rfl,w⟩:=w
 exact⟨rv,k ρ ω σ H rp .refl rs w⟩⟩
theorem jS(h1:jo g g')(h2:oD gs gs'):oD (y8 g gs) (wg g' gs'):=⟨fun F H ω σ ρ vs as Q Q' rp rs rv w k=>by
 obtain⟨a,r,rfl,w⟩:=w;obtain⟨v,us,rfl,rv1,rv2⟩:=rv
 exact⟨v,us,rfl,h1.run F H ω σ ρ v a _ _ rp rs rv1 w fun ρ1 ω1 σ1 H1 rp1 fr1 rs1 q=>h2.run F H1 ω1 σ1 ρ1 us r Q Q' rp1 rs1 (rv2.same fr1.same) q (k.fr fr1)⟩⟩
end
noncomputable def wq(G:Hp)(as:List AV)(J:It):Prop:=∀(F:Fs)(H:Hp)(ω:Om),Rep F H ω->cw G (cut F H ω)->J.stop as.length H /\
 ∀(i:Nat)(a:AV),as[i]?=some a->J.go i H/\∀x H',J.yld i H x H'->Rep F H' ω/\Fr F H ω H' ω/\RV (cut F H' ω) a x
noncomputable abbrev AI:=SA->Om->(List AV->Om->Prop)->Prop
noncomputable abbrev p5(t:TI)(t':AI):Prop:=Ref wq t t'
noncomputable def gH(g:AG)(tb:AS)(D:bC):List AV->SA->Om->Prop
 | [],ρ,ω=>D.nx ρ ω
 |a::as,ρ,ω=>g a ρ ω fun ρ1 ω1=>tb { nx:=gH g tb D as,ct:=gH g tb D as,bk:=D.nx,rt:=D.rt } ρ1 ω1
noncomputable def Cj(wi:AI)(g:AG)(tb:AS):AS:=fun D ρ ω=>wi ρ ω fun as ω1=>gH g tb D as ρ ω1
theorem gz{α:Type}{as:List α}{i:Nat}(h:i<as.length):∃a,as[i]?=some a/\as.drop i=a::as.drop (i+1):=
 ⟨as[i],List.getElem?_eq_getElem h,List.drop_eq_getElem_cons h⟩
theorem pB{wi:TI}{wi':AI}{g:TG}{g':AG}{t:TS}{t':AS}(hi:p5 wi wi')(hg:jo g g')(hb:fF t t'):fF (AM wi g t) (Cj wi' g' t'):=⟨fun F H ω σ ρ D D' rp rs w k=>by
 rw[x6];refine hi.go rp rs w fun as ω1 J H1 rp1 fr1 rs1 it q=>?_;refine⟨fun i m σ2 H2=>m+i=as.length/\∃ρ2 ω2,Rep F H2 ω2/\RS (cut F H2 ω2) ρ2 σ2/\Fr F H1 ω1 H2 ω2/\gH g' t' D' (as.drop i) ρ2 ω2,⟨as.length,rfl,ρ,ω1,rp1,rs1,.refl,q⟩,?_⟩;rintro i m σ2 H2 ⟨hm,ρ2,ω2,rp2,rs2,fr2,q2⟩;obtain⟨stop,go⟩:=it F H2 ω2 rp2 fr2.same;by_cases hl:i<as.length
 ·obtain⟨a,ha,hd⟩:=gz hl
  rw[hd] at q2;obtain⟨g1,y1⟩:=go i a ha;refine .inr ⟨g1,fun σ' H'=>m-1+(i+1)=as.length/\∃ρ' ω',Rep F H' ω'/\RS (cut F H' ω') ρ' σ'/\Fr F H1 ω1 H' ω'/\gH g' t' D' (as.drop (i+1)) ρ' ω',fun σ' H' z=>⟨m-1,by omega,z⟩,fun x H' hy=>?_⟩
  obtain⟨rp3,fr3,rv3⟩:=y1 x H' hy;have fr13:=(fr2.trans fr3);refine hg.run F H' ω2 σ2 ρ2 x a _ _ rp3 (rs2.same fr3.same) rv3 q2 fun ρ4 ω4 σ4 H4 rp4 fr4 rs4 q4=>?_;have k4:=k.fr ((fr1.trans fr13).trans fr4);refine hb.run F H4 ω4 σ4 ρ4 _ _ rp4 rs4 q4 ⟨?_,k4.rt,k4.nx,?_⟩
  ·exact fun ρ' ω' σ' H'' e1 e2 e3 e4=>⟨by omega,ρ',ω',e1,e3,(fr13.trans fr4).trans e2,e4⟩
  ·exact fun ρ' ω' σ' H'' e1 e2 e3 e4=>⟨by omega,ρ',ω',e1,e3,(fr13.trans fr4).trans e2,e4⟩
 ·have hi:i=as.length:=by omega
  subst hi;rw[List.drop_length] at q2
  exact .inl ⟨stop,k.nx ρ2 ω2 σ2 H2 rp2 (fr1.trans fr2) rs2 q2⟩⟩
noncomputable abbrev AL:=List AV->SA->Om->(List AV->SA->Om->Prop)->Prop
structure Fa(l:Addr)(F:Fs)(H:Hp)(ω:Om)(H':Hp)(ω':Om):Prop where
 st:∀b o,ow (ω b)=false->F b=false->H b=some o->H' b=some o/\ow (ω' b)=false
 hd:∀b,F b=true->b≠l->H' b=H b
theorem Fr.fa{l:Addr}{F:Fs}{H H':Hp}{ω ω':Om}(h:Fr F H ω H' ω'):Fa l F H ω H' ω':=⟨h.st,fun b f _=>h.hd b f⟩
theorem Fa.trans{l:Addr}{F:Fs}{H H1 H2:Hp}{ω ω1 ω2:Om}(a:Fa l F H ω H1 ω1)(b:Fa l F H1 ω1 H2 ω2):Fa l F H ω H2 ω2:=
 ⟨fun c o h f e=>let ⟨x,y⟩:=a.st c o h f e;b.st c o y f x,fun c h n=>(b.hd c h n).trans (a.hd c h n)⟩
theorem Fa.same{l:Addr}{F:Fs}{H H':Hp}{ω ω':Om}(a:Fa l F H ω H' ω'):cw (cut F H ω) (cut F H' ω'):=fun b o e=>by
 obtain⟨h,f,e⟩:=ba.mp e;obtain⟨x,y⟩:=a.st b o h f e;exact ba.mpr ⟨y,f,x⟩
noncomputable def LL(l:Addr)(F:Fs)(H:Hp)(ω:Om)(K':List AV->SA->Om->Prop)(K:St->Hp->Prop):Prop:=
 ∀xs vs ρ ω' σ H',Rep F H' ω'->Fa l F H ω H' ω'->RS (cut F H' ω') ρ σ->H' l=some (.lst vs)->RVs (cut F H' ω') xs vs->K' xs ρ ω'->K σ H'
theorem LL.fa{l:Addr}{F:Fs}{H H1:Hp}{ω ω1:Om}{K':List AV->SA->Om->Prop}{K:St->Hp->Prop}(k:LL l F H ω K' K)(f:Fa l F H ω H1 ω1):LL l F H1 ω1 K' K:=
 fun xs vs ρ ω' σ H' e1 e2 e3 e4 e5 e6=>k xs vs ρ ω' σ H' e1 (f.trans e2) e3 e4 e5 e6
structure pU(l:TL)(l':AL):Prop where
 run:∀(F:Fs)(H:Hp)(ω:Om)(σ:St)(ρ:SA)(acc:Addr)(vs:List V)(xs:List AV)(K:St->Hp->Prop)(K':List AV->SA->Om->Prop),Rep F H ω->RS (cut F H ω) ρ σ->F acc=true->H acc=some (.lst vs)->RVs (cut F H ω) xs vs ->
  l' xs ρ ω K'->LL acc F H ω K' K->l acc σ H K
noncomputable def jr:AT:=fun _ ω Q=>Q true ω
noncomputable def lR(te:AE):AL:=fun xs ρ ω K=>te ρ ω fun y ω1=>xs.length<sizeLine/\K (xs++[y]) ρ ω1
noncomputable def ce(g:AG)(tc:AT)(l:AL):List AV->AL
 | [],xs,ρ,ω,K=>K xs ρ ω
 |a::as,xs,ρ,ω,K=>g a ρ ω fun ρ1 ω1=>tc ρ1 ω1 fun b ω2=>if b=true then l xs ρ1 ω2 (fun xs' ρ' ω'=>ce g tc l as xs' ρ' ω' K) else ce g tc l as xs ρ1 ω2 K
noncomputable def zC(wi:AI)(g:AG)(tc:AT)(l:AL):AL:=fun xs ρ ω K=>wi ρ ω fun as ω1=>ce g tc l as xs ρ ω1 K
noncomputable def kT(src:List (Option Nat))(ρ:SA):SA:=src.map fun o=>match o with|none=>none|some j=>(ρ[j]?).join
noncomputable def und:List AV->Option (List D)
 | []=>some []
 |.d x::r=>(und r).map (x::·)
 |_=>none
theorem bj:∀ds:List D,und (ds.map AV.d)=some ds
 | []=>rfl
 |d::ds=>by simp[und,bj ds]
theorem eg:∀ {xs:List AV} {ds:List D},und xs=some ds->xs=ds.map AV.d
 | [],ds,h=>by cases h;rfl
 |.d x::r,ds,h=>by
  simp only[und,Option.map_eq_some_iff] at h;obtain⟨es,e1,rfl⟩:=h;rw[eg e1];rfl
 |.r _::_,_,h=>by simp[und] at h
 |.p _ _::_,_,h=>by simp[und] at h
noncomputable def z7(src:List (Option Nat))(wi:AI)(g:AG)(tc:AT)(l:AL):AE:=fun ρ ω Q=>wi ρ ω fun as ω1=>ce g tc l as [] (kT src ρ) ω1 fun xs _ ω'=>∃ds,und xs=some ds/\Q (.d (.lst ds)) ω'
noncomputable def xv(src:List (Option Nat))(wi:AI)(g:AG)(tc:AT)(l:AL):AE:=fun ρ ω Q=>wi ρ ω fun as ω1=>ce g tc l as [] (kT src ρ) ω1 fun xs _ ω'=>∀p,ω' p=none->Q (.r (.ref p)) (ω'.put p (.own xs))
section
variable{te:TE}{te':AE}{tc:TT}{tc':AT}{g:TG}{g':AG}{wi:TI}{wi':AI}{l:TL}{l':AL}{src:List (Option Nat)}
theorem kj:fN qJ jr:=⟨fun F H ω σ ρ Q Q' rp rs w k=>k true ω true H rp .refl rfl w⟩
theorem du(h:aZ te te'):pU (z9 te) (lR te'):=⟨fun F H ω σ ρ acc vs xs K K' rp rs fa ha rx w k=>by
 refine h.go rp rs w fun y ω1 v H1 rp1 fr1 rs1 rv q=>?_;obtain⟨q1,q2⟩:=q;have ha1:H1 acc=some (.lst vs):=(fr1.hd acc fa).trans ha;obtain⟨rp2,c2⟩:=rp1.hwrite (vs:=vs++[v]) fa;refine⟨vs,ha1,by rw[rx.length];exact q1,k (xs++[y]) (vs++[v]) ρ ω1 σ _ rp2 ?_ ?_ bn ?_ q2⟩
 ·refine fr1.fa.trans ⟨fun b o e1 e2 e3=>⟨?_,e1⟩,fun b f n=>aq n⟩
  have hb:b≠acc:=fun z=>by subst z;rw[fa] at e2;cases e2
  rw[aq hb];exact e3
 ·rw[c2];exact rs1
 ·rw[c2];exact(rx.same fr1.same).append (.one rv)⟩
theorem vy(hg:jo g g')(hc:fN tc tc')(hl:pU l l'){G:Hp}{as:List AV}{J:It}(it:wq G as J){F:Fs}{H:Hp}{ω:Om}{σ:St}{ρ:SA}{acc:Addr}{vs:List V}{xs:List AV}{K:St->Hp->Prop}{K':List AV->SA->Om->Prop}(rp:Rep F H ω)(rs:RS (cut F H ω) ρ σ)(fa:F acc=true)(ha:H acc=some (.lst vs))(rx:RVs (cut F H ω) xs vs)(sG:cw G (cut F H ω))(w:ce g' tc' l' as xs ρ ω K')(k:LL acc F H ω K' K):sR J g tc l acc σ H K:=by
 refine⟨fun i m σ2 H2=>m+i=as.length/\∃ρ2 ω2 vs2 xs2,Rep F H2 ω2/\RS (cut F H2 ω2) ρ2 σ2/\Fa acc F H ω H2 ω2/\H2 acc=some (.lst vs2)/\RVs (cut F H2 ω2) xs2 vs2/\ce g' tc' l' (as.drop i) xs2 ρ2 ω2 K',
  ⟨as.length,rfl,ρ,ω,vs,xs,rp,rs,Fr.refl.fa,ha,rx,w⟩,?_⟩
 rintro i m σ2 H2 ⟨hm,ρ2,ω2,vs2,xs2,rp2,rs2,fr2,ha2,rx2,q2⟩;obtain⟨stop,go⟩:=it F H2 ω2 rp2 (sG.trans fr2.same);by_cases hl':i<as.length
 ·obtain⟨a,hai,hd⟩:=gz hl'
  rw[hd] at q2;obtain⟨g1,y1⟩:=go i a hai;refine .inr ⟨g1,fun x H' hy=>?_⟩;obtain⟨rp3,fr3,rv3⟩:=y1 x H' hy;refine hg.run F H' ω2 σ2 ρ2 x a _ _ rp3 (rs2.same fr3.same) rv3 q2 fun ρ4 ω4 σ4 H4 rp4 fr4 rs4 q4=>?_;refine hc.go rp4 rs4 q4 fun b ω5 b' H5 rp5 fr5 rs5 rb q5=>?_;cases (show b=b' from rb)
  have fr25:Fr F H2 ω2 H5 ω5:=(fr3.trans fr4).trans fr5;have ha5:H5 acc=some (.lst vs2):=(fr25.hd acc fa).trans ha2;have rx5:=rx2.same fr25.same
  cases b with
  |true=>
   rw[if_pos rfl] at q5 ⊢;refine hl.run F H5 ω5 σ4 ρ4 acc vs2 xs2 _ _ rp5 rs5 fa ha5 rx5 q5 fun xs6 vs6 ρ6 ω6 σ6 H6 e1 e2 e3 e4 e5 e6=>?_;exact⟨m-1,by omega,by omega,ρ6,ω6,vs6,xs6,e1,e3,(fr2.trans fr25.fa).trans e2,e4,e5,e6⟩
  |false=>
   rw[if_neg Bool.false_ne_true] at q5 ⊢;exact⟨m-1,by omega,by omega,ρ4,ω5,vs2,xs2,rp5,rs5,fr2.trans fr25.fa,ha5,rx5,q5⟩
 ·have hi:i=as.length:=by omega
  subst hi;rw[List.drop_length] at q2;exact .inl ⟨stop,k xs2 vs2 ρ2 ω2 σ2 H2 rp2 fr2 rs2 ha2 rx2 q2⟩
theorem Dj(hi:p5 wi wi')(hg:jo g g')(hc:fN tc tc')(hl:pU l l'):pU (Co wi g tc l) (zC wi' g' tc' l'):=⟨fun F H ω σ ρ acc vs xs K K' rp rs fa ha rx w k=>
 hi.go rp rs w fun as ω1 J H1 rp1 fr1 rs1 it q=>vy hg hc hl it rp1 rs1 fa ((fr1.hd acc fa).trans ha) (rx.same fr1.same) (cw.refl _) q (k.fa fr1.fa)⟩
theorem RS.blk{G:Hp}{ρ:SA}{σ:St}(h:RS G ρ σ):RS G (kT src ρ) (oE src σ):=by
 refine⟨by simp[kT,oE],fun i a e=>?_⟩
 unfold kT at e;unfold oE;rw[List.getElem?_map] at e ⊢
 cases q:src[i]? with
 |none=>rw[q] at e;simp at e
 |some o=>
  rw[q] at e
  cases o with
  |none=>simp at e
  |some j=>
   simp only[Option.map_some,Option.some.injEq] at e ⊢
   have e':ρ[j]?=some (some a):=by
    cases z:ρ[j]? with
    |none=>rw[z] at e;simp at e
    |some y=>rw[z] at e;simp at e;rw[e]
   obtain⟨v,e1,e2⟩:=h.2 j a e';exact⟨v,by rw[e1];rfl,e2⟩
theorem qY(hi:p5 wi wi')(hg:jo g g')(hc:fN tc tc')(hl:pU l l'){F:Fs}{H:Hp}{ω:Om}{σ:St}{ρ:SA}{Q:VK}{K':List AV->SA->Om->Prop}(rp:Rep F H ω)(rs:RS (cut F H ω) ρ σ)(w:wi' ρ ω fun as ω1=>ce g' tc' l' as [] (kT src ρ) ω1 K')(k:∀p xs vs ρ' ω' H',F p=false->(∀b o,ow (ω b)=false->F b=false->H b=some o->b≠p)->Rep (F.add p) H' ω'->Fr F H ω H' ω'->H' p=some (.lst vs)->RVs (cut (F.add p) H' ω') xs vs->K' xs ρ' ω'->Q (.ref p) H'):lP src wi g tc l σ H Q:=by
 refine hi.go rp rs w fun as ω1 J H1 rp1 fr1 rs1 it q=>fun acc hacc=>?_;obtain⟨rp2,c2⟩:=rp1.hide (vs:=[]) hacc;obtain⟨f1,f2⟩:=rp1.free hacc;have hb1:∀b,b≠acc->F b=false->(F.add acc) b=false:=fun b h f=>by simp[Fs.add,h,f]
 have hne:∀b o,ow (ω b)=false->F b=false->H b=some o->b≠acc:=fun b o h f e=>aN (fr1.st b o h f e).1 hacc;refine vy (xs:=[]) hg hc hl it rp2 (by rw[c2];exact rs1.blk) (by simp[Fs.add]) bn rfl (by rw[c2];exact cw.refl _) q fun xs vs ρ' ω' σ' H' e1 e2 e3 e4 e5 e6=>?_
 refine k acc xs vs ρ' ω' H' f2 hne e1 ⟨fun b o h f e=>?_,fun b f=>?_⟩ e4 e5 e6
 ·obtain⟨x,y⟩:=fr1.st b o h f e
  have hb:=hne b o h f e;exact e2.st b o y (hb1 b hb f) (by rw[aq hb];exact x)
 ·have hb:b≠acc:=fun z=>by subst z;rw[f] at f2;cases f2
  rw[e2.hd b (by simp[Fs.add,f]) hb,aq hb,fr1.hd b f]
theorem d6(hi:p5 wi wi')(hg:jo g g')(hc:fN tc tc')(hl:pU l l'):aZ (lP src wi g tc l) (z7 src wi' g' tc' l'):=⟨fun F H ω σ ρ Q Q' rp rs w k=>by
 refine qY hi hg hc hl rp rs w fun p xs vs ρ' ω' H' f hne rp1 fr1 e1 e2 q=>?_;obtain⟨ds,hu,q⟩:=q;cases eg hu;obtain⟨rp2,sm,hp⟩:=rp1.unhide f e1;refine k (.d (.lst ds)) ω' _ H' rp2 fr1 ?_ q;simp only[RV,Dat]
 exact⟨p,vs,rfl,hp,RVs.dats.mp (e2.same sm)⟩⟩
theorem ya(hi:p5 wi wi')(hg:jo g g')(hc:fN tc tc')(hl:pU l l'):aZ (lP src wi g tc l) (xv src wi' g' tc' l'):=⟨fun F H ω σ ρ Q Q' rp rs w k=>by
 refine qY hi hg hc hl rp rs w fun p xs vs ρ' ω' H' f hne rp1 fr1 e1 e2 q=>?_;have hp:ω' p=none:=(rp1.hid p (by simp[Fs.add])).1
 obtain⟨rp2,sm⟩:=rp1.En f e1 e2;refine k (.r (.ref p)) (ω'.put p (.own xs)) _ H' rp2 ⟨fun b o h f e=>?_,fr1.hd⟩ rfl (q p hp);obtain⟨x,y⟩:=fr1.st b o h f e;rw[Om.D2 (hne b o h f e)]
 exact⟨x,y⟩⟩
end
noncomputable def bg(ω:Om):AV->Option D
 |.d x=>some x
 |.r (.ref l)=>match ω l with
  |some (.own xs)=>(und xs).map D.lst
  |some (.frz ds)=>some (.lst ds)
  |_=>none
 |_=>none
noncomputable def c8(ω:Om):AV->Option (List AV)
 |.d (.lst ds)=>some (ds.map AV.d)
 |.r (.ref l)=>match ω l with
  |some (.own xs)=>some xs
  |some (.frz ds)=>some (ds.map AV.d)
  |_=>none
 |_=>none
noncomputable def fZ:AV->Option (List AV)
 |.d (.tup ds)=>some (ds.map AV.d)
 |_=>none
noncomputable def oZ(ω:Om)(x:AV)(K:D->Om->Prop):Prop:=match x with
 |.d x=>K x ω
 |.r (.ref l)=>match ω l with
  |some (.own xs)=>∃ds,und xs=some ds/\K (.lst ds) (ω.put l (.frz ds))
  |some (.frz ds)=>K (.lst ds) ω
  |_=>False
 |_=>False
section
variable{F:Fs}{H:Hp}{ω:Om}{x:AV}{v:V}
theorem ko(rp:Rep F H ω)(rv:RV (cut F H ω) x v){xs:List AV}(h:c8 ω x=some xs):∃a vs,v=.ref a/\H a=some (.lst vs)/\RVs (cut F H ω) xs vs:=by
 cases x with
 |d x=>cases x with
  |lst ds=>
   simp only[c8,Option.some.injEq] at h;subst h;simp only[RV,Dat] at rv;obtain⟨a,vs,rfl,e1,e2⟩:=rv;exact⟨a,vs,rfl,aK _ _ e1,RVs.dats.mpr e2⟩
  |_=>simp[c8] at h
 |p u P=>simp[c8] at h
 |r u=>
  cases (show v=u from rv)
  cases v with
  |ref l=>
   simp only[c8] at h
   cases e:ω l with
   |none=>rw[e] at h;simp at h
   |some c=>
    rw[e] at h
    cases c with
    |own ys=>
     simp only[Option.some.injEq] at h;subst h;obtain⟨vs,e1,e2⟩:=rp.own l _ e;exact⟨l,vs,rfl,e1,e2⟩
    |frz ds=>
     simp only[Option.some.injEq] at h;subst h;have q:=rp.frz l ds e;simp only[Dat] at q;obtain⟨a,vs,e1,e2,e3⟩:=q;cases e1;exact⟨l,vs,rfl,aK _ _ e2,RVs.dats.mpr e3⟩
    |dic ks=>simp at h
  |_=>simp[c8] at h
theorem u6(rv:RV (cut F H ω) x v){xs:List AV}(h:fZ x=some xs):∃a vs,v=.ref a/\cut F H ω a=some (.tup vs)/\RVs (cut F H ω) xs vs:=by
 cases x with
 |d x=>cases x with
  |tup ds=>
   simp only[fZ,Option.some.injEq] at h;subst h;simp only[RV,Dat] at rv;obtain⟨a,vs,rfl,e1,e2⟩:=rv;exact⟨a,vs,rfl,e1,RVs.dats.mpr e2⟩
  |_=>simp[fZ] at h
 |p u P=>simp[fZ] at h
 |r u=>simp[fZ] at h
theorem fy(rp:Rep F H ω)(rv:RV (cut F H ω) x v){d:D}(h:bg ω x=some d):Dat H d v:=by
 cases x with
 |d x=>
  simp only[bg,Option.some.injEq] at h;subst h;exact Dat.same aK rv
 |p u P=>simp[bg] at h
 |r u=>
  cases (show v=u from rv)
  cases v with
  |ref l=>
   simp only[bg] at h
   cases e:ω l with
   |none=>rw[e] at h;simp at h
   |some c=>
    rw[e] at h
    cases c with
    |own ys=>
     simp only[Option.map_eq_some_iff] at h;obtain⟨ds,h1,rfl⟩:=h;cases eg h1;obtain⟨vs,e1,e2⟩:=rp.own l _ e;simp only[Dat];exact⟨l,vs,rfl,e1,(RVs.dats.mp e2).same aK⟩
    |frz ds=>
     simp only[Option.some.injEq] at h;subst h;exact(rp.frz l ds e).same aK
    |dic ks=>simp at h
  |_=>simp[bg] at h
theorem dC(rp:Rep F H ω)(rv:RV (cut F H ω) x v){ds:List D}(h:bg ω x=some (.lst ds)):∃a vs,v=.ref a/\H a=some (.lst vs)/\aw (cut F H ω) ds vs:=by
 have:c8 ω x=some (ds.map AV.d):=by
  cases x with
  |d x=>simp only[bg,Option.some.injEq] at h;subst h;rfl
  |p u P=>simp[bg] at h
  |r u=>cases u with
   |ref l=>
    simp only[bg] at h;simp only[c8]
    cases e:ω l with
    |none=>rw[e] at h;simp at h
    |some c=>
     rw[e] at h
     cases c with
     |own ys=>
      simp only[Option.map_eq_some_iff] at h;obtain⟨es,h1,h2⟩:=h;cases h2;rw[eg h1]
     |frz es=>simp only[Option.some.injEq] at h;cases h;rfl
     |dic ks=>simp at h
   |_=>simp[bg] at h
 obtain⟨a,vs,e1,e2,e3⟩:=ko rp rv this;exact⟨a,vs,e1,e2,RVs.dats.mp e3⟩
theorem wf(rp:Rep F H ω)(rv:RV (cut F H ω) x v){K:D->Om->Prop}(h:oZ ω x K):∃d ω',Rep F H ω'/\Fr F H ω H ω'/\Dat (cut F H ω') d v/\K d ω':=by
 cases x with
 |d x=>exact⟨x,ω,rp,.refl,rv,h⟩
 |p u P=>exact h.elim
 |r u=>
  cases (show v=u from rv)
  cases v with
  |ref l=>
   simp only[oZ] at h
   cases e:ω l with
   |none=>rw[e] at h;exact h.elim
   |some c=>
    rw[e] at h
    cases c with
    |own ys=>
     obtain⟨ds,h1,h2⟩:=h;cases eg h1;obtain⟨q1,q2,q3⟩:=rp.freeze e;exact⟨_,_,q1,q2,q3,h2⟩
    |frz ds=>exact⟨_,_,rp,.refl,rp.frz l ds e,h⟩
    |dic ks=>exact h.elim
  |_=>exact h.elim
end
noncomputable abbrev A2:=AV->AV->Om->(AV->Om->Prop)->Prop
structure fC(r:R2)(r':A2):Prop where
 run:∀(F:Fs)(H:Hp)(ω:Om)(v u:V)(x y:AV)(Q:VK)(Q':AV->Om->Prop),Rep F H ω->RV (cut F H ω) x v->RV (cut F H ω) y u->r' x y ω Q'->LP RV F H ω Q' Q->r v u H Q
structure B7(r:V->Hp->VK->Prop)(r':AV->Om->(AV->Om->Prop)->Prop):Prop where
 run:∀(F:Fs)(H:Hp)(ω:Om)(v:V)(x:AV)(Q:VK)(Q':AV->Om->Prop),Rep F H ω->RV (cut F H ω) x v->r' x ω Q'->LP RV F H ω Q' Q->r v H Q
structure iA(r:List V->Hp->VK->Prop)(r':List AV->Om->(AV->Om->Prop)->Prop):Prop where
 run:∀(F:Fs)(H:Hp)(ω:Om)(vs:List V)(xs:List AV)(Q:VK)(Q':AV->Om->Prop),Rep F H ω->RVs (cut F H ω) xs vs->r' xs ω Q'->LP RV F H ω Q' Q->r vs H Q
noncomputable def gE(i:Nat):AE:=fun ρ ω Q=>∃a,ρ[i]?=some (some a)/\Q a ω
noncomputable def gG(i:Nat):AE:=fun ρ ω Q=>∃a,ρ[i]?=some (some a)/\oZ ω a fun d ω'=>Q (.d d) ω'
noncomputable def aC(d:D):AE:=fun _ ω Q=>Q (.d d) ω
noncomputable def aOp(r:A2)(ta tb:AE):AE:=fun ρ ω Q=>ta ρ ω fun x ω1=>tb ρ ω1 fun y ω2=>r x y ω2 Q
noncomputable def aUn(r:AV->Om->(AV->Om->Prop)->Prop)(ta:AE):AE:=fun ρ ω Q=>ta ρ ω fun x ω1=>r x ω1 Q
noncomputable def i0:AA:=fun _ ω Q=>Q [] ω
noncomputable def bP(ta:AE)(tr:AA):AA:=fun ρ ω Q=>ta ρ ω fun x ω1=>tr ρ ω1 fun xs ω2=>Q (x::xs) ω2
noncomputable def uD(t:AA):AE:=fun ρ ω Q=>t ρ ω fun xs ω1=>xs.length<=sizeLine/\∃ds,und xs=some ds/\Q (.d (.tup ds)) ω1
noncomputable def CP(t:AA):AE:=fun ρ ω Q=>t ρ ω fun xs ω1=>xs.length<=sizeLine/\∃ds,und xs=some ds/\Q (.d (.lst ds)) ω1
noncomputable def zI(t:AA):AE:=fun ρ ω Q=>t ρ ω fun xs ω1=>xs.length<=sizeLine/\∀p,ω1 p=none->Q (.r (.ref p)) (ω1.put p (.own xs))
noncomputable def no(sp:ASp)(t:AA):AE:=fun ρ ω Q=>t ρ ω fun xs ω1=>sp xs ω1 Q
noncomputable def aCB(r:List AV->Om->(AV->Om->Prop)->Prop)(t:AA):AE:=fun ρ ω Q=>t ρ ω fun xs ω1=>r xs ω1 Q
noncomputable def oG(t:AE):AT:=fun ρ ω Q=>t ρ ω fun x ω1=>∃k,x=.d (.bl k)/\Q k ω1
noncomputable def Bf(t u:AT):AT:=fun ρ ω Q=>t ρ ω fun c ω1=>if c=true then u ρ ω1 Q else Q false ω1
noncomputable def aOr(t u:AT):AT:=fun ρ ω Q=>t ρ ω fun c ω1=>if c=true then Q true ω1 else u ρ ω1 Q
noncomputable def CZ(t:AT):AT:=fun ρ ω Q=>t ρ ω fun c ω1=>Q (!c) ω1
section
variable{ta tb tc:TE}{ta' tb' tc':AE}{t u:TT}{t' u':AT}{r r2:R2}{r' r2':A2}{s:TA}{s':AA}
theorem ae{i:Nat}:aZ (wN i) (gE i):=⟨fun F H ω σ ρ Q Q' rp rs h k=>by
 obtain⟨a,e,q⟩:=h;obtain⟨v,e1,e2⟩:=rs.2 i a e
 exact⟨v,e1,k a ω v H rp .refl e2 q⟩⟩
theorem gc{i:Nat}:aZ (wN i) (gG i):=⟨fun F H ω σ ρ Q Q' rp rs h k=>by
 obtain⟨a,e,q⟩:=h;obtain⟨v,e1,e2⟩:=rs.2 i a e;obtain⟨d,ω',q1,q2,q3,q4⟩:=wf rp e2 q
 exact⟨v,e1,k (.d d) ω' v H q1 q2 q3 q4⟩⟩
theorem ak{i:Int}:aZ (tC (.int i)) (aC (.int i)):=⟨fun F H ω σ ρ Q Q' rp rs h k=>k _ ω _ H rp .refl (by simp[RV,Dat]) h⟩
theorem er{x:Str}:aZ (tC (.str x)) (aC (.str x)):=⟨fun F H ω σ ρ Q Q' rp rs h k=>k _ ω _ H rp .refl (by simp[RV,Dat]) h⟩
theorem iJ{b:Bool}:aZ (tC (.bl b)) (aC (.bl b)):=⟨fun F H ω σ ρ Q Q' rp rs h k=>k _ ω _ H rp .refl (by simp[RV,Dat]) h⟩
theorem lD:aZ (tC .non) (aC .non):=⟨fun F H ω σ ρ Q Q' rp rs h k=>k _ ω _ H rp .refl (by simp[RV,Dat]) h⟩
noncomputable def BA(v:V):AE:=fun _ ω Q=>Q (.r v) ω
theorem dm{v:V}:aZ (tC v) (BA v):=⟨fun F H ω σ ρ Q Q' rp rs h k=>k (.r v) ω _ H rp .refl rfl h⟩
theorem ax(h2:fC r r')(ha:aZ ta ta')(hb:aZ tb tb'):aZ (tOp r ta tb) (aOp r' ta' tb'):=⟨fun F H ω σ ρ Q Q' rp rs h k=>
 ha.go rp rs h fun x ω1 v H1 rp1 fr1 rs1 rv1 q1=>hb.go rp1 rs1 q1 fun y ω2 u H2 rp2 fr2 rs2 rv2 q2=>h2.run F H2 ω2 v u x y Q Q' rp2 (rv1.same fr2.same) rv2 q2 (k.fr (fr1.trans fr2))⟩
theorem yd{r:V->Hp->VK->Prop}{r':AV->Om->(AV->Om->Prop)->Prop}(h2:B7 r r')(ha:aZ ta ta'):aZ (tUn r ta) (aUn r' ta'):=⟨fun F H ω σ ρ Q Q' rp rs h k=>
 ha.go rp rs h fun x ω1 v H1 rp1 fr1 rs1 rv1 q1=>h2.run F H1 ω1 v x Q Q' rp1 rv1 q1 (k.fr fr1)⟩
theorem ag:fP xU i0:=⟨fun F H ω σ ρ Q Q' rp rs h k=>k [] ω _ H rp .refl rfl h⟩
theorem aa(ha:aZ ta ta')(hs:fP s s'):fP (ic ta s) (bP ta' s'):=⟨fun F H ω σ ρ Q Q' rp rs h k=>
 ha.go rp rs h fun x ω1 v H1 rp1 fr1 rs1 rv1 q1=>hs.go rp1 rs1 q1 fun y ω2 u H2 rp2 fr2 rs2 rv2 q2=>k (x::y) ω2 (v::u) H2 rp2 (fr1.trans fr2) ⟨v,u,rfl,rv1.same fr2.same,rv2⟩ q2⟩
theorem cb(hs:fP s s'):aZ (yQ s) (uD s'):=⟨fun F H ω σ ρ Q Q' rp rs h k=>
 hs.go rp rs h fun xs ω1 vs H1 rp1 fr1 rs1 rv1 ⟨z,ds,hu,q1⟩=>⟨by rw[rv1.length];exact z,fun p hp=>by
  cases eg hu;obtain⟨rp2,fr2,hc⟩:=rp1.lay (o:=.tup vs) hp;refine k _ ω1 _ _ rp2 (fr1.trans fr2) ?_ q1;simp only[RV,Dat]
  exact⟨p,vs,rfl,hc,(RVs.dats.mp rv1).same fr2.same⟩⟩⟩
theorem ef(hs:fP s s'):aZ (A1 s) (CP s'):=⟨fun F H ω σ ρ Q Q' rp rs h k=>
 hs.go rp rs h fun xs ω1 vs H1 rp1 fr1 rs1 rv1 ⟨z,ds,hu,q1⟩=>⟨by rw[rv1.length];exact z,fun p hp=>by
  cases eg hu;obtain⟨rp2,fr2,hc⟩:=rp1.lay (o:=.lst vs) hp;refine k _ ω1 _ _ rp2 (fr1.trans fr2) ?_ q1;simp only[RV,Dat]
  exact⟨p,vs,rfl,hc,(RVs.dats.mp rv1).same fr2.same⟩⟩⟩
theorem iH(hs:fP s s'):aZ (A1 s) (zI s'):=⟨fun F H ω σ ρ Q Q' rp rs h k=>
 hs.go rp rs h fun xs ω1 vs H1 rp1 fr1 rs1 rv1 ⟨z,q1⟩=>⟨by rw[rv1.length];exact z,fun p hp=>by
  obtain⟨rp2,fr2⟩:=rp1.mk' (vs:=vs) hp rv1
  exact k (.r (.ref p)) _ _ _ rp2 (fr1.trans fr2) rfl (q1 p (rp1.free hp).1)⟩⟩
theorem aG{sp:ASp}{E:XK}(hs:fP s s'):aZ (lX (dY sp) [] E s) (no sp s'):=⟨fun F H ω σ ρ Q Q' rp rs h k=>
 hs.go rp rs h fun xs ω1 vs H1 rp1 fr1 rs1 rv1 q=>⟨F,xs,ω1,Q',rp1,by rw[List.append_nil];exact rv1,q,k.fr fr1⟩⟩
theorem bf{r:List V->Hp->VK->Prop}{r':List AV->Om->(AV->Om->Prop)->Prop}(hr:iA r r')(hs:fP s s'):aZ (tCB r s) (aCB r' s'):=⟨fun F H ω σ ρ Q Q' rp rs h k=>
 hs.go rp rs h fun xs ω1 vs H1 rp1 fr1 rs1 rv1 q=>hr.run F H1 ω1 vs xs Q Q' rp1 rv1 q (k.fr fr1)⟩
theorem bT(ha:aZ ta ta'):fN (zq ta) (oG ta'):=⟨fun F H ω σ ρ Q Q' rp rs h k=>
 ha.go rp rs h fun x ω1 v H1 rp1 fr1 rs1 rv1 ⟨c,e,q⟩=>by subst e;exact⟨c,by simpa[RV,Dat] using rv1,k c ω1 c H1 rp1 fr1 rfl q⟩⟩
theorem vw(h1:fN t t')(h2:fN u u'):fN (CT t u) (Bf t' u'):=⟨fun F H ω σ ρ Q Q' rp rs h k=>
 h1.go rp rs h fun c ω1 c' H1 rp1 fr1 rs1 rv1 q=>by
  cases (show c=c' from rv1)
  cases c with
  |true=>rw[if_pos rfl] at q ⊢;exact h2.run F H1 ω1 σ ρ Q Q' rp1 rs1 q (k.fr fr1)
  |false=>rw[if_neg Bool.false_ne_true] at q ⊢;exact k false ω1 false H1 rp1 fr1 rfl q⟩
theorem xl(h1:fN t t')(h2:fN u u'):fN (tOr t u) (aOr t' u'):=⟨fun F H ω σ ρ Q Q' rp rs h k=>
 h1.go rp rs h fun c ω1 c' H1 rp1 fr1 rs1 rv1 q=>by
  cases (show c=c' from rv1)
  cases c with
  |true=>rw[if_pos rfl] at q ⊢;exact k true ω1 true H1 rp1 fr1 rfl q
  |false=>rw[if_neg Bool.false_ne_true] at q ⊢;exact h2.run F H1 ω1 σ ρ Q Q' rp1 rs1 q (k.fr fr1)⟩
theorem gm(h1:fN t t'):fN (B3 t) (CZ t'):=⟨fun F H ω σ ρ Q Q' rp rs h k=>
 h1.go rp rs h fun c ω1 c' H1 rp1 fr1 rs1 rv1 q=>by
  cases (show c=c' from rv1)
  exact k _ ω1 _ H1 rp1 fr1 rfl q⟩
theorem xp{G:Hp}{c:Bool}{v:V}(h:RV G (.d (.bl c)) v):v=.bl c:=by simpa[RV,Dat] using h
noncomputable def fQ(ω:Om)(x:AV):Option Bool:=match x with
 |.d .non=>some false
 |.d (.bl b)=>some b
 |.d (.int i)=>some (i != 0)
 |.d (.tup ds)=>some (!ds.isEmpty)
 |x=>(c8 ω x).map fun xs=>!xs.isEmpty
noncomputable def BE(ta:AE):AT:=fun ρ ω Q=>ta ρ ω fun x ω1=>∃k,fQ ω1 x=some k/\Q k ω1
theorem i8{α β:Type}{xs:List α}{ys:List β}(h:xs.length=ys.length):xs.isEmpty=ys.isEmpty:=by
 cases xs<;>cases ys<;>simp_all
theorem p9{K:W.Frag}{F:Fs}{H1:Hp}{ω1:Om}{x:AV}{v:V}{c:Bool}(rp1:Rep F H1 ω1)(rv1:RV (cut F H1 ω1) x v)(e:fQ ω1 x=some c):nI K v H1 c:=by
  have ls:∀ {xs:List AV},c8 ω1 x=some xs->c=(!xs.isEmpty)->nI K v H1 c:=fun {xs} e1 e2=>by
   obtain⟨a,vs,rfl,e3,e4⟩:=ko rp1 rv1 e1;exact .inl ⟨vs,.inl (.inl e3),by rw[e2,i8 e4.length.symm]⟩
  cases x with
  |d x=>cases x with
   |non=>simp only[fQ,Option.some.injEq] at e;simp only[RV,Dat] at rv1;subst rv1;exact e.symm
   |bl b=>simp only[fQ,Option.some.injEq] at e;simp only[RV,Dat] at rv1;subst rv1;exact e.symm
   |int b=>simp only[fQ,Option.some.injEq] at e;simp only[RV,Dat] at rv1;subst rv1;exact e.symm
   |str b=>simp[fQ,c8] at e
   |dk b=>simp[fQ,c8] at e
   |dt b=>simp[fQ,c8] at e
   |tup ds=>
    simp only[fQ,Option.some.injEq] at e;simp only[RV,Dat] at rv1;obtain⟨a,vs,rfl,e1,e2⟩:=rv1;exact .inr (.inl ⟨vs,.inl (.inl (aK _ _ e1)),by rw[←e,i8 e2.length]⟩)
   |lst ds=>
    simp only[fQ,Option.map_eq_some_iff] at e;obtain⟨xs,e1,e2⟩:=e;exact ls e1 e2.symm
  |r u=>
   simp only[fQ,Option.map_eq_some_iff] at e;obtain⟨xs,e1,e2⟩:=e;exact ls e1 e2.symm
  |p u P=>simp[fQ,c8] at e
theorem ei{K:W.Frag}(ha:aZ ta ta'):fN (fun σ H Q=>ta σ H fun x H'=>∃k,nI K x H' k/\Q k H') (BE ta'):=⟨fun F H ω σ ρ Q Q' rp rs h k=>
 ha.go rp rs h fun x ω1 v H1 rp1 fr1 rs1 rv1 ⟨c,e,q⟩=>⟨c,p9 rp1 rv1 e,k c ω1 c H1 rp1 fr1 rfl q⟩⟩
end
noncomputable def aI0(f:Int->Int->D):A2:=fun x y ω Q=>∃i j,x=.d (.int i)/\y=.d (.int j)/\Q (.d (f i j)) ω
noncomputable def aI(C:Int->Int->Prop)(f:Int->Int->D):A2:=fun x y ω Q=>∃i j,x=.d (.int i)/\y=.d (.int j)/\C i j/\Q (.d (f i j)) ω
noncomputable def aU(f:Int->D):AV->Om->(AV->Om->Prop)->Prop:=fun x ω Q=>∃i,x=.d (.int i)/\Q (.d (f i)) ω
section
variable{F:Fs}{H:Hp}{ω:Om}{Q:VK}{Q':AV->Om->Prop}
theorem LP.int(k:LP RV F H ω Q' Q)(rp:Rep F H ω){i:Int}(q:Q' (.d (.int i)) ω):Q (.int i) H:=k (.d (.int i)) ω _ H rp .refl (by simp[RV,Dat]) q
theorem LP.bl(k:LP RV F H ω Q' Q)(rp:Rep F H ω){i:Bool}(q:Q' (.d (.bl i)) ω):Q (.bl i) H:=k (.d (.bl i)) ω _ H rp .refl (by simp[RV,Dat]) q
theorem LP.str(k:LP RV F H ω Q' Q)(rp:Rep F H ω){i:Str}(q:Q' (.d (.str i)) ω):Q (.str i) H:=k (.d (.str i)) ω _ H rp .refl (by simp[RV,Dat]) q
theorem bc{G:Hp}{i:Int}{v:V}(h:RV G (.d (.int i)) v):v=.int i:=by simpa[RV,Dat] using h
theorem AZ{G:Hp}{v:V}(h:RV G (.d .non) v):v=.non:=by simpa[RV,Dat] using h
theorem LP.tup(k:LP RV F H ω Q' Q)(rp:Rep F H ω){ds:List D}{vs:List V}(hd:aw (cut F H ω) ds vs)(q:Q' (.d (.tup ds)) ω):∀p,H p=none->Q (.ref p) (upd H p (.tup vs)):=fun p hp=>by
 obtain⟨rp2,fr2,hc⟩:=rp.lay (o:=.tup vs) hp;refine k (.d (.tup ds)) ω _ _ rp2 fr2 ?_ q;simp only[RV,Dat];exact⟨p,vs,rfl,hc,hd.same fr2.same⟩
theorem LP.lst(k:LP RV F H ω Q' Q)(rp:Rep F H ω){ds:List D}{vs:List V}(hd:aw (cut F H ω) ds vs)(q:Q' (.d (.lst ds)) ω):∀p,H p=none->Q (.ref p) (upd H p (.lst vs)):=fun p hp=>by
 obtain⟨rp2,fr2,hc⟩:=rp.lay (o:=.lst vs) hp;refine k (.d (.lst ds)) ω _ _ rp2 fr2 ?_ q;simp only[RV,Dat];exact⟨p,vs,rfl,hc,hd.same fr2.same⟩
theorem LP.own(k:LP RV F H ω Q' Q)(rp:Rep F H ω){xs:List AV}{vs:List V}(hd:RVs (cut F H ω) xs vs)(q:∀p,ω p=none->Q' (.r (.ref p)) (ω.put p (.own xs))):∀p,H p=none->Q (.ref p) (upd H p (.lst vs)):=fun p hp=>by
 obtain⟨rp2,fr2⟩:=rp.mk' (vs:=vs) hp hd;exact k (.r (.ref p)) _ _ _ rp2 fr2 rfl (q p (rp.free hp).1)
end
theorem pG{f:Int->Int->Int}:fC (rI0 fun i j=>.int (f i j)) (aI0 fun i j=>.int (f i j)):=⟨fun F H ω v u x y Q Q' rp h1 h2 ⟨i,j,e1,e2,q⟩ k=>by
 subst e1 e2;exact⟨i,j,bc h1,bc h2,k.int rp q⟩⟩
theorem j4{f:Int->Int->Bool}:fC (rI0 fun i j=>.bl (f i j)) (aI0 fun i j=>.bl (f i j)):=⟨fun F H ω v u x y Q Q' rp h1 h2 ⟨i,j,e1,e2,q⟩ k=>by
 subst e1 e2;exact⟨i,j,bc h1,bc h2,k.bl rp q⟩⟩
theorem gS{C:Int->Int->Prop}{f:Int->Int->Int}:fC (rI C fun i j=>.int (f i j)) (aI C fun i j=>.int (f i j)):=⟨fun F H ω v u x y Q Q' rp h1 h2 ⟨i,j,e1,e2,c,q⟩ k=>by
 subst e1 e2;exact⟨i,j,bc h1,bc h2,c,k.int rp q⟩⟩
theorem u_i{f:Int->Int}:B7 (rU fun i=>.int (f i)) (aU fun i=>.int (f i)):=⟨fun F H ω v x Q Q' rp h1 ⟨i,e1,q⟩ k=>by
 subst e1;exact⟨i,bc h1,k.int rp q⟩⟩
noncomputable def vS(neg:Bool):A2:=fun x y ω Q=>∃a b,bg ω x=some a/\bg ω y=some b/\dep a<=100/\Q (.d (.bl (if neg then !eqD a b else eqD a b))) ω
theorem dj{neg:Bool}:fC (BY neg) (vS neg):=⟨fun F H ω v u x y Q Q' rp h1 h2 ⟨a,b,e1,e2,s,q⟩ k=>⟨a,b,fy rp h1 e1,fy rp h2 e2,s,k.bl rp q⟩⟩
noncomputable def aIn(neg:Bool):A2:=fun x y ω Q=>∃a b ds,bg ω x=some a/\bg ω y=some b/\(b=.lst ds\/b=.tup ds)/\dw ds<=90/\Q (.d (.bl (if neg then !inD a ds else inD a ds))) ω
theorem DJ{neg:Bool}:fC (C6 neg) (aIn neg):=⟨fun F H ω v u x y Q Q' rp h1 h2 ⟨a,b,ds,e1,e2,e3,s,q⟩ k=>⟨a,ds,fy rp h1 e1,by
 have:=fy rp h2 e2;rcases e3 with rfl|rfl
 ·exact .inl this
 ·exact .inr this,s,k.bl rp q⟩⟩
noncomputable def Dx:A2:=fun x y ω Q=>∃ds es,x=.d (.tup ds)/\y=.d (.tup es)/\ds.length+es.length<=sizeLine/\Q (.d (.tup (ds++es))) ω
noncomputable def sE:R2:=fun x y H Q=>∃a b xs ys,x=.ref a/\y=.ref b/\H a=some (.tup xs)/\H b=some (.tup ys)/\xs.length+ys.length<=sizeLine /\
 (xs=[]->Q (.ref b) H)/\(ys=[]->Q (.ref a) H)/\∀p,H p=none->Q (.ref p) (upd H p (.tup (xs++ys)))
theorem aJ{X:Cx}:OpR X (binaryOp .Add) sE:=by
 intro pins s σ H x y v u Q I rx ry h;obtain⟨a,b,xs,ys,rfl,rfl,ha,hb,hz,g1,g2,g3⟩:=h;by_cases hn:xs=[]
 ·subst hn
  cases rx;cases ry;obtain⟨its,r1,ht⟩:=eB I ha;obtain⟨its2,r2,hb2⟩:=eB I hb;cases r1;obtain⟨⟨cls,dd,data,sl⟩,ho,hc,n,hd⟩:=id ht;obtain⟨⟨cls2,dd2,data2,sl2⟩,ho2,hc2,n2,hd2⟩:=id hb2;simp only at hc hd hc2 hd2;subst hc hd hc2 hd2
  exact concat_meets ⟨_,ho,rfl⟩ ⟨_,ho2,rfl⟩ noFill_tuple_add seq_tuple_add PySem.F.slot_tuple_add PySem.F.entry_tuple_add (PySem.F.args_tuple_add_2 _ _)
   (tuple_addW0 a b _ _ n n2 dd dd2 sl sl2 (by simp)) ⟨ho,ho2,⟨.ref b,H,I,rfl,g1 rfl⟩⟩
 ·exact xS pins s σ H (.ref a) (.ref b) v u Q I rx ry ⟨a,b,xs,ys,rfl,rfl,SqT.of ha,SqT.of hb,hn,hz,g2,fun _ p hp=>g3 p hp⟩
theorem Be:fC sE Dx:=⟨fun F H ω v u x y Q Q' rp h1 h2 ⟨ds,es,e1,e2,z,q⟩ k=>by
 subst e1 e2;have h1':=h1;have h2':=h2;simp only[RV,Dat] at h1 h2;obtain⟨a,xs,rfl,ha,hxs⟩:=h1;obtain⟨b,ys,rfl,hb,hys⟩:=h2;refine⟨a,b,xs,ys,rfl,rfl,aK _ _ ha,aK _ _ hb,by rw[hxs.length,hys.length];exact z,fun e=>?_,fun e=>?_,k.tup rp (hxs.append hys) q⟩
 ·have:ds=[]:=List.length_eq_zero_iff.mp (by rw[←hxs.length,e];rfl)
  subst this;exact k _ ω _ H rp .refl h2' q
 ·have:es=[]:=List.length_eq_zero_iff.mp (by rw[←hys.length,e];rfl)
  subst this;rw[List.append_nil] at q
  exact k _ ω _ H rp .refl h1' q⟩
theorem Rep.later{F:Fs}{H H':Hp}{ω:Om}(rp:Rep F H ω)(s:cw H H'):Rep F H' ω/\Fr F H ω H' ω:=by
 have fr:Fr F H ω H' ω:=⟨fun b o x f e=>⟨s _ _ e,x⟩,fun b f=>by
  obtain⟨_,o,q⟩:=rp.hid b f
  rw[q,s _ _ q]⟩
 refine⟨⟨fun l xs e=>?_,fun l ds e=>(rp.frz l ds e).same fr.same,fun b f=>?_,fun l ks e=>(by obtain⟨vs,e1,e2⟩:=rp.dic l ks e;exact⟨vs,s _ _ e1,e2.same fr.same⟩)⟩,fr⟩
 ·obtain⟨vs,e1,e2⟩:=rp.own l xs e
  exact⟨vs,s _ _ e1,e2.same fr.same⟩
 ·obtain⟨x,o,q⟩:=rp.hid b f
  exact⟨x,o,s _ _ q⟩
noncomputable def Dz:A2:=fun x y ω Q=>∃xs i a,c8 ω x=some xs/\y=.d (.int i)/\atI xs i=some a/\Q a ω
noncomputable def DU:A2:=fun x y ω Q=>∃xs i a,fZ x=some xs/\y=.d (.int i)/\atI xs i=some a/\Q a ω
theorem RVs.atI{G:Hp}{xs:List AV}{vs:List V}{i:Int}{a:AV}(h:RVs G xs vs)(e:atI xs i=some a):∃v,L2.atI vs i=some v/\RV G a v:=by
 unfold L2.atI at e ⊢;rw[h.length]
 cases z:ixN xs.length i with
 |none=>rw[z] at e;cases e
 |some j=>
  rw[z] at e;exact h.get e
theorem Cw{K:W.Frag}:fC (Bp K) Dz:=⟨fun F H ω v u x y Q Q' rp h1 h2 ⟨xs,i,a,e1,e2,e3,q⟩ k=>by
 subst e2;obtain⟨l,vs,rfl,q1,q2⟩:=ko rp h1 e1;obtain⟨w,z1,z2⟩:=q2.atI e3
 exact⟨l,vs,i,w,rfl,bc h2,.inl (.inl q1),z1,k a ω w H rp .refl z2 q⟩⟩
theorem CC{K:W.Frag}:fC (AF K) DU:=⟨fun F H ω v u x y Q Q' rp h1 h2 ⟨xs,i,a,e1,e2,e3,q⟩ k=>by
 subst e2;obtain⟨l,vs,rfl,q1,q2⟩:=u6 h1 e1;obtain⟨w,z1,z2⟩:=q2.atI e3
 exact⟨l,vs,i,w,rfl,bc h2,.inl (.inl (aK _ _ q1)),z1,k a ω w H rp .refl z2 q⟩⟩
noncomputable def aIx:A2:=fun x y ω Q=>∃xs i a,(c8 ω x=some xs\/fZ x=some xs)/\y=.d (.int i)/\atI xs i=some a/\Q a ω
theorem dq{K:W.Frag}:fC (rIx K) aIx:=⟨fun F H ω v u x y Q Q' rp h1 h2 ⟨xs,i,a,e1,e2,e3,q⟩ k=>by
 rcases e1 with e1|e1
 ·exact .inl (Cw.run F H ω v u x y Q Q' rp h1 h2 ⟨xs,i,a,e1,e2,e3,q⟩ k)
 ·exact .inr (.inl (CC.run F H ω v u x y Q Q' rp h1 h2 ⟨xs,i,a,e1,e2,e3,q⟩ k))⟩
noncomputable abbrev AC:=List AV->Om->(AV->Om->Prop)->Prop
theorem ib{G:Hp}{a:AV}{vs:List V}(h:RVs G [a] vs):∃v,vs=[v]/\RV G a v:=by
 obtain⟨v,r,rfl,h1,h2⟩:=h;cases h2;exact⟨v,rfl,h1⟩
theorem yh{G:Hp}{a b:AV}{vs:List V}(h:RVs G [a,b] vs):∃v u,vs=[v,u]/\RV G a v/\RV G b u:=by
 obtain⟨v,r,rfl,h1,h2⟩:=h;obtain⟨u,rfl,h3⟩:=ib h2;exact⟨v,u,rfl,h1,h3⟩
noncomputable def jj(ω:Om)(x:AV):Option Nat:=match fZ x with
 |some xs=>some xs.length
 |none=>(c8 ω x).map List.length
noncomputable def Am:AC:=fun xs ω Q=>∃x n,xs=[x]/\jj ω x=some n/\Q (.d (.int n)) ω
theorem cK{K:W.Frag}:iA (fun xs H Q=>∃x n,xs=[x]/\yi K x H n/\Q (.int n) H) Am:=⟨fun F H ω vs xs Q Q' rp rv ⟨x,n,e1,e2,q⟩ k=>by
 subst e1;obtain⟨v,rfl,r⟩:=ib rv;refine⟨v,n,rfl,?_,k.int rp q⟩;unfold jj at e2
 cases z:fZ x with
 |some xs=>
  rw[z] at e2;cases e2;obtain⟨a,us,rfl,q1,q2⟩:=u6 r z;exact .inr ⟨us,.inl (.inl (aK _ _ q1)),q2.length.symm⟩
 |none=>
  rw[z] at e2;simp only[Option.map_eq_some_iff] at e2;obtain⟨ys,e3,rfl⟩:=e2;obtain⟨a,us,rfl,q1,q2⟩:=ko rp r e3
  exact .inl ⟨us,.inl (.inl q1),q2.length.symm⟩⟩
theorem sd{G:Hp}:∀ {bs:List Bool} {vs:List V},aw G (bs.map D.bl) vs->vs=bs.map V.bl
 | [],_,h=>by simpa[aw] using h
 |b::bs,vs,h=>by
  simp only[List.map_cons,aw,Dat] at h;obtain⟨x,r,rfl,rfl,h⟩:=h;rw[sd h];rfl
noncomputable def Du(f:List Bool->Bool):AC:=fun xs ω Q=>∃x bs,xs=[x]/\bg ω x=some (.lst (bs.map D.bl))/\Q (.d (.bl (f bs))) ω
theorem re{K:W.Frag}{f:List Bool->Bool}:iA (fun xs H Q=>∃(a:Addr)(bs:List Bool),xs=[.ref a]/\SqL K H a (bs.map V.bl)/\Q (.bl (f bs)) H) (Du f):=⟨fun F H ω vs xs Q Q' rp rv ⟨x,bs,e1,e2,q⟩ k=>by
 subst e1;obtain⟨v,rfl,r⟩:=ib rv;obtain⟨a,us,rfl,q1,q2⟩:=dC rp r e2;cases sd q2
 exact⟨a,bs,rfl,.inl (.inl q1),k.bl rp q⟩⟩
noncomputable def aF2(f:Int->Int->Int):AC:=fun xs ω Q=>∃i j,xs=[.d (.int i),.d (.int j)]/\Q (.d (.int (f i j))) ω
theorem Az{f:Int->Int->Int}:iA (fun xs H Q=>∃i j,xs=[.int i,.int j]/\Q (.int (f i j)) H) (aF2 f):=⟨fun F H ω vs xs Q Q' rp rv ⟨i,j,e1,q⟩ k=>by
 subst e1;obtain⟨v,u,rfl,r1,r2⟩:=yh rv
 exact⟨i,j,by rw[bc r1,bc r2],k.int rp q⟩⟩
noncomputable def aF1(f:Int->Int):AC:=fun xs ω Q=>∃i,xs=[.d (.int i)]/\Q (.d (.int (f i))) ω
theorem DI{f:Int->Int}:iA (fun xs H Q=>∃i,xs=[.int i]/\Q (.int (f i)) H) (aF1 f):=⟨fun F H ω vs xs Q Q' rp rv ⟨i,e1,q⟩ k=>by
 subst e1;obtain⟨v,rfl,r1⟩:=ib rv
 exact⟨i,by rw[bc r1],k.int rp q⟩⟩
noncomputable def vc:D->Option Int
 |.int i=>some i
 |.bl k=>some (if k then 1 else 0)
 |_=>none
noncomputable def B4:AC:=fun xs ω Q=>∃d i,xs=[.d d]/\vc d=some i/\Q (.d (.int i)) ω
theorem zU:iA (fun xs H Q=>(∃i,xs=[.int i]/\Q (.int i) H)\/∃k,xs=[.bl k]/\Q (.int (if k then 1 else 0)) H) B4:=⟨fun F H ω vs xs Q Q' rp rv ⟨d,i,e1,e2,q⟩ k=>by
 subst e1;obtain⟨v,rfl,r1⟩:=ib rv
 cases d with
 |int j=>simp only[vc,Option.some.injEq] at e2;subst e2;exact .inl ⟨_,by rw[bc r1],k.int rp q⟩
 |bl j=>simp only[vc,Option.some.injEq] at e2;subst e2;exact .inr ⟨j,by rw[xp r1],k.int rp q⟩
 |_=>cases e2⟩
noncomputable def qm:AC:=fun xs ω Q=>∃x ds,xs=[x]/\(bg ω x=some (.lst ds)\/x=.d (.tup ds))/\Q (.d (.tup ds)) ω
theorem fw{K:W.Frag}:iA (fun xs H Q=>∃p ys,xs=[.ref p]/\((SqL K H p ys/\∀l,H l=none->Q (.ref l) (upd H l (.tup ys)))\/(SqT K H p ys/\Q (.ref p) H))) qm:=⟨fun F H ω vs xs Q Q' rp rv ⟨x,ds,e1,e2,q⟩ k=>by
 subst e1;obtain⟨v,rfl,r1⟩:=ib rv;rcases e2 with e2|rfl
 ·obtain⟨a,us,rfl,q1,q2⟩:=dC rp r1 e2
  exact⟨a,us,rfl,.inl ⟨.inl (.inl q1),k.tup rp q2 q⟩⟩
 ·have r2:=r1
  simp only[RV,Dat] at r2;obtain⟨a,us,rfl,q1,q2⟩:=r2
  exact⟨a,us,rfl,.inr ⟨.inl (.inl (aK _ _ q1)),k _ ω _ H rp .refl r1 q⟩⟩⟩
noncomputable def rJ:AC:=fun xs ω Q=>∃x ds,xs=[x]/\(bg ω x=some (.lst ds)\/x=.d (.tup ds))/\Q (.d (.lst ds)) ω
noncomputable def wY:AC:=fun xs ω Q=>∃x ds,xs=[x]/\(bg ω x=some (.lst ds)\/x=.d (.tup ds))/\∀p,ω p=none->Q (.r (.ref p)) (ω.put p (.own (ds.map AV.d)))
theorem Bm{K:W.Frag}:iA (fun xs H Q=>∃p ys,xs=[.ref p]/\(SqL K H p ys\/SqT K H p ys)/\∀l,H l=none->Q (.ref l) (upd H l (.lst ys))) rJ:=⟨fun F H ω vs xs Q Q' rp rv ⟨x,ds,e1,e2,q⟩ k=>by
 subst e1;obtain⟨v,rfl,r1⟩:=ib rv;rcases e2 with e2|rfl
 ·obtain⟨a,us,rfl,q1,q2⟩:=dC rp r1 e2
  exact⟨a,us,rfl,.inl (.inl (.inl q1)),k.lst rp q2 q⟩
 ·have r2:=r1
  simp only[RV,Dat] at r2;obtain⟨a,us,rfl,q1,q2⟩:=r2
  exact⟨a,us,rfl,.inr (.inl (.inl (aK _ _ q1))),k.lst rp q2 q⟩⟩
theorem rM{K:W.Frag}:iA (fun xs H Q=>∃p ys,xs=[.ref p]/\(SqL K H p ys\/SqT K H p ys)/\∀l,H l=none->Q (.ref l) (upd H l (.lst ys))) wY:=⟨fun F H ω vs xs Q Q' rp rv ⟨x,ds,e1,e2,q⟩ k=>by
 subst e1;obtain⟨v,rfl,r1⟩:=ib rv;rcases e2 with e2|rfl
 ·obtain⟨a,us,rfl,q1,q2⟩:=dC rp r1 e2
  exact⟨a,us,rfl,.inl (.inl (.inl q1)),k.own rp (RVs.dats.mpr q2) q⟩
 ·have r2:=r1
  simp only[RV,Dat] at r2;obtain⟨a,us,rfl,q1,q2⟩:=r2
  exact⟨a,us,rfl,.inr (.inl (.inl (aK _ _ q1))),k.own rp (RVs.dats.mpr q2) q⟩⟩
noncomputable def fV(lo:Int)(n:Nat):List AV:=(List.range n).map fun i=>AV.d (.int (lo+(i:Nat)))
noncomputable def uP(ta:AA):AI:=fun ρ ω R=>ta ρ ω fun xs ω1=>∃j:Int,xs=[.d (.int j)]/\-(2^62)<=j/\j<2^62/\R (fV 0 j.toNat) ω1
section
variable{te:TE}{te':AE}{ta:TA}{ta':AA}{K:W.Frag}
theorem yD{G:Hp}{ds:List D}{a:Addr}(h:Dat G (.lst ds) (.ref a)):wq G (ds.map AV.d) (Itl K a):=fun F H ω rp s=>by
 have h2:=h.same s;simp only[Dat] at h2;obtain⟨_,vs,e,ha,hd⟩:=h2;cases e;have hq:SqL K H a vs:=.inl (.inl (aK _ _ ha));have hl:=hd.length;refine⟨⟨vs,hq,by simp;omega⟩,fun i x hx=>?_⟩
 obtain⟨v,e1,e2⟩:=(RVs.dats.mpr hd).get hx;refine⟨⟨vs,v,hq,e1⟩,fun y H' hy=>?_⟩;obtain⟨rfl,hy⟩:=hy;have:=hy vs hq;rw[e1] at this;cases this;exact⟨rp,.refl,e2⟩
theorem BU{G:Hp}{ds:List D}{a:Addr}(h:Dat G (.tup ds) (.ref a)):wq G (ds.map AV.d) (Itt K a):=fun F H ω rp s=>by
 have h2:=h.same s;simp only[Dat] at h2;obtain⟨_,vs,e,ha,hd⟩:=h2;cases e;have hq:SqT K H a vs:=.inl (.inl (aK _ _ ha));have hl:=hd.length;refine⟨⟨vs,hq,by simp;omega⟩,fun i x hx=>?_⟩
 obtain⟨v,e1,e2⟩:=(RVs.dats.mpr hd).get hx;refine⟨⟨vs,v,hq,e1⟩,fun y H' hy=>?_⟩;obtain⟨rfl,hy⟩:=hy;have:=hy vs hq;rw[e1] at this;cases this;exact⟨rp,.refl,e2⟩
theorem iS{G:Hp}{ds:List D}{v:V}(h:Dat G (.lst ds) v):∃a vs,v=.ref a/\G a=some (.lst vs):=by
 simp only[Dat] at h;obtain⟨a,vs,e,h,_⟩:=h;exact⟨a,vs,e,h⟩
theorem iF{G:Hp}{ds:List D}{v:V}(h:Dat G (.tup ds) v):∃a vs,v=.ref a/\G a=some (.tup vs):=by
 simp only[Dat] at h;obtain⟨a,vs,e,h,_⟩:=h;exact⟨a,vs,e,h⟩
theorem Bb{G:Hp}{lo:Int}{n:Nat}:wq G (fV lo n) (Itr lo n):=fun F H ω rp s=>by
 refine⟨by simp[fV,Itr],fun i x hx=>?_⟩
 unfold fV at hx;rw[List.getElem?_map] at hx;by_cases hi:i<n
 ·rw[List.getElem?_range hi] at hx
  simp only[Option.map_some,Option.some.injEq] at hx;subst hx;refine⟨hi,fun y H' hy=>?_⟩;obtain⟨rfl,rfl⟩:=hy;exact⟨rp,.refl,by simp[RV,Dat]⟩
 ·rw[List.getElem?_eq_none (by simp;omega)] at hx
  cases hx
theorem gN(h:fP ta ta'):p5 (zj ta) (uP ta'):=⟨fun F H ω σ ρ R R' rp rs w k=>h.go rp rs w fun xs ω1 vs H1 rp1 fr1 rs1 rv ⟨j,e,h1,h2,q⟩=>by
 subst e;obtain⟨v,rfl,r⟩:=ib rv
 exact⟨j,by rw[bc r],h1,h2,k _ ω1 _ H1 rp1 fr1 Bb q⟩⟩
noncomputable def cI:D->Option (List D)
 |.tup ds=>some ds
 |.lst ds=>some ds
 |_=>none
end
noncomputable def ze(n:Nat)(t:AGs):AG:=fun v ρ ω Q=>∃ds,v=.d (.tup ds)/\ds.length=n/\t (ds.map AV.d) ρ ω Q
noncomputable def zZ(n:Nat)(t:AGs):AG:=fun v ρ ω Q=>∃xs,c8 ω v=some xs/\xs.length=n/\t xs ρ ω Q
noncomputable def z6(to ti:AE):AG:=fun v ρ ω Q=>to ρ ω fun o ω1=>ti ρ ω1 fun i ω2=>∃l k xs j,o=.r (.ref l)/\i=.d (.int k)/\ω2 l=some (.own xs)/\ixN xs.length k=some j/\Q ρ (ω2.put l (.own (xs.set j v)))
section
variable{K:W.Frag}{n:Nat}{gs:TGs}{gs':AGs}{to ti:TE}{to' ti':AE}
theorem B0(h:oD gs gs'):jo (AU K n gs) (ze n gs'):=⟨fun F H ω σ ρ v a Q Q' rp rs rv ⟨ds,e,hn,q⟩ k=>by
 subst e;simp only[RV,Dat] at rv;obtain⟨b,vs,rfl,h1,h2⟩:=rv
 exact⟨b,vs,rfl,.inl (.inl (aK _ _ h1)),by rw[h2.length];exact hn,h.run F H ω σ ρ vs _ Q Q' rp rs (RVs.dats.mpr h2) q k⟩⟩
theorem Ch(h:oD gs gs'):jo (Cu K n gs) (zZ n gs'):=⟨fun F H ω σ ρ v a Q Q' rp rs rv ⟨xs,e,hn,q⟩ k=>by
 obtain⟨b,vs,rfl,h1,h2⟩:=ko rp rv e
 exact⟨b,vs,rfl,.inl (.inl h1),by rw[h2.length];exact hn,h.run F H ω σ ρ vs _ Q Q' rp rs h2 q k⟩⟩
theorem uL(ho:aZ to to')(hi:aZ ti ti'):jo (Dk to ti zE) (z6 to' ti'):=⟨fun F H ω σ ρ v a Q Q' rp rs rv w k=>
 ho.go rp rs w fun x ω1 u H1 rp1 fr1 rs1 rv1 q1=>hi.go rp1 rs1 q1 fun y ω2 u2 H2 rp2 fr2 rs2 rv2 ⟨l,j,xs,i,e1,e2,e3,e4,q⟩=>by
  subst e1 e2;have e5:u=.ref l:=rv1;obtain⟨vs,z1,z2⟩:=rp2.own l xs e3;have rv':=rv.same (fr1.trans fr2).same;obtain⟨rp3,fr3⟩:=rp2.write e3 (z2.set i rv');have fr:=(fr1.trans fr2).trans fr3
  exact⟨l,vs,j,i,e5,bc rv2,z1,by rw[z2.length];exact e4,k ρ _ σ _ rp3 fr (rs.same fr.same) q⟩⟩
end
noncomputable def bO{α:Type}(xs:List α)(lo hi:Option Int):List α:=(xs.drop (HT.sIx xs.length 0 lo)).take (HT.sIx xs.length xs.length hi-HT.sIx xs.length 0 lo)
noncomputable abbrev AO:=SA->Om->(Option Int->Om->Prop)->Prop
noncomputable def xn:AO:=fun _ ω Q=>Q none ω
noncomputable def xK(t:AE):AO:=fun ρ ω Q=>t ρ ω fun x ω1=>∃i,x=.d (.int i)/\Q (some i) ω1
theorem aw.cut{G:Hp}{ds:List D}{vs:List V}{lo hi:Option Int}(h:aw G ds vs):aw G (bO ds lo hi) (mQ vs lo hi):=by
 unfold bO mQ;rw[h.length];exact(h.drop _).take _
section
variable{K:W.Frag}{te ts:TE}{te' ts':AE}{tl th:TO}{tl' th':AO}
theorem fx:Ref REq sU xn:=⟨fun F H ω σ ρ Q Q' rp rs w k=>k none ω none H rp .refl rfl w⟩
theorem fg(h:aZ te te'):Ref REq (zY te) (xK te'):=⟨fun F H ω σ ρ Q Q' rp rs w k=>h.go rp rs w fun x ω1 v H1 rp1 fr1 rs1 rv ⟨i,e,q⟩=>by
 subst e;exact⟨i,bc rv,k _ ω1 _ H1 rp1 fr1 rfl q⟩⟩
end
noncomputable def se(to:AE)(t:AA):AE:=fun ρ ω Q=>to ρ ω fun x ω1=>∃l,x=.r (.ref l)/\(∃zs,ω1 l=some (.own zs))/\t ρ ω1 fun ys ω2=>∃xs y,ys=[y]/\ω2 l=some (.own xs)/\xs.length<sizeLine/\Q (.d .non) (ω2.put l (.own (xs++[y])))
section
variable{K:W.Frag}{to:TE}{to':AE}{t:TA}{t':AA}
theorem vX(ho:aZ to to')(ht:fP t t'):aZ (tBM K "list" sS to t) (se to' t'):=⟨fun F H ω σ ρ Q Q' rp rs w k=>
 ho.go rp rs w fun x ω1 v H1 rp1 fr1 rs1 rv1 ⟨l,e,⟨zs,hz⟩,q1⟩=>by
  subst e;cases (show v=.ref l from rv1)
  obtain⟨us,z1,_⟩:=rp1.own l zs hz;refine⟨.inl ⟨rfl,us,.inl (.inl z1)⟩,ht.go rp1 rs1 q1 fun ys ω2 vs H2 rp2 fr2 rs2 rv2 ⟨xs,y,e1,e2,e3,q⟩=>?_⟩;subst e1;obtain⟨u,rfl,r⟩:=ib rv2;obtain⟨ws,z3,z4⟩:=rp2.own l xs e2;obtain⟨rp3,fr3⟩:=rp2.write e2 (z4.append (.one r))
  exact⟨l,ws,u,rfl,rfl,z3,by rw[z4.length];exact e3,k _ _ _ _ rp3 ((fr1.trans fr2).trans fr3) (by simp[RV,Dat]) q⟩⟩
end
noncomputable def qN:AC:=fun xs ω Q=>∃(x:AV) (W:List (List Int)),xs=[x]/\bg ω x=some (.lst (W.map wdD))/\(∀y∈W,y≠[])/\W.length<64/\Q (.d (.lst ((dB W).map wdD))) ω
theorem Rep.stays{F:Fs}{H:Hp}{ω:Om}(rp:Rep F H ω):vT H (cut F H ω):=fun b xs e=>by
 refine ba.mpr ⟨?_,?_,e⟩
 ·cases y:ω b with
  |none=>rfl
  |some c=>cases c with
   |frz ds=>rfl
   |own ys=>
    obtain⟨vs,e1,_⟩:=rp.own b ys y;rw[e] at e1;cases e1
   |dic ys=>
    obtain⟨vs,e1,_⟩:=rp.dic b ys y;rw[e] at e1;cases e1
 ·cases z:F b with
  |false=>rfl
  |true=>
   obtain⟨_,vs,q⟩:=rp.hid b z;rw[e] at q;cases q
theorem vt:iA (fun xs H Q=>∃p W,xs=[.ref p]/\LD H p (W.map wdD)/\(∀x∈W,x≠[])/\W.length<64/\∀l H',H l=none->cw H H'->LD H' l ((dB W).map wdD)->Q (.ref l) H') qN:=⟨fun F H ω vs xs Q Q' rp rv ⟨x,W,e1,e2,e3,e4,q⟩ k=>by
 subst e1;obtain⟨v,rfl,r⟩:=ib rv;obtain⟨a,us,rfl,z1,z2⟩:=dC rp r e2;refine⟨a,W,rfl,⟨pj _,us,z1,z2.same aK⟩,e3,e4,fun l H' hl s ld=>?_⟩;obtain⟨rp2,fr2⟩:=rp.later s;obtain⟨hn,ws,y1,y2⟩:=ld;obtain⟨f1,f2⟩:=rp.free hl;refine k _ ω _ H' rp2 fr2 ?_ q;simp only[RV,Dat]
 exact⟨l,ws,rfl,ba.mpr ⟨by rw[f1];rfl,f2,y1⟩,aw.t rp2.stays hn y2⟩⟩
noncomputable def tyD:D->String
 |.non=>"NoneType"|.bl _=>"bool"|.int _=>"int"|.str _=>"str"|.tup _=>"tuple"|.lst _=>"list"|.dk _=>"dict"|.dt _=>"dict"
noncomputable def isD(T:String)(d:D):Bool:=tyD d == T || (tyD d == "bool" && T == "int")
noncomputable def Ag:AC:=fun xs ω Q=>∃x d T,xs=[x,.r (.ty T)]/\bg ω x=some d/\T∈gK/\Q (.d (.bl (isD T d))) ω
theorem zB{H:Hp}{d:D}{v:V}(h:Dat H d v):dv H v=some (tyD d):=by
 cases d<;>simp only[Dat] at h
 all_goals first
  |(subst h;rfl)
  |(obtain⟨a,xs,rfl,h,_⟩:=h;simp[dv,h,tyD])
theorem lG:iA (fun xs H Q=>∃x T,xs=[x,.ty T]/\T∈gK/\(dv H x).isSome=true/\Q (.bl (isA H x T)) H) Ag:=⟨fun F H ω vs xs Q Q' rp rv ⟨x,d,T,e1,e2,e3,q⟩ k=>by
 subst e1;obtain⟨v,u,rfl,r1,r2⟩:=yh rv;cases (show u=.ty T from r2)
 have ht:=zB (fy rp r1 e2);refine⟨v,T,rfl,e3,by rw[ht];rfl,?_⟩
 have:isA H v T=isD T d:=by simp[isA,ht,isD]
 rw[this]
 exact k.bl rp q⟩
noncomputable def Cz:A2:=fun x y ω Q=>∃ds es,bg ω x=some (.lst ds)/\bg ω y=some (.lst es)/\ds.length+es.length<=sizeLine/\Q (.d (.lst (ds++es))) ω
theorem A5:fC yK Cz:=⟨fun F H ω v u x y Q Q' rp h1 h2 ⟨ds,es,e1,e2,z,q⟩ k=>by
 obtain⟨a,vs,rfl,z1,z2⟩:=dC rp h1 e1;obtain⟨b,us,rfl,z3,z4⟩:=dC rp h2 e2
 exact⟨a,b,vs,us,rfl,rfl,z1,z3,by rw[z2.length,z4.length];exact z,k.lst rp (z2.append z4) q⟩⟩
noncomputable def vO:A2:=fun x y ω Q=>∃ds k,bg ω x=some (.lst ds)/\y=.d (.int k)/\-(2^63)<=k/\k<2^63/\ds.length*k.toNat<=sizeLine/\Q (.d (.lst (List.replicate k.toNat ds).flatten)) ω
theorem aw.rep{G:Hp}{ds:List D}{vs:List V}(h:aw G ds vs):∀n:Nat,aw G (List.replicate n ds).flatten (List.replicate n vs).flatten
 |0=>by simp[aw]
 |n+1=>by
  simp only[List.replicate_succ,List.flatten_cons];exact h.append (h.rep n)
theorem Bd:fC yt vO:=⟨fun F H ω v u x y Q Q' rp h1 h2 ⟨ds,k',e1,e2,b1,b2,z,q⟩ k=>by
 subst e2;obtain⟨a,vs,rfl,z1,z2⟩:=dC rp h1 e1
 exact⟨a,k',vs,rfl,bc h2,z1,b1,b2,by rw[z2.length];exact z,k.lst rp (z2.rep _) q⟩⟩
noncomputable def u9(r r':A2)(ta tb tc:AE):AE:=fun ρ ω Q=>ta ρ ω fun x ω1=>tb ρ ω1 fun y ω2=>r x y ω2 fun z ω3=>∃k,z=.d (.bl k)/\(if k=true then tc ρ ω3 fun w ω4=>r' y w ω4 Q else Q (.d (.bl false)) ω3)
theorem sH{r r2:R2}{r' r2':A2}{ta tb tc:TE}{ta' tb' tc':AE}(h1:fC r r')(h2:fC r2 r2')(ha:aZ ta ta')(hb:aZ tb tb')(hc:aZ tc tc'):aZ (wL r r2 ta tb tc) (u9 r' r2' ta' tb' tc'):=⟨fun F H ω σ ρ Q Q' rp rs w k=>
 ha.go rp rs w fun x ω1 v H1 rp1 fr1 rs1 rv1 q1=>hb.go rp1 rs1 q1 fun y ω2 u H2 rp2 fr2 rs2 rv2 q2=>h1.run F H2 ω2 v u x y _ _ rp2 (rv1.same fr2.same) rv2 q2 fun z ω3 zv H3 rp3 fr3 rv3 ⟨c,e,q⟩=>by
  subst e;refine⟨c,xp rv3,?_⟩;have fr:=(fr1.trans fr2).trans fr3
  cases c with
  |true=>
   rw[if_pos rfl] at q ⊢;exact hc.go rp3 (rs2.same fr3.same) q fun w' ω4 wv H4 rp4 fr4 rs4 rv4 q4=>h2.run F H4 ω4 u wv y w' Q Q' rp4 (rv2.same (fr3.trans fr4).same) rv4 q4 (k.fr (fr.trans fr4))
  |false=>
   rw[if_neg Bool.false_ne_true] at q ⊢
   exact k _ ω3 _ H3 rp3 fr (by simp[RV,Dat]) q⟩
section
variable{X:Cx}{tg:Expr}
noncomputable def va:D->Bool
 |.str _=>false
 |_=>true
theorem gY(hg:X.A.guards=some [])(hu:X.A.units+100<cLine):bQ X (.builtin "repr") (fun xs H Q=>∃(x:V)(d:D),xs=[x]/\Dat H d x/\va d=true/\dep d<=90/\fit d=true/\wt d<=1000000/\Q (.str (jm d)) H):=by
 intro pins s σ H xs us Q I r h;obtain⟨x,d,rfl,hd,hs,hdp,hf,hw,q⟩:=h;obtain⟨u,rfl,ru⟩:=fM r
 cases d with
 |non=>
  simp only[Dat] at hd;subst hd;cases (show u=Value.none from ru)
  exact PySem.P.repr_of_none ⟨.str (jm .non),H,I.tok _,⟨_,rfl⟩,q⟩
 |bl b=>
  simp only[Dat] at hd;subst hd;cases (show u=Value.bool b from ru)
  exact PySem.P.repr_of_bool ⟨.str (jm (.bl b)),H,I.tok _,⟨_,by cases b<;>rfl⟩,q⟩
 |int i=>
  simp only[Dat] at hd;subst hd;obtain⟨t,rfl⟩:=ru;exact PySem.P.repr_of_int (by simpa[fit] using hf) ⟨.str (jm (.int i)),H,I.tok _,⟨_,rfl⟩,q⟩
 |str b=>cases hs
 |dk b=>simp[dep] at hdp
 |dt b=>simp[dep] at hdp
 |tup ds=>
  obtain⟨a,_,rfl,_⟩:=iF hd;exact j7 hg hu pins s σ H [.ref a] [u] Q I r ⟨a,_,rfl,hd,hdp,hf,hw,q⟩
 |lst ds=>
  obtain⟨a,_,rfl,_⟩:=iS hd;exact j7 hg hu pins s σ H [.ref a] [u] Q I r ⟨a,_,rfl,hd,hdp,hf,hw,q⟩
noncomputable def rOr(r1 r2:R2):R2:=fun x y H Q=>r1 x y H Q\/r2 x y H Q
theorem am{f:Value->Value->Sem Value}{r1 r2:R2}(h1:OpR X f r1)(h2:OpR X f r2):OpR X f (rOr r1 r2):=fun pins s σ H x y v u Q I rx ry h=>by
 rcases h with h|h
 ·exact h1 pins s σ H x y v u Q I rx ry h
 ·exact h2 pins s σ H x y v u Q I rx ry h
noncomputable def qA(K:W.Frag):V->Option Int->Option Int->Hp->VK->Prop:=fun x lo hi H Q=>Do K x lo hi H Q\/yZ K x lo hi H Q
theorem fG(K:W.Frag)(hK:X.K=K):SlR X (qA K):=by
 subst hK;intro pins s σ H x v vl vu lo hi sl Q I rx hs pl pu h;rcases h with h|h
 ·exact yv pins s σ H x v vl vu lo hi sl Q I rx hs pl pu h
 ·exact yF pins s σ H x v vl vu lo hi sl Q I rx hs pl pu h
noncomputable def C8(K:W.Frag)(tl:TE):TI:=fun σ H R=>tl σ H fun x H1=>(∃a,x=.ref a/\(∃xs,SqL K H1 a xs)/\R (Itl K a) H1)\/∃a,x=.ref a/\(∃xs,SqT K H1 a xs)/\R (Itt K a) H1
theorem ee(K:W.Frag)(hK:X.K=K){l:Expr}{tl:TE}(hl:PE X l tl):PI X tg l (C8 K tl):=by
 subst hK;intro pins s σ H R I h;refine thn (hl pins s σ H _ I h) fun v s1 ⟨x,H1,I1,r1,q1⟩=>?_;rcases q1 with q1|q1
 ·obtain⟨a,e,⟨xs,hq⟩,q⟩:=q1
  subst e;cases r1;obtain⟨its,rv,p,hz⟩:=I1.list hq;refine wpAny_pyIter_list p.isList ?_;refine⟨s1.heap.objs.size,[s1.heap.objs.size],_,_,H1,rfl,I1.kept (t':=s1.toks) fun b o e=>Heap.get?_push_of_some _ e,ua a _,⟨_,Heap.get?_push_size _ rfl,rfl,rfl⟩,fun b hb=>?_,q⟩;have e:b=s1.heap.objs.size:=by simpa using hb
  subst e;exact I1.Es (Nat.le_refl _) (I1.hok.fresh (Nat.le_refl _))
 ·obtain⟨a,e,⟨xs,hq⟩,q⟩:=q1
  subst e;cases r1;obtain⟨its,rv,p,hz⟩:=I1.tuple hq;refine wpAny_pyIter_tuple (show s1.heap.IsTuple a its.toArray from p) ?_
  refine⟨s1.heap.objs.size,[s1.heap.objs.size],_,_,H1,rfl,I1.kept (t':=s1.toks) fun b o e=>Heap.get?_push_of_some _ e,qy a _,⟨_,Heap.get?_push_size _ rfl,rfl,rfl⟩,fun b hb=>?_,q⟩;have e:b=s1.heap.objs.size:=by simpa using hb
  subst e;exact I1.Es (Nat.le_refl _) (I1.hok.fresh (Nat.le_refl _))
noncomputable def zN(K:W.Frag)(ta tb:TE):TE:=fun σ H Q=>ta σ H fun x H1=>∃c,nI K x H1 c/\if c=true then tb σ H1 Q else Q x H1
noncomputable def zG(K:W.Frag)(ta:TE):TE:=fun σ H Q=>ta σ H fun x H1=>∃c,nI K x H1 c/\Q (.bl (!c)) H1
variable{a b:Expr}{bA:List Expr}{pos:Pos}{ta tb:TE}
theorem jA(K:W.Frag)(hK:X.K=K)(ha:PE X a ta)(hb:PE X (.BoolOp .And (b::bA) pos) tb):PE X (.BoolOp .And (a::b::bA) pos) (zN K ta tb):=.mk <| by
 subst hK;intro pins s σ H Q I h;refine BoolOp_and (thn (ha pins s σ H _ I h) fun v s1 ⟨x,H1,I1,r1,q1⟩=>?_);refine thn (qj pins s1 σ H1 x v (fun c H2=>H2=H1/\if c=true then tb σ H1 Q else Q x H1) I1 r1 ?_) fun c s2 ⟨H2,I2,e,q2⟩=>?_
 ·obtain⟨c,hc,q⟩:=q1
  exact⟨c,hc,rfl,q⟩
 ·subst e
  cases c with
  |true=>rw[if_pos rfl] at q2;exact hb pins s2 σ H2 Q I2 q2
  |false=>rw[if_neg Bool.false_ne_true] at q2;exact⟨x,H2,I2,r1,q2⟩
theorem qV(K:W.Frag)(hK:X.K=K)(ha:PE X a ta):PE X (.UnaryOp .Not a pos) (zG K ta):=.mk <| by
 subst hK;intro pins s σ H Q I h;refine UnaryOp_ (thn (ha pins s σ H _ I h) fun v s1 ⟨x,H1,I1,r1,q1⟩=>?_);refine not_of (thn (qj pins s1 σ H1 x v (fun c H2=>Q (.bl (!c)) H2) I1 r1 q1) fun c s2 ⟨H2,I2,q2⟩=>⟨.bl (!c),H2,I2,rfl,q2⟩)
end
noncomputable def zw(ta tb:AE):AE:=fun ρ ω Q=>ta ρ ω fun x ω1=>∃c,fQ ω1 x=some c/\if c=true then tb ρ ω1 Q else Q x ω1
noncomputable def zQ(ta:AE):AE:=fun ρ ω Q=>ta ρ ω fun x ω1=>∃c,fQ ω1 x=some c/\Q (.d (.bl (!c))) ω1
noncomputable def aSl(te:AE)(tl th:AO):AE:=fun ρ ω Q=>te ρ ω fun x ω1=>tl ρ ω1 fun lo ω2=>th ρ ω2 fun hi ω3=>match x with
 |.d (.tup ds)=>Q (.d (.tup (bO ds lo hi))) ω3
 |x=>∃ds,bg ω3 x=some (.lst ds)/\Q (.d (.lst (bO ds lo hi))) ω3
noncomputable def zX(te:AE):AI:=fun ρ ω R=>te ρ ω fun x ω1=>oZ ω1 x fun d ω2=>∃ds,cI d=some ds/\R (ds.map AV.d) ω2
noncomputable def qo:A2:=fun x y ω Q=>match x with
 |.d (.int i)=>∃j,y=.d (.int j)/\Q (.d (.int (i+j))) ω
 |.d (.tup ds)=>∃es,y=.d (.tup es)/\ds.length+es.length<=sizeLine/\Q (.d (.tup (ds++es))) ω
 |x=>∃ds es,bg ω x=some (.lst ds)/\bg ω y=some (.lst es)/\ds.length+es.length<=sizeLine/\Q (.d (.lst (ds++es))) ω
noncomputable def Cd:A2:=fun x y ω Q=>match x with
 |.d (.int i)=>∃j,y=.d (.int j)/\kW i j/\Q (.d (.int (i*j))) ω
 |x=>vO x y ω Q
section
variable{K:W.Frag}{te ta tb:TE}{te' ta' tb':AE}{tl th:TO}{tl' th':AO}{sa:TA}{sa':AA}
theorem mV(ha:aZ ta ta')(hb:aZ tb tb'):aZ (zN K ta tb) (zw ta' tb'):=⟨fun F H ω σ ρ Q Q' rp rs h k=>
 ha.go rp rs h fun x ω1 v H1 rp1 fr1 rs1 rv1 ⟨c,e,q⟩=>⟨c,p9 rp1 rv1 e,by
  cases c with
  |false=>rw[if_neg Bool.false_ne_true] at q ⊢;exact k x ω1 v H1 rp1 fr1 rv1 q
  |true=>rw[if_pos rfl] at q ⊢;exact hb.run F H1 ω1 σ ρ Q Q' rp1 rs1 q (k.fr fr1)⟩⟩
theorem vQ(ha:aZ ta ta'):aZ (zG K ta) (zQ ta'):=⟨fun F H ω σ ρ Q Q' rp rs h k=>
 ha.go rp rs h fun x ω1 v H1 rp1 fr1 rs1 rv1 ⟨c,e,q⟩=>⟨c,p9 rp1 rv1 e,(k.fr fr1).bl rp1 q⟩⟩
theorem mm(he:aZ te te')(hl:Ref REq tl tl')(hh:Ref REq th th'):aZ (tSl (qA K) te tl th) (aSl te' tl' th'):=⟨fun F H ω σ ρ Q Q' rp rs w k=>
 he.go rp rs w fun x ω1 v H1 rp1 fr1 rs1 rv1 q1=>hl.go rp1 rs1 q1 fun lo ω2 lo' H2 rp2 fr2 rs2 e2 q2=>hh.go rp2 rs2 q2 fun hi ω3 hi' H3 rp3 fr3 rs3 e3 q=>by
  cases (show lo=lo' from e2)
  cases (show hi=hi' from e3)
  have r:=rv1.same (fr2.trans fr3).same;have k3:=k.fr ((fr1.trans fr2).trans fr3)
  have ls:(∃ds,bg ω3 x=some (.lst ds)/\Q' (.d (.lst (bO ds lo hi))) ω3)->qA K v lo hi H3 Q:=fun⟨ds,e,q⟩=>by
   obtain⟨a,vs,rfl,z1,z2⟩:=dC rp3 r e;exact .inl ⟨a,vs,rfl,.inl (.inl z1),k3.lst rp3 z2.cut q⟩
  cases x with
  |d x=>cases x with
   |tup ds=>
    refine .inr ?_;have r':=r;simp only[RV,Dat] at r;obtain⟨a,vs,rfl,z1,z2⟩:=r;refine⟨a,vs,rfl,.inl (.inl (aK _ _ z1)),?_⟩;by_cases hw:HT.sIx vs.length 0 lo=0/\HT.sIx vs.length vs.length hi=vs.length
    ·rw[if_pos hw]
     have:bO ds lo hi=ds:=by
      unfold bO;rw[←z2.length,hw.1,hw.2,List.drop_zero,Nat.sub_zero,z2.length,List.take_length]
     replace q:Q' (.d (.tup (bO ds lo hi))) ω3:=q
     rw[this] at q;exact k3 _ ω3 _ H3 rp3 .refl r' q
    ·rw[if_neg hw]
     exact k3.tup rp3 z2.cut q
   |_=>exact ls q
  |_=>exact ls q⟩
theorem f7(h:aZ te te'):p5 (C8 K te) (zX te'):=⟨fun F H ω σ ρ R R' rp rs w k=>h.go rp rs w fun x ω1 v H1 rp1 fr1 rs1 rv q=>by
 obtain⟨d,ω2,rp2,fr2,hd,ds,hs,q2⟩:=wf rp1 rv q
 cases d with
 |lst es=>
  cases hs;obtain⟨a,vs,rfl,ha⟩:=iS hd;exact .inl ⟨a,rfl,⟨vs,.inl (.inl (aK _ _ ha))⟩,k _ ω2 _ H1 rp2 (fr1.trans fr2) (yD hd) q2⟩
 |tup es=>
  cases hs;obtain⟨a,vs,rfl,ha⟩:=iF hd;exact .inr ⟨a,rfl,⟨vs,.inl (.inl (aK _ _ ha))⟩,k _ ω2 _ H1 rp2 (fr1.trans fr2) (BU hd) q2⟩
 |_=>cases hs⟩
theorem bz:fC (rOr (rI0 fun i j=>.int (i+j)) (rOr sE yK)) qo:=⟨fun F H ω v u x y Q Q' rp h1 h2 q k=>by
 have ls:(∃ds es,bg ω x=some (.lst ds)/\bg ω y=some (.lst es)/\ds.length+es.length<=sizeLine/\Q' (.d (.lst (ds++es))) ω)->rOr (rI0 fun i j=>.int (i+j)) (rOr sE yK) v u H Q:=fun q=>
  .inr (.inr (A5.run F H ω v u x y Q Q' rp h1 h2 q k))
 cases x with
 |d x=>cases x with
  |int i=>
   obtain⟨j,rfl,q⟩:=q;exact .inl ⟨i,j,bc h1,bc h2,k.int rp q⟩
  |tup ds=>
   obtain⟨es,rfl,z,q⟩:=q;exact .inr (.inl (Be.run F H ω v u _ _ Q Q' rp h1 h2 ⟨ds,es,rfl,rfl,z,q⟩ k))
  |_=>exact ls q
 |_=>exact ls q⟩
theorem gI:fC (rOr (rI kW fun i j=>.int (i*j)) yt) Cd:=⟨fun F H ω v u x y Q Q' rp h1 h2 q k=>by
 have ls:vO x y ω Q'->rOr (rI kW fun i j=>.int (i*j)) yt v u H Q:=fun q=>.inr (Bd.run F H ω v u x y Q Q' rp h1 h2 q k)
 cases x with
 |d x=>cases x with
  |int i=>
   obtain⟨j,rfl,c,q⟩:=q;exact .inl ⟨i,j,bc h1,bc h2,c,k.int rp q⟩
  |_=>exact ls q
 |_=>exact ls q⟩
end
noncomputable def gq(N:List Str)(xs:List AV):SA:=xs.map some++List.replicate (N.length-xs.length) none
theorem RS.start{G:Hp}{N:List Str}{xs:List AV}{vs:List V}(h:RVs G xs vs):RS G (gq N xs) (start N vs):=by
 refine⟨by simp[gq,L2.start,h.length],fun i a e=>?_⟩
 unfold gq at e;unfold L2.start;by_cases hi:i<xs.length
 ·rw[List.getElem?_append_left (by simpa using hi),List.getElem?_map] at e
  rw[List.getElem?_append_left (by simpa[h.length] using hi),List.getElem?_map]
  cases z:xs[i]? with
  |none=>rw[z] at e;simp at e
  |some b=>
   rw[z] at e;simp at e;subst e;obtain⟨v,e1,e2⟩:=h.get z;exact⟨v,by rw[e1];rfl,e2⟩
 ·rw[List.getElem?_append_right (by simpa using hi)] at e
  have:=List.mem_of_getElem? e;rw[List.mem_replicate] at this;cases this.2
theorem Fun.okA{P:Program}{w:World}{K:W.Frag}{mg:Str->Option Value}{base:Heap}{x qual:Str}{st:Stmt}{f:Addr}{fd:FuncData}{N ps:List Str}{k:Nat}{sp:ASp}(F:Fun K x qual st f fd)(S:aM N ps (defScope st))(len:∀xs ω Q,sp xs ω Q->xs.length=ps.length)
  (hbody:∀(cdv:Value)(A:Around)(outer:List Env)(s:Shared)(H:Hp)(E:XK),dn k (A.deeper (envOfC qual (defScope st) s.heap.objs.size f cdv)) ->
   ∃t t',PSs (fU CX0 P w K mg base N qual (defScope st) f cdv A outer s H E).nox (defBody st) t/\fF t t'/\∀xs ω Q',sp xs ω Q'->t' { nx:=fun _ ω'=>Q' (.d .non) ω',rt:=Q' } (gq N xs) ω):aY P w K mg base CX0 (k+1) f fd ps (dY sp):=by
 refine F.ok S (fun vs H Q E h=>?_) (fun cdv A outer s H vs Q E hr h=>?_)
 ·obtain⟨F,xs,ω,Q',rp,rv,h,_⟩:=h
  rw[rv.length,len xs ω Q' h]
 ·obtain⟨t,t',h1,h2,h3⟩:=hbody cdv A outer s H E hr
  obtain⟨F,xs,ω,Q',rp,rv,h,kq⟩:=h;refine⟨t,h1,h2.run F H ω _ _ _ _ rp (RS.start rv) (h3 xs ω Q' h) ⟨?_,kq,fun _ _ _ _ _ _ _ z=>z.elim,fun _ _ _ _ _ _ _ z=>z.elim⟩⟩;exact fun ρ' ω' σ' H' e1 e2 e3 q=>kq (.d .non) ω' .non H' e1 e2 (by simp[RV,Dat]) q
theorem nD(D:bC)(ρ:SA)(ω:Om):rS D ρ ω=(D.nx ρ ω):=rfl
theorem ig(t u:AS)(D:bC)(ρ:SA)(ω:Om):yC t u D ρ ω=(t { D with nx:=u D } ρ ω):=rfl
theorem og(te:AE)(D:bC)(ρ:SA)(ω:Om):ww te D ρ ω=(te ρ ω fun _ ω1=>D.nx ρ ω1):=rfl
theorem sO(te:AE)(D:bC)(ρ:SA)(ω:Om):tN te D ρ ω=(te ρ ω D.rt):=rfl
theorem si(c:AT)(t u:AS)(D:bC)(ρ:SA)(ω:Om):xO c t u D ρ ω=(c ρ ω fun b ω1=>if b=true then t D ρ ω1 else u D ρ ω1):=rfl
theorem rO(te:AE)(g:AG)(D:bC)(ρ:SA)(ω:Om):Bj te g D ρ ω=(te ρ ω fun x ω1=>g x ρ ω1 D.nx):=rfl
theorem gr(i:Nat)(v:AV)(ρ:SA)(ω:Om)(Q:SA->Om->Prop):jK i v ρ ω Q=(Q (ρ.set i (some v)) ω):=rfl
theorem nL(vs:List AV)(ρ:SA)(ω:Om)(Q:SA->Om->Prop):Ac vs ρ ω Q=(vs=[]/\Q ρ ω):=rfl
theorem lT(t:AG)(u:AGs)(vs:List AV)(ρ:SA)(ω:Om)(Q:SA->Om->Prop):wg t u vs ρ ω Q=(∃v r,vs=v::r/\t v ρ ω fun ρ' ω'=>u r ρ' ω' Q):=rfl
theorem rl(wi:AI)(g:AG)(tb:AS)(D:bC)(ρ:SA)(ω:Om):Cj wi g tb D ρ ω=(wi ρ ω fun as ω1=>gH g tb D as ρ ω1):=rfl
theorem g5(z0:SA)(ω:Om)(Q:Bool->Om->Prop):jr z0 ω Q=(Q true ω):=rfl
theorem g9(te:AE)(xs:List AV)(ρ:SA)(ω:Om)(K:List AV->SA->Om->Prop):lR te xs ρ ω K=(te ρ ω fun y ω1=>xs.length<sizeLine/\K (xs++[y]) ρ ω1):=rfl
theorem nj(wi:AI)(g:AG)(tc:AT)(l:AL)(xs:List AV)(ρ:SA)(ω:Om)(K:List AV->SA->Om->Prop):zC wi g tc l xs ρ ω K=(wi ρ ω fun as ω1=>ce g tc l as xs ρ ω1 K):=rfl
theorem qO(i:Nat)(ρ:SA)(ω:Om)(Q:AV->Om->Prop):gE i ρ ω Q=(∃a,ρ[i]?=some (some a)/\Q a ω):=rfl
theorem n6(i:Nat)(ρ:SA)(ω:Om)(Q:AV->Om->Prop):gG i ρ ω Q=(∃a,ρ[i]?=some (some a)/\oZ ω a fun d ω'=>Q (.d d) ω'):=rfl
theorem zA(d:D)(z0:SA)(ω:Om)(Q:AV->Om->Prop):aC d z0 ω Q=(Q (.d d) ω):=rfl
theorem vq(r:A2)(ta tb:AE)(ρ:SA)(ω:Om)(Q:AV->Om->Prop):aOp r ta tb ρ ω Q=(ta ρ ω fun x ω1=>tb ρ ω1 fun y ω2=>r x y ω2 Q):=rfl
theorem rN(z0:SA)(ω:Om)(Q:List AV->Om->Prop):i0 z0 ω Q=(Q [] ω):=rfl
theorem oO(ta:AE)(tr:AA)(ρ:SA)(ω:Om)(Q:List AV->Om->Prop):bP ta tr ρ ω Q=(ta ρ ω fun x ω1=>tr ρ ω1 fun xs ω2=>Q (x::xs) ω2):=rfl
theorem rQ(t:AA)(ρ:SA)(ω:Om)(Q:AV->Om->Prop):uD t ρ ω Q=(t ρ ω fun xs ω1=>xs.length<=sizeLine/\∃ds,und xs=some ds/\Q (.d (.tup ds)) ω1):=rfl
theorem rP(t:AA)(ρ:SA)(ω:Om)(Q:AV->Om->Prop):CP t ρ ω Q=(t ρ ω fun xs ω1=>xs.length<=sizeLine/\∃ds,und xs=some ds/\Q (.d (.lst ds)) ω1):=rfl
theorem oH(t:AA)(ρ:SA)(ω:Om)(Q:AV->Om->Prop):zI t ρ ω Q=(t ρ ω fun xs ω1=>xs.length<=sizeLine/\∀p,ω1 p=none->Q (.r (.ref p)) (ω1.put p (.own xs))):=rfl
theorem nC(sp:ASp)(t:AA)(ρ:SA)(ω:Om)(Q:AV->Om->Prop):no sp t ρ ω Q=(t ρ ω fun xs ω1=>sp xs ω1 Q):=rfl
theorem nJ(t:AE)(ρ:SA)(ω:Om)(Q:Bool->Om->Prop):oG t ρ ω Q=(t ρ ω fun x ω1=>∃k,x=.d (.bl k)/\Q k ω1):=rfl
theorem r8(t u:AT)(ρ:SA)(ω:Om)(Q:Bool->Om->Prop):Bf t u ρ ω Q=(t ρ ω fun c ω1=>if c=true then u ρ ω1 Q else Q false ω1):=rfl
theorem u4(t u:AT)(ρ:SA)(ω:Om)(Q:Bool->Om->Prop):aOr t u ρ ω Q=(t ρ ω fun c ω1=>if c=true then Q true ω1 else u ρ ω1 Q):=rfl
theorem rR(t:AT)(ρ:SA)(ω:Om)(Q:Bool->Om->Prop):CZ t ρ ω Q=(t ρ ω fun c ω1=>Q (!c) ω1):=rfl
theorem sg(v:V)(z0:SA)(ω:Om)(Q:AV->Om->Prop):BA v z0 ω Q=(Q (.r v) ω):=rfl
theorem q9(ta:AE)(ρ:SA)(ω:Om)(Q:Bool->Om->Prop):BE ta ρ ω Q=(ta ρ ω fun x ω1=>∃k,fQ ω1 x=some k/\Q k ω1):=rfl
theorem wC(f:Int->Int->D)(x:AV)(y:AV)(ω:Om)(Q:AV->Om->Prop):aI0 f x y ω Q=(∃i j,x=.d (.int i)/\y=.d (.int j)/\Q (.d (f i j)) ω):=rfl
theorem zg(C:Int->Int->Prop)(f:Int->Int->D)(x:AV)(y:AV)(ω:Om)(Q:AV->Om->Prop):aI C f x y ω Q=(∃i j,x=.d (.int i)/\y=.d (.int j)/\C i j/\Q (.d (f i j)) ω):=rfl
theorem rB(neg:Bool)(x:AV)(y:AV)(ω:Om)(Q:AV->Om->Prop):vS neg x y ω Q=(∃a b,bg ω x=some a/\bg ω y=some b/\dep a<=100/\Q (.d (.bl (if neg then !eqD a b else eqD a b))) ω):=rfl
theorem uX(neg:Bool)(x:AV)(y:AV)(ω:Om)(Q:AV->Om->Prop):aIn neg x y ω Q=(∃a b ds,bg ω x=some a/\bg ω y=some b/\(b=.lst ds\/b=.tup ds)/\dw ds<=90/\Q (.d (.bl (if neg then !inD a ds else inD a ds))) ω):=rfl
theorem wX(x:AV)(y:AV)(ω:Om)(Q:AV->Om->Prop):aIx x y ω Q=(∃xs i a,(c8 ω x=some xs\/fZ x=some xs)/\y=.d (.int i)/\atI xs i=some a/\Q a ω):=rfl
theorem sJ(xs:List AV)(ω:Om)(Q:AV->Om->Prop):Am xs ω Q=(∃x n,xs=[x]/\jj ω x=some n/\Q (.d (.int n)) ω):=rfl
theorem su(f:List Bool->Bool)(xs:List AV)(ω:Om)(Q:AV->Om->Prop):Du f xs ω Q=(∃x bs,xs=[x]/\bg ω x=some (.lst (bs.map D.bl))/\Q (.d (.bl (f bs))) ω):=rfl
theorem xc(f:Int->Int->Int)(xs:List AV)(ω:Om)(Q:AV->Om->Prop):aF2 f xs ω Q=(∃i j,xs=[.d (.int i),.d (.int j)]/\Q (.d (.int (f i j))) ω):=rfl
theorem vh(f:Int->Int)(xs:List AV)(ω:Om)(Q:AV->Om->Prop):aF1 f xs ω Q=(∃i,xs=[.d (.int i)]/\Q (.d (.int (f i))) ω):=rfl
theorem qL(xs:List AV)(ω:Om)(Q:AV->Om->Prop):B4 xs ω Q=(∃d i,xs=[.d d]/\vc d=some i/\Q (.d (.int i)) ω):=rfl
theorem kZ(xs:List AV)(ω:Om)(Q:AV->Om->Prop):qm xs ω Q=(∃x ds,xs=[x]/\(bg ω x=some (.lst ds)\/x=.d (.tup ds))/\Q (.d (.tup ds)) ω):=rfl
theorem kc(xs:List AV)(ω:Om)(Q:AV->Om->Prop):rJ xs ω Q=(∃x ds,xs=[x]/\(bg ω x=some (.lst ds)\/x=.d (.tup ds))/\Q (.d (.lst ds)) ω):=rfl
theorem lH(xs:List AV)(ω:Om)(Q:AV->Om->Prop):wY xs ω Q=(∃x ds,xs=[x]/\(bg ω x=some (.lst ds)\/x=.d (.tup ds))/\∀p,ω p=none->Q (.r (.ref p)) (ω.put p (.own (ds.map AV.d)))):=rfl
theorem lj(ta:AA)(ρ:SA)(ω:Om)(R:List AV->Om->Prop):uP ta ρ ω R=(ta ρ ω fun xs ω1=>∃j:Int,xs=[.d (.int j)]/\-(2^62)<=j/\j<2^62/\R (fV 0 j.toNat) ω1):=rfl
theorem nw(n:Nat)(t:AGs)(v:AV)(ρ:SA)(ω:Om)(Q:SA->Om->Prop):ze n t v ρ ω Q=(∃ds,v=.d (.tup ds)/\ds.length=n/\t (ds.map AV.d) ρ ω Q):=rfl
theorem nu(n:Nat)(t:AGs)(v:AV)(ρ:SA)(ω:Om)(Q:SA->Om->Prop):zZ n t v ρ ω Q=(∃xs,c8 ω v=some xs/\xs.length=n/\t xs ρ ω Q):=rfl
theorem n9(to ti:AE)(v:AV)(ρ:SA)(ω:Om)(Q:SA->Om->Prop):z6 to ti v ρ ω Q=(to ρ ω fun o ω1=>ti ρ ω1 fun i ω2=>∃l k xs j,o=.r (.ref l)/\i=.d (.int k)/\ω2 l=some (.own xs)/\ixN xs.length k=some j/\Q ρ (ω2.put l (.own (xs.set j v)))):=rfl
theorem lL(z0:SA)(ω:Om)(Q:Option Int->Om->Prop):xn z0 ω Q=(Q none ω):=rfl
theorem lQ(t:AE)(ρ:SA)(ω:Om)(Q:Option Int->Om->Prop):xK t ρ ω Q=(t ρ ω fun x ω1=>∃i,x=.d (.int i)/\Q (some i) ω1):=rfl
theorem kw(to:AE)(t:AA)(ρ:SA)(ω:Om)(Q:AV->Om->Prop):se to t ρ ω Q=(to ρ ω fun x ω1=>∃l,x=.r (.ref l)/\(∃zs,ω1 l=some (.own zs))/\t ρ ω1 fun ys ω2=>∃xs y,ys=[y]/\ω2 l=some (.own xs)/\xs.length<sizeLine/\Q (.d .non) (ω2.put l (.own (xs++[y])))):=rfl
theorem jQ(xs:List AV)(ω:Om)(Q:AV->Om->Prop):qN xs ω Q=(∃(x:AV) (W:List (List Int)),xs=[x]/\bg ω x=some (.lst (W.map wdD))/\(∀y∈W,y≠[])/\W.length<64/\Q (.d (.lst ((dB W).map wdD))) ω):=rfl
theorem rY(xs:List AV)(ω:Om)(Q:AV->Om->Prop):Ag xs ω Q=(∃x d T,xs=[x,.r (.ty T)]/\bg ω x=some d/\T∈gK/\Q (.d (.bl (isD T d))) ω):=rfl
theorem lh(r r':A2)(ta tb tc:AE)(ρ:SA)(ω:Om)(Q:AV->Om->Prop):u9 r r' ta tb tc ρ ω Q=(ta ρ ω fun x ω1=>tb ρ ω1 fun y ω2=>r x y ω2 fun z ω3=>∃k,z=.d (.bl k)/\(if k=true then tc ρ ω3 fun w ω4=>r' y w ω4 Q else Q (.d (.bl false)) ω3)):=rfl
theorem ph(ta tb:AE)(ρ:SA)(ω:Om)(Q:AV->Om->Prop):zw ta tb ρ ω Q=(ta ρ ω fun x ω1=>∃c,fQ ω1 x=some c/\if c=true then tb ρ ω1 Q else Q x ω1):=rfl
theorem pT(ta:AE)(ρ:SA)(ω:Om)(Q:AV->Om->Prop):zQ ta ρ ω Q=(ta ρ ω fun x ω1=>∃c,fQ ω1 x=some c/\Q (.d (.bl (!c))) ω1):=rfl
theorem nW(te:AE)(ρ:SA)(ω:Om)(R:List AV->Om->Prop):zX te ρ ω R=(te ρ ω fun x ω1=>oZ ω1 x fun d ω2=>∃ds,cI d=some ds/\R (ds.map AV.d) ω2):=rfl
theorem pw(src:List (Option Nat))(wi:AI)(g:AG)(tc:AT)(l:AL)(ρ:SA)(ω:Om)(Q:AV->Om->Prop):z7 src wi g tc l ρ ω Q=(wi ρ ω fun as ω1=>ce g tc l as [] (kT src ρ) ω1 fun xs _ ω'=>∃ds,und xs=some ds/\Q (.d (.lst ds)) ω'):=rfl
theorem lS(src:List (Option Nat))(wi:AI)(g:AG)(tc:AT)(l:AL)(ρ:SA)(ω:Om)(Q:AV->Om->Prop):xv src wi g tc l ρ ω Q=(wi ρ ω fun as ω1=>ce g tc l as [] (kT src ρ) ω1 fun xs _ ω'=>∀p,ω' p=none->Q (.r (.ref p)) (ω'.put p (.own xs))):=rfl
theorem xB(r:AV->Om->(AV->Om->Prop)->Prop)(ta:AE)(ρ:SA)(ω:Om)(Q:AV->Om->Prop):aUn r ta ρ ω Q=(ta ρ ω fun x ω1=>r x ω1 Q):=rfl
theorem u8(r:List AV->Om->(AV->Om->Prop)->Prop)(t:AA)(ρ:SA)(ω:Om)(Q:AV->Om->Prop):aCB r t ρ ω Q=(t ρ ω fun xs ω1=>r xs ω1 Q):=rfl
theorem zo(f:Int->D)(x:AV)(ω:Om)(Q:AV->Om->Prop):aU f x ω Q=(∃i,x=.d (.int i)/\Q (.d (f i)) ω):=rfl
theorem nG(i:Int)(y:AV)(ω:Om)(Q:AV->Om->Prop):qo (.d (.int i)) y ω Q=(∃j,y=.d (.int j)/\Q (.d (.int (i+j))) ω):=rfl
theorem hU(ds:List D)(y:AV)(ω:Om)(Q:AV->Om->Prop):qo (.d (.tup ds)) y ω Q=(∃es,y=.d (.tup es)/\ds.length+es.length<=sizeLine/\Q (.d (.tup (ds++es))) ω):=rfl
theorem nz(ds:List D)(y:AV)(ω:Om)(Q:AV->Om->Prop):qo (.d (.lst ds)) y ω Q=(∃es,bg ω y=some (.lst es)/\ds.length+es.length<=sizeLine/\Q (.d (.lst (ds++es))) ω):=by
 show (∃ds' es,bg ω (.d (.lst ds))=some (.lst ds')/\bg ω y=some (.lst es)/\ds'.length+es.length<=sizeLine/\Q (.d (.lst (ds'++es))) ω)=_;simp only[bg,Option.some.injEq,D.lst.injEq,exists_eq_left',exists_and_left]
theorem pc(i:Int)(y:AV)(ω:Om)(Q:AV->Om->Prop):Cd (.d (.int i)) y ω Q=(∃j,y=.d (.int j)/\kW i j/\Q (.d (.int (i*j))) ω):=rfl
noncomputable def slA(x:AV)(lo hi:Option Int)(ω:Om)(Q:AV->Om->Prop):Prop:=match x with
 |.d (.tup ds)=>Q (.d (.tup (bO ds lo hi))) ω
 |x=>∃ds,bg ω x=some (.lst ds)/\Q (.d (.lst (bO ds lo hi))) ω
theorem rd(ds:List D)(lo hi:Option Int)(ω:Om)(Q:AV->Om->Prop):slA (.d (.tup ds)) lo hi ω Q=Q (.d (.tup (bO ds lo hi))) ω:=rfl
theorem uV(te:AE)(tl th:AO)(ρ:SA)(ω:Om)(Q:AV->Om->Prop):aSl te tl th ρ ω Q=(te ρ ω fun x ω1=>tl ρ ω1 fun lo ω2=>th ρ ω2 fun hi ω3=>slA x lo hi ω3 Q):=rfl
theorem xE(ω:Om)(x:D)(K:D->Om->Prop):oZ ω (.d x) K=K x ω:=rfl
theorem xI(ω:Om)(l:Addr)(K:D->Om->Prop):oZ ω (.r (.ref l)) K=(match ω l with
  |some (.own xs)=>∃ds,und xs=some ds/\K (.lst ds) (ω.put l (.frz ds))
  |some (.frz ds)=>K (.lst ds) ω
  |_=>False):=rfl
theorem wQ(ω:Om)(x:D):bg ω (.d x)=some x:=rfl
theorem wk(ω:Om)(ds:List D):c8 ω (.d (.lst ds))=some (ds.map AV.d):=rfl
theorem vA(ω:Om)(ds:List D):c8 ω (.d (.tup ds))=none:=rfl
theorem vB(ω:Om)(l:Addr):c8 ω (.r (.ref l))=(match ω l with
  |some (.own xs)=>some xs
  |some (.frz ds)=>some (ds.map AV.d)
  |_=>none):=rfl
theorem u5(ds:List D):fZ (.d (.tup ds))=some (ds.map AV.d):=rfl
theorem vv(ds:List D):fZ (.d (.lst ds))=none:=rfl
theorem xD(v:V):fZ (.r v)=none:=rfl
theorem vU(ω:Om)(b:Bool):fQ ω (.d (.bl b))=some b:=rfl
theorem pd(x:D)(r:List AV):und (.d x::r)=(und r).map (x::·):=rfl
theorem rZ:und []=some []:=rfl
theorem uT(ω:Om)(ds:List D):jj ω (.d (.tup ds))=some ds.length:=by simp[jj,fZ]
theorem wP(ω:Om)(ds:List D):jj ω (.d (.lst ds))=some ds.length:=by simp[jj,fZ,c8]
theorem wG(ω:Om)(l:Addr):jj ω (.r (.ref l))=(c8 ω (.r (.ref l))).map List.length:=rfl
theorem xo(ds:List D):cI (.tup ds)=some ds:=rfl
theorem xC(ds:List D):cI (.lst ds)=some ds:=rfl
theorem iE(g:AG)(tc:AT)(l:AL)(xs:List AV)(ρ:SA)(ω:Om)(K:List AV->SA->Om->Prop):ce g tc l [] xs ρ ω K=K xs ρ ω:=rfl
theorem kr(g:AG)(tc:AT)(l:AL)(a:AV)(as xs:List AV)(ρ:SA)(ω:Om)(K:List AV->SA->Om->Prop):ce g tc l (a::as) xs ρ ω K=(g a ρ ω fun ρ1 ω1=>tc ρ1 ω1 fun b ω2=>if b=true then l xs ρ1 ω2 (fun xs' ρ' ω'=>ce g tc l as xs' ρ' ω' K) else ce g tc l as xs ρ1 ω2 K):=rfl
theorem u3{g:AG}{tb:AS}{D:bC}{as:List AV}{ρ:SA}{ω:Om}(I:Nat->SA->Om->Prop)(h0:I 0 ρ ω)(hs:∀(i:Nat)(a:AV)(ρ:SA)(ω:Om)(N:SA->Om->Prop),as[i]?=some a->I i ρ ω->(∀ρ' ω',I (i+1) ρ' ω'->N ρ' ω')->g a ρ ω fun ρ1 ω1=>tb { nx:=N,ct:=N,bk:=D.nx,rt:=D.rt } ρ1 ω1)(hd:∀ρ ω,I as.length ρ ω->D.nx ρ ω):gH g tb D as ρ ω:=by
 have key:∀(n i:Nat)(ρ:SA)(ω:Om),i+n=as.length->I i ρ ω->gH g tb D (as.drop i) ρ ω:=by
  intro n
  induction n with
  |zero=>intro i ρ ω hi h;rw[List.drop_eq_nil_of_le (by omega)];exact hd ρ ω (by rw[←hi];exact h)
  |succ n ih=>
   intro i ρ ω hi h;obtain⟨a,ha,hdr⟩:=gz (as:=as) (i:=i) (by omega)
   rw[hdr];exact hs i a ρ ω _ ha h fun ρ' ω' h'=>ih (i+1) ρ' ω' (by omega) h'
 simpa using key as.length 0 ρ ω (by omega) h0
theorem Cc{g:AG}{tb:AS}{D:bC}{ds:List L2.D}{ρ:SA}{ω:Om}(I:Nat->SA->Om->Prop)(h0:I 0 ρ ω)(hs:∀(i:Nat)(d:L2.D)(ρ:SA)(ω:Om)(N:SA->Om->Prop),ds[i]?=some d->I i ρ ω->(∀ρ' ω',I (i+1) ρ' ω'->N ρ' ω')->g (.d d) ρ ω fun ρ1 ω1=>tb { nx:=N,ct:=N,bk:=D.nx,rt:=D.rt } ρ1 ω1)(hd:∀ρ ω,I ds.length ρ ω->D.nx ρ ω):gH g tb D (ds.map AV.d) ρ ω:=
 u3 I h0 (fun i a ρ ω N ha h k=>by
  rw[List.getElem?_map,Option.map_eq_some_iff] at ha;obtain⟨d,h1,rfl⟩:=ha
  exact hs i d ρ ω N h1 h k) (fun ρ ω h=>hd ρ ω (by simpa using h))
theorem jt{g:AG}{tb:AS}{D:bC}{lo:Int}{n:Nat}{ρ:SA}{ω:Om}(I:Nat->SA->Om->Prop)(h0:I 0 ρ ω)(hs:∀(i:Nat)(ρ:SA)(ω:Om)(N:SA->Om->Prop),i<n->I i ρ ω->(∀ρ' ω',I (i+1) ρ' ω'->N ρ' ω')->g (.d (.int (lo+(i:Nat)))) ρ ω fun ρ1 ω1=>tb { nx:=N,ct:=N,bk:=D.nx,rt:=D.rt } ρ1 ω1)(hd:∀ρ ω,I n ρ ω->D.nx ρ ω):gH g tb D (fV lo n) ρ ω:=
 u3 I h0 (fun i a ρ ω N ha h k=>by
  unfold fV at ha;rw[List.getElem?_map,Option.map_eq_some_iff] at ha;obtain⟨j,h1,rfl⟩:=ha;obtain⟨hj,rfl⟩:=List.getElem?_eq_some_iff.mp h1;simp only[List.getElem_range,List.length_range] at hj ⊢
  exact hs i ρ ω N hj h k) (fun ρ ω h=>hd ρ ω (by simpa[fV] using h))
theorem mi{g:AG}{tc:AT}{l:AL}{as xs:List AV}{ρ:SA}{ω:Om}{K:List AV->SA->Om->Prop}(I:Nat->List AV->SA->Om->Prop)(h0:I 0 xs ρ ω)(hs:∀(i:Nat)(a:AV)(xs:List AV)(ρ:SA)(ω:Om)(N:List AV->SA->Om->Prop),as[i]?=some a->I i xs ρ ω->(∀xs' ρ' ω',I (i+1) xs' ρ' ω'->N xs' ρ' ω')->g a ρ ω fun ρ1 ω1=>tc ρ1 ω1 fun b ω2=>if b=true then l xs ρ1 ω2 N else N xs ρ1 ω2)(hd:∀xs ρ ω,I as.length xs ρ ω->K xs ρ ω):ce g tc l as xs ρ ω K:=by
 have key:∀(n i:Nat)(xs:List AV)(ρ:SA)(ω:Om),i+n=as.length->I i xs ρ ω->ce g tc l (as.drop i) xs ρ ω K:=by
  intro n
  induction n with
  |zero=>intro i xs ρ ω hi h;rw[List.drop_eq_nil_of_le (by omega)];exact hd xs ρ ω (by rw[←hi];exact h)
  |succ n ih=>
   intro i xs ρ ω hi h;obtain⟨a,ha,hdr⟩:=gz (as:=as) (i:=i) (by omega)
   rw[hdr];exact hs i a xs ρ ω (fun xs' ρ' ω'=>ce g tc l (as.drop (i+1)) xs' ρ' ω' K) ha h fun xs' ρ' ω' h'=>ih (i+1) xs' ρ' ω' (by omega) h'
 simpa using key as.length 0 xs ρ ω (by omega) h0
theorem Bq{g:AG}{tc:AT}{l:AL}{ds:List D}{xs:List AV}{ρ:SA}{ω:Om}{K:List AV->SA->Om->Prop}(I:Nat->List AV->SA->Om->Prop)(h0:I 0 xs ρ ω)(hs:∀(i:Nat)(d:D)(xs:List AV)(ρ:SA)(ω:Om)(N:List AV->SA->Om->Prop),ds[i]?=some d->I i xs ρ ω->(∀xs' ρ' ω',I (i+1) xs' ρ' ω'->N xs' ρ' ω')->g (.d d) ρ ω fun ρ1 ω1=>tc ρ1 ω1 fun b ω2=>if b=true then l xs ρ1 ω2 N else N xs ρ1 ω2)(hd:∀xs ρ ω,I ds.length xs ρ ω->K xs ρ ω):ce g tc l (ds.map AV.d) xs ρ ω K:=
 mi I h0 (fun i a xs ρ ω N ha h k=>by
  rw[List.getElem?_map,Option.map_eq_some_iff] at ha;obtain⟨d,h1,rfl⟩:=ha
  exact hs i d xs ρ ω N h1 h k) (fun xs ρ ω h=>hd xs ρ ω (by simpa using h))
structure Pn where
 f:Int
 x:Int
 i:Int
 h:0<=f
noncomputable def bi(c:Pn):OC:=.own [.d (.int c.f),.d (.int c.x),.d (.int c.i)]
noncomputable def sK(ω:Om)(p:Addr):Prop:=∃c,ω p=some (bi c)
section
variable{α:Type}(a b c e:α)(l:List α)
theorem fJ{xs:List α}{x:α}(j:Nat){i:Int}(hi:i=(j:Int))(h:xs[j]?=some x):atI xs i=some x:=by
 subst hi;have hj:=(List.getElem?_eq_some_iff.mp h).1;unfold atI ixN;rw[if_pos (by omega),if_pos (by omega)]
 simpa using h
theorem zc:atI (a::l) 0=some a:=fJ 0 rfl rfl
theorem zt:atI (a::b::l) 1=some b:=fJ 1 rfl rfl
theorem zW:atI (a::b::c::l) 2=some c:=fJ 2 rfl rfl
end
theorem sz1:(1<=sizeLine)=True:=eq_true (by decide)
theorem sz2:(2<=sizeLine)=True:=eq_true (by decide)
theorem sz3:(3<=sizeLine)=True:=eq_true (by decide)
theorem sz5:(5<=sizeLine)=True:=eq_true (by decide)
theorem sz6:(6<=sizeLine)=True:=eq_true (by decide)
theorem sz9:(9<=sizeLine)=True:=eq_true (by decide)
theorem Cb:(10<=sizeLine)=True:=eq_true (by decide)
theorem xi:ixN 3 0=some 0:=rfl
theorem vE:ixN 3 2=some 2:=rfl
theorem jG(a b:Int):eqD (.int a) (.int b)=(a == b):=by simp[eqD]
theorem rA(a b:Str):eqD (.str a) (.str b)=(a == b):=by simp[eqD]
theorem sI(a:Int):dep (.int a)=0:=by simp[dep]
theorem s9(a:Str):dep (.str a)=0:=by simp[dep]
theorem oX(a:Int):vc (.int a)=some a:=rfl
theorem uQ{n m:Nat}(h:n<=1000):n<=sizeLine:=Nat.le_trans h (by decide)
noncomputable def Om.only(ω' ω:Om):Om:=fun b=>if (ω b).isSome=true then ω' b else none
noncomputable def Ex(ω ω':Om):Prop:=∀b,(ω b).isSome=true->ω' b=ω b
theorem Ex.refl(ω:Om):Ex ω ω:=fun _ _=>rfl
theorem Ex.none{ω ω':Om}(h:Ex ω ω'){l:Addr}(e:ω' l=none):ω l=none:=by
 cases z:ω l with
 |none=>rfl
 |some c=>have:=h l (by rw[z];rfl);rw[e,z] at this;cases this
theorem Ex.new{ω ω':Om}(h:Ex ω ω'){l:Addr}{c:OC}(e:ω' l=Option.none):Ex ω (ω'.put l c):=fun b hb=>by
 have:b≠l:=fun z=>by subst z;rw[h.none e] at hb;cases hb
 rw[Om.D2 this];exact h b hb
theorem Ex.over{ω ω':Om}(h:Ex ω ω'){l:Addr}{c:OC}(e:ω l=Option.none):Ex ω (ω'.put l c):=fun b hb=>by
 have:b≠l:=fun z=>by subst z;rw[e] at hb;cases hb
 rw[Om.D2 this];exact h b hb
theorem Ex.put{ω ω':Om}(h:Ex ω ω'){l:Addr}{c:OC}:Ex (ω.put l c) (ω'.put l c):=fun b hb=>by
 by_cases z:b=l
 ·subst z;rw[Om.D3,Om.D3]
 ·rw[Om.D2 z] at hb ⊢;rw[Om.D2 z];exact h b hb
theorem Ex.put2{ω ω':Om}{l:Addr}{c e:OC}(h:Ex (ω.put l c) ω'):Ex (ω.put l e) (ω'.put l e):=by
 have:=h.put (l:=l) (c:=e)
 rwa [Om.D4] at this
theorem az(ω:Om):ω.only ω=ω:=by
 funext b;unfold Om.only
 cases e:ω b<;>simp
theorem gn{ω ω':Om}{p:Addr}{c:OC}(h:Ex (ω.put p c) ω')(hp:(ω p).isSome=true):ω'.only ω=ω.put p c:=by
 funext b;unfold Om.only
 by_cases hb:b=p
 ·subst hb;rw[if_pos hp,h b (by rw[Om.D3];rfl)]
 ·rw[Om.D2 hb]
  cases e:ω b with
  |none=>simp
  |some o=>simp only[Option.isSome_some,if_true];rw[h b (by rw[Om.D2 hb,e];rfl),Om.D2 hb,e]
theorem sK.some{ω:Om}{p:Addr}(h:sK ω p):(ω p).isSome=true:=by obtain⟨c,h⟩:=h;rw[h];rfl
theorem wV{ω ω':Om}{p:Addr}{c:Pn}(hp:sK ω p)(h:Ex (ω.put p (bi c)) ω'):ω'.only ω=ω.put p (bi c):=gn h hp.some
theorem lF{ω:Om}{p:Addr}{c:Pn}(hp:sK ω p):(ω.put p (bi c)).only ω=ω.put p (bi c):=wV hp (Ex.refl _)
theorem Rep.only{F:Fs}{H:Hp}{ω ω':Om}(rp:Rep F H ω'):Rep F H (ω'.only ω)/\cw (cut F H ω') (cut F H (ω'.only ω)):=by
 have ho:∀b,ow (ω' b)=false->ow ((ω'.only ω) b)=false:=fun b h=>by
  unfold Om.only;split
  ·exact h
  ·rfl
 have sm:cw (cut F H ω') (cut F H (ω'.only ω)):=fun b o e=>by
  obtain⟨h,f,e⟩:=ba.mp e;exact ba.mpr ⟨ho b h,f,e⟩
 have un:∀b c,(ω'.only ω) b=some c->ω' b=some c:=fun b c e=>by
  unfold Om.only at e;split at e
  ·exact e
  ·cases e
 refine⟨⟨fun l xs e=>?_,fun l ds e=>(rp.frz l ds (un _ _ e)).same sm,fun b f=>?_,fun l ks e=>(by obtain⟨vs,e1,e2⟩:=rp.dic l ks (un _ _ e);exact⟨vs,e1,e2.same sm⟩)⟩,sm⟩
 ·obtain⟨vs,e1,e2⟩:=rp.own l xs (un _ _ e)
  exact⟨vs,e1,e2.same sm⟩
 ·obtain⟨h1,h2⟩:=rp.hid b f
  refine⟨?_,h2⟩;unfold Om.only;rw[h1];simp
theorem Fr.only{F:Fs}{H H':Hp}{ω ω':Om}(fr:Fr F H ω H' ω'):Fr F H ω H' (ω'.only ω):=⟨fun b o h f e=>by
 obtain⟨x,y⟩:=fr.st b o h f e;refine⟨x,?_⟩;unfold Om.only;split
 ·exact y
 ·rfl,fr.hd⟩
theorem Fun.okD{P:Program}{w:World}{K:W.Frag}{mg:Str->Option Value}{base:Heap}{x qual:Str}{st:Stmt}{f:Addr}{fd:FuncData}{N ps:List Str}{k:Nat}{sp:ASp}(F:Fun K x qual st f fd)(S:aM N ps (defScope st))(len:∀xs ω Q,sp xs ω Q->xs.length=ps.length)
  (hbody:∀(cdv:Value)(A:Around)(outer:List Env)(s:Shared)(H:Hp)(E:XK),dn k (A.deeper (envOfC qual (defScope st) s.heap.objs.size f cdv)) ->
   ∃t t',PSs (fU CX0 P w K mg base N qual (defScope st) f cdv A outer s H E).nox (defBody st) t/\fF t t'/\∀xs ω Q',sp xs ω Q'->t' { nx:=fun _ ω'=>Q' (.d .non) (ω'.only ω),rt:=fun a ω'=>∃d,a=.d d/\Q' (.d d) (ω'.only ω) } (gq N xs) ω):aY P w K mg base CX0 (k+1) f fd ps (dY sp):=by
 refine F.ok S (fun vs H Q E h=>?_) (fun cdv A outer s H vs Q E hr h=>?_)
 ·obtain⟨F,xs,ω,Q',rp,rv,h,_⟩:=h
  rw[rv.length,len xs ω Q' h]
 ·obtain⟨t,t',h1,h2,h3⟩:=hbody cdv A outer s H E hr
  obtain⟨F,xs,ω,Q',rp,rv,h,kq⟩:=h;refine⟨t,h1,h2.run F H ω _ _ _ _ rp (RS.start rv) (h3 xs ω Q' h) ⟨?_,?_,fun _ _ _ _ _ _ _ z=>z.elim,fun _ _ _ _ _ _ _ z=>z.elim⟩⟩
  ·exact fun ρ' ω' σ' H' e1 e2 e3 q=>kq (.d .non) (ω'.only ω) .non H' e1.only.1 e2.only (by simp[RV,Dat]) q
  ·rintro a ω' v H' e1 e2 e3 ⟨d,rfl,q⟩
   exact kq (.d d) (ω'.only ω) v H' e1.only.1 e2.only (e3.same e1.only.2) q
noncomputable def wl:Nat->List (List Int)
 |0=>[[]]
 |n+1=>(wl n).flatMap fun w=>[w++[0],w++[1]]
theorem kJ:∀n,(wl n).length=2^n
 |0=>rfl
 |n+1=>by
  have h:∀ws:List (List Int),(ws.flatMap fun w=>[w++[0],w++[1]]).length=2*ws.length:=fun ws=>by
   induction ws with
   |nil=>rfl
   |cons a r ih=>rw[List.flatMap_cons,List.length_append,ih];simp;omega
  rw[wl,h,kJ n,Nat.pow_succ];omega
theorem eI:∀ {n:Nat} {w:List Int},w∈wl n->w.length=n/\∀x∈w,x=0\/x=1
 |0,w,h=>by simp[wl] at h;rw[h];simp
 |n+1,w,h=>by
  simp only[wl,List.mem_flatMap] at h;obtain⟨v,hv,h⟩:=h;obtain⟨h1,h2⟩:=eI hv;simp only[List.mem_cons,List.not_mem_nil,or_false] at h;rcases h with rfl|rfl<;>refine⟨by simp[h1],fun x hx=>?_⟩<;>rcases List.mem_append.mp hx with hx|hx
  ·exact h2 x hx
  ·rw[List.mem_singleton.mp hx];exact .inl rfl
  ·exact h2 x hx
  ·rw[List.mem_singleton.mp hx];exact .inr rfl
theorem rg{n:Nat}(h:n<=5):(wl n).length<=32:=by
 rw[kJ];exact Nat.pow_le_pow_right (by decide) h
theorem Bg(n:Nat):1<=(wl n).length:=by
 rw[kJ];exact Nat.one_le_two_pow
theorem AY:∀n:Fin 6,(wl n.val).Nodup:=by decide +kernel
theorem C4{n:Nat}(h:n<=5):(wl n).Nodup:=AY ⟨n,by omega⟩
noncomputable def Wds(n:Nat)(ws:List (List Int)):Prop:=ws.Nodup/\∀w∈ws,w∈wl n
theorem Wds.sub{n:Nat}{ws:List (List Int)}(h:ws.Sublist (wl n))(hn:n<=5):Wds n ws:=⟨h.nodup (C4 hn),fun w hw=>h.mem hw⟩
theorem l5:∀a b:List Int,eh (a.map D.int) (b.map D.int)=decide (a=b)
 | [],[]=>by simp[eh]
 | [],_::_=>by simp[eh]
 |_::_,[]=>by simp[eh]
 |x::a,y::b=>by
  simp only[List.map_cons,eh,eqD,l5 a b,List.cons.injEq];by_cases h1:x=y<;>by_cases h2:a=b<;>simp[h1,h2]
theorem uO(a b:List Int):eqD (wdD a) (wdD b)=decide (a=b):=by simp only[wdD,eqD];exact l5 a b
theorem uZ(w:List Int):dep (wdD w)=1:=by simp[wdD,dep,uF]
theorem wT(ws:List (List Int)):dw (ws.map wdD)<=1:=mq fun d hd=>by
 obtain⟨w,_,rfl⟩:=List.mem_map.mp hd;rw[uZ];exact Nat.le_refl _
theorem Ay(a:List Int)(ws:List (List Int)):inD (wdD a) (ws.map wdD)=decide (a∈ws):=by
 unfold inD;rw[Bool.eq_iff_iff,List.any_eq_true,decide_eq_true_iff];constructor
 ·rintro⟨d,hd,e⟩
  obtain⟨w,hw,rfl⟩:=List.mem_map.mp hd;rw[uO,decide_eq_true_iff] at e;exact e ▸ hw
 ·intro h
  exact⟨wdD a,List.mem_map.mpr ⟨a,h,rfl⟩,by rw[uO];simp⟩
theorem sY{α β:Type}{f:α->β}{xs:List α}{i:Nat}{y:β}(h:(xs.map f)[i]?=some y):∃x,xs[i]?=some x/\y=f x:=by
 rw[List.getElem?_map] at h
 cases e:xs[i]? with
 |none=>rw[e] at h;cases h
 |some x=>rw[e] at h;cases h;exact⟨x,rfl,rfl⟩
theorem mS{α:Type}{f:α->AV}{xs:List α}{i:Int}(h0:0<=i)(h1:i<xs.length):∃x,x∈xs/\xs[i.toNat]?=some x/\atI (xs.map f) i=some (f x):=by
 obtain⟨j,rfl⟩:=Int.eq_ofNat_of_zero_le h0;have hj:j<xs.length:=by omega
 exact⟨xs[j],List.getElem_mem hj,by simp[List.getElem?_eq_getElem hj],fJ j rfl (by rw[List.getElem?_map,List.getElem?_eq_getElem hj];rfl)⟩
theorem Ds{w:List Int}{i:Int}(h0:0<=i)(h1:i<w.length):atI ((w.map D.int).map AV.d) i=some (.d (.int (w.getD i.toNat 0))):=by
 obtain⟨j,rfl⟩:=Int.eq_ofNat_of_zero_le h0;have hj:j<w.length:=by omega
 refine fJ j rfl ?_;rw[List.getElem?_map,List.getElem?_map,List.getElem?_eq_getElem hj];simp[List.getD_eq_getElem?_getD,List.getElem?_eq_getElem hj]
theorem qP(x:List Int)(b:Int)(ω:Om)(Q:AV->Om->Prop):qo (.d (wdD x)) (.d (.tup [.int b])) ω Q=(x.length+1<=sizeLine/\Q (.d (wdD (x++[b]))) ω):=by
 unfold wdD;rw[hU];simp
theorem pM(x y:List Int)(ω:Om)(Q:AV->Om->Prop):qo (.d (wdD x)) (.d (wdD y)) ω Q=(x.length+y.length<=sizeLine/\Q (.d (wdD (x++y))) ω):=by
 unfold wdD;rw[hU];simp
theorem mj(x:List Int):fZ (.d (wdD x))=some ((x.map D.int).map AV.d):=rfl
theorem sC(ω:Om)(x:List Int):c8 ω (.d (wdD x))=none:=rfl
theorem rE(ω:Om)(x:List Int):jj ω (.d (wdD x))=some x.length:=by simp[jj,mj]
theorem ra(x:List Int):cI (wdD x)=some (x.map D.int):=rfl
theorem km{α β:Type}(f:α->β)(xs:List α)(lo hi:Option Int):bO (xs.map f) lo hi=(bO xs lo hi).map f:=by
 unfold bO;rw[List.length_map,List.map_take,List.map_drop]
theorem wS(x:List Int)(lo hi:Option Int)(ω:Om)(Q:AV->Om->Prop):slA (.d (wdD x)) lo hi ω Q=Q (.d (wdD (bO x lo hi))) ω:=by
 show Q (.d (.tup (bO (x.map D.int) lo hi))) ω=_;rw[km];rfl
inductive Sy where
 |is (i b:Int)
 |jn (an:Bool) (l r:Sy)
namespace Sy
noncomputable def d:Sy->D
 |.is i b=>.tup [.str "is",.int i,.int b]
 |.jn an l r=>.tup [.str (if an then "and" else "or"),l.d,r.d]
noncomputable def ok(n:Nat):Sy->Prop
 |.is i b=>0<=i/\i<n/\(b=0\/b=1)
 |.jn _ l r=>l.ok n/\r.ok n
noncomputable def dp:Sy->Nat
 |.is _ _=>0
 |.jn _ l r=>1+max l.dp r.dp
noncomputable def up:Sy->Prop
 |.is _ b=>b=1
 |.jn _ l r=>l.up/\r.up
noncomputable def val(w:List Int):Sy->Bool
 |.is i b=>decide (w.getD i.toNat 0=b)
 |.jn an l r=>if an then val w l && val w r else val w l || val w r
end Sy
inductive Ta where
 |en (i:Int)
 |nd (y:Bool) (ws:List (List Int)) (l r:Ta)
namespace Ta
noncomputable def d:Ta->D
 |.en i=>.tup [.str "end",.int i]
 |.nd y ws l r=>.tup [.str (if y then "yes" else "no"),.tup (ws.map wdD),l.d,r.d]
noncomputable def ok(n:Nat):Ta->Prop
 |.en i=>0<=i/\i<n
 |.nd _ ws l r=>Wds n ws/\l.ok n/\r.ok n
noncomputable def dp:Ta->Nat
 |.en _=>0
 |.nd _ _ l r=>1+max l.dp r.dp
noncomputable def size:Ta->Nat
 |.en _=>1
 |.nd _ _ l r=>l.size+r.size+1
noncomputable def bit(y n:List Int)(hy:Bool)(ws:List (List Int)):Bool:=decide ((if hy then y else n)∈ws)
noncomputable def fin(y n:List Int):Ta->Int
 |.en i=>i
 |.nd h ws a b=>if bit y n h ws then fin y n b else fin y n a
end Ta
noncomputable def om3(ω:Om)(p l1 l2:Addr)(c A B:OC):Om:=((ω.put p c).put l1 A).put l2 B
section
variable{ω:Om}{p l l1 l2:Addr}{c c' A A' B B':OC}
theorem za(h1:p≠l1)(h2:p≠l2):om3 ω p l1 l2 c A B p=some c:=by unfold om3;rw[Om.D2 h2,Om.D2 h1,Om.D3]
theorem wr(h:l1≠l2):om3 ω p l1 l2 c A B l1=some A:=by unfold om3;rw[Om.D2 h,Om.D3]
theorem CJ:om3 ω p l1 l2 c A B l2=some B:=by unfold om3;rw[Om.D3]
theorem BH(h1:p≠l1)(h2:p≠l2):(om3 ω p l1 l2 c A B).put p c'=om3 ω p l1 l2 c' A B:=by unfold om3;rw[Om.Eb h2,Om.Eb h1,Om.D4]
theorem BS(h:l1≠l2):(om3 ω p l1 l2 c A B).put l1 A'=om3 ω p l1 l2 c A' B:=by unfold om3;rw[Om.Eb h,Om.D4]
end
noncomputable def om4(ω:Om)(p l1 l2 l3:Addr)(c A B C:OC):Om:=(((ω.put p c).put l1 A).put l2 B).put l3 C
structure Ne4(p l1 l2 l3:Addr):Prop where
 p1:p≠l1
 p2:p≠l2
 p3:p≠l3
 a:l1≠l2
 b:l1≠l3
 c:l2≠l3
section
variable{ω:Om}{p l1 l2 l3:Addr}{c c' A A' B B' C C':OC}(h:Ne4 p l1 l2 l3)
include h
theorem CD:om4 ω p l1 l2 l3 c A B C p=some c:=by unfold om4;rw[Om.D2 h.p3,Om.D2 h.p2,Om.D2 h.p1,Om.D3]
theorem Cl:om4 ω p l1 l2 l3 c A B C l1=some A:=by unfold om4;rw[Om.D2 h.b,Om.D2 h.a,Om.D3]
theorem Dp:om4 ω p l1 l2 l3 c A B C l2=some B:=by unfold om4;rw[Om.D2 h.c,Om.D3]
theorem CQ:om4 ω p l1 l2 l3 c A B C l3=some C:=by unfold om4;rw[Om.D3]
end
section
variable{P:Program}{w:World}{K:W.Frag}{mg:Str->Option Value}{base:Heap}
structure Cs(n:Nat)(ys zs:List (List Int)):Prop where
 y:Wds n ys
 z:Wds n zs
 y1:ys≠[]
 z1:zs≠[]
theorem m8{t u:AS}{D:bC}{ρ:SA}{ω:Om}(I:SA->Om->Prop)(h1:∀N:SA->Om->Prop,(∀ρ' ω',I ρ' ω'->N ρ' ω')->t { D with nx:=N } ρ ω)(h2:∀ρ' ω',I ρ' ω'->u D ρ' ω'):yC t u D ρ ω:=h1 (u D) h2
theorem cU{α:Type}(xs:List α)(lo hi:Option Int):(bO xs lo hi).Sublist xs:=(List.take_sublist _ _).trans (List.drop_sublist _ _)
end
structure D0(t2 t:TS)(t':AS):Prop where
 run:∀(F:Fs)(H:Hp)(ω:Om)(σ:St)(ρ:SA)(D:fK)(D':bC),Rep F H ω->RS (cut F H ω) ρ σ->t' D' ρ ω->LE F H ω D' { D with nx:=t2 D }->t D σ H
theorem wZ{g:AG}{te:AE}{as:List AV}{rs:List D}{ρ:SA}{ω:Om}{K:List AV->SA->Om->Prop}(R:SA->Prop)(h0:R ρ)(hl:rs.length=as.length)(hz:as.length<=sizeLine)(he:∀(i:Nat)(a:AV)(r:D)(ρ:SA)(N:SA->Om->Prop),as[i]?=some a->rs[i]?=some r->R ρ->(∀ρ1,R ρ1->(∀Q:AV->Om->Prop,Q (.d r) ω->te ρ1 ω Q)->N ρ1 ω)->g a ρ ω N)(hk:∀ρ,R ρ->K (rs.map AV.d) ρ ω):ce g jr (lR te) as [] ρ ω K:=by
 refine mi (fun i xs ρ ω'=>ω'=ω/\R ρ/\xs=(rs.take i).map AV.d) ⟨rfl,h0,rfl⟩ ?_ ?_
 ·rintro i a xs ρ ω' N ha ⟨rfl,hR,rfl⟩ kN
  have hi:=(List.getElem?_eq_some_iff.mp ha).1;have hr:rs[i]?=some rs[i]:=List.getElem?_eq_getElem (by omega)
  refine he i a _ ρ _ ha hr hR fun ρ1 hR1 h=>?_;rw[g5,if_pos rfl,g9];refine h _ ⟨by rw[List.length_map,List.length_take];omega,kN _ _ _ ⟨rfl,hR1,?_⟩⟩
  rw[show rs.take (i+1)=rs.take i++[rs[i]] from by rw[List.take_succ,hr];rfl,List.map_append]
  rfl
 ·rintro xs ρ ω' ⟨rfl,hR,rfl⟩
  rw[←hl,List.take_length]
  exact hk ρ hR
theorem eE{te:AE}{as:List AV}{rs:List D}{v0:Option AV}{bA:SA}{ω:Om}{K:List AV->SA->Om->Prop}(hl:rs.length=as.length)(hz:as.length<=sizeLine)(he:∀(i:Nat)(a:AV)(r:D),as[i]?=some a->rs[i]?=some r->∀Q:AV->Om->Prop,Q (.d r) ω->te (some a::bA) ω Q)(hk:∀ρ,K (rs.map AV.d) ρ ω):ce (jK 0) jr (lR te) as [] (v0::bA) ω K:=
 wZ (fun ρ=>∃v,ρ=v::bA) ⟨_,rfl⟩ hl hz (fun i a r ρ N ha hr ⟨v,e⟩ k=>by
  subst e;rw[gr,List.set_cons_zero]
  exact k _ ⟨_,rfl⟩ (he i a r ha hr)) (fun ρ _=>hk ρ)
noncomputable def iI(K:W.Frag)(a:Addr)(ns:List Int):AV:=.p (.ref a) (fun H=>SqL K H a (ns.map V.int))
noncomputable def Cp(K:W.Frag):A2:=fun x y ω Q=>∃(a:Addr)(ns:List Int)(i v:Int),x=iI K a ns/\y=.d (.int i)/\atI ns i=some v/\Q (.d (.int v)) ω
noncomputable def y6(K:W.Frag):AC:=fun xs ω Q=>∃(a:Addr)(ns:List Int),xs=[iI K a ns]/\Q (.d (.int ns.length)) ω
theorem sF(K:W.Frag)(x y:AV)(ω:Om)(Q:AV->Om->Prop):Cp K x y ω Q=(∃(a:Addr)(ns:List Int)(i v:Int),x=iI K a ns/\y=.d (.int i)/\atI ns i=some v/\Q (.d (.int v)) ω):=rfl
theorem oJ(K:W.Frag)(xs:List AV)(ω:Om)(Q:AV->Om->Prop):y6 K xs ω Q=(∃(a:Addr)(ns:List Int),xs=[iI K a ns]/\Q (.d (.int ns.length)) ω):=rfl
theorem yU{α β:Type}{f:α->β}{xs:List α}{i:Int}{v:α}(h:atI xs i=some v):atI (xs.map f) i=some (f v):=by
 unfold atI at h ⊢;rw[List.length_map]
 cases e:ixN xs.length i with
 |none=>rw[e] at h;cases h
 |some j=>
  rw[e] at h;simp only[Option.bind_some] at h ⊢;rw[List.getElem?_map,h];rfl
theorem wW{F:Fs}{H:Hp}{ω:Om}{K:W.Frag}{a:Addr}{ns:List Int}{v:V}(r:RV (cut F H ω) (iI K a ns) v):v=.ref a/\SqL K H a (ns.map V.int):=by
 obtain⟨rfl,r⟩:=r;exact⟨rfl,r _ aK⟩
theorem Dq{K:W.Frag}:fC (rIx K) (Cp K):=⟨fun F H ω v u x y Q Q' rp h1 h2 ⟨a,ns,i,z,e1,e2,e3,q⟩ k=>by
 subst e1 e2;obtain⟨rfl,hs⟩:=wW h1;cases bc h2
 exact .inl ⟨a,_,i,_,rfl,rfl,hs,yU e3,k.int rp q⟩⟩
theorem vx{K:W.Frag}:iA (fun xs H Q=>∃x n,xs=[x]/\yi K x H n/\Q (.int n) H) (y6 K):=⟨fun F H ω vs xs Q Q' rp rv ⟨a,ns,e,q⟩ k=>by
 subst e;obtain⟨v,rfl,r⟩:=ib rv;obtain⟨rfl,hs⟩:=wW r
 exact⟨_,ns.length,rfl,.inl ⟨_,hs,by simp⟩,k.int rp q⟩⟩
theorem xW{α:Type}{g:AG}{tc:AT}{te:AE}{as:List AV}{xs:List α}{ρ:SA}{ω:Om}{K:List AV->SA->Om->Prop}(R:SA->Prop)(h0:R ρ)(enc:α->AV)(p:α->Bool)(f:α->D)(ea:as=xs.map enc)(hz:xs.length<=sizeLine)(he:∀(x:α)(ρ:SA)(N:SA->Om->Prop),x∈xs->R ρ->(∀ρ1,R ρ1->(∀Q:Bool->Om->Prop,Q (p x) ω->tc ρ1 ω Q)->(p x=true->∀Q:AV->Om->Prop,Q (.d (f x)) ω->te ρ1 ω Q)->N ρ1 ω)->g (enc x) ρ ω N)(hk:∀ρ,R ρ->K (((xs.filter p).map f).map AV.d) ρ ω):ce g tc (lR te) as [] ρ ω K:=by
 subst ea;refine mi (fun i ys ρ ω'=>ω'=ω/\R ρ/\ys=(((xs.take i).filter p).map f).map AV.d) ⟨rfl,h0,rfl⟩ ?_ ?_
 ·rintro i a ys ρ ω' N ha ⟨rfl,hR,rfl⟩ kN
  rw[List.getElem?_map,Option.map_eq_some_iff] at ha;obtain⟨x,hx,rfl⟩:=ha;have hi:=(List.getElem?_eq_some_iff.mp hx).1;have et:xs.take (i+1)=xs.take i++[x]:=by rw[List.take_succ,hx];rfl
  refine he x ρ _ (List.mem_of_getElem? hx) hR fun ρ1 hR1 h1 h2=>h1 _ ?_
  cases hp:p x with
  |true=>
   rw[if_pos rfl,g9];refine h2 hp _ ⟨?_,kN _ _ _ ⟨rfl,hR1,?_⟩⟩
   ·rw[List.length_map,List.length_map]
    have:=List.length_filter_le p (xs.take i);rw[List.length_take] at this;omega
   ·rw[et,List.filter_append]
    simp[hp]
  |false=>
   rw[if_neg Bool.false_ne_true];refine kN _ _ _ ⟨rfl,hR1,?_⟩;rw[et,List.filter_append];simp[hp]
 ·rintro ys ρ ω' ⟨rfl,hR,rfl⟩
  rw[List.length_map,List.take_length];exact hk ρ hR
theorem sr{α:Type}{tc:AT}{te:AE}{xs:List α}{v0:Option AV}{bA:SA}{ω:Om}{K:List AV->SA->Om->Prop}(enc:α->D)(p:α->Bool)(f:α->D)(hz:xs.length<=sizeLine)(ht:∀x∈xs,∀Q:Bool->Om->Prop,Q (p x) ω->tc (some (.d (enc x))::bA) ω Q)(he:∀x∈xs,p x=true->∀Q:AV->Om->Prop,Q (.d (f x)) ω->te (some (.d (enc x))::bA) ω Q)(hk:∀ρ,K (((xs.filter p).map f).map AV.d) ρ ω):ce (jK 0) tc (lR te) ((xs.map enc).map AV.d) [] (v0::bA) ω K:=
 xW (fun ρ=>∃ v,ρ = v :: bA) ⟨_,rfl⟩ (fun x=>.d (enc x)) p f (by simp) hz (fun x ρ N hx ⟨v,e⟩ k=>by
  subst e;rw[gr,List.set_cons_zero]
  exact k _ ⟨_,rfl⟩ (ht x hx) (he x hx)) (fun ρ _=>hk ρ)
structure Pq where
 a:Addr
 ns:List Int
 i:Int
 f:Int
 h0:0<=i
 hf:0<=f
 hn:ns.length<=63
section
variable{G:Hp}{F:Fs}{H:Hp}{ω:Om}
theorem Rep.mkD(R:Rep F H ω){l:Addr}{xs:List (Str×AV)}{vs:List (Key×V)}(h:H l=none)(hv:RKs (cut F H ω) xs vs):
  Rep F (upd H l (.dK vs)) (ω.put l (.dic xs))/\Fr F H ω (upd H l (.dK vs)) (ω.put l (.dic xs)):=by
 obtain⟨f1,f2⟩:=R.free h
 have c:cut F (upd H l (.dK vs)) (ω.put l (.dic xs))=cut F H ω:=by
  funext b;unfold cut Om.put
  by_cases hb:b=l
  ·subst hb;rw[if_pos rfl,f1,f2,h];simp[ow]
  ·rw[if_neg hb,aq hb]
 refine⟨⟨fun k zs e=>?_,fun k ds e=>?_,fun b f=>?_,fun k zs e=>?_⟩,fun b o x f e=>?_,fun b f=>?_⟩
 ·have hk:k≠l:=fun z=>(by subst z;rw[Om.D3] at e;cases e)
  rw[Om.D2 hk] at e;rw[c,aq hk];exact R.own k zs e
 ·have hk:k≠l:=fun z=>(by subst z;rw[Om.D3] at e;cases e)
  rw[Om.D2 hk] at e;rw[c];exact R.frz k ds e
 ·obtain⟨x,o,q⟩:=R.hid b f
  have hb:b≠l:=aN q h;exact⟨by rw[Om.D2 hb];exact x,o,by rw[aq hb];exact q⟩
 ·rw[c]
  by_cases hk:k=l
  ·subst hk;rw[Om.D3] at e;cases e;exact⟨vs,bn,hv⟩
  ·rw[Om.D2 hk] at e;rw[aq hk];exact R.dic k zs e
 ·have hb:b≠l:=aN e h
  rw[Om.D2 hb,aq hb];exact⟨e,x⟩
 ·obtain⟨x,o,q⟩:=R.hid b f
  exact aq (aN q h)
end
inductive xw:List (TE×TE)->List Str->List AE->Prop
 |nil:xw [] [] []
 |cons {k:Str} {tv:TE} {tv':AE} {r:List (TE×TE)} {ks:List Str} {ts:List AE}:aZ tv tv'->xw r ks ts->xw ((tC (.str k),tv)::r) (k::ks) (tv'::ts)
noncomputable def tx(l:List Nat):Str:=⟨l.toArray⟩
noncomputable def jn(s:List Nat):List (List Nat)->List Nat
 | []=>[]
 | [x]=>x
 |x::y::r=>x++s++jn s (y::r)
inductive PFs (X:Cx):List Expr->List TE->Prop
 |nil:PFs X [] []
 |cons {e:Expr} {t:TE} {es:List Expr} {ts:List TE}:PE X e t->PFs X es ts->PFs X (e::es) (t::ts)
inductive wR:List TE->List AE->Prop
 |nil:wR [] []
 |cons {t:TE} {t':AE} {ts:List TE} {ts':List AE}:aZ t t'->wR ts ts'->wR (t::ts) (t'::ts')
noncomputable def qS:V->List V->Hp->VK->Prop:=fun x vs H Q=>∃(l:Addr)(xs:List V)(j:Nat)(y:V),x=.ref l/\vs=[.int j,y]/\H l=some (.lst xs)/\j<=xs.length/\xs.length<sizeLine/\Q .non (upd H l (.lst (xs.take j++y::xs.drop j)))
theorem iL{X:Cx}:MtM X "list.insert" qS:=by
 intro pins s σ H x vs v us Q I rx rv h;obtain⟨l,xs,j,y,rfl,rfl,hH,hj,hz,q⟩:=h;cases rx
 ·obtain⟨u1,u,rfl,⟨t,rfl⟩,ru⟩:=rv.two
  obtain⟨z,its,n,r,hl,e⟩:=I.Ei hH;have hs:sizeLine<=9223372036854775807:=by decide
  have hjs:(j:Int)<2^63:=by
   show (j:Int)<9223372036854775808;generalize sizeLine=q at *;omega
  have hf:Builtin.List.listFitsIndex (j:Int)=true:=fitsIndex_both (by generalize sizeLine=q at *;omega) hjs
  have hsz:its.toArray.size<=sizeLine:=by rw[List.size_toArray];exact hl ▸ Nat.le_of_lt hz
  obtain⟨i,hi⟩:∃i:Int,i=(j:Int):=⟨_,rfl⟩;rw[←hi] at hf ⊢
  refine call_meets F.slot_list_insert ⟨_,e,rfl⟩ F.entry_list_insert (F.args_list_insert_3 _ _ _) (AutoSeq1.list_insert_list_int_val_1 l _ n i t u (by simp[hf]) hsz) ⟨e,?_⟩
  subst hi;refine⟨.non,_,I.lset (its':=its.take j++u::its.drop j) hH e ?_ ((r.take j).append (.cons ru (r.drop j))) ?_,rfl,q⟩
  ·show (its.toArray.extract 0 (if (j:Int)<0 then ((j:Int)+(its.toArray.size:Int)).toNat else min (j:Int).toNat its.toArray.size)).push u++its.toArray.extract (if (j:Int)<0 then ((j:Int)+(its.toArray.size:Int)).toNat else min (j:Int).toNat its.toArray.size)=(its.take j++u::its.drop j).toArray
   rw[if_neg (by omega),Int.toNat_natCast,List.size_toArray,Nat.min_eq_left (by omega)]
   simp;exact List.take_of_length_le (by rw[List.length_drop];exact Nat.le_refl _)
  ·rw[List.length_append,List.length_cons,List.length_take,List.length_drop]
   omega
theorem RVs.Er{G:Hp}:∀ {xs:List AV} {us:List V} (j:Nat),RVs G xs us->RVs G (xs.take j) (us.take j)/\RVs G (xs.drop j) (us.drop j)
 |xs,us,0,h=>⟨by simp[RVs],by simpa using h⟩
 | [],us,j+1,h=>by cases h;exact⟨rfl,rfl⟩
 |x::xs,us,j+1,h=>by
  obtain⟨v,r,rfl,h1,h2⟩:=h;obtain⟨h3,h4⟩:=RVs.Er j h2;exact⟨⟨v,_,rfl,h1,h3⟩,h4⟩
theorem RVs.El{G:Hp}:∀ {xs:List AV} {us:List V} (j:Nat),RVs G xs us->RVs G (xs.eraseIdx j) (us.eraseIdx j)
 | [],us,j,h=>by cases h;exact rfl
 |x::xs,us,0,h=>by obtain⟨v,r,rfl,h1,h2⟩:=h;exact h2
 |x::xs,us,j+1,h=>by
  obtain⟨v,r,rfl,h1,h2⟩:=h;exact⟨v,_,rfl,h1,RVs.El j h2⟩
noncomputable def mF(to:AE)(t:AA):AE:=fun ρ ω Q=>to ρ ω fun x ω1=>∃l,x=.r (.ref l)/\(∃zs,ω1 l=some (.own zs))/\t ρ ω1 fun ys ω2=>∃(xs:List AV)(j:Nat)(y:AV),ys=[.d (.int j),y]/\ω2 l=some (.own xs)/\j<=xs.length/\xs.length<sizeLine/\Q (.d .non) (ω2.put l (.own (xs.take j++y::xs.drop j)))
theorem jR(to:AE)(t:AA)(ρ:SA)(ω:Om)(Q:AV->Om->Prop):mF to t ρ ω Q=(to ρ ω fun x ω1=>∃l,x=.r (.ref l)/\(∃zs,ω1 l=some (.own zs))/\t ρ ω1 fun ys ω2=>∃(xs:List AV)(j:Nat)(y:AV),ys=[.d (.int j),y]/\ω2 l=some (.own xs)/\j<=xs.length/\xs.length<sizeLine/\Q (.d .non) (ω2.put l (.own (xs.take j++y::xs.drop j)))):=rfl
noncomputable def uM(to:AE)(t:AA):AE:=fun ρ ω Q=>to ρ ω fun x ω1=>∃l,x=.r (.ref l)/\(∃zs,ω1 l=some (.own zs))/\t ρ ω1 fun ys ω2=>∃(xs:List AV)(j:Nat)(y:AV),ys=[.d (.int j)]/\ω2 l=some (.own xs)/\xs.length<=1000000/\xs[j]?=some y/\Q y (ω2.put l (.own (xs.eraseIdx j)))
theorem ll(to:AE)(t:AA)(ρ:SA)(ω:Om)(Q:AV->Om->Prop):uM to t ρ ω Q=(to ρ ω fun x ω1=>∃l,x=.r (.ref l)/\(∃zs,ω1 l=some (.own zs))/\t ρ ω1 fun ys ω2=>∃(xs:List AV)(j:Nat)(y:AV),ys=[.d (.int j)]/\ω2 l=some (.own xs)/\xs.length<=1000000/\xs[j]?=some y/\Q y (ω2.put l (.own (xs.eraseIdx j)))):=rfl
section
variable{K:W.Frag}{to:TE}{to':AE}{t:TA}{t':AA}
theorem ki(ho:aZ to to')(ht:fP t t'):aZ (tBM K "list" qS to t) (mF to' t'):=⟨fun F H ω σ ρ Q Q' rp rs w k=>
 ho.go rp rs w fun x ω1 v H1 rp1 fr1 rs1 rv1 ⟨l,e,⟨zs,hz⟩,q1⟩=>by
  subst e;cases (show v=.ref l from rv1)
  obtain⟨us,z1,_⟩:=rp1.own l zs hz;refine⟨.inl ⟨rfl,us,.inl (.inl z1)⟩,ht.go rp1 rs1 q1 fun ys ω2 vs H2 rp2 fr2 rs2 rv2 ⟨xs,j,y,e1,e2,e3,e4,q⟩=>?_⟩;subst e1;obtain⟨u,u2,rfl,r,r2⟩:=yh rv2;cases bc r;obtain⟨ws,z3,z4⟩:=rp2.own l xs e2;obtain⟨g1,g2⟩:=RVs.Er j z4;obtain⟨rp3,fr3⟩:=rp2.write (ys:=xs.take j++y::xs.drop j) (vs:=ws.take j++u2::ws.drop j) e2 (g1.append ⟨u2,_,rfl,r2,g2⟩)
  exact⟨l,ws,j,u2,rfl,rfl,z3,by rw[z4.length];exact e3,by rw[z4.length];exact e4,k _ _ _ _ rp3 ((fr1.trans fr2).trans fr3) (by simp[RV,Dat]) q⟩⟩
theorem ue{j n:Nat}(h:j<n):seqIndex? (j:Int) n=some j:=by
 unfold seqIndex?;simp;omega
theorem my(ho:aZ to to')(ht:fP t t'):aZ (tBM K "list" wA to t) (uM to' t'):=⟨fun F H ω σ ρ Q Q' rp rs w k=>
 ho.go rp rs w fun x ω1 v H1 rp1 fr1 rs1 rv1 ⟨l,e,⟨zs,hz⟩,q1⟩=>by
  subst e;cases (show v=.ref l from rv1)
  obtain⟨us,z1,_⟩:=rp1.own l zs hz;refine⟨.inl ⟨rfl,us,.inl (.inl z1)⟩,ht.go rp1 rs1 q1 fun ys ω2 vs H2 rp2 fr2 rs2 rv2 ⟨xs,j,y,e1,e2,e3,e4,q⟩=>?_⟩;subst e1;obtain⟨u,rfl,r⟩:=ib rv2;cases bc r;obtain⟨ws,z3,z4⟩:=rp2.own l xs e2;obtain⟨u2,g1,g2⟩:=z4.get e4;have hj:=(List.getElem?_eq_some_iff.mp g1).1;have hl:=z4.length;obtain⟨rp3,fr3⟩:=rp2.write (ys:=xs.eraseIdx j) (vs:=ws.eraseIdx j) e2 (z4.El j)
  exact⟨l,ws,j,j,u2,rfl,rfl,z3,by omega,by omega,ue hj,g1,k _ _ _ _ rp3 ((fr1.trans fr2).trans fr3) (g2.same fr3.same) q⟩⟩
end
end L2
namespace L2
open PySem PySem.Spec PyProof.Rows PySem.W
noncomputable def CXx(P:Program)(w:World):CXT:=fun outer H s E e s'=>∃(a C t:Addr)(H':Hp)(B:Heap),e=.ref a/\s'.os=s.os/\AllBare s'.gens/\Un (frs outer) [] H H' s.heap s'.heap/\HOk P w H' B /\
 Heap.FlyingW B outer a (.ref C) (.ref t) s'.heap/\(∀b o,s.heap.get? b=some o->H b=none->b ∉ frs outer->B.get? b=some o)/\(∀b o,s.heap.get? b=some o->b ∉ frs outer->∃o',B.get? b=some o')/\E (.ref a) (some C) H'
theorem ix{P:Program}{w:World}{H:Hp}{h:Heap}{a:Addr}{o:HO}(x:bq P w H h a o):∃u,h.get? a=some u:=by
 cases o with
 |lst xs=>obtain⟨_,_,_,_,e⟩:=x;exact⟨_,e⟩
 |tup xs=>obtain⟨_,_,_,⟨_,e,_⟩,_⟩:=x;exact⟨_,e⟩
 |dK kvs=>obtain⟨_,_,_,_,o,_,_,e,_⟩:=x;exact⟨_,e⟩
 |dT kvs=>obtain⟨_,_,_,_,o,_,_,e,_⟩:=x;exact⟨_,e⟩
 |set S n=>obtain⟨o,_,_,_,e,_⟩:=x;exact⟨_,e⟩
 |ins C dx fs=>obtain⟨_,_,_,e,_⟩:=x;exact⟨_,e⟩
 |own y=>obtain⟨_,e⟩:=x;exact⟨_,e⟩
 |xd fs=>obtain⟨_,⟨_,_,_,e,_⟩,_⟩:=x;exact⟨_,e⟩
 |rng lo hi=>obtain⟨_,_,_,e⟩:=x;exact⟨_,e⟩
 |frz ob u=>obtain⟨e,_⟩:=x;exact⟨_,e⟩
 |tbl ps=>obtain⟨qs,e,_⟩:=x;exact⟨_,e⟩
 |met f y=>exact⟨_,show h.get? a=some _ from x⟩
 |ext φ=>obtain⟨_,⟨_,e⟩,_⟩:=x;exact⟨_,e⟩
section
variable{P:Program}{w:World}{K:W.Frag}{mg:Str->Option Value}{base:Heap}{N:List Str}{qual:Str}{scope:Scope}{f:Addr}{cd:Value}{A:Around}{outer:List Env}{s₀:Shared}{H₀:Hp}{E:XK}
theorem mR{pins:List (Addr×Obj)}{σ:St}{H:Hp}{s1:Shared}{h':Heap}{e C:Addr}{vs:List Value}(I:Inv (fU (CXx P w) P w K mg base N qual scope f cd A outer s₀ H₀ E) pins σ H s1)(hx:Heap.MadeExcOf s1.heap h' e (.ref C) vs)(hE:E (.ref e) (some C) H):
  (fU (CXx P w) P w K mg base N qual scope f cd A outer s₀ H₀ E).xe (.ref e) { s1 with heap:=h' }:=by
 have hfr:=I.ok.frames;have hst:s1.heap.FunFrames base (envOfC qual scope s₀.heap.objs.size f cd::outer):=I.stack;have hin:∀env∈(envOfC qual scope s₀.heap.objs.size f cd::outer),∀b,env.frame=some b->b∈frs (envOfC qual scope s₀.heap.objs.size f cd::outer):=fun env he b hb=>List.mem_filterMap.mpr ⟨env,he,hb⟩
 have hfs:∀b,b∈frs (envOfC qual scope s₀.heap.objs.size f cd::outer)->b=s₀.heap.objs.size\/b∈frs outer:=fun b hb=>by
  obtain⟨env,he,hf⟩:=List.mem_filterMap.mp hb;rcases List.mem_cons.mp he with rfl|he
  ·exact .inl (Option.some.inj hf).symm
  ·exact .inr (List.mem_filterMap.mpr ⟨env,he,hf⟩)
 have hB:∀b o,s1.heap.get? b=some o->b≠s₀.heap.objs.size->b ∉ frs outer->(hideAll s1.heap (frs (envOfC qual scope s₀.heap.objs.size f cd::outer))).get? b=some o:=fun b o hb h1 h2=>hideAll_get _ hb fun hm=>(hfs b hm).elim h1 h2;have lt0:∀b o,s₀.heap.get? b=some o->b≠s₀.heap.objs.size:=fun b o hb=>Nat.ne_of_lt (Heap.lt_size hb);have nex:∀b:Addr,b ∉ (fU (CXx P w) P w K mg base N qual scope f cd A outer s₀ H₀ E).ex:=fun b z=>absurd (show b∈([]:List Addr) from z) (by simp)
 refine wpAny_leaves_madeW (base:=hideAll s1.heap (frs (envOfC qual scope s₀.heap.objs.size f cd::outer))) hfr rfl (fun b o q=>of_hideAll _ q) (funFrames_hide hst hin) hx fun h'' t x1 x2 x3 x4=>?_;have stay:=x1.1;have keep:∀b o,s₀.heap.get? b=some o->H₀ b=none->b ∉ frs outer->(hideAll s1.heap (frs (envOfC qual scope s₀.heap.objs.size f cd::outer))).get? b=some o:=fun b o hb hn ho=>hB b o (I.base.keep b o hb hn ho (nex b)) (lt0 b o hb) ho
 have there:∀b o,s₀.heap.get? b=some o->b ∉ frs outer->∃o',(hideAll s1.heap (frs (envOfC qual scope s₀.heap.objs.size f cd::outer))).get? b=some o':=fun b o hb ho=>by
  obtain⟨o',q⟩:=I.base.there b o hb (nex b);exact⟨o',hB b o' q (lt0 b o hb) ho⟩
 have slot:∀b o,s₀.heap.get? b=some o->H₀ b=none->b∈frs outer->∃sl,h''.get? b=some { o with slots:=sl }:=fun b o hb hn ho=>by
  obtain⟨sl,q⟩:=I.base.slot b o hb hn ho (nex b)
  obtain ⟨_,o2,q2,nf⟩:=hst.mem (b:=b) (by
   obtain⟨env,he,hf⟩:=List.mem_filterMap.mp ho
   exact List.mem_filterMap.mpr ⟨env,List.mem_cons_of_mem _ he,hf⟩)
  rw[q] at q2;cases q2;obtain⟨sl2,q3⟩:=x4 b _ (hx.keeps b _ q) nf;exact⟨sl2,q3⟩
 refine⟨e,C,t,H,_,rfl,I.os,I.bare,⟨fun b o hb hn ho _=>stay b o (keep b o hb hn ho),fun b o hb hn ho _=>slot b o hb hn ho,fun b o hb hn _=>I.base.free b o hb hn (nex b),fun b o hb _=>?_,I.base.tups,I.base.frzs,I.base.tbls⟩,?_,x1,keep,there,hE⟩
 ·by_cases ho:b∈frs outer
  ·by_cases hn:H₀ b=none
   ·obtain⟨sl,q⟩:=slot b o hb hn ho
    exact⟨_,q⟩
   ·exact absurd (I.ok.frf b ho) hn
  ·obtain⟨o',q⟩:=there b o hb ho
   exact⟨o',stay b o' q⟩
 ·intro a o ha
  have nf:∀b u,H b=some u->b ∉ frs (envOfC qual scope s₀.heap.objs.size f cd::outer):=fun b u hu hm=>by
   have:=I.Ea b hm;rw[hu] at this;cases this
  refine(I.hok a o ha).stay (fun b u hb q=>hideAll_get _ q ?_) (fun _ q=>q) (fun _ _ q=>q) fun _ _ _ q=>q;rcases hb with rfl|hb
  ·exact nf _ _ ha
  ·exact nf _ _ hb
theorem rX:l6 (CXx P w) (fU (CXx P w) P w K mg base N qual scope f cd A outer s₀ H₀ E) E:=by
 intro pins σ H s1 e s2 I hc;obtain⟨a,C,t,H',B,rfl,os,bare,un,hok,fl,keep,there,hE⟩:=hc;have hfr:=I.ok.frames;have hst:s1.heap.FunFrames base (envOfC qual scope s₀.heap.objs.size f cd::outer):=I.stack;have nex:∀b:Addr,b ∉ (fU (CXx P w) P w K mg base N qual scope f cd A outer s₀ H₀ E).ex:=fun b z=>absurd (show b∈([]:List Addr) from z) (by simp)
 have hfs:∀b,b∈frs (envOfC qual scope s₀.heap.objs.size f cd::outer)->b=s₀.heap.objs.size\/b∈frs outer:=fun b hb=>by
  obtain⟨env,he,hf⟩:=List.mem_filterMap.mp hb;rcases List.mem_cons.mp he with rfl|he
  ·exact .inl (Option.some.inj hf).symm
  ·exact .inr (List.mem_filterMap.mpr ⟨env,he,hf⟩)
 have lt0:∀b o,s₀.heap.get? b=some o->b≠s₀.heap.objs.size:=fun b o hb=>Nat.ne_of_lt (Heap.lt_size hb);have nfs:∀b o,s₀.heap.get? b=some o->b ∉ frs outer->b ∉ frs (envOfC qual scope s₀.heap.objs.size f cd::outer):=fun b o hb ho hm=>(hfs b hm).elim (lt0 b o hb) ho
 have up:∀b,b∈frs outer->b∈frs (envOfC qual scope s₀.heap.objs.size f cd::outer):=fun b ho=>by
  obtain⟨env,he,hf⟩:=List.mem_filterMap.mp ho;exact List.mem_filterMap.mpr ⟨env,List.mem_cons_of_mem _ he,hf⟩
 refine wpAny_leaves_onW hfr rfl fl fun h' x1 x2=>?_;have stay:=x1.1;have keep':∀b o,s₀.heap.get? b=some o->H₀ b=none->b ∉ frs outer->B.get? b=some o:=fun b o hb hn ho=>keep b o (I.base.keep b o hb hn ho (nex b)) (I.base.free b o hb hn (nex b)) (nfs b o hb ho)
 have there':∀b o,s₀.heap.get? b=some o->b ∉ frs outer->∃o',B.get? b=some o':=fun b o hb ho=>by
  obtain⟨o1,q⟩:=I.base.there b o hb (nex b);exact there b o1 q (nfs b o hb ho)
 have slot:∀b o,s₀.heap.get? b=some o->H₀ b=none->b∈frs outer->∃sl,h'.get? b=some { o with slots:=sl }:=fun b o hb hn ho=>by
  obtain⟨sl,q⟩:=I.base.slot b o hb hn ho (nex b);obtain⟨_,o2,q2,nf⟩:=hst.mem (b:=b) (up b ho);rw[q] at q2;cases q2;obtain⟨sl1,q1⟩:=un.slot b _ q (I.base.free b o hb hn (nex b)) (up b ho) (by simp)
  obtain⟨sl2,q3⟩:=x2 b _ q1 nf;exact⟨sl2,q3⟩
 refine⟨a,C,t,H',B,rfl,os.trans I.os,bare,⟨fun b o hb hn ho _=>stay b o (keep' b o hb hn ho),fun b o hb hn ho _=>slot b o hb hn ho,fun b o hb hn _=>?_,fun b o hb _=>?_,fun b xs q=>un.tups b xs (I.base.tups b xs q),fun b o u q=>un.frzs b o u (I.base.frzs b o u q),fun b ps q=>?_⟩,hok,x1,keep',there',hE⟩
 ·obtain⟨o1,q⟩:=I.base.there b o hb (nex b)
  exact un.free b o1 q (I.base.free b o hb hn (nex b)) (by simp)
 ·by_cases ho:b∈frs outer
  ·obtain⟨sl,q⟩:=slot b o hb (I.ok.frf b ho) ho
   exact⟨_,q⟩
  ·obtain⟨o',q⟩:=there' b o hb ho
   exact⟨o',stay b o' q⟩
 ·obtain⟨m1,q1⟩:=I.base.tbls b ps q
  obtain⟨m2,q2⟩:=un.tbls b _ q1;exact⟨m1++m2,by rw[q2,Array.append_assoc]⟩
end
noncomputable abbrev xF:List Value:=[.type "ValueError",.type "Exception",.type "BaseException",.type "object"]
theorem yT{K:W.Frag}{h:Heap}{mg:Str->Option Value}{x:Str}{C:Addr}(X:K.In h)(b:mg x=some (.ref C))(z:excIn K C xF "ValueError.__new__"=true):OwnCls x C xF "ValueError.__new__" mg h:=by
 unfold excIn at z;split at z
 case h_2=>cases z
 case h_1 dd cd sl lk=>
  split at z
  case h_2=>cases z
  case h_1 C1 bm k0 k1 k2 k3 n k5 em es=>
   simp only[Bool.and_eq_true,beq_iff_eq,Bool.not_eq_true'] at z;obtain⟨⟨⟨⟨⟨e1,e2⟩,nodel⟩,tl⟩,nsok⟩,noinit⟩:=z;subst e1 e2;obtain⟨nm,bs,mro,ns,qn,hd,sn,sub,ab,col,del⟩:=cd;dsimp only at em nodel nsok noinit;subst em nodel;obtain⟨l⟩:=sl;simp only at es;subst es;exact⟨b,bm,ns,nm,qn,bs,hd,sn,sub,ab,col,dd,k0,k1,k2,k3,k5,_,X _ _ lk,.of_isNs (isNs_of_in X nsok),nsMap_none_of_in X nsok noinit,tail_of_in X tl⟩
noncomputable def wF(C:Addr)(E:XK)(t:TA):TS:=fun _ σ H=>t σ H fun vs H1=>vs.length<=1000/\∀e,E (.ref e) (some C) H1
section
variable{P:Program}{w:World}{K:W.Frag}{mg:Str->Option Value}{base:Heap}{N:List Str}{qual:Str}{scope:Scope}{f:Addr}{cd:Value}{A:Around}{outer:List Env}{s₀:Shared}{H₀:Hp}{E:XK}
theorem eA{x:Str}{C:Addr}{e0:Expr}{es:List Expr}{t:TA}{np cpos pos:Pos}(hr:(A.deeper (envOfC qual scope s₀.heap.objs.size f cd)).handled=none)(hg:Gl (fU (CXx P w) P w K mg base N qual scope f cd A outer s₀ H₀ E) x)(hm:mg x=some (.ref C))(hC:excIn K C xF "ValueError.__new__"=true)(ha:PA (fU (CXx P w) P w K mg base N qual scope f cd A outer s₀ H₀ E).nox (e0::es) t)(hdb:(x == ("__debug__":Str))=false:=by decide)(he:starEach (e0::es) (envOfC qual scope s₀.heap.objs.size f cd)=(false,eval e0 (envOfC qual scope s₀.heap.objs.size f cd))::starEach es (envOfC qual scope s₀.heap.objs.size f cd):=by rfl)(hpl:(backTo cpos (starEach es (envOfC qual scope s₀.heap.objs.size f cd))).any (·.1)=false:=by rfl):
  PS (fU (CXx P w) P w K mg base N qual scope f cd A outer s₀ H₀ E) (.Raise (some (.Call (.Name x np) (e0::es) [] cpos)) none pos) (wF C E t):=.mk <| by
 intro pins s σ H D I h;obtain⟨tl,NN,nm,q,bs,hdct,sn,sub,ab,col,dd,k0,k1,k2,k3,k5,mN,hCo,hN,hni,T⟩:=(yT (mg:=mg) I.ok.mod.kin hm hC).obj
 refine wpAny_Raise_call_subU (C:=C) (nm:=nm) (q:=q) (N:=NN) (bs:=bs) (bm:=tl) (hdct:=hdct) (sn:=sn) (sub:=sub) (ab:=ab) (col:=col) (dd:=dd) (k0:=k0) (k1:=k1) (k2:=k2) (k3:=k3) (k5:=k5)
  PySem.F.excBase_ValueError (by decide) PySem.F.excBase_ValueError (mN:=mN) (T.hasType PySem.F.excBase_ValueError.hasBase) hr ?_ hni (gv I hg hm ⟨rfl,?_⟩ hdb)
 ·show (backTo cpos (starEach (e0::es) (envOfC qual scope s₀.heap.objs.size f cd))).any (·.1)=false
  rw[he];show (false || (backTo cpos (starEach es (envOfC qual scope s₀.heap.objs.size f cd))).any (·.1))=false
  rw[hpl];rfl
 ·have ev:=ha cpos pins s σ H _ (I.wish _) h
  show wpAny _ _ (evalArgs (.ref C) true (backTo cpos (starEach (e0::es) (envOfC qual scope s₀.heap.objs.size f cd))) []) _ _ _;have ev:wpAny (model P w) (A.deeper (envOfC qual scope s₀.heap.objs.size f cd)) (spliced (backTo cpos (starEach (e0::es) (envOfC qual scope s₀.heap.objs.size f cd)))) _ _ s:=ev;rw[he] at ev ⊢;refine Calls.evalArgs_plain (wpAny_mono ev (fun us s2 hz=>?_) fun _ _ z=>False.elim z)
  obtain⟨vs,H1,I1,rv,hl,hE⟩:=hz;have I1:=I1.unwish;exact⟨rfl,by rw[←rv.length];exact Nat.le_of_lt (aA hl),I1.bk _ _ hCo,hN.keeps I1.bk,T.keeps I1.bk,fun h' e hx=>mR I1 hx (hE e)⟩
end
end L2
namespace L2
open PySem PySem.Spec PySem.Calls PyProof.Rows PySem.W PySem.Builtin PySem.Builtin.ObjectAttr PySem.Builtin.Getset_descriptor
noncomputable def fL(K:W.Frag)(D:Addr):Bool:=(findIn K (.ref D) "__getattribute__" == some (some (.builtin "BaseException.__getattribute__")) && findIn K (.ref D) "__getattr__" == some none) && (clsIn K D).isSome && (findIn K (.ref D) "__class__" == some (some (.builtin "object.__class__"))) && (specialIn K (.builtin "object.__class__") "__get__" == some (some (.builtin "getset_descriptor.__get__"))) && (takesIn K (.builtin "object.__class__") == some true) && (mroIn K D (.type "object") == some true && mroIn K D (.type "BaseException") == some true) && excIn K D xF "ValueError.__new__"
noncomputable def g6(x D:Addr)(h:Heap):Prop:=∃o,h.get? x=some o/\o.cls=.ref D
theorem g6.ty{x D:Addr}{h:Heap}(e:g6 x D h)(M:Model):Looks M h (typeOf (.ref x)) (.ref D):=by
 obtain⟨o,h1,h2⟩:=e;exact h2 ▸ (Looks.ld h1).andThen .now
theorem p8{K:W.Frag}{M:Model}{h:Heap}(X:K.In h){x C:Addr}{name:Str}{a g:Value}(ha:findIn K (.ref C) name=some (some a))(hg:specialIn K a "__get__"=some (some g))(ht:takesIn K a=some true):Looks M h (find (.ref x) (.ref C) name) (.bind g a):=by
 refine(looks_findIn (M:=M) X ha).andThen ((looks_specialIn (M:=M) X hg).andThen ?_);have dd:Looks M h (dataDescriptor? (some a) (some g)) (some (g,a)):=(looks_takesIn (M:=M) X ht).andThen .now;exact dd.andThen (Looks.tag .now)
section
variable{prog:Program}{w:World}{A:Around}{E:Value->Shared->Prop}{s:Shared}{K:W.Frag}{x D:Addr}
theorem ub{Q:Option Value->Shared->Prop}(X:K.In s.heap)(e:g6 x D s.heap)(ok:fL K D=true)(h:Q (some (.ref D)) { s with toks:=s.toks+1 }):wpAny (model prog w) A (getAttr? (.ref x) "__class__") Q E s:=by
 unfold fL at ok;simp only[Bool.and_eq_true,beq_iff_eq] at ok;obtain⟨⟨⟨⟨⟨⟨⟨hga,hgn⟩,_⟩,ha⟩,hn⟩,htk⟩,hm,hmb⟩,hex⟩:=ok;obtain⟨hh,gs,dr,tt,os⟩:=s;have T0:=e.ty (model prog w);have T1:=looks_findIn (M:=model prog w) X hga;have T2:=p8 (M:=model prog w) (x:=x) X ha hn htk;have T3:=looks_findIn (M:=model prog w) X hgn;have T4:=looks_mroIn (M:=model prog w) X hm;unfold getAttr? getAttrBy? getAttrBy;refine wpAny_bind (wpAny_mkText (wpAny_bind (wpAny_attempt (wpAny_holding (wpAny_bind (T0.at (wpAny_bind (T1.at ?_))))))))
 dsimp only;rw[if_neg (by rw[show (Value.builtin "BaseException.__getattribute__" == Value.builtin "object.__getattribute__")=false from by decide +kernel,Bool.and_false];exact Bool.false_ne_true)]
 have T5:=looks_mroIn (M:=model prog w) X hmb;unfold getAttrByItsOwn hookBefore callGetattribute boundAndCalled;show wpAny _ _ (typeLookup (.ref D) "__getattr__" >>= _) _ _ _;refine wpAny_bind (T3.at (wpAny_bind (wpAny_attempt (wpAny_holding ?_))));show wpAny _ _ (bindSpecial (.builtin "BaseException.__getattribute__") (.ref x) >>= _) _ _ _;refine wpAny_bind (wpAny_of_eq (PySem.F.attrBase_ValueError.ga.bind _) (wpAny_call (codeAny_call_builtin PySem.F.attrBase_ValueError.ga.plain PySem.F.entry_bexc_ga ?_)))
 have ck:∀ {Q:Unit->Shared->Prop} {E:Value->Shared->Prop} {A:Around} {nv:Value},Q () ⟨hh,gs,dr,tt+1,os⟩->wpAny (model prog w) A (checkBuiltinCall "BaseException.__getattribute__" ⟨[.ref x,nv],[]⟩) Q E ⟨hh,gs,dr,tt+1,os⟩:=fun {Q E A nv} q=>by
  have b1:builtinKind "BaseException.__getattribute__"=some .slot:=by decide +kernel
  have b2:splitId "BaseException.__getattribute__"=some ("BaseException","__getattribute__"):=by decide +kernel
  have b3:=F.args_bexc_ga (.ref x) nv;simp only[checkBuiltinCall,b1,b2];refine wpAny_bind ?_;unfold isInstance;refine wpAny_bind (T0.at (T5.at ?_));rw[if_neg (by decide)]
  unfold argsOk at b3
  first|(rw[b3];exact wpAny_pure q)|(refine wpAny_of_eq b3 q)
 refine ck ?_
 repeat (first|with_reducible refine wpAny_bind (T0.at ?_)|with_reducible refine T0.at ?_|with_reducible refine wpAny_bind (T2.at ?_)|with_reducible refine T2.at ?_|wp_step)
 refine codeAny_call_builtin KF.slot_gs.plain KF.entry_gs (KF.slot_gs.check _ _ _ _ _ _ _ _ KF.type_class (KF.args_gs _ _ _) ?_);unfold Builtin.«getset_descriptor.__get__» descrGet;rw[dga_obj];refine wpAny_bind (wpAny_pure ?_);unfold descrGetter descrCheckInstance descrNameAndClass isInstance;simp only[KF.owner_class]
 repeat lk
 refine⟨Code.quiet_builtin _ (by decide +kernel),codeAny_builtin KF.entry_class ?_⟩
 unfold Builtin.«object.__class__» shownTypeOf
 repeat lk
 first|exact h|(repeat (first|assumption|wp_step))
theorem nY(ok:fL K D=true):KitX K (.ref x) (.ref D) (g6 x D) where
 ty:=fun M h _ e=>e.ty M
 it:=fun M h X _=>by
  unfold fL at ok;simp only[Bool.and_eq_true,beq_iff_eq] at ok;obtain⟨⟨⟨⟨⟨⟨_,hc⟩,_⟩,_⟩,_⟩,_⟩,_⟩:=ok;unfold clsIn at hc;split at hc
  ·rename_i c' d' cd' sl' lk
   intro A' Q' E' s' k q;unfold isType loadHead;exact wpAny_bind (wpAny_loadPart (k _ _ (X _ _ lk)) (wpAny_pure q))
  ·cases hc
 ne:=fun h tp dd its n sl X htp=>by
  unfold fL at ok;simp only[Bool.and_eq_true,beq_iff_eq] at ok;obtain⟨⟨⟨⟨⟨⟨_,hc⟩,_⟩,_⟩,_⟩,_⟩,_⟩:=ok;refine Bool.eq_false_iff.mpr fun q=>?_;have e:D=tp:=Value.ref.inj (beq_iff_eq.mp q);subst e;unfold clsIn at hc;split at hc
  ·rename_i c' d' cd' sl' lk
   have z:=(X _ _ lk).symm.trans htp;cases z
  ·cases hc
 ca:=fun X e k=>ub X e ok k
end
noncomputable def iq(a C:Addr):HO:=.ext (g6 a C)
noncomputable def clV:V->Option Value
 |.ref a=>some (.ref a)
 |.ty n=>some (.type n)
 |_=>none
theorem xu{v:V}{u c:Value}(r:aP v u)(h:clV v=some c):u=c:=by
 cases v<;>simp[clV] at h<;>subst h<;>exact r
noncomputable def isX(K:W.Frag)(H:Hp)(f:Value->Option Bool)(x:V)(b:Bool):Prop:=(x=.non/\f (.type "NoneType")=some b)\/∃a C,x=.ref a/\H a=some (iq a C)/\fL K C=true/\f (.ref C)=some b
noncomputable def CU(K:W.Frag):List V->Hp->VK->Prop:=fun xs H Q=>∃x c cv b,xs=[x,c]/\clV c=some cv/\isX K H (fun t=>kitOne K t cv) x b/\Q (.bl b) H
theorem nN{X:Cx}(K:W.Frag)(hK:X.K=K):bQ X (.builtin "isinstance") (CU K):=by
 subst hK;intro pins s σ H xs us Q I r h;obtain⟨x,c,cv,b,rfl,hc,hx,q⟩:=h;obtain⟨u1,u2,rfl,r1,r2⟩:=aB.two r;have e2:=xu r2 hc;subst e2;rcases hx with⟨rfl,hb⟩|⟨a,C,rfl,ha,ok,hb⟩
 ·obtain rfl:u1=Value.none:=r1
  exact kia_one kitx_none I.kIn trivial hb (by intro z;cases z) fun tk=>⟨.bl b,H,I.tok tk,rfl,q⟩
 ·obtain rfl:u1=Value.ref a:=r1
  exact kia_one (nY ok) I.kIn (I.hok a _ ha).1 hb (by intro z;cases z) fun tk=>⟨.bl b,H,I.tok tk,rfl,q⟩
noncomputable def tB:List V->Option (List Value)
 | []=>some []
 |v::r=>match clV v,tB r with
  |some c,some cs=>some (c::cs)
  |_,_=>none
theorem mU:∀ {vs:List V} {us cs:List Value},aB vs us->tB vs=some cs->us=cs
 | [],us,cs,r,h=>by cases r;cases h;rfl
 |v::vs,us,cs,r,h=>by
  cases r with
  |cons r1 rr=>
   simp only[tB] at h;split at h
   ·rename_i c cs' h1 h2
    cases h;rw[xu r1 h1,mU rr h2]
   ·cases h
noncomputable def zl(K:W.Frag):List V->Hp->VK->Prop:=fun xs H Q=>∃x tp cs cvs b,xs=[x,.ref tp]/\H tp=some (.tup cs)/\tB cs=some cvs/\isX K H (fun t=>kitAny K t cvs) x b/\Q (.bl b) H
theorem ut{X:Cx}(K:W.Frag)(hK:X.K=K):bQ X (.builtin "isinstance") (zl K):=by
 subst hK;intro pins s σ H xs us Q I r h;obtain⟨x,tp,cs,cvs,b,rfl,ht,hc,hx,q⟩:=h;obtain⟨u1,u2,rfl,r1,r2⟩:=aB.two r;obtain rfl:u2=Value.ref tp:=r2;obtain⟨_,its,rv,⟨ot,e1,e2,e3⟩,_⟩:=I.hok tp _ ht;have e4:=mU rv hc;subst e4;obtain⟨n,e3⟩:=e3;obtain⟨oc,od,oda,osl⟩:=ot;dsimp only at e2 e3;subst e2 e3;rcases hx with⟨rfl,hb⟩|⟨a,C,rfl,ha,ok,hb⟩
 ·obtain rfl:u1=Value.none:=r1
  exact kia_tup kitx_none I.kIn trivial e1 hb (by intro z;cases z) fun tk=>⟨.bl b,H,I.tok tk,rfl,q⟩
 ·obtain rfl:u1=Value.ref a:=r1
  exact kia_tup (nY ok) I.kIn (I.hok a _ ha).1 e1 hb (by intro z;cases z) fun tk=>⟨.bl b,H,I.tok tk,rfl,q⟩
theorem Inv.track{X:Cx}{pins:List (Addr×Obj)}{σ:St}{H:Hp}{s:Shared}(J:Inv X pins σ H s){a:Addr}{o:HO}(hn:H a=none)(h0:X.s₀.heap.get? a=none)(hL:a≠X.env.locals)(hC:∀x c,X.env.cells.lookup x=some c->c≠a)(hp:∀p∈X.pn++pins,p.1≠a)(ho:bq X.prog X.w (upd H a o) s.heap a o):Inv X pins σ (upd H a o) s:=by
 have ne:∀b u,H b=some u->b≠a:=fun b u h z=>by subst z;rw[hn] at h;cases h
 refine⟨J.ok,J.os,J.bare,⟨J.base.keep,J.base.slot,fun b ob h1 h2 h3=>?_,J.base.there,fun b xs h=>?_,fun b ob u h=>?_,fun b ps h=>?_⟩,J.loc,J.cell,?_,fun x c h=>?_,fun p hm=>?_,fun b u h=>?_,J.len⟩
 ·rw[aq (fun z=>by subst z;rw[h0] at h1;cases h1)]
  exact J.base.free b ob h1 h2 h3
 ·have:=J.base.tups b xs h
  rw[aq (ne b _ this)];exact this
 ·have:=J.base.frzs b ob u h
  rw[aq (ne b _ this)];exact this
 ·obtain⟨more,this⟩:=J.base.tbls b ps h
  exact⟨more,by rw[aq (ne b _ this)];exact this⟩
 ·rw[aq (Ne.symm hL)];exact J.free
 ·rw[aq (hC x c h)];exact J.freeC x c h
 ·obtain⟨z1,z2,z3,z4,z5⟩:=J.pin p hm
  exact⟨z1,by rw[aq (hp p hm)];exact z2,z3,z4,z5⟩
 ·by_cases hb:b=a
  ·subst hb;rw[bn] at h;cases h;exact ho
  ·rw[aq hb] at h
   exact(J.hok b u h).stay (fun _ _ _ q=>q) (fun c q=>by rw[aq (ne c _ q)];exact q) (fun c xs q=>by rw[aq (ne c _ q)];exact q) fun c o' u' q=>by rw[aq (ne c _ q)];exact q
noncomputable def PEX(X:Cx)(CX:CXT)(e:Expr)(t:XK->TE):Prop:=∀(pins:List (Addr×Obj)) (s:Shared) (σ:St) (H:Hp) (Q:VK) (E:XK),Inv X pins σ H s->t E σ H Q ->
 wpAny (model X.prog X.w) X.A (eval e X.env) (EP X pins σ Q) (fun x s'=>∃H1 s1,Inv X pins σ H1 s1/\CX X.stack H1 s1 E x s') s
section
variable{X:Cx}{CX:CXT}{k:Nat}{f:Addr}{fd:FuncData}{ps:List Str}{sp:Sp}{x:Str}{p pos:Pos}{e:Expr}{es:List Expr}{t:TA}
theorem nn(F:aY X.prog X.w X.K X.mg X.base CX k f fd ps sp)(hr:dn k X.A)(hg:Gl X x)(hm:X.mg x=some (.ref f))(hk:W.keepIn X.K (.ref f)=true)(hb:bB X.K fd ps [])(ha:PA X.nox (e::es) t)(hdb:(x == ("__debug__":Str))=false:=by decide)(he:starEach (e::es) X.env=(false,eval e X.env)::starEach es X.env:=by rfl)(hpl:(backTo pos (starEach es X.env)).any (·.1)=false:=by rfl):
  PEX X CX (.Call (.Name x p) (e::es) [] pos) (fun E=>lX sp [] E t):=by
 intro pins s σ H Q E I h;refine wpAny_Call_Name_kw (gv I hg hm ?_ hdb);refine W.callWith_K (h₀:=X.base) I.ok.mod.kin hk (wpAny_mono (ha pos pins s σ H _ (I.wish _) h) (fun us s1 ⟨vs,H1,I1,r,q⟩=>⟨I1.kIn,?_⟩) fun _ _ z=>False.elim z) he hpl;have I1:=I1.unwish;have q:sp (vs++[]) H1 Q E:=q;rw[List.append_nil] at q;have hl:(us++[]).length=ps.length:=by rw[List.append_nil,←r.length];exact F.len _ _ _ _ q
 have hbb:=hb s1 us I1.kIn hl;rw[List.append_nil] at hbb;refine wpAny_call (codeAny_mono (F.run X.A X.stack s1 H1 ⟨us,[]⟩ us vs Q E hr I1.env0 hbb r q) fun r s' hq=>?_)
 cases r with
 |error e=>exact⟨H1,s1,I1,hq⟩
 |ok fl=>
  cases fl with
  |ret u=>exact I1.after hq
  |next=>exact False.elim hq
  |brk=>exact False.elim hq
  |cont=>exact False.elim hq
end
end L2
namespace L2
open PySem PySem.Spec PySem.Calls PyProof.Rows PySem.W
section
variable{X:Cx}{pins:List (Addr×Obj)}{σ:St}{H:Hp}{s:Shared}
theorem tX{M:Model}{A:Around}{E:Value->Shared->Prop}{i:Nat}{n:Str}{pos:Pos}{Q:Unit->Shared->Prop}(J:Inv X pins σ H s)(hN:X.N.Nodup)(hi:X.N[i]?=some n)(hl:X.env.scope.names.lookup n=some .local)(h:∀s',Inv X pins (σ.set i none) H s'->Q () s'):wpAny M A (do bindName X.env n .none;unbindBehindTheSuite X.env n pos) Q E s:=by
 have hcls:(X.env.scope.kind == .class || (X.env.scope.kind == .module && X.env.locals != X.env.globals))=false:=by rw[J.ok.kind];rfl
 obtain⟨m,hn,hk⟩:=J.loc;refine wpAny_nameGoes_keeps hl hn hcls fun h' v hn' hs=>h _ ?_;have at':∀b o,b≠X.env.locals->s.heap.get? b=some o->h'.get? b=some o:=fun b o hb q=>(hs.2 b hb).trans q;have ne0:∀b o,X.s₀.heap.get? b=some o->b≠X.env.locals:=fun b o e=>Nat.ne_of_lt (Nat.lt_of_lt_of_le (Heap.lt_size e) J.ok.above);have cel:∀x c v,X.env.cells.lookup x=some c->s.heap.IsCell c v->h'.IsCell c v:=fun x c v e ⟨o,q1,q2⟩=>⟨o,at' c o (J.cne x c e) q1,q2⟩
 refine⟨J.ok,J.os,J.bare,⟨fun b o e1 e2 e3 e4=>at' b o (ne0 b o e1) (J.base.keep b o e1 e2 e3 e4),fun b o e1 e2 e3 e4=>?_,J.base.free,fun b o e1 e2=>?_,J.base.tups,J.base.frzs,J.base.tbls⟩,⟨_,hn',fun j x w h1 h2 h3=>?_⟩,fun x c e=>?_,J.free,J.freeC,fun p hp=>?_,fun b o e=>?_,?_⟩
 ·obtain⟨sl,q⟩:=J.base.slot b o e1 e2 e3 e4
  exact⟨sl,at' b _ (ne0 b o e1) q⟩
 ·obtain⟨o',q⟩:=J.base.there b o e1 e2
  exact⟨o',at' b _ (ne0 b o e1) q⟩
 ·have hji:j≠i:=fun z=>by
   subst z;rw[List.getElem?_set] at h2;simp only[if_true] at h2;split at h2<;>cases h2
  rw[List.getElem?_set_ne (Ne.symm hji)] at h2;obtain⟨u,r,l⟩:=hk j x w h1 h2 h3
  have hxn:x≠n:=fun z=>by
   subst z;have b1:=List.getElem?_eq_some_iff.mp h1;have b2:=List.getElem?_eq_some_iff.mp hi;exact hji ((List.getElem_inj hN).mp (b1.2.trans b2.2.symm))
  refine⟨u,r,?_⟩;rcases l with⟨l1,l2⟩|⟨l1,c,l2,l3⟩
  ·exact .inl ⟨l1,by show (if x=n then v else m x)=some u;rw[if_neg hxn];exact l2⟩
  ·exact .inr ⟨l1,c,l2,cel x c _ l2 l3⟩
 ·obtain⟨v,q⟩:=J.cell x c e
  exact⟨v,cel x c v e q⟩
 ·obtain⟨z1,z2,z3,z4,z5⟩:=J.pin p hp
  exact⟨at' _ _ z3 z1,z2,z3,z4,z5⟩
 ·have nl:∀b u,H b=some u->b≠X.env.locals:=fun b u q z=>by subst z;rw[J.free] at q;cases q
  refine(J.hok b o e).stay (fun c u hc q=>at' c u ?_ q) (fun _ q=>q) (fun _ _ q=>q) fun _ _ _ q=>q;rcases hc with rfl|hc
  ·exact nl _ _ e
  ·exact nl _ _ hc
 ·rw[List.length_set];exact J.len
end
noncomputable def PSX(X:Cx)(CX:CXT)(st:Stmt)(t:XK->TS):Prop:=∀(pins:List (Addr×Obj)) (s:Shared) (σ:St) (H:Hp) (D:fK) (E:XK),Inv X pins σ H s->t E D σ H ->
 wpAny (model X.prog X.w) X.A (exec st X.env) (SP X pins D) (fun x s'=>∃H1 s1,Inv X pins σ H1 s1/\CX X.stack H1 s1 E x s') s
section
variable{X:Cx}{CX:CXT}{e:Expr}{te:XK->TE}{pos:Pos}
theorem pP(he:PEX X CX e te)(hs:swapsWith e none pos.line X.env=pure false:=by rfl):PSX X CX (.Expr e pos) (fun E=>nO (te E)):=by
 intro pins s σ H D E I h;exact wpAny_Expr_any (thn (he pins s σ H _ E I h) fun v s1 ⟨x,H1,I1,r1,q1⟩=>⟨σ,H1,I1,q1⟩) I.quiet hs
end
noncomputable def Ce(K:W.Frag)(T:Addr)(i j:Nat)(tb:XK->TS):TS:=fun D σ H=>tb (fun x C H'=>∀a c,x=.ref a->C=some c->H' a=none->exmOne K (.ref c) (.ref T)=some true/\D.nx ((σ.set i none).set j (some (.ref a))) (upd H' a (iq a c))) D σ H
noncomputable def Cx.inX(X:Cx)(e:Value):Cx:={ X with A:=X.A.mark (some e),calm:=false,xe:=fun _ _=>False }
theorem Inv.inX{X:Cx}{pins:List (Addr×Obj)}{σ:St}{H:Hp}{s:Shared}(I:Inv X pins σ H s)(e:Value):Inv (X.inX e) pins σ H s:=
 ⟨⟨I.ok.mod,I.ok.kind,I.ok.glob,I.ok.blt,I.ok.above,I.ok.inj,I.ok.has,I.ok.cab,fun z=>(nomatch z),I.ok.frames,I.ok.stk,I.ok.exf,I.ok.bs,I.ok.bsz,I.ok.noex,I.ok.exfs,I.ok.funs,I.ok.frf,I.ok.tt⟩,I.os,I.bare,I.base,I.loc,I.cell,I.free,I.freeC,I.pin,I.hok,I.len⟩
theorem Inv.Em{X:Cx}{e:Value}{pins:List (Addr×Obj)}{σ:St}{H:Hp}{s:Shared}(ok:X.Ok)(I:Inv (X.inX e) pins σ H s):Inv X pins σ H s:=⟨ok,I.os,I.bare,I.base,I.loc,I.cell,I.free,I.freeC,I.pin,I.hok,I.len⟩
theorem Bc{X:Cx}{st:Stmt}{tb:XK->TS}{T:Addr}{tn n z:Str}{i j:Nat}{tp np zp ap hp pos:Pos}(hS:X.stack=X.env::X.outer)(hF:X.env.frame=some X.env.locals)(hX:X.ex=[])(hb:PSX X (CXx X.prog X.w) st tb)(hg:Gl X tn)(hm:X.mg tn=some (.ref T))(hN:X.N.Nodup)(hi:X.N[i]?=some n)(hj:X.N[j]?=some z)(hij:i≠j)(hn:X.env.scope.names.lookup n=some .local)(hz:X.env.scope.names.lookup z=some .local)(hdb:(tn == ("__debug__":Str))=false:=by decide)(hdn:(n == ("__debug__":Str))=false:=by decide)(hcn:(n == ("__classdict__":Str))=false:=by decide)(hs:∀v:Value,swapsWith (.Name n np) (some (.Name z zp)) ap.line X.env=pure false:=by intro _;rfl):
  PS X (.Try [st] [.ExceptHandler (some (.Name tn tp)) (some n) [.Assign [.Name z zp] (.Name n np) ap] hp] [] [] pos) (Ce X.K T i j tb):=.mk <| by
 intro pins s σ H D I h;refine wpAny_Try_except (wpAny_execs_cons (wpAny_mono (hb pins s σ H D _ I h) (fun f s1 q=>?_) fun x s' hx=>?_))
 ·cases f with
  |next=>exact wpAny_execs_nil (wpAny_execs_nil q)
  |ret v=>exact q
  |brk=>exact q
  |cont=>exact q
 obtain⟨H1,s1,I1,a,C,t,H',B,rfl,os,bare,un,hok,fl,keep,there,hE⟩:=hx;have hfr:X.A.frames=some (X.env::X.outer):=by rw[←hS];exact I1.ok.frames
 rw[hS] at un keep there fl;have hBa:B.get? a=none:=fl.2.1
 have hna:H' a=none:=by
  cases q:H' a with
  |none=>rfl
  |some u=>
   obtain⟨o,e⟩:=ix (hok a u q);rw[hBa] at e;cases e
 obtain⟨hex,hnx⟩:=hE a C rfl rfl hna;have fst:=I1.stack;rw[hS] at fst
 have nonf:∀b o,s1.heap.get? b=some o->b∈frs (X.env::X.outer)->∀vs,o.data≠.fields vs:=fun b o hb ho=>by
  obtain⟨_,o2,q2,nf⟩:=fst.mem (b:=b) ho;rw[hb] at q2;cases q2;exact nf
 refine wpAny_looks_onW hfr hF fl fun h2 held up2=>wpAny_landsW held fun h3 fl3 up3=>?_
 have back:∀h4:Heap,Heap.FlyingW B (X.env::X.outer) a (.ref C) (.ref t) h4->s'.heap.UpToSlots h4->Inv X pins σ (upd H' a (iq a C)) { s' with heap:=h4 }:=fun h4 fl4 up4=>by
  have stay:=fl4.1
  have un4:Un (frs X.stack) [] H1 H' s1.heap h4:=by
   rw[hS]
   have slot:∀b o,s1.heap.get? b=some o->H1 b=none->b∈frs (X.env::X.outer)->∃sl,h4.get? b=some { o with slots:=sl }:=fun b o hb hn ho=>by
    obtain⟨sl1,q1⟩:=un.slot b o hb hn ho (by simp)
    obtain⟨sl2,q2⟩:=up4 b _ q1 (nonf b o hb ho);exact⟨sl2,q2⟩
   refine⟨fun b o hb hn ho _=>stay b o (keep b o hb hn ho),fun b o hb hn ho _=>slot b o hb hn ho,un.free,fun b o hb _=>?_,un.tups,un.frzs,un.tbls⟩;by_cases ho:b∈frs (X.env::X.outer)
   ·obtain⟨sl,q⟩:=slot b o hb (I1.Ea b (by rw[hS];exact ho)) ho
    exact⟨_,q⟩
   ·obtain⟨o',q⟩:=there b o hb ho
    exact⟨o',stay b o' q⟩
  have J:Inv X pins σ H' { s' with heap:=h4 }:=I1.call' (s':={ s' with heap:=h4 }) os un4 (hok.kept stay) bare (fun b z=>absurd z (by simp))
  have ex4:g6 a C h4:=fl4.there
  have inB:∀b o,s1.heap.get? b=some o->b ∉ frs (X.env::X.outer)->b≠a:=fun b o hb ho z=>by
   subst z;obtain⟨o',q⟩:=there b o hb ho;rw[hBa] at q;cases q
  have fields:∃oe vs,h4.get? a=some oe/\oe.data=.fields vs:=by
   obtain⟨oe,vs,q1,_,q2,_⟩:=fl4.first;exact⟨oe,vs,q1,q2⟩
  have nfr:a ∉ frs (X.env::X.outer):=fun hm=>by
   obtain⟨_,o2,q2,nf⟩:=fl4.2.2.1.mem (b:=a) hm;obtain⟨oe,vs,q3,q4⟩:=fields;rw[q3] at q2;cases q2;exact nf vs q4
  have hL : a≠X.env.locals:=fun z=>nfr (by
   unfold frs;rw[List.filterMap_cons,hF]
   exact z ▸ List.mem_cons_self)
  have inS:∀b o,s1.heap.get? b=some o->b≠a:=fun b o hb=>by
   by_cases ho:b∈frs (X.env::X.outer)
   ·exact fun z=>nfr (z ▸ ho)
   ·exact inB b o hb ho
  refine J.track hna ?_ hL (fun x c hc=>?_) (fun p hp=>?_) ⟨ex4,?_,fun g1 g2 ⟨o,q1,q2⟩ k=>⟨o,k o q1,q2⟩⟩
  ·cases q:X.s₀.heap.get? a with
   |none=>rfl
   |some o=>
    obtain⟨o',q'⟩:=I1.base.there a o q (by rw[hX];simp)
    exact absurd rfl (inS a o' q')
  ·obtain⟨v,o,q,_⟩:=I1.cell x c hc
   exact inS c o q
  ·exact inS _ _ (I1.pin p hp).1
  ·obtain⟨o,q,_⟩:=ex4
   exact⟨o,q⟩
 have J3:=back h3 fl3 (up2.trans up3);refine wpAny_handleBy_cons (codeAny_handlers_test ?_) (by intro q;cases q)
 refine gv (X:=X.inX (.ref a)) (J3.inX _) hg hm ?_ hdb;refine(exm_one J3.kIn (g6.ty fl3.there _) hex).here ?_;show codeAny _ _ _ _ _;refine codeAny_handlers_suite_as ?_;refine wpAny_setFlight_noneW fl3.1 fl3.2.2.1 fl3.2.2.2 fun h5 k1 k2 k3 k4=>?_;have fl5:Heap.FlyingW B (X.env::X.outer) a (.ref C) (.ref t) h5:=⟨k1,hBa,k2,k3⟩;have J5:=back h5 fl5 ((up2.trans up3).trans fun b o hb hn=>⟨o.slots,k4 b o hb hn⟩)
 refine jO (X:=X.inX (.ref a)) (v:=.ref a) (J5.inX _) hN hi (.inl hn) rfl (fun s6 J6=>?_) (.inr hn);have ass:PS (X.inX (.ref a)) (.Assign [.Name z zp] (.Name n np) ap) (um (wN i) (lU j)):=aE (X:=X.inX (.ref a)) hN hj (.inl hz) (xH (X:=X.inX (.ref a)) hi (.inl hn) hdn hcn) (hs .none) (.inr hz);refine wpAny_execs_cons (wpAny_mono (ass pins s6 (σ.set i (some (.ref a))) (upd H' a (iq a C)) { nx:=fun σ' H2=>σ'=(σ.set i (some (.ref a))).set j (some (.ref a))/\H2=upd H' a (iq a C),rt:=fun _ _=>False } J6 ?_) (fun f s7 q=>?_) fun _ _ z=>False.elim z)
 ·have hil:i<σ.length:=by rw[J5.len];exact(List.getElem?_eq_some_iff.mp hi).1
  exact⟨.ref a,by rw[List.getElem?_set];simp[hil],rfl,rfl⟩
 cases f with
 |ret v=>obtain⟨_,_,_,_,_,q⟩:=q;exact q.elim
 |brk=>obtain⟨_,_,_,q⟩:=q;exact q.elim
 |cont=>obtain⟨_,_,_,q⟩:=q;exact q.elim
 |next=>
  obtain⟨σ7,H7,J7,e7,e8⟩:=q;subst e7 e8;refine wpAny_execs_nil ?_;show wpAny _ _ _ _ _ _;refine tX (Inv.Em I1.ok J7) hN hi hn fun s8 J8=>?_;refine⟨_,_,J8,?_⟩;rw[List.set_comm _ _ (Ne.symm hij),List.set_set];exact hnx
end L2
namespace L2
open PySem PySem.Spec PyProof.Rows
noncomputable abbrev f6:=List AV->Om->(AV->Om->Prop)->(Addr->Om->Prop)->Prop
noncomputable def LX(F:Fs)(H:Hp)(ω:Om)(Ex:Addr->Om->Prop)(E:XK):Prop:=∀C ω' a H',Rep F H' ω'->Fr F H ω H' ω'->Ex C ω'->E (.ref a) (some C) H'
theorem LX.fr{F:Fs}{H H1:Hp}{ω ω1:Om}{Ex:Addr->Om->Prop}{E:XK}(k:LX F H ω Ex E)(f:Fr F H ω H1 ω1):LX F H1 ω1 Ex E:=fun C ω' a H' rp fr q=>k C ω' a H' rp (f.trans fr) q
noncomputable def jc(sp:f6):Sp:=fun vs H Q E=>∃(F:Fs)(xs:List AV)(ω:Om)(Q':AV->Om->Prop)(Ex:Addr->Om->Prop),Rep F H ω/\RVs (cut F H ω) xs vs/\sp xs ω Q' Ex/\LP RV F H ω Q' Q/\LX F H ω Ex E
noncomputable def spN(sp:f6):ASp:=fun xs ω Q=>sp xs ω Q fun _ _=>False
theorem aY.calm{P:Program}{w:World}{K:W.Frag}{mg:Str->Option Value}{base:Heap}{k:Nat}{f:Addr}{fd:FuncData}{ps:List Str}{sp:f6}(F:aY P w K mg base (CXx P w) k f fd ps (jc sp)):aY P w K mg base CX0 k f fd ps (dY (spN sp)):=by
 refine⟨fun vs H Q E h=>?_,fun A outer s H args us vs Q E hr he hb hv h=>?_⟩
 ·obtain⟨F',xs,ω,Q',rp,rv,h,kq⟩:=h
  exact F.len vs H Q (fun _ _ _=>False) ⟨F',xs,ω,Q',_,rp,rv,h,kq,fun _ _ _ _ _ _ z=>z⟩
 ·obtain⟨F',xs,ω,Q',rp,rv,h,kq⟩:=h
  refine codeAny_mono (F.run A outer s H args us vs Q (fun _ _ _=>False) hr he hb hv ⟨F',xs,ω,Q',_,rp,rv,h,kq,fun _ _ _ _ _ _ z=>z⟩) fun r s' q=>?_
  cases r with
  |error e=>
   obtain⟨_,_,_,_,_,_,_,_,_,_,_,_,_,z⟩:=q;exact z.elim
  |ok fl=>cases fl<;>exact q
noncomputable abbrev AXS:=bC->(Addr->Om->Prop)->SA->Om->Prop
structure gM(E:XK)(t:TS)(t':AXS):Prop where
 run:∀(F:Fs)(H:Hp)(ω:Om)(σ:St)(ρ:SA)(D:fK)(D':bC)(Ex:Addr->Om->Prop),Rep F H ω->RS (cut F H ω) ρ σ->t' D' Ex ρ ω->LE F H ω D' D->LX F H ω Ex E->t D σ H
noncomputable def CK(t:AS):AXS:=fun D _ ρ ω=>t D ρ ω
noncomputable def zP(t u:AXS):AXS:=fun D Ex ρ ω=>t { D with nx:=u D Ex } Ex ρ ω
noncomputable def Dr(c:AT)(t u:AXS):AXS:=fun D Ex ρ ω=>c ρ ω fun b ω1=>if b=true then t D Ex ρ ω1 else u D Ex ρ ω1
noncomputable def rG(C:Addr)(ta:AA):AXS:=fun _ Ex ρ ω=>ta ρ ω fun xs ω1=>xs.length<=1000/\Ex C ω1
noncomputable def zD(sp:f6)(ta:AA)(i:Nat):AXS:=fun D Ex ρ ω=>ta ρ ω fun xs ω1=>sp xs ω1 (fun v ω2=>D.nx (ρ.set i (some v)) ω2) Ex
theorem qZ(t:AS)(D:bC)(Ex:Addr->Om->Prop)(ρ:SA)(ω:Om):CK t D Ex ρ ω=t D ρ ω:=rfl
theorem vJ(t u:AXS)(D:bC)(Ex:Addr->Om->Prop)(ρ:SA)(ω:Om):zP t u D Ex ρ ω=t { D with nx:=u D Ex } Ex ρ ω:=rfl
theorem sW(c:AT)(t u:AXS)(D:bC)(Ex:Addr->Om->Prop)(ρ:SA)(ω:Om):Dr c t u D Ex ρ ω=c ρ ω fun b ω1=>if b=true then t D Ex ρ ω1 else u D Ex ρ ω1:=rfl
theorem ka(C:Addr)(ta:AA)(D:bC)(Ex:Addr->Om->Prop)(ρ:SA)(ω:Om):rG C ta D Ex ρ ω=ta ρ ω fun xs ω1=>xs.length<=1000/\Ex C ω1:=rfl
theorem on(sp:f6)(ta:AA)(i:Nat)(D:bC)(Ex:Addr->Om->Prop)(ρ:SA)(ω:Om):zD sp ta i D Ex ρ ω=ta ρ ω fun xs ω1=>sp xs ω1 (fun v ω2=>D.nx (ρ.set i (some v)) ω2) Ex:=rfl
section
variable{E:XK}{t u:TS}{t' u':AXS}{ta:TA}{ta':AA}{tc:TT}{tc':AT}{sp:f6}{C:Addr}
theorem gQ{a:AS}(h:fF t a):gM E t (CK a):=⟨fun F H ω σ ρ D D' Ex rp rs w k kx=>h.run F H ω σ ρ D D' rp rs w k⟩
theorem eF(h1:gM E t t')(h2:gM E u u'):gM E (BL t u) (zP t' u'):=⟨fun F H ω σ ρ D D' Ex rp rs h k kx=>
 h1.run F H ω σ ρ _ _ Ex rp rs h ⟨fun ρ1 ω1 σ1 H1 rp1 fr1 rs1 q=>h2.run F H1 ω1 σ1 ρ1 D D' Ex rp1 rs1 q (k.fr fr1) (kx.fr fr1),k.rt,k.bk,k.ct⟩ kx⟩
theorem qF(hc:fN tc tc')(h1:gM E t t')(h2:gM E u u'):gM E (Bo tc t u) (Dr tc' t' u'):=⟨fun F H ω σ ρ D D' Ex rp rs w k kx=>
 hc.go rp rs w fun a ω1 v H1 rp1 fr1 rs1 rv q=>by
  cases (show a=v from rv)
  cases a with
  |true=>rw[if_pos rfl] at q ⊢;exact h1.run F H1 ω1 σ ρ D D' Ex rp1 rs1 q (k.fr fr1) (kx.fr fr1)
  |false=>rw[if_neg Bool.false_ne_true] at q ⊢;exact h2.run F H1 ω1 σ ρ D D' Ex rp1 rs1 q (k.fr fr1) (kx.fr fr1)⟩
theorem fz(ha:fP ta ta'):gM E (wF C E ta) (rG C ta'):=⟨fun F H ω σ ρ D D' Ex rp rs w k kx=>
 ha.go rp rs w fun xs ω1 vs H1 rp1 fr1 rs1 rv q=>⟨by rw[rv.length];exact q.1,fun e=>kx C ω1 e H1 rp1 fr1 q.2⟩⟩
theorem zJ{i:Nat}(ha:fP ta ta'):gM E (um (lX (jc sp) [] E ta) (lU i)) (zD sp ta' i):=⟨fun F H ω σ ρ D D' Ex rp rs w k kx=>
 ha.go rp rs w fun xs ω1 vs H1 rp1 fr1 rs1 rv q=>by
  rw[List.append_nil]
  exact⟨F,xs,ω1,_,Ex,rp1,rv,q,fun a ω2 v H2 rp2 fr2 rv2 q2=>k.nx _ ω2 _ H2 rp2 (fr1.trans fr2) ((rs1.same fr2.same).set rv2) q2,kx.fr fr1⟩⟩
end
theorem PS.nox{X:Cx}{st:Stmt}{t:TS}(h:PS X.nox st t):PS X st t:=.mk <| fun pins s σ H D I hw=>
 wpAny_mono (h pins s σ H D (I.wish _) hw) (fun _ _ q=>q.unwish) fun _ _ z=>False.elim z
theorem PA.nox{X:Cx}{es:List Expr}{t:TA}(h:PA X.nox es t):PA X es t:=.mk <| fun pos pins s σ H Q I hw=>
 wpAny_mono (h pos pins s σ H Q (I.wish _) hw) (fun _ _ ⟨v,H',I',r,q⟩=>⟨v,H',I'.unwish,r,q⟩) fun _ _ z=>False.elim z
theorem Fun.okX{P:Program}{w:World}{K:W.Frag}{mg:Str->Option Value}{base:Heap}{x qual:Str}{st:Stmt}{f:Addr}{fd:FuncData}{N ps:List Str}{k:Nat}{sp:f6}(F:Fun K x qual st f fd)(S:aM N ps (defScope st))(len:∀xs ω Q Ex,sp xs ω Q Ex->xs.length=ps.length)
  (hbody:∀(cdv:Value)(A:Around)(outer:List Env)(s:Shared)(H:Hp)(E:XK),dn k (A.deeper (envOfC qual (defScope st) s.heap.objs.size f cdv)) ->
   ∃t t',PSs (fU (CXx P w) P w K mg base N qual (defScope st) f cdv A outer s H E) (defBody st) t/\gM E t t'/\∀xs ω Q' Ex,sp xs ω Q' Ex->t' { nx:=fun _ ω'=>Q' (.d .non) (ω'.only ω),rt:=fun a ω'=>∃d,a=.d d/\Q' (.d d) (ω'.only ω) } (fun C ω'=>Ex C (ω'.only ω)) (gq N xs) ω):aY P w K mg base (CXx P w) (k+1) f fd ps (jc sp):=by
 obtain⟨oc,od,kV,doc,pm,an,cdv,ct,osl,rfl,lk,hcd⟩:=F.ex;refine zr lk hcd S (fun vs H Q E h=>?_) (fun A outer s H vs Q E hr h=>?_)
 ·obtain⟨F',xs,ω,Q',Ex,rp,rv,h,_⟩:=h
  rw[rv.length,len xs ω Q' Ex h]
 ·obtain⟨t,t',h1,h2,h3⟩:=hbody cdv A outer s H E hr
  obtain⟨F',xs,ω,Q',Ex,rp,rv,h,kq,kx⟩:=h;refine⟨t,h1,h2.run F' H ω _ _ _ _ _ rp (RS.start rv) (h3 xs ω Q' Ex h) ⟨?_,?_,fun _ _ _ _ _ _ _ z=>z.elim,fun _ _ _ _ _ _ _ z=>z.elim⟩ ?_⟩
  ·exact fun ρ' ω' σ' H' e1 e2 e3 q=>kq (.d .non) (ω'.only ω) .non H' e1.only.1 e2.only (by simp[RV,Dat]) q
  ·rintro a ω' v H' e1 e2 e3 ⟨d,rfl,q⟩
   exact kq (.d d) (ω'.only ω) v H' e1.only.1 e2.only (e3.same e1.only.2) q
  ·exact fun C ω' a H' e1 e2 q=>kx C (ω'.only ω) a H' e1.only.1 e2.only q
noncomputable def tM(a C:Addr):AV:=.p (.ref a) (fun G=>G a=some (iq a C))
noncomputable def CS(K:W.Frag)(T:Addr)(i j:Nat)(y:Option Nat)(sp:f6)(ta:AA):AS:=fun D ρ ω=>ta ρ ω fun xs ω1=>sp xs ω1 (fun v ω2=>D.nx (match y with|none=>ρ|some k=>ρ.set k (some v)) ω2)
 (fun c ω2=>W.exmOne K (.ref c) (.ref T)=some true/\∀a,D.nx ((ρ.set i none).set j (some (tM a c))) ω2)
theorem oS(K:W.Frag)(T:Addr)(i j:Nat)(sp:f6)(ta:AA)(D:bC)(ρ:SA)(ω:Om):CS K T i j none sp ta D ρ ω=ta ρ ω fun xs ω1=>sp xs ω1 (fun v ω2=>D.nx ρ ω2) (fun c ω2=>W.exmOne K (.ref c) (.ref T)=some true/\∀a,D.nx ((ρ.set i none).set j (some (tM a c))) ω2):=rfl
theorem RS.Ev{G:Hp}{ρ:SA}{σ:St}{i:Nat}(h:RS G ρ σ):RS G (ρ.set i none) (σ.set i none):=by
 refine⟨by simp[h.1],fun j b e=>?_⟩
 by_cases hj:j=i
 ·subst hj
  rw[List.getElem?_set] at e;simp only[if_true] at e;split at e<;>cases e
 ·rw[List.getElem?_set_ne (Ne.symm hj)] at e
  rw[List.getElem?_set_ne (Ne.symm hj)];exact h.2 j b e
section
variable{K:W.Frag}{T:Addr}{i j:Nat}{sp:f6}{ta:TA}{ta':AA}
theorem LE.caught{F:Fs}{H H1:Hp}{ω ω1:Om}{σ:St}{ρ:SA}{D:fK}{D':bC}(k:LE F H ω D' D)(fr1:Fr F H ω H1 ω1)(rs1:RS (cut F H1 ω1) ρ σ):
  LX F H1 ω1 (fun c ω2=>W.exmOne K (.ref c) (.ref T)=some true/\∀a,D'.nx ((ρ.set i none).set j (some (tM a c))) ω2) (fun x C H'=>∀a c,x=.ref a->C=some c->H' a=none->W.exmOne K (.ref c) (.ref T)=some true/\D.nx ((σ.set i none).set j (some (.ref a))) (upd H' a (iq a c))):=by
 intro C ω2 a H2 rp2 fr2 q a' c' e1 e2 hn;cases e1;cases e2;obtain⟨rp3,fr3,hc⟩:=rp2.lay (o:=iq a C) hn;have rx:RV (cut F (upd H2 a (iq a C)) ω2) (tM a C) (.ref a):=⟨rfl,fun G' s=>s _ _ hc⟩;exact⟨q.1,k.nx _ ω2 _ _ rp3 ((fr1.trans fr2).trans fr3) (((rs1.same fr2.same).same fr3.same).Ev.set rx) (q.2 a)⟩
theorem CW(ha:fP ta ta'):fF (Ce K T i j fun E=>nO (lX (jc sp) [] E ta)) (CS K T i j none sp ta'):=⟨fun F H ω σ ρ D D' rp rs w k=>
 ha.go rp rs w fun xs ω1 vs H1 rp1 fr1 rs1 rv q=>by
  rw[List.append_nil]
  exact⟨F,xs,ω1,_,_,rp1,rv,q,fun a ω2 v H2 rp2 fr2 rv2 q2=>k.nx _ ω2 _ H2 rp2 (fr1.trans fr2) (rs1.same fr2.same) q2,k.caught fr1 rs1⟩⟩
end
noncomputable def qc(K:W.Frag)(f:Value->Option Bool)(x:AV)(b:Bool):Prop:=(x=.d .non/\f (.type "NoneType")=some b)\/∃a C,x=tM a C/\fL K C=true/\f (.ref C)=some b
theorem qc.of{K:W.Frag}{f:Value->Option Bool}{x:AV}{b:Bool}{F:Fs}{H:Hp}{ω:Om}{v:V}(h:qc K f x b)(r:RV (cut F H ω) x v):isX K H f v b:=by
 rcases h with⟨rfl,hb⟩|⟨a,C,rfl,ok,hb⟩
 ·exact .inl ⟨AZ r,hb⟩
 ·obtain⟨rfl,h2⟩:=r
  exact .inr ⟨a,C,rfl,(ba.mp (h2 _ (cw.refl _))).2.2,ok,hb⟩
theorem kQ{K:W.Frag}{f:Value->Option Bool}{b:Bool}{a C:Addr}(ok:fL K C=true)(h:f (.ref C)=some b):qc K f (tM a C) b:=.inr ⟨a,C,rfl,ok,h⟩
noncomputable def De(K:W.Frag):AC:=fun xs ω Q=>∃x c cv b,xs=[x,.r c]/\clV c=some cv/\qc K (fun t=>W.kitOne K t cv) x b/\Q (.d (.bl b)) ω
theorem sN(K:W.Frag)(xs:List AV)(ω:Om)(Q:AV->Om->Prop):De K xs ω Q=∃x c cv b,xs=[x,.r c]/\clV c=some cv/\qc K (fun t=>W.kitOne K t cv) x b/\Q (.d (.bl b)) ω:=rfl
theorem Ab{K:W.Frag}:iA (CU K) (De K):=⟨fun F H ω vs xs Q Q' rp rv ⟨x,c,cv,b,e,h1,h2,q⟩ k=>by
 subst e;obtain⟨v,u,rfl,r1,r2⟩:=yh rv;have e2:u=c:=r2;rw[e2]
 exact⟨v,c,cv,b,rfl,h1,h2.of r1,k.bl rp q⟩⟩
noncomputable def zT(K:W.Frag)(tx:AE)(tcs:AA):AE:=fun ρ ω Q=>tx ρ ω fun x ω1=>tcs ρ ω1 fun cs ω2=>∃vs cvs b,cs=vs.map AV.r/\vs.length<=1000/\tB vs=some cvs/\qc K (fun t=>W.kitAny K t cvs) x b/\Q (.d (.bl b)) ω2
theorem oY(K:W.Frag)(tx:AE)(tcs:AA)(ρ:SA)(ω:Om)(Q:AV->Om->Prop):zT K tx tcs ρ ω Q=tx ρ ω fun x ω1=>tcs ρ ω1 fun cs ω2=>∃vs cvs b,cs=vs.map AV.r/\vs.length<=1000/\tB vs=some cvs/\qc K (fun t=>W.kitAny K t cvs) x b/\Q (.d (.bl b)) ω2:=rfl
theorem ml{G:Hp}:∀ {vs us:List V},RVs G (vs.map AV.r) us->us=vs
 | [],us,h=>h
 |v::vs,us,h=>by
  obtain⟨u,r,rfl,h1,h2⟩:=h;cases (show u=v from h1)
  rw[ml h2]
theorem BB{K:W.Frag}{tx:TE}{tx':AE}{tcs:TA}{tcs':AA}(hx:aZ tx tx')(hc:fP tcs tcs'):aZ (tCB (zl K) (ic tx (ic (yQ tcs) xU))) (zT K tx' tcs'):=⟨fun F H ω σ ρ Q Q' rp rs w k=>
 hx.go rp rs w fun x ω1 v H1 rp1 fr1 rs1 rv1 q1=>hc.go rp1 rs1 q1 fun cs ω2 us H2 rp2 fr2 rs2 rv2 ⟨vs,cvs,b,e,hl,h1,h2,q⟩=>by
  subst e;cases ml rv2;refine⟨Nat.le_of_lt (aA hl),fun p hp=>?_⟩;obtain⟨rp3,fr3,hc3⟩:=rp2.lay (o:=.tup us) hp
  exact⟨v,p,us,cvs,b,rfl,bn,h1,h2.of (rv1.same (fr2.trans fr3).same),(k.fr ((fr1.trans fr2).trans fr3)).bl rp3 q⟩⟩
theorem g0{K:W.Frag}{D:Addr}(h:fL K D=true):W.excIn K D xF "ValueError.__new__"=true:=by
 unfold fL at h;simp only[Bool.and_eq_true] at h;exact h.2
end L2
namespace L2
open PySem PySem.Spec PySem.Calls PyProof.Rows PySem.W
structure DX(P:Program)(w:World)(K:W.Frag)(mg:Str->Option Value)(base:Heap)(H₀:Hp)(k:Nat)(f:Addr)(n:Nat)(sp:Sp):Prop where
 fn:∃(oc:Value)(od:Option Addr)(fd:FuncData) (sl:Array (Option Value)) (u:HO),H₀ f=some (.frz ⟨oc,od,.func fd,sl⟩ u)
 len:∀vs H Q E,sp vs H Q E->vs.length=n
 run:∀(A:Around)(outer:List Env)(s:Shared)(H:Hp)(us:List Value)(vs:List V)(Q:VK)(E:XK),dn k A->tL P w K mg base A outer s H->Frz H₀ H->aB vs us->sp vs H Q E ->
  codeAny (model P w) A (.call (.ref f) ⟨us,[]⟩) (CR (CXx P w) outer P w H s Q E) s
end L2
namespace L2
open PySem PySem.Spec PySem.Calls PyProof.Rows
structure Ap3(z u o i j l p q r:Addr):Prop where
 uz:u≠z
 oz:o≠z
 iz:i≠z
 jz:j≠z
 lz:l≠z
 uo:u≠o
 ui:u≠i
 uj:u≠j
 ul:u≠l
 oi:o≠i
 oj:o≠j
 ol:o≠l
 ij:i≠j
 il:i≠l
 jl:j≠l
 np:∀c∈[z,u,o,i,j,l],p≠c
 nq:∀c∈[z,u,o,i,j,l],q≠c
 nr:∀c∈[z,u,o,i,j,l],r≠c
noncomputable def zS(to:AE):AE:=fun ρ ω Q=>to ρ ω fun x ω1=>∃i,x=.d (.int i)/\Q (.d (.int ((Builtin.Int.intBits i:Nat):Int))) ω1
theorem ox(to:AE)(ρ:SA)(ω:Om)(Q:AV->Om->Prop):zS to ρ ω Q=(to ρ ω fun x ω1=>∃i,x=.d (.int i)/\Q (.d (.int ((Builtin.Int.intBits i:Nat):Int))) ω1):=rfl
theorem BW{K:W.Frag}{to:TE}{to':AE}(ho:aZ to to'):aZ (BZ K "int" (fun x xs H Q=>∃i,x=.int i/\xs=[]/\Q (.int ((Builtin.Int.intBits i:Nat):Int)) H) to) (zS to'):=⟨fun F H ω σ ρ Q Q' rp rs w k=>
 ho.go rp rs w fun x ω1 v H1 rp1 fr1 rs1 rv1 ⟨i,e,q1⟩=>by
  subst e;cases bc rv1
  exact⟨rfl,i,rfl,rfl,k _ ω1 _ H1 rp1 fr1 (by simp[RV,Dat]) q1⟩⟩
end L2
namespace L2
open PySem PySem.Spec PyProof.Rows
inductive O where
 |d (x:D)|box (b:Bool)|tup (os:List O)
noncomputable def Om.del(ω:Om)(l:Addr):Om:=fun b=>if b=l then none else ω b
theorem Om.D8{ω:Om}{l:Addr}:ω.del l l=none:=by unfold Om.del;rw[if_pos rfl]
theorem Om.Ec{ω:Om}{l b:Addr}(h:b≠l):ω.del l b=ω b:=by unfold Om.del;rw[if_neg h]
theorem Om.Eo{ω:Om}{l:Addr}{c:OC}(h:ω l=none):(ω.put l c).del l=ω:=by
 funext b
 by_cases hb:b=l
 ·subst hb;rw[Om.D8,h]
 ·rw[Om.Ec hb,Om.D2 hb]
section
variable{F:Fs}{H:Hp}{ω:Om}
theorem Rep.give(R:Rep F H ω){l:Addr}{o:HO}(h:ow (ω l)=true):Rep F (upd H l o) (ω.del l)/\Fr F H ω (upd H l o) (ω.del l)/\cut F (upd H l o) (ω.del l) l=some o:=by
 have hn:ω l≠none:=fun z=>by rw[z] at h;cases h
 have hF:F l=false:=by
  cases e:F l with
  |false=>rfl
  |true=>exact absurd (R.hid l e).1 hn
 have fr:Fr F H ω (upd H l o) (ω.del l):=by
  refine⟨fun b o' x f e=>?_,fun b f=>?_⟩
  ·have hb:b≠l:=fun z=>by subst z;rw[h] at x;cases x
   exact⟨by rw[aq hb];exact e,by rw[Om.Ec hb];exact x⟩
  ·have hb:b≠l:=fun z=>by subst z;rw[hF] at f;cases f
   rw[aq hb]
 refine⟨⟨fun k zs e=>?_,fun k es e=>?_,fun b f=>?_,fun k ks e=>?_⟩,fr,ba.mpr ⟨by rw[Om.D8];rfl,hF,bn⟩⟩
 ·have hk:k≠l:=fun z=>by subst z;rw[Om.D8] at e;cases e
  rw[Om.Ec hk] at e;obtain⟨us,q1,q2⟩:=R.own k zs e;exact⟨us,by rw[aq hk];exact q1,q2.same fr.same⟩
 ·have hk:k≠l:=fun z=>by subst z;rw[Om.D8] at e;cases e
  rw[Om.Ec hk] at e;exact(R.frz k es e).same fr.same
 ·obtain⟨x,vs,q⟩:=R.hid b f
  have hb:b≠l:=fun z=>hn (by rw[←z];exact x)
  exact⟨by rw[Om.Ec hb];exact x,vs,by rw[aq hb];exact q⟩
 ·have hk:k≠l:=fun z=>by subst z;rw[Om.D8] at e;cases e
  rw[Om.Ec hk] at e;obtain⟨us,q1,q2⟩:=R.dic k ks e;exact⟨us,by rw[aq hk];exact q1,q2.same fr.same⟩
end
end L2
namespace L2
open PySem PySem.Spec PyProof.Rows AutoSeq1
end L2
namespace L2
open PySem PySem.Spec PyProof PyProof.Rows PySem.SeqAt
open AutoSeq1 (wpAny_loadPart')
noncomputable def LtA(A:Around)(s:Shared)(x y:Value)(b:Bool):Prop:=∀(p:Program)(w:World)(E:Value->Shared->Prop)(Q:Value->Shared->Prop),Q (.bool b) s->wpAny (model p w) A (richCompare .Lt x y) Q E s
noncomputable def oq(A:Around)(s:Shared)(fin:Bool):List (Value×Value)->Bool->Prop
 | [],r=>r=fin
 |(p,q)::t,r=>∃b,EqAt A s p q b/\(b=true->oq A s fin t r)/\(b=false->LtA A s p q r)
theorem t7(x y:Addr)(xs ys:Array Value)(n m:Nat)(dx dy:Option Addr)(sx sy:Array (Option Value))(r:Bool):
  Meets (Builtin.«tuple.__lt__» ⟨[.ref x,.ref y],[]⟩)
   (fun A R s=>s.heap.get? x=some { cls:=.type "tuple",dict:=dx,data:=.seq xs n,slots:=sx }/\s.heap.get? y=some { cls:=.type "tuple",dict:=dy,data:=.seq ys m,slots:=sy } /\
    oq A.in1 s (decide (xs.size<ys.size)) (xs.toList.zip ys.toList) r/\R (.ok (.ret (.bool r))) s):=
 .of_wp fun prog w A R s h=>by
  obtain⟨hp,g,d,tk,os⟩:=s;obtain⟨hx,hy,he,h⟩:=h;have f2:=AutoSeq1.sub_tuple_tuple
  wp_walk using wpAny_loadPart' hx,wpAny_loadPart' hy,wpAny_forIn_list _ (fun bA b s'=>b.1=none/\s'=⟨hp,g,d,tk,os⟩/\oq A.in1 ⟨hp,g,d,tk,os⟩ (decide (xs.size<ys.size)) bA r) _
  case turn=>
   rintro⟨p,q⟩ bA b s' ⟨hb,rfl,hL⟩;obtain⟨k,hk,h1,h2⟩:=hL;refine wpAny_bind (hk prog w _ _ ?_)
   cases k with
   |true=>
    wp_walk
    exact⟨rfl,rfl,h1 rfl⟩
   |false=>
    rw[if_pos (by rfl)]
    refine wpAny_bind (wpAny_rule (wpAny_bind (h2 rfl prog w _ _ ?_)))
    wp_walk
    exact⟨_,rfl,h⟩
  case fin=>
   rintro⟨b1,b2⟩ s' ⟨hb,rfl,hL⟩;simp only at hb;subst hb;have e:r=decide (xs.size<ys.size):=hL;subst e
   wp_walk
   exact⟨_,rfl,h⟩
  case h=>exact⟨rfl,rfl,he⟩
theorem LtA.tuples{A:Around}{s:Shared}{x y:Addr}{xs ys:Array Value}{r:Bool}(hx:s.heap.IsTuple x xs)(hy:s.heap.IsTuple y ys)(hu:A.units<cLine)(he:oq A.in1 s (decide (xs.size<ys.size)) (xs.toList.zip ys.toList) r):LtA A s (.ref x) (.ref y) r:=fun p w E Q q=>by
 obtain⟨⟨c1,d1,t1,l1⟩,o1,hc1,n1,hd1⟩:=id hx;obtain⟨⟨c2,d2,t2,l2⟩,o2,hc2,n2,hd2⟩:=id hy;simp only at hc1 hd1 hc2 hd2;subst hc1 hd1 hc2 hd2;exact richCompare_meets_room (op:=.Lt) ⟨_,o1,rfl⟩ ⟨_,o2,rfl⟩ F.slot_tuple_lt F.entry_tuple_lt (F.args_tuple_lt_2 _ _) (t7 x y xs ys n1 n2 d1 d2 l1 l2 r) ⟨o1,o2,he,show Value.bool r≠Value.notImplemented/\Q (.bool r) s from ⟨fun z=>(nomatch z),q⟩⟩ hu
mutual
noncomputable def ltD:D->D->Bool
 |.int a,.int b=>decide (a<b)
 |.str a,.str b=>decide (a.cps.toList<b.cps.toList)
 |.tup xs,.tup ys=>pA xs ys
 |_,_=>false
noncomputable def pA:List D->List D->Bool
 | [],[]=>false
 | [],_::_=>true
 |_::_,[]=>false
 |x::xs,y::ys=>if eqD x y then pA xs ys else ltD x y
end
mutual
noncomputable def cmD:D->D->Bool
 |.int _,.int _=>true
 |.str _,.str _=>true
 |.tup xs,.tup ys=>oM xs ys
 |_,_=>false
noncomputable def oM:List D->List D->Bool
 |x::xs,y::ys=>if eqD x y then oM xs ys else cmD x y
 |_,_=>true
end
section
variable{X:Cx}{pins:List (Addr×Obj)}{σ:St}{H:Hp}{s:Shared}
theorem vP(I:Inv X pins σ H s){A:Around}{n:Nat}(hu:A.units+n<cLine)(lt:∀(d e:D)(x y:V)(v u:Value),dep d<=n->Dat H d x->Dat H e y->aP x v->aP y u->cmD d e=true->LtA A s v u (ltD d e)):
  ∀ {ds es:List D} {xs ys:List V} {vs us:List Value},dw ds<=n->aw H ds xs->aw H es ys->aB xs vs->aB ys us->oM ds es=true->oq A s (decide (vs.length<us.length)) (vs.zip us) (pA ds es)
 | [],[],xs,ys,vs,us,_,h1,h2,r1,r2,_=>by
  simp only[aw] at h1 h2;subst h1 h2;cases r1;cases r2;rfl
 | [],e::es,xs,ys,vs,us,_,h1,h2,r1,r2,_=>by
  simp only[aw] at h1 h2;obtain⟨y,yr,rfl,_,_⟩:=h2;subst h1;cases r1;cases r2;simp[oq,pA]
 |d::ds,[],xs,ys,vs,us,_,h1,h2,r1,r2,_=>by
  simp only[aw] at h1 h2;obtain⟨x,xr,rfl,_,_⟩:=h1;subst h2;cases r1;cases r2;simp[oq,pA]
 |d::ds,e::es,xs,ys,vs,us,hd,h1,h2,r1,r2,hc=>by
  simp only[aw] at h1 h2;obtain⟨x,xr,rfl,hx,hxr⟩:=h1;obtain⟨y,yr,rfl,hy,hyr⟩:=h2
  cases r1 with
  | @cons _ v _ vs rx rxr=>
  cases r2 with
  | @cons _ u _ us ry ryr=>
  have d1:dep d<=n:=Nat.le_trans (j9 (List.mem_cons_self ..)) hd;have d2:dw ds<=n:=by simp only[dw] at hd;omega
  simp only[oM] at hc;simp only[List.zip_cons_cons,oq,pA];refine⟨eqD d e,(mY I n d e x y v u A d1 hu hx hy rx ry).2.1,fun q=>?_,fun q=>?_⟩
  ·rw[if_pos q] at hc ⊢
   have:=vP I hu lt d2 hxr hyr rxr ryr hc;rw[show decide ((v::vs).length<(u::us).length)=decide (vs.length<us.length) from by simp]
   exact this
  ·rw[if_neg (by rw[q];decide)] at hc ⊢
   exact lt d e x y v u d1 hx hy rx ry hc
theorem CB(I:Inv X pins σ H s):∀(n:Nat)(A:Around)(d e:D)(x y:V)(v u:Value),A.units+n<cLine->dep d<=n->Dat H d x->Dat H e y->aP x v->aP y u->cmD d e=true->LtA A s v u (ltD d e):=fun n=>by
 induction n with
 |zero=>
  intro A d e x y v u hu hd hx hy rx ry hc
  cases d with
  |int a=>
   cases e<;>simp only[cmD,Bool.false_eq_true] at hc
   simp only[Dat] at hx hy;subst hx hy;obtain⟨t1,rfl⟩:=rx;obtain⟨t2,rfl⟩:=ry;exact fun p w E Q q=>lt_int q
  |str a=>
   cases e<;>simp only[cmD,Bool.false_eq_true] at hc
   simp only[Dat] at hx hy;subst hx hy;obtain⟨t1,rfl⟩:=rx;obtain⟨t2,rfl⟩:=ry;exact fun p w E Q q=>lt_str q
  |tup ds=>simp[dep] at hd
  |non=>cases e<;>simp[cmD] at hc
  |bl b=>cases e<;>simp[cmD] at hc
  |lst b=>cases e<;>simp[cmD] at hc
  |dk b=>cases e<;>simp[cmD] at hc
  |dt b=>cases e<;>simp[cmD] at hc
 |succ n ih=>
  intro A d e x y v u hu hd hx hy rx ry hc;by_cases h0:dep d<=n
  ·exact ih A d e x y v u (by omega) h0 hx hy rx ry hc
  have hin:A.in1.units+n<cLine:=by show A.units+1+n<cLine;omega
  cases d with
  |tup ds=>
   cases e<;>simp only[cmD,Bool.false_eq_true] at hc
   rename_i es
   simp only[Dat] at hx hy;obtain⟨a,xs,rfl,ha,hxs⟩:=hx;obtain⟨b,ys,rfl,hb,hys⟩:=hy;cases rx;cases ry;obtain⟨its,r1,p1⟩:=eB I ha;obtain⟨jts,r2,p2⟩:=eB I hb;have:=vP I hin (fun d e x y v u q1 q2 q3 q4 q5 q6=>ih A.in1 d e x y v u hin q1 q2 q3 q4 q5 q6) (by simp only[dep] at hd;omega) hxs hys r1 r2 hc
   exact LtA.tuples p1 p2 (by omega) (by simpa[ltD] using this)
  |int a=>simp only[dep] at h0;omega
  |str a=>simp only[dep] at h0;omega
  |non=>cases e<;>simp[cmD] at hc
  |bl b=>cases e<;>simp[cmD] at hc
  |lst b=>cases e<;>simp[cmD] at hc
  |dk b=>cases e<;>simp[cmD] at hc
  |dt b=>cases e<;>simp[cmD] at hc
noncomputable def CV:R2:=fun x y H Q=>∃d e,Dat H d x/\Dat H e y/\dep d<=100/\cmD d e=true/\Q (.bl (ltD d e)) H
theorem A7(hu:X.A.units+100<cLine):OpR X (compareOp .Lt) CV:=by
 intro pins s σ H x y v u Q I rx ry h;obtain⟨d,e,hx,hy,hd,hc,q⟩:=h;exact CB I 100 X.A d e x y v u hu hd hx hy rx ry hc X.prog X.w _ _ ⟨.bl _,H,I,rfl,q⟩
end
noncomputable def C3:A2:=fun x y ω Q=>∃a b,bg ω x=some a/\bg ω y=some b/\dep a<=100/\cmD a b=true/\Q (.d (.bl (ltD a b))) ω
theorem yV(x y:AV)(ω:Om)(Q:AV->Om->Prop):C3 x y ω Q=∃a b,bg ω x=some a/\bg ω y=some b/\dep a<=100/\cmD a b=true/\Q (.d (.bl (ltD a b))) ω:=rfl
theorem Dw:fC CV C3:=⟨fun F H ω v u x y Q Q' rp h1 h2 ⟨a,b,e1,e2,s,c,q⟩ k=>⟨a,b,fy rp h1 e1,fy rp h2 e2,s,c,k.bl rp q⟩⟩
section
variable{X:Cx}{pins:List (Addr×Obj)}{σ:St}{H:Hp}{s:Shared}{A:Around}{E:Value->Shared->Prop}{Q:Value->Shared->Prop}{b:Bool}
theorem ql{x:V}{u:Value}{t:String}{tp:Addr}{dd:Option Addr}{its:List Value}{n:Nat}{sl:Array (Option Value)}(I:Inv X pins σ H s)(rx:aP x u)(ty:dv H x=some t)(hT:s.heap.get? tp=some ⟨.type "tuple",dd,.seq its.toArray n,sl⟩)(e:W.kitAny X.K (.type t) its=some b)(h:∀tk,Q (.bool b) { s with toks:=tk }):wpAny (model X.prog X.w) A (call (.builtin "isinstance") [u,.ref tp]) Q E s:=by
 cases x with
 |non=>cases ty;cases rx;exact W.kia_tup W.kitx_none I.kIn trivial hT e (fun z=>nomatch z) h
 |bl y=>cases ty;cases rx;exact W.kia_tup W.kitx_bool I.kIn trivial hT e (fun z=>nomatch z) h
 |int i=>cases ty;obtain⟨_,rfl⟩:=rx;exact W.kia_tup W.kitx_int I.kIn trivial hT e (fun z=>nomatch z) h
 |str y=>cases ty;obtain⟨_,rfl⟩:=rx;exact W.kia_tup W.kitx_str I.kIn trivial hT e (fun z=>nomatch z) h
 |byt b=>cases ty
 |flt b=>cases ty
 |ty n=>cases ty
 |ref a=>
  cases rx;unfold dv at ty;dsimp only at ty;split at ty
  ·rename_i q;cases ty
   obtain⟨_,_,n,_,h1⟩:=(show bq X.prog X.w H s.heap a (.lst _) from I.hok a _ q)
   exact W.kia_tup W.kitx_list I.kIn ⟨_,h1,rfl⟩ hT e (fun z=>nomatch z) h
  ·rename_i q;cases ty
   obtain⟨_,_,_,p⟩:=(show bq X.prog X.w H s.heap a (.tup _) from I.hok a _ q)
   obtain⟨o,h1,h2,_⟩:=p.1;exact W.kia_tup W.kitx_tuple I.kIn ⟨o,h1,h2⟩ hT e (fun z=>nomatch z) h
  ·rename_i q;cases ty
   obtain⟨_,_,vs,_,p⟩:=(show bq X.prog X.w H s.heap a (.dK _) from I.hok a _ q)
   obtain⟨o,es,ep,h1,h2,_⟩:=p;exact W.kia_tup W.kitx_dict I.kIn ⟨o,h1,h2.1⟩ hT e (fun z=>nomatch z) h
  ·rename_i q;cases ty
   obtain⟨es,ep,h1⟩:=jW I q;exact W.kia_tup W.kitx_dict I.kIn ⟨_,h1,rfl⟩ hT e (fun z=>nomatch z) h
  ·rename_i q;cases ty
   obtain⟨_,_,_,n,_,h1⟩:=(show bq X.prog X.w H s.heap a (.frz _ (.lst _)) from I.hok a _ q)
   exact W.kia_tup W.kitx_list I.kIn ⟨_,h1,rfl⟩ hT e (fun z=>nomatch z) h
  ·cases ty
theorem Au(K:W.Frag){t:String}(ht:t∈gK):W.kitAny K (.type t) [.type "list",.type "tuple"]=some (t == "list" || t == "tuple"):=by
 simp only[gK,List.mem_cons,List.not_mem_nil,or_false] at ht;rcases ht with rfl|rfl|rfl|rfl|rfl|rfl|rfl<;>with_unfolding_all rfl
end
noncomputable def zk:List V->Hp->VK->Prop:=fun xs H Q=>∃x tp t,xs=[x,.ref tp]/\H tp=some (.tup [.ty "list",.ty "tuple"])/\dv H x=some t/\Q (.bl (t == "list" || t == "tuple")) H
theorem uI{X:Cx}:bQ X (.builtin "isinstance") zk:=by
 intro pins s σ H xs us Q I r h;obtain⟨x,tp,t,rfl,ht,hx,q⟩:=h;obtain⟨u1,u2,rfl,r1,r2⟩:=aB.two r;obtain rfl:u2=Value.ref tp:=r2;obtain⟨_,its,rv,⟨ot,e1,e2,n,e3⟩,_⟩:=I.hok tp _ ht;have e4:=mU (cs:=[.type "list",.type "tuple"]) rv rfl;subst e4;obtain⟨oc,od,oda,osl⟩:=ot;dsimp only at e2 e3;subst e2 e3;exact ql I r1 hx e1 (Au X.K (jf hx)) fun tk=>⟨.bl _,H,I.tok tk,rfl,q⟩
noncomputable def zd(tx:AE)(tcs:AA):AE:=fun ρ ω Q=>tx ρ ω fun x ω1=>tcs ρ ω1 fun cs ω2=>∃d,cs=[.r (.ty "list"),.r (.ty "tuple")]/\bg ω2 x=some d/\Q (.d (.bl (tyD d == "list" || tyD d == "tuple"))) ω2
theorem xy(tx:AE)(tcs:AA)(ρ:SA)(ω:Om)(Q:AV->Om->Prop):zd tx tcs ρ ω Q=tx ρ ω fun x ω1=>tcs ρ ω1 fun cs ω2=>∃d,cs=[.r (.ty "list"),.r (.ty "tuple")]/\bg ω2 x=some d/\Q (.d (.bl (tyD d == "list" || tyD d == "tuple"))) ω2:=rfl
theorem BM{tx:TE}{tx':AE}{tcs:TA}{tcs':AA}(hx:aZ tx tx')(hc:fP tcs tcs'):aZ (tCB zk (ic tx (ic (yQ tcs) xU))) (zd tx' tcs'):=⟨fun F H ω σ ρ Q Q' rp rs w k=>
 hx.go rp rs w fun x ω1 v H1 rp1 fr1 rs1 rv1 q1=>hc.go rp1 rs1 q1 fun cs ω2 us H2 rp2 fr2 rs2 rv2 ⟨d,e,h1,q⟩=>by
  subst e;cases ml (vs:=[.ty "list",.ty "tuple"]) rv2;refine⟨Nat.le_of_lt (aA (by decide)),fun p hp=>?_⟩
  obtain⟨rp3,fr3,hc3⟩:=rp2.lay (o:=.tup [.ty "list",.ty "tuple"]) hp
  exact⟨v,p,tyD d,rfl,bn,zB (fy rp3 (rv1.same (fr2.trans fr3).same) h1),(k.fr ((fr1.trans fr2).trans fr3)).bl rp3 q⟩⟩
end L2
namespace L2
open PySem PySem.Spec PyProof PyProof.Rows PySem.SeqAt
end L2
namespace L2
open PySem PySem.Spec PySem.Calls PyProof PyProof.Rows PySem.SeqAt
section
variable{prog:Program}{w:World}{A:Around}{E:Value->Shared->Prop}{s:Shared}
noncomputable def zO(h0 h:Heap):Prop:=∀x o,h0.get? x=some o->h.get? x=some o
structure D1(prog:Program)(w:World)(A:Around)(h0:Heap)(s:Shared)(vs:List Value)(c:Nat->Nat->Bool)(b:Bool):Prop where
 kind:∀h,zO h0 h->∃fs T,W.KatTups h vs fs/\fs.length=vs.length/\(∀v∈fs,W.Looks (model prog w) h (typeOf v) T)/\(T == T)=true/\(T != Value.type "tuple")=b
 ask:∀h,zO h0 h->∀i j,i<vs.length->j<vs.length->∀(C:Bool->Shared->Prop)(E:Value->Shared->Prop),C (c i j) { s with heap:=h }->wpAny (model prog w) A (keyLt' (tuples' b) (vs.getD i Value.none) (vs.getD j Value.none)) C E { s with heap:=h }
end
section
variable{X:Cx}{pins:List (Addr×Obj)}{σ:St}{H:Hp}{s:Shared}{A:Around}
noncomputable def DH(k:Bool)(d:D):Prop:=∃r,(k=true/\∃z,d=.tup (.str z::r))\/(k=false/\∃i,d=.tup (.int i::r))
end
structure Srt(W:List D)(key:D->List Int)(k:Bool):Prop where
 row:∀d∈W,DH k d
 cmp:∀d∈W,∀e∈W,cmD d e=true
 lt:∀d∈W,∀e∈W,ltD d e=cq (key d) (key e)
end L2
namespace L2
open PySem PySem.Spec PyProof PyProof.Rows PySem.SeqAt
section
variable{K:W.Frag}{x qual:Str}{st:Stmt}{f:Addr}{fd:FuncData}
theorem Fun.D5{p0:Str}(F:Fun K x qual st f fd)(h:∀(kV doc pm:Value)(an:Option Addr)(cdv ct:Value)(u0:Value),bindArgs (W.fnOf x qual (defArgs st) (defBody st) (defScope st) .none kV doc pm an cdv ct) ⟨[u0],[]⟩=pure ([p0].zip [u0])):bB K fd [p0] []:=
 F.binds fun a b c d e g us hl=>match us,hl with | [u0],_=>h a b c d e g u0
theorem Fun.D9{p0 p1:Str}(F:Fun K x qual st f fd)(h:∀(kV doc pm:Value)(an:Option Addr)(cdv ct:Value)(u0 u1:Value),bindArgs (W.fnOf x qual (defArgs st) (defBody st) (defScope st) .none kV doc pm an cdv ct) ⟨[u0,u1],[]⟩=pure ([p0,p1].zip [u0,u1])):bB K fd [p0,p1] []:=
 F.binds fun a b c d e g us hl=>match us,hl with | [u0,u1],_=>h a b c d e g u0 u1
theorem Fun.Ef{p0 p1 p2:Str}(F:Fun K x qual st f fd)(h:∀(kV doc pm:Value)(an:Option Addr)(cdv ct:Value)(u0 u1 u2:Value),bindArgs (W.fnOf x qual (defArgs st) (defBody st) (defScope st) .none kV doc pm an cdv ct) ⟨[u0,u1,u2],[]⟩=pure ([p0,p1,p2].zip [u0,u1,u2])):bB K fd [p0,p1,p2] []:=
 F.binds fun a b c d e g us hl=>match us,hl with | [u0,u1,u2],_=>h a b c d e g u0 u1 u2
end
end L2
namespace L2
open PySem PySem.Spec PyProof.Rows
end L2
namespace L2
open PySem PySem.Spec PySem.Calls PyProof.Rows PySem.W
noncomputable def Aa(K:W.Frag)(T:Addr)(tb:XK->TS)(th:TS):TS:=fun D σ H=>tb (fun x C H'=>∀a c,x=.ref a->C=some c->H' a=none->exmOne K (.ref c) (.ref T)=some true/\th D σ (upd H' a (iq a c))) D σ H
theorem yq{X:Cx}{st sh:Stmt}{tb:XK->TS}{th:TS}{T:Addr}{tn:Str}{tp hp pos:Pos}(hS:X.stack=X.env::X.outer)(hF:X.env.frame=some X.env.locals)(hX:X.ex=[])(hb:PSX X (CXx X.prog X.w) st tb)(hg:Gl X tn)(hm:X.mg tn=some (.ref T))(hh:∀e,PS (X.inX e) sh th)(hdb:(tn == ("__debug__":Str))=false:=by decide):
  PS X (.Try [st] [.ExceptHandler (some (.Name tn tp)) none [sh] hp] [] [] pos) (Aa X.K T tb th):=.mk <| by
 intro pins s σ H D I h;refine wpAny_Try_except (wpAny_execs_cons (wpAny_mono (hb pins s σ H D _ I h) (fun f s1 q=>?_) fun x s' hx=>?_))
 ·cases f with
  |next=>exact wpAny_execs_nil (wpAny_execs_nil q)
  |ret v=>exact q
  |brk=>exact q
  |cont=>exact q
 obtain⟨H1,s1,I1,a,C,t,H',B,rfl,os,bare,un,hok,fl,keep,there,hE⟩:=hx;have hfr:X.A.frames=some (X.env::X.outer):=by rw[←hS];exact I1.ok.frames
 rw[hS] at un keep there fl;have hBa:B.get? a=none:=fl.2.1
 have hna:H' a=none:=by
  cases q:H' a with
  |none=>rfl
  |some u=>
   obtain⟨o,e⟩:=ix (hok a u q);rw[hBa] at e;cases e
 obtain⟨hex,hnx⟩:=hE a C rfl rfl hna;have fst:=I1.stack;rw[hS] at fst
 have nonf:∀b o,s1.heap.get? b=some o->b∈frs (X.env::X.outer)->∀vs,o.data≠.fields vs:=fun b o hb ho=>by
  obtain⟨_,o2,q2,nf⟩:=fst.mem (b:=b) ho;rw[hb] at q2;cases q2;exact nf
 refine wpAny_looks_onW hfr hF fl fun h2 held up2=>wpAny_landsW held fun h3 fl3 up3=>?_
 have back:∀h4:Heap,Heap.FlyingW B (X.env::X.outer) a (.ref C) (.ref t) h4->s'.heap.UpToSlots h4->Inv X pins σ (upd H' a (iq a C)) { s' with heap:=h4 }:=fun h4 fl4 up4=>by
  have stay:=fl4.1
  have un4:Un (frs X.stack) [] H1 H' s1.heap h4:=by
   rw[hS]
   have slot:∀b o,s1.heap.get? b=some o->H1 b=none->b∈frs (X.env::X.outer)->∃sl,h4.get? b=some { o with slots:=sl }:=fun b o hb hn ho=>by
    obtain⟨sl1,q1⟩:=un.slot b o hb hn ho (by simp)
    obtain⟨sl2,q2⟩:=up4 b _ q1 (nonf b o hb ho);exact⟨sl2,q2⟩
   refine⟨fun b o hb hn ho _=>stay b o (keep b o hb hn ho),fun b o hb hn ho _=>slot b o hb hn ho,un.free,fun b o hb _=>?_,un.tups,un.frzs,un.tbls⟩;by_cases ho:b∈frs (X.env::X.outer)
   ·obtain⟨sl,q⟩:=slot b o hb (I1.Ea b (by rw[hS];exact ho)) ho
    exact⟨_,q⟩
   ·obtain⟨o',q⟩:=there b o hb ho
    exact⟨o',stay b o' q⟩
  have J:Inv X pins σ H' { s' with heap:=h4 }:=I1.call' (s':={ s' with heap:=h4 }) os un4 (hok.kept stay) bare (fun b z=>absurd z (by simp))
  have ex4:g6 a C h4:=fl4.there
  have inB:∀b o,s1.heap.get? b=some o->b ∉ frs (X.env::X.outer)->b≠a:=fun b o hb ho z=>by
   subst z;obtain⟨o',q⟩:=there b o hb ho;rw[hBa] at q;cases q
  have fields:∃oe vs,h4.get? a=some oe/\oe.data=.fields vs:=by
   obtain⟨oe,vs,q1,_,q2,_⟩:=fl4.first;exact⟨oe,vs,q1,q2⟩
  have nfr:a ∉ frs (X.env::X.outer):=fun hm=>by
   obtain⟨_,o2,q2,nf⟩:=fl4.2.2.1.mem (b:=a) hm;obtain⟨oe,vs,q3,q4⟩:=fields;rw[q3] at q2;cases q2;exact nf vs q4
  have hL : a≠X.env.locals:=fun z=>nfr (by
   unfold frs;rw[List.filterMap_cons,hF]
   exact z ▸ List.mem_cons_self)
  have inS:∀b o,s1.heap.get? b=some o->b≠a:=fun b o hb=>by
   by_cases ho:b∈frs (X.env::X.outer)
   ·exact fun z=>nfr (z ▸ ho)
   ·exact inB b o hb ho
  refine J.track hna ?_ hL (fun x c hc=>?_) (fun p hp=>?_) ⟨ex4,?_,fun g1 g2 ⟨o,q1,q2⟩ k=>⟨o,k o q1,q2⟩⟩
  ·cases q:X.s₀.heap.get? a with
   |none=>rfl
   |some o=>
    obtain⟨o',q'⟩:=I1.base.there a o q (by rw[hX];simp)
    exact absurd rfl (inS a o' q')
  ·obtain⟨v,o,q,_⟩:=I1.cell x c hc
   exact inS c o q
  ·exact inS _ _ (I1.pin p hp).1
  ·obtain⟨o,q,_⟩:=ex4
   exact⟨o,q⟩
 have J3:=back h3 fl3 (up2.trans up3);refine wpAny_handleBy_cons (codeAny_handlers_test ?_) (by intro q;cases q)
 refine gv (X:=X.inX (.ref a)) (J3.inX _) hg hm ?_ hdb;refine(exm_one J3.kIn (g6.ty fl3.there _) hex).here ?_;show codeAny _ _ _ _ _;refine codeAny_handlers_suite ?_;refine wpAny_setFlight_noneW fl3.1 fl3.2.2.1 fl3.2.2.2 fun h5 k1 k2 k3 k4=>?_;have fl5:Heap.FlyingW B (X.env::X.outer) a (.ref C) (.ref t) h5:=⟨k1,hBa,k2,k3⟩;have J5:=back h5 fl5 ((up2.trans up3).trans fun b o hb hn=>⟨o.slots,k4 b o hb hn⟩)
 refine wpAny_execs_cons (wpAny_mono ((hh (.ref a)) pins _ σ (upd H' a (iq a C)) D (J5.inX _) hnx) (fun f s7 q=>?_) fun _ _ z=>False.elim z)
 cases f with
 |ret v=>obtain⟨a1,a2,a3,a4,a5,q⟩:=q;exact⟨a1,a2,a3,Inv.Em I1.ok a4,a5,q⟩
 |brk=>obtain⟨a1,a2,a3,q⟩:=q;exact⟨a1,a2,Inv.Em I1.ok a3,q⟩
 |cont=>obtain⟨a1,a2,a3,q⟩:=q;exact⟨a1,a2,Inv.Em I1.ok a3,q⟩
 |next=>
  obtain⟨σ7,H7,J7,e7⟩:=q;exact wpAny_execs_nil ⟨σ7,H7,Inv.Em I1.ok J7,e7⟩
section
variable{K:W.Frag}{T:Addr}{sp:f6}{ta:TA}{ta':AA}{th:TS}{th':AS}
theorem LE.Ep{F:Fs}{H H1:Hp}{ω ω1:Om}{σ:St}{ρ:SA}{D:fK}{D':bC}(hh:fF th th')(k:LE F H ω D' D)(fr1:Fr F H ω H1 ω1)(rs1:RS (cut F H1 ω1) ρ σ):
  LX F H1 ω1 (fun c ω2=>W.exmOne K (.ref c) (.ref T)=some true/\th' D' ρ ω2) (fun x C H'=>∀a c,x=.ref a->C=some c->H' a=none->W.exmOne K (.ref c) (.ref T)=some true/\th D σ (upd H' a (iq a c))):=by
 intro C ω2 a H2 rp2 fr2 q a' c' e1 e2 hn;cases e1;cases e2;obtain⟨rp3,fr3,hc⟩:=rp2.lay (o:=iq a C) hn;exact⟨q.1,hh.run F _ ω2 σ ρ D D' rp3 ((rs1.same fr2.same).same fr3.same) q.2 (k.fr ((fr1.trans fr2).trans fr3))⟩
end
end L2
namespace L2
open PySem PySem.Spec PyProof.Rows
structure eM(K:W.Frag)(x:Str)(st:Stmt)(a:Addr)(fd:FuncData):Prop where
 g:W.nsIn K mainGlobals x=some (some (.ref a))
 f:Fun K x x st a fd
 e:W.keepIn K (.ref a)=true
theorem B9{K:W.Frag}{x:Str}{st:Stmt}{a:Addr}{oc:Value}{od an:Option Addr}{osl:Array (Option Value)}{kV doc pm cdv ct:Value}(g:W.nsIn K mainGlobals x=some (some (.ref a)))(l:K.lookup a=some ⟨oc,od,.func (W.fnOf x x (defArgs st) (defBody st) (defScope st) .none kV doc pm an cdv ct),osl⟩)(c:W.codeIn K cdv x=true)(e:W.keepIn K (.ref a)=true):eM K x st a (W.fnOf x x (defArgs st) (defBody st) (defScope st) .none kV doc pm an cdv ct):=⟨g,wI l c e,e⟩
theorem fsc{N P:List Str}{sc:Scope}(a:sc.kind=.function)(b:sc.isCoroutine=false)(c:sc.isGenerator=false)(h:N.Nodup/\N.take P.length=P/\(∀x∈P,sc.names.lookup x=some .local\/sc.names.lookup x=some .cell)/\∀y∈sc.names,y.2≠.free):aM N P sc:=⟨a,b,c,h.1,h.2.1,h.2.2.1,h.2.2.2⟩
section
variable{X:Cx}
theorem kO(hg:X.A.guards=some [])(hu:X.A.units+100<cLine)(hs:(X.K.lookup sysModules).isSome=true):bQ X (.builtin "repr") (fun xs H Q=>∃(x:V)(d:D),xs=[x]/\Dat H d x/\va d=true/\(pyD d).depth<=90/\fit d=true/\wt d<=1000000/\Q (.str (jm d)) H):=by
 intro pins s σ H xs us Q I r h;obtain⟨x,d,rfl,hd,hn,hdp,hf,hw,q⟩:=h
 cases d with
 |non=>exact gY hg hu pins s σ H [x] us Q I r ⟨x,_,rfl,hd,hn,by simp[dep],hf,hw,q⟩
 |bl b=>exact gY hg hu pins s σ H [x] us Q I r ⟨x,_,rfl,hd,hn,by simp[dep],hf,hw,q⟩
 |int i=>exact gY hg hu pins s σ H [x] us Q I r ⟨x,_,rfl,hd,hn,by simp[dep],hf,hw,q⟩
 |str b=>cases hn
 |tup ds=>
  obtain⟨a,_,rfl,_⟩:=iF hd;exact fq hg hu hs pins s σ H [.ref a] us Q I r ⟨a,_,rfl,hd,hdp,hf,hw,q⟩
 |lst ds=>
  obtain⟨a,_,rfl,_⟩:=iS hd;exact fq hg hu hs pins s σ H [.ref a] us Q I r ⟨a,_,rfl,hd,hdp,hf,hw,q⟩
 |dk ks=>
  have h0:=hd;simp only[Dat] at h0;obtain⟨a,_,rfl,_⟩:=h0;exact fq hg hu hs pins s σ H [.ref a] us Q I r ⟨a,_,rfl,hd,hdp,hf,hw,q⟩
 |dt ks=>
  have h0:=hd;simp only[Dat] at h0;obtain⟨a,_,rfl,_⟩:=h0;exact fq hg hu hs pins s σ H [.ref a] us Q I r ⟨a,_,rfl,hd,hdp,hf,hw,q⟩
end
noncomputable def uW:AC:=fun xs ω Q=>∃x d,xs=[x]/\bg ω x=some d/\va d=true/\(pyD d).depth<=90/\fit d=true/\wt d<=1000000/\Q (.d (.str (jm d))) ω
theorem li(xs:List AV)(ω:Om)(Q:AV->Om->Prop):uW xs ω Q=(∃x d,xs=[x]/\bg ω x=some d/\va d=true/\(pyD d).depth<=90/\fit d=true/\wt d<=1000000/\Q (.d (.str (jm d))) ω):=rfl
theorem rF:iA (fun xs H Q=>∃(x:V)(d:D),xs=[x]/\Dat H d x/\va d=true/\(pyD d).depth<=90/\fit d=true/\wt d<=1000000/\Q (.str (jm d)) H) uW:=⟨fun F H ω vs xs Q Q' rp rv ⟨x,d,e1,e2,e3,h1,h2,h3,q⟩ k=>by
 subst e1;obtain⟨v,rfl,r⟩:=ib rv
 exact⟨v,d,rfl,fy rp r e2,e3,h1,h2,h3,k.str rp q⟩⟩
noncomputable def Cv:AE:=fun _ ω Q=>Q (.d (.dk [])) ω
theorem rq(ρ:SA)(ω:Om)(Q:AV->Om->Prop):Cv ρ ω Q=Q (.d (.dk [])) ω:=rfl
theorem zi:aZ vK Cv:=⟨fun F H ω σ ρ Q Q' rp rs h k p hp=>by
 obtain⟨rp2,fr2,hc⟩:=rp.lay (o:=.dK []) hp;refine k _ ω _ _ rp2 fr2 ?_ h;simp only[RV,Dat]
 exact⟨p,[],rfl,hc,rfl⟩⟩
noncomputable def C7(n:Int):AE:=fun _ ω Q=>Q (.d (.dk [n])) ω
theorem sf(n:Int)(ρ:SA)(ω:Om)(Q:AV->Om->Prop):C7 n ρ ω Q=Q (.d (.dk [n])) ω:=rfl
theorem CG{n:Int}:aZ (zu [(tC (.int n),tC (.int 1))]) (C7 n):=⟨fun F H ω σ ρ Q Q' rp rs h k p hp=>by
 refine⟨bn,[((Sum.inl n:Key),V.int 1)],rfl,by simp,?_⟩
 rw[yj];obtain⟨rp2,fr2,hc⟩:=rp.lay (o:=.dK (iU [] [((Sum.inl n:Key),V.int 1)])) hp;refine k _ ω _ _ rp2 fr2 ?_ h;simp only[RV,Dat]
 exact⟨p,[n],rfl,hc,rfl⟩⟩
noncomputable def qI(tk tv:TE):TE:=fun σ H Q=>∀p,H p=none->tk σ (upd H p (.dK [])) fun x H1=>tv σ H1 fun y H2=>H2 p=some (.dK [])/\∃b ks,x=.ref b/\H2 b=some (.tup (List.map kV ks))/\Q (.ref p) (upd H2 p (.dT [(ks,y)]))
theorem tm{X:Cx}{pos:Pos}{k v:Expr}{tk tv:TE}(hu:X.A.units+1<cLine)(hk:PE X k tk)(hv:PE X v tv):PE X (.Dict [some k] [v] pos) (qI tk tv):=.mk <| by
 intro pins s σ H Q I q;have hn:=I.hok.fresh (Nat.le_refl s.heap.objs.size);have I1:=I.laid (a:=s.heap.objs.size) (o:=.dK []) (h':=s.heap.push { cls:=.type "dict",data:=.dict #[] }) (t':=s.toks) (fun _ _ q=>Heap.get?_push_of_some _ q) (Nat.le_refl _) (j0 s.heap I.big);have hl:(pairTrees [some k] [v] X.env pos).length=1:=(pairTrees_length [some k] [v] X.env pos rfl rfl);rw[arm_eval_Dict,zip_pairTrees [some k] [v] X.env pos rfl rfl,dictDisplay_pairs _ (fun e=>by rw[e] at hl;cases hl) (by rw[hl];decide)]
 refine wpAny_bind (wpAny_standAt (wpAny_bind ?_));unfold subDict;refine wpAny_bind (wpAny_alloc (wpAny_bind (wpAny_holding ?_)));rw[if_pos (by rw[hl];decide)]
 refine wpAny_bind (pairTrees_cons_walk (thn (hk pins _ σ _ _ I1 (q _ hn)) fun u s1 ⟨x,H1,I2,rx,q1⟩=>thn (hv pins s1 σ H1 _ I2 q1) fun u2 s2 ⟨y,H2,I3,ry,e,b,ks,ex,eb,q2⟩=>pairTrees_nil_walk ?_));subst ex;cases (show u=Value.ref b from rx)
 obtain⟨z,hd,vs,rel,o,es0,ep0,o1,o2,o3,o4,o5,o6⟩:=zR I3.hok e;cases rel
 have e0:es0.toList=[]:=by cases h:es0.toList with
  |nil=>rfl
  |cons a r=>rw[h] at o5;cases o5
 have dd:s2.heap.DictOfH (tupleKind (bE X.prog X.w)) s.heap.objs.size []:=⟨o,es0,ep0,o1,o2,o3,by rw[e0];rfl,by simp,List.nodup_nil⟩
 refine wpAny_holding ?_;simp only[List.forIn_cons,List.forIn_nil];refine wpAny_bind (wpAny_bind (wpAny_bind (wpAny_dictSet_heap (hsz:=Nat.zero_le _) (by show X.A.units<cLine;omega) (BP I3.hok eb) dd fun h' dd' hs=>?_)))
 refine wpAny_pure (wpAny_pure (wpAny_pure (wpAny_pure (wpAny_pure ⟨.ref s.heap.objs.size,_,?_,rfl,q2⟩))));obtain⟨q,es,ep,hq,h2,h3,h4,_,h5⟩:=dd';refine ss I3 (by rw[e];exact True.intro) hs ⟨q,hq⟩ ⟨Nat.le_of_lt (aA (by simp)),hd,_,?_,q,es,ep,hq,h2,h3,h4,h5⟩
 refine .cons ⟨rfl,?_,ry⟩ .nil;rw[aq (CN eb e (fun z=>nomatch z))]
 exact eb
noncomputable def B5(tk te:AE):AE:=fun ρ ω Q=>∀p,ω p=none->tk ρ (ω.put p (.dic [])) fun kx ω0=>∃w,kx=.d (wdD w)/\te ρ ω0 fun x ω1=>x=.d (.int 1)/\ω1 p=some (.dic [])/\Q (.d (.dt [w])) (ω1.del p)
theorem qW(tk te:AE)(ρ:SA)(ω:Om)(Q:AV->Om->Prop):B5 tk te ρ ω Q=∀p,ω p=none->tk ρ (ω.put p (.dic [])) fun kx ω0=>∃w,kx=.d (wdD w)/\te ρ ω0 fun x ω1=>x=.d (.int 1)/\ω1 p=some (.dic [])/\Q (.d (.dt [w])) (ω1.del p):=rfl
theorem CF{tk te:TE}{tk' te':AE}(hk:aZ tk tk')(he:aZ te te'):aZ (qI tk te) (B5 tk' te'):=⟨fun F H ω σ ρ Q Q' rp rs h k p hp=>by
 obtain⟨rp1,fr1⟩:=rp.mkD (xs:=[]) (vs:=[]) hp rfl;refine hk.go rp1 (rs.same fr1.same) (h p (rp.free hp).1) fun kx ω0 kv H0 rp0 fr0 rs0 rv0 ⟨w,ek,h0⟩=>?_;subst ek;refine he.go rp0 rs0 h0 fun x ω1 v H1 rp2 fr2 rs2 rv2 ⟨ex,e1,q⟩=>?_;subst ex;cases bc rv2;obtain⟨k0,z1,z2⟩:=rp2.dic p [] e1;cases z2;have rv3:=rv0.same fr2.same;simp only[wdD,RV,Dat] at rv3;obtain⟨b,vs,rfl,q1,q2⟩:=rv3;cases ie q2;have q1':=aK _ _ q1
 refine⟨z1,b,w.map Sum.inl,rfl,by rw[q1',List.map_map];rfl,?_⟩
 obtain⟨rp3,fr3,hc⟩:=rp2.give (l:=p) (o:=.dT [(w.map Sum.inl,V.int 1)]) (by rw[e1];rfl)
 refine k _ _ _ _ rp3 (((fr1.trans fr0).trans fr2).trans fr3) ?_ q;simp only[RV,Dat]
 exact⟨p,[w],rfl,hc,rfl⟩⟩
noncomputable def zz(K:W.Frag)(T:Addr)(sp:f6)(ta:AA)(th:AS):AS:=fun D ρ ω=>ta ρ ω fun xs ω1=>sp xs ω1 (fun _ ω2=>D.nx ρ ω2) (fun c ω2=>W.exmOne K (.ref c) (.ref T)=some true/\th D ρ ω2)
theorem oU(K:W.Frag)(T:Addr)(sp:f6)(ta:AA)(th:AS)(D:bC)(ρ:SA)(ω:Om):zz K T sp ta th D ρ ω=ta ρ ω fun xs ω1=>sp xs ω1 (fun _ ω2=>D.nx ρ ω2) (fun c ω2=>W.exmOne K (.ref c) (.ref T)=some true/\th D ρ ω2):=rfl
theorem Aj{K:W.Frag}{T:Addr}{sp:f6}{ta:TA}{ta':AA}{th:TS}{th':AS}(ha:fP ta ta')(hh:fF th th'):fF (Aa K T (fun E=>nO (lX (jc sp) [] E ta)) th) (zz K T sp ta' th'):=⟨fun F H ω σ ρ D D' rp rs w k=>
 ha.go rp rs w fun xs ω1 vs H1 rp1 fr1 rs1 rv q=>by
  rw[List.append_nil]
  exact⟨F,xs,ω1,_,_,rp1,rv,q,fun a ω2 v H2 rp2 fr2 rv2 q2=>k.nx _ ω2 _ H2 rp2 (fr1.trans fr2) (rs1.same fr2.same) q2,k.Ep hh fr1 rs1⟩⟩
end L2
namespace L2
open PySem PySem.Spec PyProof.Rows
open AutoSeq1 (wpAny_loadPart')
theorem fX:fillsNumberSlot (.type "tuple") "mul"=pure false:=
 PySem.fillsNumberSlot_seq (id:="tuple.__mul__") (r:=some (.builtin "tuple.__rmul__")) F.slot_tuple_mul.lookup (by decide +kernel) F.slot_tuple_rmul.lookup (by decide +kernel)
theorem kt:seqRepeat? (.type "tuple")=pure (some (.builtin "tuple.__mul__")):=by
 unfold seqRepeat?;rw[PySem.seqSlot_of (T:="tuple") (name:="__mul__") (id:="tuple.__mul__") F.slot_tuple_mul.lookup (by decide +kernel),PySem.seqSlot_of (T:="tuple") (name:="__rmul__") (id:="tuple.__rmul__") F.slot_tuple_rmul.lookup (by decide +kernel)]
 rfl
theorem pk(a:Int)(t:Tok)(l:Addr)(items:Array Value)(n:Nat)(dd:Option Addr)(sl:Array (Option Value)):
  Meets (Builtin.«int.__rmul__» ⟨[.int a t,.ref l],[]⟩) (fun _ R s=>s.heap.get? l=some ⟨.type "tuple",dd,.seq items n,sl⟩/\R (.ok (.ret Value.notImplemented)) s):=
 .of_wp fun prog w A R s h=>by obtain⟨hp,g,d,tk,os⟩:=s;obtain⟨hl,h⟩:=h;wp_walk using wpAny_loadPart' hl;exact⟨_,rfl,h⟩
theorem wO(l:Addr)(items:Array Value)(n:Nat)(dd:Option Addr)(sl:Array (Option Value))(t:Tok):
  Meets (Builtin.«tuple.__mul__» ⟨[.ref l,.int 1 t],[]⟩) (fun _ R s=>s.heap.get? l=some ⟨.type "tuple",dd,.seq items n,sl⟩/\R (.ok (.ret (.ref l))) s):=
 .of_wp fun prog w A R s h=>by
  obtain⟨hp,g,d,tk,os⟩:=s;obtain⟨hl,h⟩:=h;have hc1:(items.isEmpty || (1:Int) == 1)=true:=by simp
  wp_walk using wpAny_loadPart' hl
  exact⟨_,rfl,h⟩
theorem pf(its:List Value):∀(m:Nat)(acc:List Value),List.foldl (fun x1 x2=>x1++x2) acc.toArray (List.replicate m its.toArray)=(acc++(List.replicate m its).flatten).toArray
 |0,acc=>by simp
 |m+1,acc=>by
  have:=pf its m (acc++its);rw[List.replicate_succ,List.foldl_cons,List.replicate_succ,List.flatten_cons,←List.append_assoc,←this]
  simp
theorem ye(l:Addr)(its:List Value)(n:Nat)(dd:Option Addr)(sl:Array (Option Value))(k:Int)(t:Tok)(h0:its≠[])(h2:2<=k)(hk:k<=1000)(hz:(its.length:Int)*k<=1000):
  Meets (Builtin.«tuple.__mul__» ⟨[.ref l,.int k t],[]⟩) (fun _ R s=>s.heap.get? l=some ⟨.type "tuple",dd,.seq its.toArray n,sl⟩/\R (.ok (.ret (.ref s.heap.objs.size))) { s with heap:=s.heap.push { cls:=.type "tuple",data:=.seq ((List.replicate k.toNat its).flatten).toArray } }):=
 .of_wp fun prog w A R s h=>by
  obtain⟨hp,g,d,tk,os⟩:=s;obtain⟨hl,h⟩:=h;have e:(its.toArray.size:Int)=its.length:=by simp
  have hc0:¬ (decide (k < -2^63) || decide (k ≥ 2^63))=true:=by simp;omega
  have hc1:¬ (its.toArray.isEmpty || k == 1)=true:=by simp[h0];omega
  have hc2:¬ (decide (k<=0) || its.toArray.isEmpty)=true:=by simp[h0];omega
  have hc3:¬ ((its.toArray.size:Int)*k>(2^63-1) / 8):=by rw[e];omega
  have hc4:¬ Builtin.Tuple.tupleTooMany ((its.toArray.size:Int)*k)=true:=by
   rw[e];have:(1000:Int)<=sizeLine:=by decide
   simp only[Builtin.Tuple.tupleTooMany,decide_eq_true_eq];omega
  have hf:List.foldl (fun x1 x2=>x1++x2) #[] (List.replicate k.toNat its.toArray)=(List.replicate k.toNat its).flatten.toArray:=by simpa using pf its k.toNat []
  have hsz:(List.foldl (fun x1 x2=>x1++x2) #[] (List.replicate k.toNat its.toArray)).size<=sizeLine:=by
   rw[hf,List.size_toArray,mf];have:((k.toNat*its.length:Nat):Int)<=1000:=by rw[Int.natCast_mul,Int.toNat_of_nonneg (by omega),Int.mul_comm];exact hz
   exact Nat.le_of_lt (aA (by omega))
  wp_walk using wpAny_loadPart' hl
  rw[if_neg hc0]
  wp_walk using wpAny_loadPart' hl
  simp only[if_neg hc1,if_neg hc2,if_neg hc3,if_neg hc4]
  wp_walk
  refine wpAny_ite_false (decide_eq_false (Nat.not_lt.mpr hsz)) ?_
  wp_walk
  rw[←hf] at h
  exact⟨_,rfl,h⟩
noncomputable def zm:R2:=fun x y H Q=>∃l k xs,x=.ref l/\y=.int k/\H l=some (.tup xs)/\xs≠[]/\1<=k/\k<=1000/\(xs.length:Int)*k<=1000/\(k=1->Q (.ref l) H)/\∀p,H p=none->Q (.ref p) (upd H p (.tup (List.replicate k.toNat xs).flatten))
theorem qU{X:Cx}:OpR X (binaryOp .Mult) zm:=by
 intro pins s σ H x y v u Q I rx ry h;obtain⟨l,k,xs,rfl,rfl,hH,h0,h1,hk,hz,q1,q2⟩:=h;cases rx;obtain⟨t,rfl⟩:=ry;obtain⟨z,its,r,⟨ot,e1,e2,n,e3⟩,_⟩:=I.hok l _ hH;obtain⟨cls,dd,data,sl⟩:=ot;dsimp only at e2 e3;subst e2 e3;have hl:its.length=xs.length:=r.length.symm;by_cases hk1:k=1
 ·subst hk1
  exact wpAny_binaryOp_repeat_ref (T:="tuple") (U:="int") (by decide) ⟨_,e1,rfl⟩ (fun s'=>typeIs_int s' 1 t) fX F.fills_int_mul F.slot_int_rmul kt F.slot_int_index.lookup
   (call_meets F.slot_int_rmul (typeIs_int s 1 t) F.entry_int_rmul (F.args_int_rmul_2 _ _) (pk 1 t l its.toArray n dd sl)
    ⟨e1,rfl,⟨_,e1,rfl⟩,call_meets F.slot_tuple_mul ⟨_,e1,rfl⟩ F.entry_tuple_mul (F.args_tuple_mul_2 _ _) (wO l its.toArray n dd sl t) ⟨e1,.ref l,H,I,rfl,q1 rfl⟩⟩)
 ·have hn:its≠[]:=fun e=>h0 (List.length_eq_zero_iff.mp (by rw[←hl,e];rfl))
  refine wpAny_binaryOp_repeat_ref (T:="tuple") (U:="int") (by decide) ⟨_,e1,rfl⟩ (fun s'=>typeIs_int s' k t) fX F.fills_int_mul F.slot_int_rmul kt F.slot_int_index.lookup
   (call_meets F.slot_int_rmul (typeIs_int s k t) F.entry_int_rmul (F.args_int_rmul_2 _ _) (pk k t l its.toArray n dd sl)
    ⟨e1,rfl,⟨_,e1,rfl⟩,call_meets F.slot_tuple_mul ⟨_,e1,rfl⟩ F.entry_tuple_mul (F.args_tuple_mul_2 _ _) (ye l its n dd sl k t hn (by omega) hk (by rw[hl];exact hz)) ⟨e1,?_⟩⟩)
  have hz2:(List.replicate k.toNat xs).flatten.length<=sizeLine:=by
   rw[mf];have:((k.toNat*xs.length:Nat):Int)<=1000:=by rw[Int.natCast_mul,Int.toNat_of_nonneg (by omega),Int.mul_comm];exact hz
   exact Nat.le_of_lt (aA (by omega))
  refine⟨.ref s.heap.objs.size,upd H s.heap.objs.size (.tup (List.replicate k.toNat xs).flatten),I.laid (t':=s.toks) (fun b u e=>Heap.get?_push_of_some _ e) (Nat.le_refl _) ?_,rfl,q2 _ (I.hok.fresh (Nat.le_refl _))⟩;exact⟨hz2,_,r.rep k.toNat,⟨_,Heap.get?_push_size _ rfl,rfl,_,rfl⟩,_,Heap.get?_push_size _ rfl,rfl⟩
noncomputable def zF:A2:=fun x y ω Q=>∃(ds:List D)(k:Int),x=.d (.tup ds)/\y=.d (.int k)/\ds≠[]/\1<=k/\k<=1000/\(ds.length:Int)*k<=1000/\Q (.d (.tup (List.replicate k.toNat ds).flatten)) ω
theorem pC(x y:AV)(ω:Om)(Q:AV->Om->Prop):zF x y ω Q=∃(ds:List D)(k:Int),x=.d (.tup ds)/\y=.d (.int k)/\ds≠[]/\1<=k/\k<=1000/\(ds.length:Int)*k<=1000/\Q (.d (.tup (List.replicate k.toNat ds).flatten)) ω:=rfl
theorem nP{G:Hp}{ds:List D}{vs:List V}(h:aw G ds vs):∀m:Nat,aw G (List.replicate m ds).flatten (List.replicate m vs).flatten
 |0=>by simp[aw]
 |m+1=>by
  rw[List.replicate_succ,List.replicate_succ,List.flatten_cons,List.flatten_cons];exact h.append (nP h m)
theorem xN:fC zm zF:=⟨fun F H ω v u x y Q Q' rp h1 h2 ⟨ds,k',e1,e2,h0,b1,b2,z,q⟩ k=>by
 subst e1 e2;cases bc h2;have hd:=h1;simp only[RV,Dat] at hd;obtain⟨a,vs,rfl,q1,q2⟩:=hd;refine⟨a,k',vs,rfl,rfl,aK _ _ q1,fun e=>h0 (List.length_eq_zero_iff.mp (by rw[←q2.length,e];rfl)),b1,b2,by rw[q2.length];exact z,fun e=>?_,fun p hp=>?_⟩
 ·subst e
  have e3:(List.replicate (1:Int).toNat ds).flatten=ds:=by simp
  rw[e3] at q;exact k _ ω _ H rp .refl h1 q
 ·obtain⟨rp2,fr2,hc⟩:=rp.lay (o:=.tup (List.replicate k'.toNat vs).flatten) hp
  refine k _ ω _ _ rp2 fr2 ?_ q;simp only[RV,Dat]
  exact⟨p,_,rfl,hc,(nP q2 k'.toNat).same fr2.same⟩⟩
end L2
set_option maxHeartbeats 4000000
namespace My
open PySem PySem.Spec L2
noncomputable def top(i:Nat):Stmt:=PySem.Challenge.pw_unlikeplace_k06_no_cases.main.body.getD i (.Pass ⟨0,0,0,0⟩)
noncomputable abbrev gZ:Stmt:=top 12
noncomputable abbrev kg:Stmt:=top 13
noncomputable abbrev fm:Stmt:=top 14
noncomputable abbrev gC:Stmt:=top 15
noncomputable abbrev eC:Stmt:=top 16
noncomputable abbrev eG:Stmt:=top 17
noncomputable abbrev gi:Stmt:=top 19
noncomputable abbrev gR:Stmt:=top 20
noncomputable abbrev gy:Stmt:=top 22
noncomputable abbrev bL:Stmt:=top 23
noncomputable abbrev eR:Stmt:=top 24
noncomputable abbrev m7:Stmt:=top 26
noncomputable abbrev j6:Stmt:=top 27
noncomputable abbrev mJ:Stmt:=top 28
noncomputable abbrev gD:Stmt:=top 29
noncomputable abbrev iX:Stmt:=top 30
noncomputable abbrev fk:Stmt:=top 31
noncomputable abbrev gh:Stmt:=top 32
noncomputable abbrev iN:Stmt:=top 33
noncomputable abbrev ii:Stmt:=top 34
noncomputable abbrev ln:Stmt:=top 35
theorem nQ:aM ["thing"] ["thing"] (defScope gZ):=fsc rfl rfl rfl (by decide +kernel)
theorem uc:aM ["thing"] ["thing"] (defScope kg):=fsc rfl rfl rfl (by decide +kernel)
theorem kX:aM ["thing"] ["thing"] (defScope fm):=fsc rfl rfl rfl (by decide +kernel)
theorem qC:aM ["places","thing"] ["places","thing"] (defScope gC):=fsc rfl rfl rfl (by decide +kernel)
theorem ng:aM ["some"] ["some"] (defScope eC):=fsc rfl rfl rfl (by decide +kernel)
theorem dI:aM ["places","words","place"] ["places"] (defScope eG):=fsc rfl rfl rfl (by decide +kernel)
theorem l8:aM ["table"] ["table"] (defScope gi):=fsc rfl rfl rfl (by decide +kernel)
theorem eD:aM ["table","word","at","bit"] ["table","word"] (defScope gR):=fsc rfl rfl rfl (by decide +kernel)
theorem g4:aM ["places","yes","no","yes_words","no_words"] ["places","yes","no"] (defScope gy):=fsc rfl rfl rfl (by decide +kernel)
theorem eH:aM ["places","some","ordered"] ["places","some"] (defScope bL):=fsc rfl rfl rfl (by decide +kernel)
theorem d5:aM ["table","places","words","yes","no"] ["table"] (defScope eR):=fsc rfl rfl rfl (by decide +kernel)
theorem gp:aM ["_law_script","_law_at","_law_cell","_law_far"] ["_law_script","_law_at"] (defScope m7):=fsc rfl rfl rfl (by decide +kernel)
theorem dN:aM ["_law_pen_here","_law_many","_law_digit","_law_turn","_law_mixed"] ["_law_pen_here","_law_many"] (defScope j6):=fsc rfl rfl rfl (by decide +kernel)
theorem pi:aM ["_law_pen_here","_law_some"] ["_law_pen_here"] (defScope mJ):=fsc rfl rfl rfl (by decide +kernel)
theorem qu:aM ["_law_places"] ["_law_places"] (defScope gD):=fsc rfl rfl rfl (by decide +kernel)
theorem d9:aM ["_law_pen_here","_law_words_here","_law_left","_law_yes","_law_no","_law_k"] ["_law_pen_here","_law_words_here"] (defScope iX):=fsc rfl rfl rfl (by decide +kernel)
theorem di:aM ["_law_pen_here","_law_word","_law_k","_law_some"] ["_law_pen_here","_law_word"] (defScope fk):=fsc rfl rfl rfl (by decide +kernel)
theorem fu:aM ["_law_places","_law_yes","_law_no","_law_caught","e"] ["_law_places","_law_yes","_law_no"] (defScope gh):=fsc rfl rfl rfl (by decide +kernel)
theorem gP:aM ["_law_table","_law_refused_here"] ["_law_table"] (defScope iN):=fsc rfl rfl rfl (by decide +kernel)
theorem bN:aM ["_law_pen_here","_law_places","_law_sides_here","_law_yes","_law_no","_law_at","_law_side","_law_spot","_law_way","_law_some","_law_other","_law_thing"] ["_law_pen_here","_law_places","_law_sides_here"] (defScope ii):=fsc rfl rfl rfl (by decide +kernel)
theorem cW:aM ["_law_script","_law_at","_law_pen_here","_law_places","_law_words_here","_law_sides_here","_law_turn","_law_bent_here","_law_yes","_law_no","_law_before"] ["_law_script"] (defScope ln):=fsc rfl rfl rfl (by decide +kernel)
set_option genInjectivity false in
structure Adr where
 cF:Addr
 gX:FuncData
 d7:Addr
 kl:FuncData
 bS:Addr
 fA:FuncData
 c9:Addr
 iZ:FuncData
 cm:Addr
 f8:FuncData
 cc:Addr
 fS:FuncData
 ci:Addr
 fY:FuncData
 cE:Addr
 gU:FuncData
 cP:Addr
 gx:FuncData
 bd:Addr
 c7:FuncData
 da:Addr
 iQ:FuncData
 fH:Addr
 mW:FuncData
 dW:Addr
 kL:FuncData
 fI:Addr
 mt:FuncData
 cX:Addr
 iY:FuncData
 cZ:Addr
 i5:FuncData
 bU:Addr
 fD:FuncData
 cg:Addr
 fT:FuncData
 db:Addr
 iD:FuncData
 dX:Addr
 kK:FuncData
 hJ:Addr
 rC:FuncData
 df:Tok
 cM:Addr
 av:Addr
 bJ:Addr
 cz:Addr
 cx:Addr
 b8:Addr
 dg:Addr
 cy:Addr
 cB:Addr
structure Txt(K:W.Frag)(mg:Str->Option Value)(t:Adr):Prop where
 ky:mg "is_whole"=some (.ref t.cF)
 qw:Fun K "is_whole" "is_whole" gZ t.cF t.gX
 kb:W.keepIn K (.ref t.cF)=true
 jP:bB K t.gX ["thing"] []
 vo:mg "is_bit"=some (.ref t.d7)
 wo:Fun K "is_bit" "is_bit" kg t.d7 t.kl
 wd:W.keepIn K (.ref t.d7)=true
 vi:bB K t.kl ["thing"] []
 iy:mg "are_places"=some (.ref t.bS)
 nc:Fun K "are_places" "are_places" fm t.bS t.fA
 g8:W.keepIn K (.ref t.bS)=true
 hG:bB K t.fA ["thing"] []
 ux:mg "is_word"=some (.ref t.c9)
 uy:Fun K "is_word" "is_word" gC t.c9 t.iZ
 tT:W.keepIn K (.ref t.c9)=true
 tu:bB K t.iZ ["places","thing"] []
 pO:mg "is_rising"=some (.ref t.cm)
 o7:Fun K "is_rising" "is_rising" eC t.cm t.f8
 nH:W.keepIn K (.ref t.cm)=true
 oB:bB K t.f8 ["some"] []
 pH:mg "all_words"=some (.ref t.cc)
 oh:Fun K "all_words" "all_words" eG t.cc t.fS
 pJ:W.keepIn K (.ref t.cc)=true
 nT:bB K t.fS ["places"] []
 pN:mg "places_of"=some (.ref t.ci)
 ny:Fun K "places_of" "places_of" gi t.ci t.fY
 oV:W.keepIn K (.ref t.ci)=true
 nB:bB K t.fY ["table"] []
 jU:mg "value_at"=some (.ref t.cE)
 p4:Fun K "value_at" "value_at" gR t.cE t.gU
 j8:W.keepIn K (.ref t.cE)=true
 ke:bB K t.gU ["table","word"] []
 lv:mg "case_of"=some (.ref t.cP)
 t4:Fun K "case_of" "case_of" gy t.cP t.gx
 lV:W.keepIn K (.ref t.cP)=true
 lC:bB K t.gx ["places","yes","no"] []
 eT:mg "words_in_order"=some (.ref t.bd)
 iP:Fun K "words_in_order" "words_in_order" bL t.bd t.c7
 fe:W.keepIn K (.ref t.bd)=true
 eX:bB K t.c7 ["places","some"] []
 tH:mg "case_by"=some (.ref t.da)
 tj:Fun K "case_by" "case_by" eR t.da t.iQ
 tf:W.keepIn K (.ref t.da)=true
 tO:bB K t.iQ ["table"] []
 yk:mg "_law_pen"=some (.ref t.fH)
 yz:Fun K "_law_pen" "_law_pen" m7 t.fH t.mW
 yM:W.keepIn K (.ref t.fH)=true
 yp:bB K t.mW ["_law_script","_law_at"] []
 aS:mg "_law_pick"=some (.ref t.dW)
 wj:Fun K "_law_pick" "_law_pick" j6 t.dW t.kL
 aT:W.keepIn K (.ref t.dW)=true
 aW:bB K t.kL ["_law_pen_here","_law_many"] []
 yu:mg "_law_odd"=some (.ref t.fI)
 yN:Fun K "_law_odd" "_law_odd" mJ t.fI t.mt
 yw:W.keepIn K (.ref t.fI)=true
 yf:bB K t.mt ["_law_pen_here"] []
 tV:mg "_law_words"=some (.ref t.cX)
 tW:Fun K "_law_words" "_law_words" gD t.cX t.iY
 ud:W.keepIn K (.ref t.cX)=true
 tY:bB K t.iY ["_law_places"] []
 tS:mg "_law_sides"=some (.ref t.cZ)
 uq:Fun K "_law_sides" "_law_sides" iX t.cZ t.i5
 tz:W.keepIn K (.ref t.cZ)=true
 tG:bB K t.i5 ["_law_pen_here","_law_words_here"] []
 m4:mg "_law_bad_word"=some (.ref t.bU)
 l7:Fun K "_law_bad_word" "_law_bad_word" fk t.bU t.fD
 mr:W.keepIn K (.ref t.bU)=true
 mD:bB K t.fD ["_law_pen_here","_law_word"] []
 om:mg "_law_refused"=some (.ref t.cg)
 pD:Fun K "_law_refused" "_law_refused" gh t.cg t.fT
 nZ:W.keepIn K (.ref t.cg)=true
 nV:bB K t.fT ["_law_places","_law_yes","_law_no"] []
 lW:mg "_law_never"=some (.ref t.db)
 t0:Fun K "_law_never" "_law_never" iN t.db t.iD
 lm:W.keepIn K (.ref t.db)=true
 lZ:bB K t.iD ["_law_table"] []
 vD:mg "_law_bent"=some (.ref t.dX)
 wz:Fun K "_law_bent" "_law_bent" ii t.dX t.kK
 xM:W.keepIn K (.ref t.dX)=true
 vF:bB K t.kK ["_law_pen_here","_law_places","_law_sides_here"] []
 B1:mg "law"=some (.ref t.hJ)
 Cy:Fun K "law" "law" ln t.hJ t.rC
 DV:W.keepIn K (.ref t.hJ)=true
 DW:bB K t.rC ["_law_script"] []
 AJ:∀(s:Shared)(v:Value),BindsTo s t.rC ⟨[v],[]⟩ [("_law_script",v)]
 mZ:mg "ValueError"=none
 Dl:mg "abs"=none
 u7:mg "all"=none
 Dt:mg "any"=none
 Ao:mg "bool"=none
 vH:mg "int"=none
 be:mg "isinstance"=none
 cu:mg "len"=none
 iR:mg "list"=none
 Df:mg "max"=none
 zx:mg "min"=none
 fh:mg "range"=none
 uU:mg "repr"=none
 vW:mg "sorted"=none
 dh:mg "tuple"=none
 kY:mg "MOST_PLACES"=some (.int 5 t.df)
 pq:mg "TalkError"=some (.ref t.cM)
 cV:mg "NoCase"=some (.ref t.av)
 qt:mg "NoSaying"=some (.ref t.bJ)
 xx:mg "NoTalk"=some (.ref t.cz)
 xb:mg "NoRise"=some (.ref t.cx)
 uJ:mg "TooMany"=some (.ref t.b8)
 yE:mg "NoRow"=some (.ref t.dg)
 wB:mg "NoWord"=some (.ref t.cy)
 uN:mg "NoText"=some (.ref t.cB)
 bH:fL K t.av=true
 bV:W.kitOne K (.ref t.av) (.ref t.cx)=some false
 cj:W.kitOne K (.ref t.av) (.ref t.dg)=some false
 bF:W.kitOne K (.ref t.av) (.ref t.bJ)=some false
 bW:W.kitOne K (.ref t.av) (.ref t.cz)=some false
 bZ:W.kitOne K (.ref t.av) (.ref t.cB)=some false
 b7:W.kitOne K (.ref t.av) (.ref t.cy)=some false
 bM:W.kitOne K (.ref t.av) (.ref t.b8)=some false
 bY:W.kitOne K (.ref t.av) (.ref t.av)=some true
 bp:W.kitOne K (.ref t.av) (.type "ValueError")=some true
 bx:W.exmOne K (.ref t.av) (.ref t.cM)=some true
 b0:W.exmOne K (.ref t.av) (.ref t.av)=some true
 ik:W.kitOne K (.type "NoneType") (.ref t.cx)=some false
 jD:W.kitOne K (.type "NoneType") (.ref t.dg)=some false
 fv:W.kitOne K (.type "NoneType") (.ref t.bJ)=some false
 h9:W.kitOne K (.type "NoneType") (.ref t.cz)=some false
 hV:W.kitOne K (.type "NoneType") (.ref t.cB)=some false
 iu:W.kitOne K (.type "NoneType") (.ref t.cy)=some false
 gu:W.kitOne K (.type "NoneType") (.ref t.b8)=some false
 ip:W.kitOne K (.type "NoneType") (.ref t.av)=some false
 dH:W.kitOne K (.type "NoneType") (.type "ValueError")=some false
 sm:(K.lookup sysModules).isSome=true
set_option hygiene false
local macro_rules | `(tactic| walk_at "ab")=>`(tactic| simp only[nD,ig,og,sO,si,rO,gr,nL,lT,rl,g5,g9,nj,qO,n6,zA,vq,rN,oO,rQ,rP,oH,nC,sF,oJ,nJ,r8,u4,rR,sg,q9,wC,zg,rB,uX,wX,sJ,su,xc,vh,qL,kZ,kc,lH,lj,nw,nu,n9,lL,lQ,kw,qZ,sW,ka,on,oS,sN,oY,jR,ll,jQ,rY,lh,ph,pT,nW,ox,li,rq,sf,qW,oU,pC,pw,lS,xB,u8,zo,nG,hU,qP,pM,mj,sC,rE,ra,wS,nz,pc,uV,rd,xE,xI,wQ,wk,vA,vB,u5,vv,xD,vU,pd,rZ,uT,wP,wG,xo,xC,iE,kr,gq,kT,Om.D3,sz1,sz2,sz3,sz5,sz6,sz9,Cb,Int.toNat_natCast,xi,vE,zc,zt,zW,jG,rA,sI,s9,oX,Nat.zero_le,AV.d.injEq,AV.r.injEq,D.int.injEq,D.bl.injEq,D.tup.injEq,D.lst.injEq,OC.own.injEq,V.ref.injEq,V.ty.injEq,List.map_cons,List.map_nil,List.cons_append,List.nil_append,List.length_cons,List.length_nil,List.length_map,List.length_append,List.replicate,List.getElem?_cons_zero,List.getElem?_cons_succ,List.set_cons_zero,List.set_cons_succ,Option.some.injEq,Option.map_some,Option.join_some,exists_eq',exists_eq_left',List.cons.injEq,and_true,true_and,and_assoc,exists_and_left,Nat.sub_self,Nat.reduceAdd,Nat.reduceSub,Nat.reduceLeDiff,Int.reduceLT,Int.reduceToNat,decide_eq_true_eq,Bool.not_true,Bool.not_false,if_true,if_false,Bool.false_eq_true,reduceCtorEq,false_and,and_false,or_false,false_or,exists_false,beq_iff_eq,ne_eq,Bool.true_eq_false])
local macro_rules | `(tactic| walk_at "a1")=>`(tactic| simp only[nD,og,sO,si,rO,gr,nL,lT,rl,g5,g9,nj,qO,n6,zA,vq,rN,oO,rQ,rP,oH,nC,sF,oJ,nJ,r8,u4,rR,sg,q9,wC,zg,rB,uX,wX,sJ,su,xc,vh,qL,kZ,kc,lH,lj,nw,nu,n9,lL,lQ,kw,qZ,sW,ka,on,oS,sN,oY,jR,ll,jQ,rY,lh,ph,pT,nW,ox,li,rq,sf,qW,oU,pC,pw,lS,xB,u8,zo,nG,hU,qP,pM,mj,sC,rE,ra,wS,nz,pc,uV,rd,xE,xI,wQ,wk,vA,vB,u5,vv,xD,vU,pd,rZ,uT,wP,wG,xo,xC,iE,gq,kT,Om.D3,sz1,sz2,sz3,sz5,sz6,sz9,Cb,Int.toNat_natCast,xi,vE,zc,zt,zW,jG,rA,sI,s9,oX,Nat.zero_le,AV.d.injEq,AV.r.injEq,D.int.injEq,D.bl.injEq,D.tup.injEq,D.lst.injEq,OC.own.injEq,V.ref.injEq,V.ty.injEq,List.map_cons,List.map_nil,List.cons_append,List.nil_append,List.length_cons,List.length_nil,List.length_map,List.length_append,List.replicate,List.getElem?_cons_zero,List.getElem?_cons_succ,List.set_cons_zero,List.set_cons_succ,Option.some.injEq,Option.map_some,Option.join_some,exists_eq',exists_eq_left',List.cons.injEq,and_true,true_and,and_assoc,exists_and_left,Nat.sub_self,Nat.reduceAdd,Nat.reduceSub,Nat.reduceLeDiff,Int.reduceLT,Int.reduceToNat,decide_eq_true_eq,Bool.not_true,Bool.not_false,if_true,if_false,Bool.false_eq_true,reduceCtorEq,false_and,and_false,or_false,false_or,exists_false,beq_iff_eq,ne_eq,Bool.true_eq_false])
local macro_rules | `(tactic| walk_at "s1")=>`(tactic| (try walk_at "a1");(first|rw[ig]|rw[vJ]);walk_at "a1")
set_option hygiene true
section
variable{P:Program}{w:World}{K:W.Frag}{mg:Str->Option Value}{base:Heap}{t:Adr}
noncomputable def Cn(c:Pn)(b:Nat):Prop:=0<=c.i/\c.i<=b
noncomputable def uk(ω:Om)(p:Addr)(b:Nat):Prop:=∃c,Cn c b/\ω p=some (bi c)
theorem fW{ω:Om}{p:Addr}{b:Nat}{c:Pn}(h:Cn c b):uk (ω.put p (bi c)) p b:=⟨c,h,Om.D3⟩
theorem yI{ns:List Int}{i:Int}(h0:0<=i)(h1:i<ns.length):∃x,atI ns i=some x:=by
 obtain⟨x,_,hx,_⟩:=mS (f:=fun z:Int=>AV.d (.int z)) (xs:=ns) h0 h1;exact⟨x,fJ i.toNat (by omega) hx⟩
noncomputable def BD(K:W.Frag):ASp:=fun xs ω Q=>∃(a:Addr)(ns:List Int)(i:Int),xs=[iI K a ns,.d (.int i)]/\0<=i/\∀p c,Cn c 0->ω p=none->Q (.r (.ref p)) (ω.put p (bi c))
theorem BV(T:Txt K mg t):aY P w K mg base CX0 1 t.fH t.mW ["_law_script","_law_at"] (dY (BD K)):=by
 refine T.yz.okA gp (fun xs ω Q h=>by obtain⟨a,ns,i,rfl,_⟩:=h;rfl) (fun cdv A outer s H E hr=>⟨_,_,(ai (aE (i:=2) gp.nd rfl (Or.inl rfl) ah)
   (ai (b9 (bt z8 (pv 1) (ar (aH K rfl) (by rfl) T.cu (by kernel_rfl) (ac (pv 0) af)) (bI _)) (au (aE (i:=2) gp.nd rfl (Or.inl rfl) (bR (aO K rfl) (pv 0) (pv 1) (fun _ _=>rfl)))) aX)
   (ai (aE (i:=3) gp.nd rfl (Or.inl rfl) (ar vL (by rfl) T.Dl (by kernel_rfl) (ac (pv 2) af)))
   (ai (b9 (bt z8 (pv 3) (aD qq ah ah) (bI _)) (au (aE (i:=3) gp.nd rfl (Or.inl rfl) ah)) aX)
   (au (a9 (bK (ac (pv 3) (ac (aD f9 (aD (am aQ (am aJ aR)) (aD (am aQ (am aJ aR)) (aD (am eL eJ) (aD f9 (pv 2) ah) ah) (aD (am eL eJ) ah (pv 1))) ah) ah) (aj ah af)))))))))),(aF (aL ak ao)
   (aF (gj (bT (ax j4 ae (bf vx (aa ae ag)))) (aL (ax Dq ae ae) ao) br)
   (aF (aL (bf DI (aa ae ag)) ao)
   (aF (gj (bT (ax j4 ae (ax gS ak ak))) (aL ak ao) br)
   (bG (iH (aa ae (aa (ax gS (ax bz (ax bz (ax gI (ax gS ae ak) ak) (ax gI ak ae)) ak) ak) (aa ak ag))))))))),fun xs ω Q h=>?_⟩)
 obtain⟨a,ns,i,rfl,hi,k⟩:=h;walk_at "s1";refine m8 (fun ρ' ω'=>ω'=ω/\∃x:Int,ρ'=[some (iI K a ns),some (.d (.int i)),some (.d (.int x)),none]) (fun M kM=>?_) ?_
 ·walk_at "a1"
  refine⟨_,_,rfl,mh (fun h=>?_) (fun h=>kM _ _ ⟨rfl,_,rfl⟩)⟩;obtain⟨x,ex⟩:=yI (ns:=ns) hi (by omega)
  exact⟨_,_,rfl,_,ex,kM _ _ ⟨rfl,_,rfl⟩⟩
 rintro ρ' ω' ⟨rfl,x,rfl⟩;have absn:∀z:Int,0<=(if z<0 then -z else z):=fun z=>by split<;>omega
 walk_at "s1";refine m8 (fun ρ' ω2=>ω2=ω'/\∃y:Int,0<=y/\ρ'=[some (iI K a ns),some (.d (.int i)),some (.d (.int x)),some (.d (.int y))]) (fun M kM=>?_) ?_
 ·walk_at "a1"
  exact⟨⟨by decide,by decide,by decide⟩,mh (fun h=>kM _ _ ⟨rfl,0,Int.le_refl _,rfl⟩) (fun h=>kM _ _ ⟨rfl,_,absn x,rfl⟩)⟩
 rintro ρ' ω2 ⟨rfl,y,hy,rfl⟩;walk_at "a1";exact⟨jL (by decide) (by decide),iT (by decide),fun p hp=>k p ⟨y,_,0,hy⟩ ⟨Int.le_refl _,Int.le_refl _⟩ hp⟩
noncomputable def mE:ASp:=fun xs ω Q=>∃(p:Addr)(m:Int)(b:Nat),xs=[.r (.ref p),.d (.int m)]/\uk ω p b/\b<1000000/\0<m/\m<1073741824/\∀(r:Int)(c:Pn),Cn c (b+1)->0<=r->r<m->Q (.d (.int r)) (ω.put p (bi c))
theorem iw(T:Txt K mg t):aY P w K mg base CX0 1 t.dW t.kL ["_law_pen_here","_law_many"] (dY mE):=by
 refine T.wj.okA dN (fun xs ω Q h=>by obtain⟨p,m,b,rfl,_⟩:=h;rfl) (fun cdv A outer s H E hr=>⟨_,_,(ai (b9 (bt Db (bR (aO K rfl) (pv 0) ah (fun _ _=>rfl)) ah (bI _)) (ai (aE (i:=2) dN.nd rfl (Or.inl rfl) (aD f9 (bR (aO K rfl) (pv 0) ah (fun _ _=>rfl)) (pv 1)))
   (ai (kB (aD sD (bR (aO K rfl) (pv 0) ah (fun _ _=>rfl)) (pv 1)) (p6 (pv 0) ah kE))
   (au (a9 (pv 2))))) aX)
   (ai (aE (i:=3) dN.nd rfl (Or.inl rfl) (aD (am aQ (am aJ aR)) (bR (aO K rfl) (pv 0) ah (fun _ _=>rfl)) ah))
   (ai (kB (pv 3) (p6 (pv 0) ah kE))
   (ai (aE (i:=4) dN.nd rfl (Or.inl rfl) (aD f9 (aD (am aQ (am aJ aR)) (aD (am aQ (am aJ aR)) (bR (aO K rfl) (pv 0) ah (fun _ _=>rfl)) (aD (am eL eJ) (aD (am eL eJ) ah (pv 3)) (pv 3))) (aD (am eL eJ) ah (pv 3))) ah))
   (ai (aE (i:=4) dN.nd rfl (Or.inl rfl) (aD f9 (aD (am aQ (am aJ aR)) (aD (am aQ (am aJ aR)) (aD (am eL eJ) (pv 4) (pv 4)) (aD (am eL eJ) ah (pv 4))) (pv 3)) ah))
   (ai (aE (i:=4) dN.nd rfl (Or.inl rfl) (aD f9 (aD (am aQ (am aJ aR)) (aD (am eL eJ) (pv 4) (pv 4)) (aD (am eL eJ) ah (pv 4))) ah))
   (au (a9 (aD f9 (aD sD (pv 4) ah) (pv 1)))))))))),(aF (gj (bT (ax j4 (ax dq ae ak) ak)) (aF (aL (ax gS (ax dq ae ak) ae) ao)
   (aF (aL (ax gS (ax dq ae ak) ae) (uL ae ak))
   (bG ae))) br)
   (aF (aL (ax bz (ax dq ae ak) ak) ao)
   (aF (aL ae (uL ae ak))
   (aF (aL (ax gS (ax bz (ax bz (ax dq ae ak) (ax gI (ax gI ak ae) ae)) (ax gI ak ae)) ak) ao)
   (aF (aL (ax gS (ax bz (ax bz (ax gI ae ae) (ax gI ak ae)) ae) ak) ao)
   (aF (aL (ax gS (ax bz (ax gI ae ae) (ax gI ak ae)) ak) ao)
   (bG (ax gS (ax gS ae ak) ae)))))))),fun xs ω Q h=>?_⟩)
 obtain⟨p,m,b,rfl,⟨c,⟨c0,c1⟩,hp⟩,hb,hm,hm2,k⟩:=h;have fin:∀(r:Int)(c:Pn),Cn c (b+1)->Q (.d (.int (r%m))) (ω.put p (bi c)):=fun r c hc=>k _ c hc (Int.emod_nonneg _ (by omega)) (Int.emod_lt_of_pos _ hm)
 unfold bi at hp;walk_at "s1";simp only[hp];walk_at "a1";refine mh (fun h1=>?_) (fun h1=>?_)
 ·walk_at "ab"
  simp only[hp];walk_at "ab";exact⟨hm,⟨hm,hm2⟩,fin _ ⟨c.f / m,c.x,c.i,Int.ediv_nonneg c.h (by omega)⟩ ⟨c0,by simp only[];omega⟩⟩
 ·walk_at "s1"
  simp only[hp];walk_at "a1";walk_at "s1";simp only[hp];walk_at "s1";refine⟨iT (by decide),AB ⟨by omega,by omega⟩,iT (by decide),?_⟩
  walk_at "ab";exact⟨jL (by decide) (by decide),iT (by decide),jL (by decide) (by decide),iT (by decide),⟨by decide,by decide⟩,hm,fin _ ⟨c.f,c.x,c.i+1,c.h⟩ ⟨by simp only[];omega,by simp only[];omega⟩⟩
theorem uB{H:Hp}{a:Addr}{ns:List Int}(h:SqL K H a (ns.map V.int)):RV (cut (fun _=>false) H (fun _=>none)) (iI K a ns) (.ref a):=by
 refine⟨rfl,fun G' s=>?_⟩;have s2:cw H G':=fun b o e=>s b o (ba.mpr ⟨rfl,rfl,e⟩);rcases h with(h|⟨o,h⟩)|h
 ·exact .inl (.inl (s2 _ _ h))
 ·exact .inl (.inr ⟨o,s2 _ _ h⟩)
 ·exact .inr h
theorem DL{H:Hp}:Rep (fun _=>false) H (fun _=>none):=⟨fun _ _ h=>by simp at h,fun _ _ h=>by simp at h,fun _ h=>by simp at h,fun _ _ h=>by simp at h⟩
noncomputable def yy(K:W.Frag):ASp:=fun xs ω Q=>∃(a:Addr)(ns:List Int),xs=[iI K a ns]/\ns.length<=63/\ω=(fun _=>none)/\∀ω',Q (.d (.bl true)) ω'
noncomputable def qf(K:W.Frag):Sp:=dY (yy K)
theorem tK{K:W.Frag}{H:Hp}{a:Addr}{ns:List Int}(hl:ns.length<=63)(hO:B6 H)(hS:SqL K H a (ns.map V.int)):qf K [.ref a] H (fun v _=>v=.bl true) fun _ _ _=>False:=
 ⟨fun _=>false,[iI K a ns],fun _=>none,fun a _=>a=.d (.bl true),DL,⟨_,_,rfl,uB hS,rfl⟩,⟨a,ns,rfl,hl,rfl,fun _=>rfl⟩,fun a ω' v H' _ _ rv q=>by subst q;exact xp rv⟩
noncomputable def wM:ASp:=fun xs ω Q=>∃n:Nat,xs=[.d (.int n)]/\n<=5/\Q (.d (.lst ((wl n).map wdD))) ω
theorem yA(ws:List (List Int)):(ws.flatMap fun w=>[w++[0],w++[1]]).length=2*ws.length:=by
 induction ws with
 |nil=>rfl
 |cons a r ih=>rw[List.flatMap_cons,List.length_append,ih];simp;omega
theorem yo(T:Txt K mg t):aY P w K mg base CX0 1 t.cc t.fS ["places"] (dY wM):=by
 refine T.oh.okD dI (fun xs ω Q h=>by obtain⟨n,rfl,_⟩:=h;rfl) (fun cdv A outer s H E hr=>⟨_,_,(ai (aE (i:=1) dI.nd rfl (Or.inl rfl) (bK (bX (bh af) af)))
   (ai (jI PassesOwn.never rfl (de rfl T.fh (ac (pv 0) af)) (a8 (i:=2) dI.nd rfl (Or.inl rfl)) (au (xV (i:=1) dI.nd rfl (Or.inl rfl) (N:=(["word","bit"] : List Str)) (src:=[none,none]) rfl (by show dz _ (defScope eG) _ _ (["places","words","place"] : List Str) = true;decide +kernel) (by intro g' h;cases h;rfl) (ee K rfl (pv 1)) (fun _ _ _ _ _ _=>(a8 (i:=0) (show (["word","bit"] : List Str).Nodup by decide +kernel) rfl (Or.inl rfl))) (fun _ _ _ _ _ _=>cR) (fun _ _ _ _ _ _=>(AN rfl rfl rfl (by intro g' h;cases h) (ee K rfl (bh (aj ah (aj ah af)))) (a8 (i:=1) (show (["word","bit"] : List Str).Nodup by decide +kernel) rfl (Or.inl rfl)) cR (cD rfl rfl (aD (am aQ (am aJ aR)) (pv 0) (bh (ac (pv 1) af)))))))))
   (au (a9 (pv 1))))),(aF (aL (ef (aa (cb ag) ag)) ao)
   (aF (pB (gN (aa ae ag)) ao (aL (d6 (f7 ae) ao kj (Dj (f7 (cb (aa ak (aa ak ag)))) ao kj (du (ax bz ae (cb (aa ae ag)))))) ao))
   (bG ae))),fun xs ω Q h=>?_⟩)
 obtain⟨n,rfl,hn,k⟩:=h;walk_at "s1";walk_at "s1";refine⟨by omega,by omega,jt (fun i ρ ω'=>ω'=ω/\∃v2,ρ=[some (.d (.int n)),some (.d (.lst ((wl i).map wdD))),v2]) ⟨rfl,_,rfl⟩ ?_ ?_⟩
 ·rintro i ρ ω1 N hi ⟨rfl,v2,rfl⟩ kN
  have hw:=rg (n:=i) (by omega)
  walk_at "a1";refine Bq (fun j xs ρ ω'=>ω'=ω1/\(∃v v',ρ=[v,v'])/\xs=((((wl i).take j).flatMap fun w=>[w++[0],w++[1]]).map wdD).map AV.d) ⟨rfl,⟨_,_,rfl⟩,rfl⟩ ?_ ?_
  ·rintro j d xs ρ ω' N hd ⟨rfl,⟨v,v',rfl⟩,rfl⟩ kN2
   obtain⟨x,hx,rfl⟩:=sY hd;have hx1:=(eI (List.mem_of_getElem? hx)).1;have hj:=(List.getElem?_eq_some_iff.mp hx).1
   have et:(((wl i).take (j+1)).flatMap fun w=>[w++[0],w++[1]])=((wl i).take j).flatMap (fun w=>[w++[0],w++[1]])++[x++[0],x++[1]]:=by
    rw[List.take_succ,hx,List.flatMap_append];simp
   have hl2:=yA ((wl i).take j);rw[List.length_take] at hl2;walk_at "ab";exact⟨uQ (m:=0) (by omega),aA (by omega),uQ (m:=0) (by omega),aA (by omega),kN2 _ _ _ ⟨rfl,⟨_,_,rfl⟩,by rw[et];simp⟩⟩
  ·rintro xs ρ ω' ⟨rfl,_,rfl⟩
   rw[List.length_map,List.take_length];refine⟨_,bj _,kN _ _ ⟨rfl,_,rfl⟩⟩
 ·rintro ρ ω1 ⟨rfl,v2,rfl⟩
  walk_at "a1";rw[az];exact k
noncomputable def num(w:List Int):Int:=w.foldl (fun a b=>2*a+b) 0
theorem pW:∀ {w:List Int},(∀b∈w,b=0\/b=1)->∀a:Int,0<=a->0<=w.foldl (fun a b=>2*a+b) a/\w.foldl (fun a b=>2*a+b) a<(a+1)*2^w.length
 | [],_,a,ha=>by simp;omega
 |b::w,h,a,ha=>by
  have hb:=h b List.mem_cons_self;obtain⟨h1,h2⟩:=pW (fun x hx=>h x (List.mem_cons_of_mem _ hx)) (2*a+b) (by omega)
  refine⟨h1,Int.lt_of_lt_of_le h2 ?_⟩;have:(2*a+b+1)*2^w.length<=(2*a+2)*2^w.length:=Int.mul_le_mul_of_nonneg_right (by omega) (Int.le_of_lt (Int.pow_pos (by decide)))
  rw[List.length_cons,Int.pow_succ];refine Int.le_trans this (Int.le_of_eq ?_);rw[show 2*a+2=(a+1)*2 from by omega,Int.mul_assoc,Int.mul_comm 2]
noncomputable def oA:ASp:=fun xs ω Q=>∃(tb w:List Int),xs=[.d (wdD tb),.d (wdD w)]/\(∀b∈w,b=0\/b=1)/\tb.length=2^w.length/\Q (.d (.int (tb.getD (num w).toNat 0))) ω
theorem vn(T:Txt K mg t):aY P w K mg base CX0 1 t.cE t.gU ["table","word"] (dY oA):=by
 refine T.p4.okD eD (fun xs ω Q h=>by obtain⟨tb,w,rfl,_⟩:=h;rfl) (fun cdv A outer s H E hr=>⟨_,_,(ai (aE (i:=2) eD.nd rfl (Or.inl rfl) ah)
   (ai (jI PassesOwn.never rfl (ee K rfl (pv 1)) (a8 (i:=3) eD.nd rfl (Or.inl rfl)) (au (aE (i:=2) eD.nd rfl (Or.inl rfl) (aD (am aQ (am aJ aR)) (aD (am eL eJ) ah (pv 2)) (pv 3)))))
   (au (a9 (bR (aO K rfl) (pv 0) (pv 2) (fun _ _=>rfl)))))),(aF (aL ak ao)
   (aF (pB (f7 ae) ao (aL (ax bz (ax gI ak ae) ae) ao))
   (bG (ax dq ae ae)))),fun xs ω Q h=>?_⟩)
 obtain⟨tb,w,rfl,hb,hl,k⟩:=h;obtain⟨n1,n2⟩:=pW hb 0 (Int.le_refl _);walk_at "s1";walk_at "s1";refine Cc (fun i ρ ω'=>ω'=ω/\∃v3,ρ=[some (.d (wdD tb)),some (.d (wdD w)),some (.d (.int (num (w.take i)))),v3]) ⟨rfl,_,rfl⟩ ?_ ?_
 ·rintro i d ρ ω1 N hd ⟨rfl,v3,rfl⟩ kN
  obtain⟨b,hb1,rfl⟩:=L2.sY hd;walk_at "a1"
  have e:num (w.take (i+1))=2*num (w.take i)+b:=by
   unfold num;rw[List.take_succ,hb1,List.foldl_append];rfl
  exact⟨iT (by decide),kN _ _ ⟨rfl,_,by rw[e]⟩⟩
 ·rintro ρ ω1 ⟨rfl,v3,rfl⟩
  rw[List.length_map,List.take_length];walk_at "a1";refine⟨_,Ds n1 ?_,?_⟩
  ·rw[hl]
   unfold num;simpa using n2
  ·refine⟨_,rfl,?_⟩
   rw[az];exact k
theorem xk:∀c:Fin 6,Builtin.Int.intBits ((2^c.val:Nat):Int)=c.val+1:=by decide +kernel
noncomputable def Av:ASp:=fun xs ω Q=>∃(tb:List Int)(c:Nat),xs=[.d (wdD tb)]/\tb.length=2^c/\c<=5/\Q (.d (.int c)) ω
theorem Bx(T:Txt K mg t):aY P w K mg base CX0 1 t.ci t.fY ["table"] (dY Av):=by
 refine T.ny.okD l8 (fun xs ω Q h=>by obtain⟨tb,c,rfl,_⟩:=h;rfl) (fun cdv A outer s H E hr=>⟨_,_,(au (a9 (aD mI (Bl PySem.F.plainAttrs_int PySem.F.slot_int_bit_length PySem.F.type_int_bit_length t6 (ar (aH K rfl) (by rfl) T.cu (by kernel_rfl) (ac (pv 0) af))) ah))),(bG (ax pG (BW (bf cK (aa ae ag))) ak)),fun xs ω Q h=>?_⟩)
 obtain⟨tb,c,rfl,hl,hc,k⟩:=h;walk_at "a1";rw[hl,xk ⟨c,by omega⟩,az]
 simpa using k
noncomputable def d8:D->Bool|.int _=>true|_=>false
noncomputable def iW:D->Bool|.int i=>decide (0<=i) && decide (i<=1)|_=>false
noncomputable def mB:D->Bool|.int i=>decide (1<=i) && decide (i<=5)|_=>false
noncomputable def fR:D->Int|.int i=>i|_=>0
noncomputable def unw:D->List Int|.tup ds=>ds.map fR|_=>[]
noncomputable def cf(n:Nat):D->Bool|.tup ds=>decide ((ds.length:Int)=n) && ds.all iW|_=>false
theorem yH{d:D}(h:iW d=true):D.int (fR d)=d:=by
 cases d<;>first|rfl|(simp[iW] at h)
theorem px:∀ {ds:List D},ds.all iW=true->(ds.map fR).map D.int=ds
 | [],_=>rfl
 |d::ds,h=>by
  simp only[List.all_cons,Bool.and_eq_true] at h;rw[List.map_cons,List.map_cons,yH h.1,px h.2]
theorem mL{n:Nat}{d:D}(h:cf n d=true):d=wdD (unw d)/\(unw d).length=n:=by
 cases d with
 |tup ds=>
  simp only[cf,Bool.and_eq_true,decide_eq_true_eq] at h;refine⟨?_,by simp only[unw,List.length_map];omega⟩
  show D.tup ds=D.tup ((ds.map fR).map D.int);rw[px h.2]
 |_=>simp[cf] at h
theorem m9(v:List Int):unw (wdD v)=v:=by
 show (v.map D.int).map fR=v;rw[List.map_map];exact(List.map_congr_left fun x _=>rfl).trans (List.map_id v)
theorem js(ws:List (List Int)):(ws.map wdD).map unw=ws:=by
 rw[List.map_map];exact(List.map_congr_left fun x _=>m9 x).trans (List.map_id ws)
theorem yP{v:List Int}(h:∀x∈v,x=0\/x=1):(v.map D.int).all iW=true:=by
 rw[List.all_eq_true];intro d hd;obtain⟨x,hx,rfl⟩:=List.mem_map.mp hd;rcases h x hx with rfl|rfl<;>rfl
theorem yl{n:Nat}{v:List Int}(h:v∈wl n):cf n (wdD v)=true:=by
 obtain⟨h1,h2⟩:=eI h;show (decide (((v.map D.int).length:Int)=n) && (v.map D.int).all iW)=true;rw[yP h2,Bool.and_true,decide_eq_true];simp[h1]
noncomputable def wio(n:Nat)(d:D):Option (List (List Int)):=match cI d with
 |some ds=>if ds≠[]/\ds.all (cf n)=true/\(ds.map unw).Nodup then some (ds.map unw) else none
 |none=>none
theorem pX{n:Nat}{ws:List (List Int)}{d:D}(hw:Wds n ws)(h0:ws≠[])(e:cI d=some (ws.map wdD)):wio n d=some ws:=by
 unfold wio;rw[e];dsimp only
 have ha:(ws.map wdD).all (cf n)=true:=by
  rw[List.all_eq_true];intro x hx;obtain⟨v,hv,rfl⟩:=List.mem_map.mp hx;exact yl (hw.2 v hv)
 rw[if_pos ⟨by simpa using h0,ha,by rw[js];exact hw.1⟩,js]
theorem xA{n:Nat}{d:D}(e:cI d=none):wio n d=none:=by unfold wio;rw[e]
theorem mo{n:Nat}{d:D}(e:cI d=some []):wio n d=none:=by unfold wio;rw[e];exact if_neg fun h=>h.1 rfl
theorem jw{n:Nat}{d x:D}{ds:List D}(e:cI d=some ds)(hx:x∈ds)(hb:cf n x=false):wio n d=none:=by
 unfold wio;rw[e];refine if_neg fun h=>?_;have:=List.all_eq_true.mp h.2.1 x hx;rw[hb] at this;cases this
theorem sk{n:Nat}{d:D}{ds:List D}(e:cI d=some ds)(h:¬ (ds.map unw).Nodup):wio n d=none:=by
 unfold wio;rw[e];exact if_neg fun q=>h q.2.2
noncomputable def kP(ys zs:List (List Int)):Bool:=ys.any fun v=>decide (v∈zs)
noncomputable def csO(p y z:D):Option (List (List Int)×List (List Int)):=
 if mB p=true then (match wio (fR p).toNat y with
  |none=>none
  |some ys=>match wio (fR p).toNat z with
   |none=>none
   |some zs=>if kP ys zs=true then none else some (ys,zs)) else none
theorem q0{n:Nat}(h1:1<=n)(h5:n<=5):mB (.int n)=true/\(fR (.int n)).toNat=n:=by
 refine⟨?_,by simp[fR]⟩
 show (decide (1<=(n:Int)) && decide ((n:Int)<=5))=true;rw[decide_eq_true (by omega),decide_eq_true (by omega)];rfl
theorem qg{n:Nat}{y z:D}(h:wio n y=none):csO (.int n) y z=none:=by
 unfold csO;split
 ·rw[show (fR (.int (n:Int))).toNat=n from by simp[fR],h]
 ·rfl
theorem tP{n:Nat}{y z:D}(h:wio n z=none):csO (.int n) y z=none:=by
 unfold csO;split
 ·rw[show (fR (.int (n:Int))).toNat=n from by simp[fR],h]
  cases wio n y<;>rfl
 ·rfl
theorem Dc{p y z:D}(h:mB p=false):csO p y z=none:=by
 unfold csO;rw[if_neg (by rw[h];decide)]
theorem qQ{n:Nat}{y z:D}{ys zs:List (List Int)}{v:List Int}(h1:wio n y=some ys)(h2:wio n z=some zs)(hy:v∈ys)(hz:v∈zs):csO (.int n) y z=none:=by
 unfold csO;split
 ·rw[show (fR (.int (n:Int))).toNat=n from by simp[fR],h1,h2]
  dsimp only;rw[if_pos];unfold kP;rw[List.any_eq_true];exact⟨v,hy,by simpa using hz⟩
 ·rfl
theorem l9{n:Nat}{d:D}{ws:List (List Int)}(h:wio n d=some ws):∃ds,cI d=some ds/\ds=ws.map wdD/\ws≠[]/\ws.Nodup/\∀v∈ws,v.length=n:=by
 unfold wio at h
 cases e:cI d with
 |none=>rw[e] at h;cases h
 |some ds=>
  rw[e] at h;dsimp only at h;split at h
  ·rename_i q
   cases h;refine⟨ds,rfl,?_,by simpa using q.1,q.2.2,fun v hv=>?_⟩
   ·rw[List.map_map]
    exact((List.map_congr_left fun x hx=>((mL (List.all_eq_true.mp q.2.1 x hx)).1).symm).trans (List.map_id ds)).symm
   ·obtain⟨x,hx,rfl⟩:=List.mem_map.mp hv
    exact(mL (List.all_eq_true.mp q.2.1 x hx)).2
  ·cases h
noncomputable def Sz(m B:Nat)(d:D):Prop:=(pyD d).depth<=m/\fit d=true/\wt d<=B
theorem we{m B:Nat}:∀ {ds:List D},(∀d∈ds,Sz m B d)->PyData.depthAll (eK ds)<=m/\nA ds=true/\wts ds<=ds.length*(B+2)
 | [],_=>by simp[eK,PyData.depthAll,nA,wts]
 |d::ds,h=>by
  obtain⟨a1,a2,a3⟩:=h d List.mem_cons_self;obtain⟨b1,b2,b3⟩:=we fun e he=>h e (List.mem_cons_of_mem _ he);refine⟨by simp only[eK,PyData.depthAll];omega,by simp only[nA,a2,b2,Bool.and_self],?_⟩
  simp only[wts,List.length_cons,Nat.succ_mul];omega
theorem fi{m B L:Nat}{d:D}{ds:List D}(e:cI d=some ds)(hl:ds.length<=L)(h:∀d∈ds,Sz m B d):Sz (m+1) (L*(B+2)+3) d:=by
 obtain⟨b1,b2,b3⟩:=we h;have:ds.length*(B+2)<=L*(B+2):=Nat.mul_le_mul_right _ hl
 cases d with
 |tup es=>cases e;exact⟨by simp only[pyD,PyData.depth];omega,by simpa only[fit] using b2,by simp only[wt];omega⟩
 |lst es=>cases e;exact⟨by simp only[pyD,PyData.depth];omega,by simpa only[fit] using b2,by simp only[wt];omega⟩
 |_=>cases e
theorem Sz.up{m m' B B':Nat}{d:D}(h:Sz m B d)(h1:m<=m')(h2:B<=B'):Sz m' B' d:=⟨Nat.le_trans h.1 h1,h.2.1,Nat.le_trans h.2.2 h2⟩
theorem qk{x:Int}(h:x=0\/x=1):Sz 0 3 (.int x):=by
 rcases h with rfl|rfl<;>exact⟨Nat.le_refl _,by decide,by decide⟩
theorem C0{n:Nat}{v:List Int}(hn:n<=5)(h:v∈wl n):Sz 1 28 (wdD v):=by
 obtain⟨h1,h2⟩:=eI h;refine(fi (m:=0) (B:=3) (L:=5) (d:=wdD v) (ds:=v.map D.int) rfl (by simp;omega) fun d hd=>?_).up (Nat.le_refl _) (by decide)
 obtain⟨x,hx,rfl⟩:=List.mem_map.mp hd;exact qk (h2 x hx)
noncomputable def wU:ASp:=fun xs ω Q=>∃d:D,xs=[.d d]/\Q (.d (.bl (d8 d))) ω
theorem n8(T:Txt K mg t):aY P w K mg base CX0 1 t.cF t.gX ["thing"] (dY wU):=by
 refine T.qw.okD nQ (fun xs ω Q h=>by obtain⟨x,rfl,_⟩:=h;rfl) (fun cdv A outer s H E hr=>⟨_,_,(au (a9 (jA K rfl (ar fc (by rfl) T.be (by kernel_rfl) (ac (pv 0) (ac (dD (v:=.ty "int") (by rfl) T.vH (by kernel_rfl) (by rfl)) af))) (ma (qV K rfl (ar fc (by rfl) T.be (by kernel_rfl) (ac (pv 0) (ac (dD (v:=.ty "bool") (by rfl) T.Ao (by kernel_rfl) (by rfl)) af)))))))),(bG (mV (bf lG (aa ae (aa dm ag))) (vQ (bf lG (aa ae (aa dm ag)))))),fun xs ω Q h=>?_⟩)
 obtain⟨d,rfl,k⟩:=h;walk_at "a1";refine⟨by decide,?_⟩
 by_cases hi:isD "int" d=true
 ·rw[if_pos hi,az]
  refine⟨by decide,?_⟩
  rw[show (!isD "bool" d)=d8 d from by cases d<;>simp[isD,tyD] at hi<;>rfl]
  exact k
 ·rw[if_neg hi,az]
  rw[show isD "int" d=d8 d from by cases d<;>simp[isD,tyD] at hi<;>rfl]
  exact k
noncomputable def Aq:ASp:=fun xs ω Q=>∃d:D,xs=[.d d]/\Q (.d (.bl (iW d))) ω
theorem AR(T:Txt K mg t):aY P w K mg base CX0 2 t.d7 t.kl ["thing"] (dY Aq):=by
 have G_is_whole:aY P w K mg base _ _ _ _ _ _:=n8 T;refine T.wo.okD uc (fun xs ω Q h=>by obtain⟨x,rfl,_⟩:=h;rfl) (fun cdv A outer s H E hr=>⟨_,_,(au (a9 (jA K rfl (ay G_is_whole (hr.mono (by omega)) (by rfl) T.ky T.kb T.jP .nil aV (ac (pv 0) af)) (ma (nR qK qK ah (pv 0) ah))))),(bG (mV (aG (aa ae ag)) (sH j4 j4 ak ae ak))),fun xs ω Q h=>?_⟩)
 obtain⟨d,rfl,k⟩:=h;walk_at "a1";refine⟨d,rfl,_,rfl,?_⟩;by_cases hw:d8 d=true
 ·obtain⟨i,rfl⟩:∃i,d=.int i:=by cases d<;>first|exact⟨_,rfl⟩|(simp[d8] at hw)
  rw[if_pos hw];walk_at "a1";rw[az];simp only[iW] at k;by_cases h0:0<=i
  ·rw[if_pos h0]
   rw[decide_eq_true h0,Bool.true_and] at k;exact k
  ·rw[if_neg h0]
   rw[decide_eq_false h0,Bool.false_and] at k;exact k
 ·rw[if_neg hw]
  refine⟨_,rfl,?_⟩;rw[az,show d8 d=iW d from by cases d<;>first|rfl|(simp[d8] at hw)]
  exact k
noncomputable def xP:ASp:=fun xs ω Q=>∃d:D,xs=[.d d]/\Q (.d (.bl (mB d))) ω
theorem sA(T:Txt K mg t):aY P w K mg base CX0 2 t.bS t.fA ["thing"] (dY xP):=by
 have G_is_whole:aY P w K mg base _ _ _ _ _ _:=n8 T;refine T.nc.okD kX (fun xs ω Q h=>by obtain⟨x,rfl,_⟩:=h;rfl) (fun cdv A outer s H E hr=>⟨_,_,(au (a9 (jA K rfl (ay G_is_whole (hr.mono (by omega)) (by rfl) T.ky T.kb T.jP .nil aV (ac (pv 0) af)) (ma (nR qK qK ah (pv 0) (dF (v:=.int 5) rfl T.kY ⟨_,rfl⟩)))))),(bG (mV (aG (aa ae ag)) (sH j4 j4 ak ae ak))),fun xs ω Q h=>?_⟩)
 obtain⟨d,rfl,k⟩:=h;walk_at "a1";refine⟨d,rfl,_,rfl,?_⟩;by_cases hw:d8 d=true
 ·obtain⟨i,rfl⟩:∃i,d=.int i:=by cases d<;>first|exact⟨_,rfl⟩|(simp[d8] at hw)
  rw[if_pos hw];walk_at "a1";rw[az];simp only[mB] at k;by_cases h0:1<=i
  ·rw[if_pos h0]
   rw[decide_eq_true h0,Bool.true_and] at k;exact k
  ·rw[if_neg h0]
   rw[decide_eq_false h0,Bool.false_and] at k;exact k
 ·rw[if_neg hw]
  refine⟨_,rfl,?_⟩;rw[az,show d8 d=mB d from by cases d<;>first|rfl|(simp[d8] at hw)]
  exact k
noncomputable def Bi:ASp:=fun xs ω Q=>∃(n:Nat)(d:D),xs=[.d (.int n),.d d]/\1<=n/\n<=5/\Q (.d (.bl (cf n d))) ω
theorem AH(T:Txt K mg t):aY P w K mg base CX0 3 t.c9 t.iZ ["places","thing"] (dY Bi):=by
 have G_is_bit:aY P w K mg base _ _ _ _ _ _:=AR T;have G_are_places:aY P w K mg base _ _ _ _ _ _:=sA T
 refine T.uy.okD qC (fun xs ω Q h=>by obtain ⟨n,v,rfl,_⟩:=h;rfl) (fun cdv A outer s H E hr=>⟨_,_,(ai (b9 (PW.pt (nk (dZ (bb K rfl (ay G_are_places (hr.mono (by omega)) (by rfl) T.iy T.g8 T.hG .nil aV (ac (pv 0) af)) (fun _=>rfl))) (kD (dZ (bb K rfl (ar fc (by rfl) T.be (by kernel_rfl) (ac (pv 1) (ac (dD (v:=.ty "tuple") (by rfl) T.dh (by kernel_rfl) (by rfl)) af))) (fun _=>rfl)))))) (au (a9 eU)) aX)
   (au (a9 (jA K rfl (m6 (cG hr.D6) (ar (aH K rfl) (by rfl) T.cu (by kernel_rfl) (ac (pv 1) af)) (pv 0) (bI _)) (ma (ar (i3 K rfl rfl) (by rfl) T.u7 (by kernel_rfl) (ac (cT (N:=(["bit"]:List Str)) (src:=[none]) rfl (by show dz _ (defScope gC) _ _ (["places","thing"]:List Str)=true;decide +kernel) (by intro g' h;cases h) (ee K rfl (pv 1)) (fun _ _ _ _ _ _=>(a8 (i:=0) (show (["bit"]:List Str).Nodup by decide +kernel) rfl (Or.inl rfl))) (fun _ _ _ _ _ _=>cR) (fun _ _ _ _ _ _=>(cD rfl rfl (ay G_is_bit (hr.mono (by omega)) (by rfl) T.vo T.wd T.vi .nil aV (ac (pv 0) af))))) af))))))),(aF (gj (xl (gm (ei (aG (aa ae ag)))) (gm (ei (bf lG (aa ae (aa dm ag)))))) (bG iJ) br)
   (bG (mV (ax dj (bf cK (aa ae ag)) ae) (bf re (aa (d6 (f7 ae) ao kj (du (aG (aa ae ag)))) ag))))),fun xs ω Q h=>?_⟩)
 obtain⟨n,d,rfl,hn1,hn,k⟩:=h;walk_at "s1";refine⟨_,rfl,_,rfl,?_⟩;rw[(q0 hn1 hn).1,if_neg (by decide)]
 refine⟨by decide,?_⟩
 by_cases ht:isD "tuple" d=true
 ·obtain⟨ds,rfl⟩:∃ds,d=.tup ds:=by cases d<;>first|exact⟨_,rfl⟩|(simp[isD,tyD] at ht)
  rw[ht,if_neg (by decide)]
  walk_at "a1";simp only[cf] at k;by_cases hl:(ds.length:Int)=n
  ·rw[if_pos hl]
   rw[decide_eq_true hl,Bool.true_and] at k;refine eE (rs:=(ds.map iW).map D.bl) (by simp) (Nat.le_of_lt (aA (by simp;omega))) (fun j a r h1 h2 Q q=>?_) (fun ρ=>⟨_,bj _,_,rfl,?_⟩)
   ·simp only[List.map_map,List.getElem?_map,Option.map_eq_some_iff] at h1 h2
    obtain⟨y,hy,rfl⟩:=h1;obtain⟨y',hy',rfl⟩:=h2;rw[hy] at hy';cases hy';simp only[Function.comp_apply] at q ⊢;walk_at "a1";exact⟨y,rfl,q⟩
   ·rw[az,List.all_map]
    exact k
  ·rw[if_neg hl,az]
   rw[decide_eq_false hl,Bool.false_and] at k;rw[show ((ds.length:Int) == (n:Int))=false from by simpa using hl]
   exact k
 ·rw[if_pos (by simpa using ht),az]
  rw[show cf n d=false from by cases d<;>first|rfl|(simp[isD,tyD] at ht)] at k
  exact k
theorem zL:∀a b:List Int,oM (a.map D.int) (b.map D.int)=true
 | [],_=>by simp[oM]
 |_::_,[]=>by simp[oM]
 |x::xs,y::ys=>by
  simp only[List.map_cons,oM];split
  ·exact zL xs ys
  ·rfl
theorem zf:∀a b:List Int,pA (a.map D.int) (b.map D.int)=cq a b
 | [],[]=>rfl
 | [],_::_=>rfl
 |_::_,[]=>rfl
 |x::xs,y::ys=>by
  simp only[List.map_cons,pA,cq,jG];by_cases h:x=y
  ·rw[if_pos (by simpa using h),if_pos h,zf xs ys]
  ·rw[if_neg (by simpa using h),if_neg h]
   rfl
noncomputable def upB(ws:List (List Int)):List Bool:=(List.range (ws.length-1)).map fun j=>cq (ws.getD j []) (ws.getD (j+1) [])
theorem AK{ws:List (List Int)}(hr:Ris ws):(upB ws).all id=decide ws.Nodup:=by
 rw[Bool.eq_iff_iff,decide_eq_true_eq,List.all_eq_true];constructor
 ·intro h
  rw[List.Nodup,List.pairwise_iff_getElem];intro i j hi hj hij e
  have h1:cq ws[i] ws[i+1]=true:=by
   have:=h (cq (ws.getD i []) (ws.getD (i+1) [])) (by unfold upB;exact List.mem_map.mpr ⟨i,List.mem_range.mpr (by omega),rfl⟩)
   simpa[show i<ws.length by omega,show i+1<ws.length by omega] using this
  have h2:cq ws[j] ws[i+1]=false:=by
   rcases Nat.eq_or_lt_of_le (show i+1<=j by omega) with q|q
   ·subst q
    cases z:cq ws[i+1] ws[i+1] with
    |false=>rfl
    |true=>have:=pY _ _ z;rw[z] at this;cases this
   ·exact List.pairwise_iff_getElem.mp hr (i+1) j (by omega) hj q
  rw[e] at h1;rw[h2] at h1;cases h1
 ·intro hn b hb
  obtain⟨j,hj,rfl⟩:=List.mem_map.mp hb;have hj:=List.mem_range.mp hj;have a1:ws.getD j []=ws[j]:=by simp[show j<ws.length by omega]
  have a2:ws.getD (j+1) []=ws[j+1]:=by simp[show j+1<ws.length by omega]
  rw[a1,a2];have h1:cq ws[j+1] ws[j]=false:=List.pairwise_iff_getElem.mp hr j (j+1) (by omega) (by omega) (by omega)
  cases e:cq ws[j] ws[j+1] with
  |true=>rfl
  |false=>exact absurd (xm _ _ h1 e) (List.pairwise_iff_getElem.mp hn j (j+1) (by omega) (by omega) (by omega))
noncomputable def Ae:ASp:=fun xs ω Q=>∃ws:List (List Int),xs=[.d (.lst (ws.map wdD))]/\ws.length<=60/\Q (.d (.bl ((upB ws).all id))) ω
theorem BJ(T:Txt K mg t):aY P w K mg base CX0 1 t.cm t.f8 ["some"] (dY Ae):=by
 refine T.o7.okD ng (fun xs ω Q h=>by obtain⟨x,rfl,_⟩:=h;rfl) (fun cdv A outer s H E hr=>⟨_,_,(au (a9 (ar (i3 K rfl rfl) (by rfl) T.u7 (by kernel_rfl) (ac (cT (N:=(["k","some"]:List Str)) (src:=[none,some 0]) rfl (by show dz _ (defScope eC) _ _ (["some"]:List Str)=true;decide +kernel) (by intro g' h;cases h) (de rfl T.fh (ac (aD mI (ar (aH K rfl) (by rfl) T.cu (by kernel_rfl) (ac (pv 0) af)) ah) af)) (fun _ _ _ _ _ _=>(a8 (i:=0) (show (["k","some"]:List Str).Nodup by decide +kernel) rfl (Or.inl rfl))) (fun _ _ _ _ _ _=>cR) (fun _ _ _ _ _ _=>(cD rfl rfl (m6 (A7 hr.D6) (bR (aO K rfl) (pv 1) (pv 0) (fun _ _=>rfl)) (bR (aO K rfl) (pv 1) (aD (am aQ (am aJ aR)) (pv 0) ah) (fun _ _=>rfl)) (bI _))))) af)))),(bG (bf re (aa (d6 (gN (aa (ax pG (bf cK (aa ae ag)) ak) ag)) ao kj (du (ax Dw (ax dq ae ae) (ax dq ae (ax bz ae ak))))) ag))),fun xs ω Q h=>?_⟩)
 obtain⟨ws,rfl,hl,k⟩:=h;walk_at "a1";have e0:((ws.length:Int)-1).toNat=ws.length-1:=by omega
 refine⟨by omega,by omega,?_⟩
 rw[e0];have hsz:(fV 0 (ws.length-1)).length=ws.length-1:=by simp[fV]
 refine eE (rs:=(upB ws).map D.bl) (by rw[hsz];simp[upB]) (Nat.le_of_lt (aA (by omega))) (fun j a r h1 h2 Q q=>?_) (fun ρ=>⟨_,bj _,_,rfl,?_⟩)
 ·have hj:j<ws.length-1:=by rw[←hsz];exact(List.getElem?_eq_some_iff.mp h1).1
  obtain rfl:r=D.bl (cq ws[j] ws[j+1]):=by
   simp[upB,hj,show j<ws.length by omega,show j+1<ws.length by omega] at h2;exact h2.symm
  simp[fV,hj] at h1;subst h1;have a1:atI ((ws.map wdD).map AV.d) (j:Int)=some (.d (wdD ws[j])):=fJ j rfl (by simp[show j<ws.length by omega])
  have a2:atI ((ws.map wdD).map AV.d) ((j:Int)+1)=some (.d (wdD ws[j+1])):=fJ (j+1) rfl (by simp[show j+1<ws.length by omega])
  walk_at "a1";refine⟨_,a1,_,a2,?_⟩;rw[yV];refine⟨_,_,rfl,rfl,by rw[uZ];decide,zL _ _,?_⟩
  rw[show ltD (wdD ws[j]) (wdD ws[j+1])=cq ws[j] ws[j+1] from zf _ _]
  exact q
 ·rw[az]
  exact k
noncomputable def ym(n m:Nat):List Int:=(List.range n).map fun k:Nat=>Builtin.bitAnd ((0+(m:Int)) / 2^((n:Int)-1-(0+(k:Int))).toNat) 1
theorem CH:∀n:Fin 6,wl n.val=(List.range (2^n.val)).map (ym n.val):=by decide +kernel
theorem pw5(q:Nat):(1*2^q:Int)=((2^q:Nat):Int):=by rw[Int.one_mul,Int.natCast_pow];rfl
theorem DM{q:Nat}(h:q<=5):2^q<=32:=Nat.pow_le_pow_right (by decide) h
theorem vV(T:Txt K mg t):aY P w K mg base CX0 1 t.cX t.iY ["_law_places"] (dY wM):=by
 refine T.tW.okD qu (fun xs ω Q h=>by obtain⟨n,rfl,_⟩:=h;rfl) (fun cdv A outer s H E hr=>⟨_,_,(au (a9 (cT (N:=(["_law_number","_law_places"]:List Str)) (src:=[none,some 0]) rfl (by show dz _ (defScope gD) _ _ (["_law_places"]:List Str)=true;decide +kernel) (by intro g' h;cases h) (de rfl T.fh (ac (aD BF ah (pv 0)) af)) (fun _ _ _ _ _ _=>(a8 (i:=0) (show (["_law_number","_law_places"]:List Str).Nodup by decide +kernel) rfl (Or.inr rfl))) (fun _ _ _ _ _ _=>cR) (fun _ _ _ _ _ _=>(cD rfl rfl (bD (bw K rfl) (by rfl) T.dh (by kernel_rfl) (ac (cT (N:=(["_law_k","_law_number","_law_places"]:List Str)) (src:=[none,some 0,some 1]) rfl (by with_unfolding_all rfl) (by intro g' h;cases h) (de rfl T.fh (ac (pv 1) af)) (fun _ _ _ _ _ _=>(a8 (i:=0) (show (["_law_k","_law_number","_law_places"]:List Str).Nodup by decide +kernel) rfl (Or.inl rfl))) (fun _ _ _ _ _ _=>cR) (fun _ _ _ _ _ _=>(cD rfl rfl (aD As (aD Ai (pv 1) (aD mI (aD mI (pv 2) ah) (pv 0))) ah)))) af))))))),(bG (d6 (gN (aa (ax gS ak ae) ag)) ao kj (du (bf fw (aa (d6 (gN (aa ae ag)) ao kj (du (ax pG (ax gS ae (ax pG (ax pG ae ak) ae)) ak))) ag))))),fun xs ω Q h=>?_⟩)
 obtain⟨n,rfl,hn,k⟩:=h;have h32:=DM hn;have hwa:=CH ⟨n,by omega⟩
 dsimp only at hwa;walk_at "a1";rw[pw5];generalize hz:2^n=z at h32 hwa ⊢;refine⟨⟨by omega,by omega,by decide⟩,by omega,by omega,?_⟩
 rw[Int.toNat_natCast];refine eE (rs:=(wl n).map wdD) (by rw[hwa];simp[fV]) (Nat.le_of_lt (aA (by simp[fV];omega))) (fun i a r ha hr' Q q=>?_) (fun ρ=>⟨_,bj _,?_⟩)
 ·rw[hwa] at hr'
  simp only[fV,List.getElem?_map,Option.map_eq_some_iff] at ha hr';obtain⟨i',h1,rfl⟩:=ha;obtain⟨v,⟨i2,h2,rfl⟩,rfl⟩:=hr';rw[h1] at h2;cases h2;walk_at "a1";refine⟨by omega,by omega,?_⟩
  refine eE (rs:=(ym n i').map D.int) (by simp[fV,ym]) (Nat.le_of_lt (aA (by simp[fV];omega))) (fun j a r ha hr' Q q=>?_) (fun ρ=>⟨_,bj _,?_⟩)
  ·simp only[fV,ym,List.getElem?_map,Option.map_eq_some_iff] at ha hr'
   obtain⟨k',h1,rfl⟩:=ha;obtain⟨v,⟨k2,h2,rfl⟩,rfl⟩:=hr';rw[h1] at h2;cases h2
   have hk:k'<n:=by
    have:=List.mem_range.mp (List.mem_of_getElem? h1);simpa using this
   walk_at "a1";exact⟨by omega,q⟩
  ·exact q
 ·rw[az]
  exact k
structure Sd(n:Nat)(ys zs:List (List Int)):Prop where
 nd:(ys++zs).Nodup
 inn:∀v∈ys++zs,v∈wl n
 y0:ys≠[]
 z0:zs≠[]
noncomputable abbrev oW(ws:List (List Int)):OC:=.own ((ws.map wdD).map AV.d)
theorem p7{α β:Type}(f:α->β):∀(L:List α)(j:Nat),(L.map f).eraseIdx j=(L.eraseIdx j).map f
 | [],_=>rfl
 |_::_,0=>rfl
 |x::L,j+1=>by simp[p7 f L j]
theorem sT{L:List (List Int)}{j:Nat}:OC.own (((L.map wdD).map AV.d).eraseIdx j)=oW (L.eraseIdx j):=by
 rw[oW,p7,p7]
theorem me{α:Type}:∀ {L:List α} {j:Nat} {v:α},L[j]?=some v->(v::L.eraseIdx j).Perm L
 | [],_,_,h=>by simp at h
 |x::L,0,v,h=>by simp at h;subst h;exact .refl _
 |x::L,j+1,v,h=>by
  have:=me (L:=L) (j:=j) (v:=v) (by simpa using h)
  exact(List.Perm.swap x v _).trans (this.cons x)
theorem jv{α:Type}{L:List α}{j:Nat}{v:α}:(L.take j++v::L.drop j).Perm (v::L):=List.perm_middle.trans (by rw[List.take_append_drop])
structure Sx(n:Nat)(L Y Z:List (List Int)):Prop where
 nd:(L++(Y++Z)).Nodup
 inn:∀v∈L++(Y++Z),v∈wl n
theorem Sx.perm{n:Nat}{L Y Z L' Y' Z':List (List Int)}(h:Sx n L Y Z)(p:(L'++(Y'++Z')).Perm (L++(Y++Z))):Sx n L' Y' Z':=
 ⟨p.nodup_iff.mpr h.nd,fun v hv=>h.inn v (p.mem_iff.mp hv)⟩
theorem Sx.toY{n:Nat}{L Y Z:List (List Int)}(h:Sx n L Y Z){j r:Nat}{v:List Int}(hv:L[j]?=some v):Sx n (L.eraseIdx j) (Y.take r++v::Y.drop r) Z:=
 h.perm (((jv.append_right Z).append_left _).trans ((List.perm_middle (a:=v) (l₁:=L.eraseIdx j) (l₂:=Y++Z)).trans ((me hv).append_right (Y++Z))))
theorem Sx.toZ{n:Nat}{L Y Z:List (List Int)}(h:Sx n L Y Z){j r:Nat}{v:List Int}(hv:L[j]?=some v):Sx n (L.eraseIdx j) Y (Z.take r++v::Z.drop r):=by
 refine h.perm (((jv.append_left Y).append_left _).trans ?_);refine((List.perm_middle (a:=v) (l₁:=Y) (l₂:=Z)).append_left _).trans ?_;exact(List.perm_middle (a:=v) (l₁:=L.eraseIdx j) (l₂:=Y++Z)).trans ((me hv).append_right (Y++Z))
structure Fw(n:Nat)(ω ω':Om)(p l y z:Addr)(c:Pn)(L Y Z:List (List Int)):Prop where
 ex:Ex (ω.put p (bi c)) ω'
 at_p:ω' p=some (bi c)
 at_l:ω' l=some (oW L)
 at_y:ω' y=some (oW Y)
 at_z:ω' z=some (oW Z)
 l0:ω l=none
 y0:ω y=none
 z0:ω z=none
 ne:Ne4 p l y z
 sx:Sx n L Y Z
 yn:Y≠[]
 zn:Z≠[]
theorem Fw.pen{n:Nat}{ω ω':Om}{p l y z:Addr}{c c':Pn}{L Y Z:List (List Int)}(h:Fw n ω ω' p l y z c L Y Z):Fw n ω (ω'.put p (bi c')) p l y z c' L Y Z:=
 ⟨h.ex.put2,Om.D3,by rw[Om.D2 (Ne.symm h.ne.p1)];exact h.at_l,by rw[Om.D2 (Ne.symm h.ne.p2)];exact h.at_y,by rw[Om.D2 (Ne.symm h.ne.p3)];exact h.at_z,h.l0,h.y0,h.z0,h.ne,h.sx,h.yn,h.zn⟩
theorem Fw.new{n:Nat}{ω ω':Om}{p l y z q:Addr}{c:Pn}{L Y Z:List (List Int)}{o:OC}(h:Fw n ω ω' p l y z c L Y Z)(hq:ω' q=none):Fw n ω (ω'.put q o) p l y z c L Y Z:=by
 have e1:p≠q:=fun e=>by rw[←e,h.at_p] at hq;cases hq
 have e2:l≠q:=fun e=>by rw[←e,h.at_l] at hq;cases hq
 have e3:y≠q:=fun e=>by rw[←e,h.at_y] at hq;cases hq
 have e4:z≠q:=fun e=>by rw[←e,h.at_z] at hq;cases hq
 exact⟨h.ex.new hq,by rw[Om.D2 e1];exact h.at_p,by rw[Om.D2 e2];exact h.at_l,by rw[Om.D2 e3];exact h.at_y,by rw[Om.D2 e4];exact h.at_z,h.l0,h.y0,h.z0,h.ne,h.sx,h.yn,h.zn⟩
theorem Sx.Ew{n:Nat}{L Y Z:List (List Int)}(h:Sx n L Y Z){j:Nat}{v:List Int}(hv:L[j]?=some v):Sx n (L.eraseIdx j) (Y++[v]) Z:=by
 have:=h.toY (r:=Y.length) hv
 rwa [List.take_length,List.drop_length] at this
theorem Sx.Ey{n:Nat}{L Y Z:List (List Int)}(h:Sx n L Y Z){j:Nat}{v:List Int}(hv:L[j]?=some v):Sx n (L.eraseIdx j) Y (Z++[v]):=by
 have:=h.toZ (r:=Z.length) hv
 rwa [List.take_length,List.drop_length] at this
theorem Fw.toY{n:Nat}{ω ω':Om}{p l y z:Addr}{c:Pn}{L Y Z:List (List Int)}{j:Nat}{v:List Int}(h:Fw n ω ω' p l y z c L Y Z)(hv:L[j]?=some v):Fw n ω ((ω'.put l (oW (L.eraseIdx j))).put y (oW (Y++[v]))) p l y z c (L.eraseIdx j) (Y++[v]) Z:=
 ⟨(h.ex.over (by rw[Om.D2 (Ne.symm h.ne.p1)];exact h.l0)).over (by rw[Om.D2 (Ne.symm h.ne.p2)];exact h.y0),by rw[Om.D2 h.ne.p2,Om.D2 h.ne.p1];exact h.at_p,by rw[Om.D2 h.ne.a,Om.D3],Om.D3,by rw[Om.D2 (Ne.symm h.ne.c),Om.D2 (Ne.symm h.ne.b)];exact h.at_z,h.l0,h.y0,h.z0,h.ne,h.sx.Ew hv,by simp,h.zn⟩
theorem Fw.toZ{n:Nat}{ω ω':Om}{p l y z:Addr}{c:Pn}{L Y Z:List (List Int)}{j:Nat}{v:List Int}(h:Fw n ω ω' p l y z c L Y Z)(hv:L[j]?=some v):Fw n ω ((ω'.put l (oW (L.eraseIdx j))).put z (oW (Z++[v]))) p l y z c (L.eraseIdx j) Y (Z++[v]):=
 ⟨(h.ex.over (by rw[Om.D2 (Ne.symm h.ne.p1)];exact h.l0)).over (by rw[Om.D2 (Ne.symm h.ne.p3)];exact h.z0),by rw[Om.D2 h.ne.p3,Om.D2 h.ne.p1];exact h.at_p,by rw[Om.D2 h.ne.b,Om.D3],by rw[Om.D2 h.ne.c,Om.D2 (Ne.symm h.ne.a)];exact h.at_y,Om.D3,h.l0,h.y0,h.z0,h.ne,h.sx.Ey hv,h.yn,by simp⟩
noncomputable def vp:ASp:=fun xs ω Q=>∃(p:Addr)(n b:Nat),xs=[.r (.ref p),.d (.lst ((wl n).map wdD))]/\uk ω p b/\b<=1000/\1<=n/\n<=5/\∀(ys zs:List (List Int)) (c:Pn),Cn c (b+50)->Sd n ys zs->ys.length<=11->zs.length<=11->Q (.d (.lst [.lst (ys.map wdD),.lst (zs.map wdD)])) (ω.put p (bi c))
theorem vg(T:Txt K mg t):aY P w K mg base CX0 2 t.cZ t.i5 ["_law_pen_here","_law_words_here"] (dY vp):=by
 have G_l_pick:aY P w K mg base _ _ _ _ _ _:=iw T
 refine T.uq.okD d9 (fun xs ω Q h=>by obtain ⟨p,n,b,rfl,_⟩:=h;rfl) (fun cdv A outer s H E hr=>⟨_,_,(ai (aE (i:=2) d9.nd rfl (Or.inl rfl) (bD (eO K rfl) (by rfl) T.iR (by kernel_rfl) (ac (pv 1) af)))
   (ai (aE (i:=3) d9.nd rfl (Or.inl rfl) (bK (ac (jJ PySem.F.plainAttrs_list PySem.F.slot_list_pop PySem.F.type_list_pop j3 (pv 2) (ac (ay G_l_pick (hr.mono (by omega)) (by rfl) T.aS T.aT T.aW .nil aV (ac (pv 0) (ac (ar (aH K rfl) (by rfl) T.cu (by kernel_rfl) (ac (pv 2) af)) af))) af)) af)))
   (ai (aE (i:=4) d9.nd rfl (Or.inl rfl) (bK (ac (jJ PySem.F.plainAttrs_list PySem.F.slot_list_pop PySem.F.type_list_pop j3 (pv 2) (ac (ay G_l_pick (hr.mono (by omega)) (by rfl) T.aS T.aT T.aW .nil aV (ac (pv 0) (ac (ar (aH K rfl) (by rfl) T.cu (by kernel_rfl) (ac (pv 2) af)) af))) af)) af)))
   (ai (jI PassesOwn.never rfl (de rfl T.fh (ac (ay G_l_pick (hr.mono (by omega)) (by rfl) T.aS T.aT T.aW .nil aV (ac (pv 0) (ac (aD (am aQ (am aJ aR)) ah (ar (lg rfl) (by rfl) T.zx (by kernel_rfl) (aj ah (ac (ar (aH K rfl) (by rfl) T.cu (by kernel_rfl) (ac (pv 2) af)) af)))) af))) af)) (a8 (i:=5) d9.nd rfl (Or.inl rfl)) (au (jx (jJ PySem.F.plainAttrs_list PySem.F.slot_list_append PySem.F.type_list_append lx (bR (aO K rfl) (bK (ac (pv 3) (ac (pv 4) af))) (ay G_l_pick (hr.mono (by omega)) (by rfl) T.aS T.aT T.aW .nil aV (ac (pv 0) (aj ah af))) (fun _ _=>rfl)) (ac (jJ PySem.F.plainAttrs_list PySem.F.slot_list_pop PySem.F.type_list_pop j3 (pv 2) (ac (ay G_l_pick (hr.mono (by omega)) (by rfl) T.aS T.aT T.aW .nil aV (ac (pv 0) (ac (ar (aH K rfl) (by rfl) T.cu (by kernel_rfl) (ac (pv 2) af)) af))) af)) af)))))
   (au (a9 (bK (ac (pv 3) (ac (pv 4) af))))))))),(aF (aL (bf rM (aa ae ag)) ao)
   (aF (aL (iH (aa (my ae (aa (aG (aa ae (aa (bf cK (aa ae ag)) ag))) ag)) ag)) ao)
   (aF (aL (iH (aa (my ae (aa (aG (aa ae (aa (bf cK (aa ae ag)) ag))) ag)) ag)) ao)
   (aF (pB (gN (aa (aG (aa ae (aa (ax bz ak (bf Az (aa ak (aa (bf cK (aa ae ag)) ag)))) ag))) ag)) ao (ni (vX (ax dq (iH (aa ae (aa ae ag))) (aG (aa ae (aa ak ag)))) (aa (my ae (aa (aG (aa ae (aa (bf cK (aa ae ag)) ag))) ag)) ag))))
   (bG (ef (aa gc (aa gc ag)))))))),fun xs ω Q h=>?_⟩)
 obtain⟨p,n,b,rfl,⟨c0,hc0,hp⟩,hb,hn1,hn,k⟩:=h;have hwl:=rg hn;walk_at "s1";intro l hl;have hpl:p≠l:=fun e=>by subst e;rw[hp] at hl;cases hl
 have e0:ω.put p (bi c0)=ω:=by funext b;by_cases hb:b=p<;>simp[Om.put,hb,hp]
 have hL0:(wl n).length=2^n:=kJ n;have hL2:2<=(wl n).length:=by rw[hL0];exact Nat.pow_le_pow_right (n:=2) (by decide) hn1
 have hnd:=(Wds.sub (List.Sublist.refl (wl n)) hn).1;walk_at "s1";refine⟨p,_,b,rfl,⟨c0,hc0,by rw[Om.D2 hpl];exact hp⟩,by omega,by omega,by omega,fun r c1 hc1 r0 r1=>?_⟩
 obtain⟨j,rfl⟩:=Int.eq_ofNat_of_zero_le r0;rw[Om.Eb hpl];have hj:j<(wl n).length:=by omega
 refine⟨_,j,rfl,Om.D3,by simp;omega,AV.d (wdD (wl n)[j]),by simp[hj],fun y hy=>?_⟩
 rw[sT,Om.D4] at hy ⊢;have vj:(wl n)[j]?=some (wl n)[j]:=List.getElem?_eq_getElem hj;have S1:Sx n ((wl n).eraseIdx j) [(wl n)[j]] []:=(⟨by simpa using hnd,fun v hv=>by simpa using hv⟩:Sx n (wl n) [] []).toY (r:=0) vj
 have hl1:((wl n).eraseIdx j).length=(wl n).length-1:=by rw[List.length_eraseIdx,if_pos hj]
 generalize (wl n).eraseIdx j=L1 at *;generalize (wl n)[j]=v1 at *;have hyl:y≠l:=fun e=>by subst e;rw[Om.D3] at hy;cases hy
 rw[Om.D2 hyl] at hy;have hyp:p≠y:=fun e=>by subst e;rw[Om.D3] at hy;cases hy
 rw[Om.D2 (Ne.symm hyp)] at hy;have o3:((ω.put p (bi c1)).put l (oW L1)).put y (OC.own [AV.d (wdD v1)])=om3 ω p l y (bi c1) (oW L1) (oW [v1]):=rfl;rw[o3];walk_at "s1";rw[wr (Ne.symm hyl)];refine⟨⟨_,rfl⟩,_,rfl,p,_,b+1,rfl,⟨c1,hc1,za hpl hyp⟩,by omega,by simp;omega,by simp;omega,fun r c2 hc2 r0 r1=>?_⟩
 obtain⟨j2,rfl⟩:=Int.eq_ofNat_of_zero_le r0;rw[BH hpl hyp];have hj2:j2<L1.length:=by simp at r1;omega
 refine⟨_,j2,rfl,wr (Ne.symm hyl),by simp;omega,AV.d (wdD L1[j2]),by simp[hj2],fun z hz=>?_⟩
 rw[sT,BS (Ne.symm hyl)] at hz ⊢;have vj2:L1[j2]?=some L1[j2]:=List.getElem?_eq_getElem hj2;have S2:Sx n (L1.eraseIdx j2) [v1] [L1[j2]]:=S1.toZ (r:=0) vj2;have hl2:(L1.eraseIdx j2).length=L1.length-1:=by rw[List.length_eraseIdx,if_pos hj2]
 generalize L1.eraseIdx j2=L2' at *;generalize L1[j2]=v2 at *;have hzy:z≠y:=fun e=>by subst e;rw[CJ] at hz;cases hz
 have hzl:z≠l:=fun e=>by subst e;rw[wr (Ne.symm hyl)] at hz;cases hz
 have hzp:z≠p:=fun e=>by subst e;rw[za hpl hyp] at hz;cases hz
 have hz0:ω z=none:=by rw[om3,Om.D2 hzy,Om.D2 hzl,Om.D2 hzp] at hz;exact hz
 have h4:Ne4 p l y z:=⟨hpl,hyp,Ne.symm hzp,Ne.symm hyl,Ne.symm hzl,Ne.symm hzy⟩
 have F0:Fw n ω (om4 ω p l y z (bi c2) (oW L2') (oW [v1]) (oW [v2])) p l y z c2 L2' [v1] [v2]:=
  ⟨(((Ex.refl _).new (by rw[Om.D2 (Ne.symm hpl)];exact hl)).new (by rw[Om.D2 hyl,Om.D2 (Ne.symm hyp)];exact hy)).new (by rw[Om.D2 hzy,Om.D2 hzl,Om.D2 hzp];exact hz0),CD h4,Cl h4,Dp h4,CQ h4,hl,hy,hz0,h4,S2,by simp,by simp⟩
 have o4:(om3 ω p l y (bi c2) (oW L2') (oW [v1])).put z (OC.own [AV.d (wdD v2)])=om4 ω p l y z (bi c2) (oW L2') (oW [v1]) (oW [v2]):=rfl;rw[o4];generalize om4 ω p l y z (bi c2) (oW L2') (oW [v1]) (oW [v2])=ω1 at *;have hL2l:L2'.length<=30:=by omega
 walk_at "s1";rw[F0.at_l];refine⟨_,rfl,p,_,b+2,rfl,⟨c2,hc2,F0.at_p⟩,by omega,?_,?_,fun r c4 hc4 r0 r1=>?_⟩
 ·simp only[List.length_map]
  split<;>omega
 ·simp only[List.length_map]
  split<;>omega
 have hr1:r<=9/\r<=L2'.length:=by
  simp only[List.length_map] at r1;split at r1<;>omega
 clear r1;obtain⟨m,rfl⟩:=Int.eq_ofNat_of_zero_le r0;refine⟨m,rfl,by omega,by omega,?_⟩
 rw[Int.toNat_natCast];refine jt (fun i ρ ω'=>∃(c:Pn) (L Y Z:List (List Int)) (v6:Option AV),Cn c (b+3+2*i)/\L.length+i=L2'.length/\Y.length+Z.length=2+i/\Fw n ω ω' p l y z c L Y Z/\ρ=[some (AV.r (V.ref p)),some (AV.d (D.lst (List.map wdD (wl n)))),some (AV.r (V.ref l)),some (AV.r (V.ref y)),some (AV.r (V.ref z)),v6]) ⟨c4,L2',[v1],[v2],_,hc4,rfl,rfl,F0.pen,rfl⟩ ?_ ?_
 ·rintro i ρ ω' N hi ⟨c,L,Y,Z,v6,hc,hLi,hYZ,hF,rfl⟩ kN
  walk_at "a1";intro q hq;have F1:=hF.new (o:=.own [AV.r (V.ref y),AV.r (V.ref z)]) hq;have hqp:q≠p:=fun e=>by subst e;rw[hF.at_p] at hq;cases hq
  refine⟨p,2,b+3+2*i,rfl,⟨c,hc,F1.at_p⟩,by omega,by decide,by decide,fun r c5 hc5 r0 r1=>?_⟩
  have F2:=F1.pen (c':=c5);have atq:((ω'.put q (.own [AV.r (V.ref y),AV.r (V.ref z)])).put p (bi c5)) q=some (.own [AV.r (V.ref y),AV.r (V.ref z)]):=by rw[Om.D2 hqp,Om.D3]
  generalize (ω'.put q (.own [AV.r (V.ref y),AV.r (V.ref z)])).put p (bi c5)=ω2 at *;have hLp:0<L.length:=by omega
  have bA:∀c6 j v,Cn c6 (b+3+2*i+2)->L[j]?=some v->(N [some (AV.r (V.ref p)),some (AV.d (D.lst (List.map wdD (wl n)))),some (AV.r (V.ref l)),some (AV.r (V.ref y)),some (AV.r (V.ref z)),some (AV.d (D.int (0+(i:Int))))] (((ω2.put p (bi c6)).put l (oW (L.eraseIdx j))).put y (oW (Y++[v])))) /\
    (N [some (AV.r (V.ref p)),some (AV.d (D.lst (List.map wdD (wl n)))),some (AV.r (V.ref l)),some (AV.r (V.ref y)),some (AV.r (V.ref z)),some (AV.d (D.int (0+(i:Int))))] (((ω2.put p (bi c6)).put l (oW (L.eraseIdx j))).put z (oW (Z++[v])))):=fun c6 j v hc6 hv=>by
   have hj:=(List.getElem?_eq_some_iff.mp hv).1;have el:(L.eraseIdx j).length=L.length-1:=by rw[List.length_eraseIdx,if_pos hj]
   exact⟨kN _ _ ⟨c6,_,_,_,_,⟨hc6.1,by have:=hc6.2;omega⟩,by omega,by simp;omega,F2.pen.toY hv,rfl⟩,kN _ _ ⟨c6,_,_,_,_,⟨hc6.1,by have:=hc6.2;omega⟩,by omega,by simp;omega,F2.pen.toZ hv,rfl⟩⟩
  have ap:∀W:List (List Int),∀v,OC.own ((W.map wdD).map AV.d++[AV.d (wdD v)])=oW (W++[v]):=fun W v=>by simp[oW]
  dsimp only;rw[atq];rcases(by omega:r=0\/r=1) with rfl|rfl
  ·refine⟨_,rfl,0,rfl,_,rfl,y,rfl,⟨_,F2.at_y⟩,⟨_,F2.at_l⟩,_,by rw[F2.at_l];rfl,p,_,b+3+2*i+1,rfl,⟨c5,hc5,F2.at_p⟩,by omega,by simp;omega,by simp;omega,fun r c6 hc6 r0 r1=>?_⟩
   obtain⟨j,rfl⟩:=Int.eq_ofNat_of_zero_le r0;have hj:j<L.length:=by simp at r1;omega
   refine⟨_,j,rfl,F2.pen.at_l,by simp;omega,AV.d (wdD L[j]),by simp[hj],_,by rw[Om.D2 (Ne.symm h4.a)];exact F2.pen.at_y,aA (by simp;omega),?_⟩
   rw[sT,ap];exact(bA c6 j _ hc6 (List.getElem?_eq_getElem hj)).1
  ·refine⟨_,rfl,1,rfl,_,rfl,z,rfl,⟨_,F2.at_z⟩,⟨_,F2.at_l⟩,_,by rw[F2.at_l];rfl,p,_,b+3+2*i+1,rfl,⟨c5,hc5,F2.at_p⟩,by omega,by simp;omega,by simp;omega,fun r c6 hc6 r0 r1=>?_⟩
   obtain⟨j,rfl⟩:=Int.eq_ofNat_of_zero_le r0;have hj:j<L.length:=by simp at r1;omega
   refine⟨_,j,rfl,F2.pen.at_l,by simp;omega,AV.d (wdD L[j]),by simp[hj],_,by rw[Om.D2 (Ne.symm h4.b)];exact F2.pen.at_z,aA (by simp;omega),?_⟩
   rw[sT,ap];exact(bA c6 j _ hc6 (List.getElem?_eq_getElem hj)).2
 ·rintro ρ ω' ⟨c,L,Y,Z,v6,hc,hLi,hYZ,hF,rfl⟩
  have hYZl:(Y++Z).Nodup:=(List.nodup_append.mp hF.sx.nd).2.1;walk_at "a1";rw[hF.at_y];dsimp only;refine⟨_,bj _,?_⟩;rw[Om.D2 (Ne.symm h4.c),hF.at_z];dsimp only;refine⟨_,bj _,?_⟩;have e1:Ex (ω.put p (bi c)) ((ω'.put y (OC.frz (Y.map wdD))).put z (OC.frz (Z.map wdD))):=(hF.ex.over (by rw[Om.D2 (Ne.symm h4.p2)];exact hF.y0)).over (by rw[Om.D2 (Ne.symm h4.p3)];exact hF.z0)
  rw[gn e1 (by rw[hp];rfl)]
  exact k Y Z c ⟨hc.1,by have:=hc.2;omega⟩ ⟨hYZl,fun v hv=>hF.sx.inn v (List.mem_append_right _ hv),hF.yn,hF.zn⟩ (by omega) (by omega)
noncomputable def Ah(t:Adr):f6:=fun xs ω Q Ex=>∃(n:Nat)(d:D),xs=[.d (.int n),.d d]/\1<=n/\n<=5/\(∀ds,cI d=some ds->ds.length<=60)/\(∀ws,wio n d=some ws->Q (.d (.tup ((dB ws).map wdD))) ω)/\(wio n d=none->Ex t.av ω)
theorem Bu(d:D):(tyD d == "list" || tyD d == "tuple")=(cI d).isSome:=by cases d<;>rfl
theorem BN(T:Txt K mg t):aY P w K mg base (CXx P w) 4 t.bd t.c7 ["places","some"] (jc (Ah t)):=by
 have G_is_word:aY P w K mg base _ _ _ _ _ _:=AH T;have G_is_rising:aY P w K mg base _ _ _ _ _ _:=BJ T
 refine T.iP.okX eH (fun xs ω Q Ex h=>by obtain ⟨n,d,rfl,_⟩:=h;rfl) (fun cdv A outer s H E hr=>⟨_,_,(ai (b9 (PT.nox (dZ (bb K rfl (ar uI (by rfl) T.be (by kernel_rfl) (ac (pv 1) (bX (bh (ac (dD (v:=.ty "list") (by rfl) T.iR (by kernel_rfl) (by rfl)) (ac (dD (v:=.ty "tuple") (by rfl) T.dh (by kernel_rfl) (by rfl)) af))) af))) (fun _=>rfl)))) (au (eA hr.hd (by rfl) T.cV (g0 T.bH) (aj cJ af))) aX)
   (ai (b9 (PT.nox (bt (cG hr.D6) (ar (aH K rfl) (by rfl) T.cu (by kernel_rfl) (ac (pv 1) af)) ah (bI _))) (au (eA hr.hd (by rfl) T.cV (g0 T.bH) (aj cJ af))) aX)
   (ai (b9 (PT.nox (dZ (bb K rfl (ar (i3 K rfl rfl) (by rfl) T.u7 (by kernel_rfl) (ac (cT (N:=(["word","places"] : List Str)) (src:=[none,some 0]) rfl (by show dz _ (defScope bL) _ _ (["places","some","ordered"] : List Str) = true;decide +kernel) (by intro g' h;cases h) (ee K rfl (pv 1)) (fun _ _ _ _ _ _=>(a8 (i:=0) (show (["word","places"] : List Str).Nodup by decide +kernel) rfl (Or.inl rfl))) (fun _ _ _ _ _ _=>cR) (fun _ _ _ _ _ _=>(cD rfl rfl (ay G_is_word (hr.mono (by omega)) (by rfl) T.ux T.tT T.tu .nil aV (ac (pv 1) (ac (pv 0) af)))))) af)) (fun _=>rfl)))) (au (eA hr.hd (by rfl) T.cV (g0 T.bH) (aj cJ af))) aX)
   (ai (PS.nox (aE (i:=2) eH.nd rfl (Or.inl rfl) (ar pp (by rfl) T.vW (by kernel_rfl) (ac (cT (N:=(["word"] : List Str)) (src:=[none]) rfl (by show dz _ (defScope bL) _ _ (["places","some","ordered"] : List Str) = true;decide +kernel) (by intro g' h;cases h) (ee K rfl (pv 1)) (fun _ _ _ _ _ _=>(a8 (i:=0) (show (["word"] : List Str).Nodup by decide +kernel) rfl (Or.inl rfl))) (fun _ _ _ _ _ _=>cR) (fun _ _ _ _ _ _=>(cD rfl rfl (bD (bw K rfl) (by rfl) T.dh (by kernel_rfl) (ac (cT (N:=(["bit"] : List Str)) (src:=[none]) rfl (by with_unfolding_all rfl) (by intro g' h;cases h) (ee K rfl (pv 0)) (fun _ _ _ _ _ _=>(a8 (i:=0) (show (["bit"] : List Str).Nodup by decide +kernel) rfl (Or.inl rfl))) (fun _ _ _ _ _ _=>cR) (fun _ _ _ _ _ _=>(cD rfl rfl (bD k7 (by rfl) T.vH (by kernel_rfl) (ac (pv 0) af))))) af))))) af))))
   (ai (b9 (PT.nox (dZ (bb K rfl (ay G_is_rising (hr.mono (by omega)) (by rfl) T.pO T.nH T.oB .nil aV (ac (pv 2) af)) (fun _=>rfl)))) (au (eA hr.hd (by rfl) T.cV (g0 T.bH) (aj cJ af))) aX)
   (au (PS.nox (a9 (bD (bw K rfl) (by rfl) T.dh (by kernel_rfl) (ac (pv 2) af)))))))))),(eF (qF (gm (ei (BM ae (aa dm (aa dm ag))))) (fz (aa er ag)) (gQ br))
   (eF (qF (bT (ax dj (bf cK (aa ae ag)) ak)) (fz (aa er ag)) (gQ br))
   (eF (qF (gm (ei (bf re (aa (d6 (f7 ae) ao kj (du (aG (aa ae (aa ae ag))))) ag)))) (fz (aa er ag)) (gQ br))
   (eF (gQ (aL (bf vt (aa (d6 (f7 ae) ao kj (du (bf fw (aa (d6 (f7 ae) ao kj (du (bf zU (aa ae ag)))) ag)))) ag)) ao))
   (eF (qF (gm (ei (aG (aa ae ag)))) (fz (aa er ag)) (gQ br))
   (gQ (bG (bf fw (aa ae ag))))))))),fun xs ω Q Ex h=>?_⟩)
 obtain⟨n,d,rfl,hn1,hn,hlen,kq,kx⟩:=h;walk_at "s1";simp only[xy];walk_at "a1";rw[Bu]
 cases hs:cI d with
 |none=>
  rw[if_pos (by decide),az]
  exact kx (xA hs)
 |some ds=>
  have hl:=hlen ds hs;rw[if_neg (by simp)]
  walk_at "s1";have elen:jj ω (.d d)=some ds.length:=by cases d<;>cases hs<;>simp[jj,fZ,c8]
  refine⟨_,elen,?_⟩;by_cases h0:ds=[]
  ·subst h0
   rw[if_pos (by simp),az]
   exact kx (mo hs)
  rw[if_neg (by simpa using h0)]
  walk_at "s1";refine⟨ds,hs,?_⟩;refine eE (rs:=(ds.map (cf n)).map D.bl) (by simp) (Nat.le_of_lt (aA (by simp;omega))) (fun j a r h1 h2 Q q=>?_) (fun ρ=>⟨_,bj _,_,rfl,?_⟩)
  ·simp only[List.map_map,List.getElem?_map,Option.map_eq_some_iff] at h1 h2
   obtain⟨y,hy,rfl⟩:=h1;obtain⟨y',hy',rfl⟩:=h2;rw[hy] at hy';cases hy';simp only[Function.comp_apply] at q ⊢;walk_at "a1";exact⟨n,y,rfl,hn1,hn,q⟩
  rw[List.all_map];by_cases ha:ds.all (cf n)=true
  case neg=>
   have ha':ds.all (cf n)=false:=by simpa using ha
   rw[if_pos (by rw[show ds.all (id ∘ cf n)=ds.all (cf n) from rfl,ha'];rfl),az]
   obtain⟨x,hx,hb⟩:=List.all_eq_false.mp ha';exact kx (jw hs hx (by simpa using hb))
  rw[if_neg (by rw[show ds.all (id ∘ cf n)=ds.all (cf n) from rfl,ha];decide)]
  have hw:∀x∈ds,x=wdD (unw x)/\(unw x).length=n:=fun x hx=>mL (List.all_eq_true.mp ha x hx)
  have ed:ds=(ds.map unw).map wdD:=by
   rw[List.map_map];exact((List.map_congr_left fun x hx=>((hw x hx).1).symm).trans (List.map_id ds)).symm
  walk_at "s1";refine⟨ds,hs,?_⟩;refine eE (rs:=(ds.map unw).map wdD) (by simp) (Nat.le_of_lt (aA (by simp;omega))) (fun j a r h1 h2 Q q=>?_) (fun ρ=>⟨_,bj _,ds.map unw,rfl,fun y hy e=>?_,by simp;omega,?_⟩)
  ·simp only[List.getElem?_map,Option.map_eq_some_iff] at h1 h2
   obtain⟨x,hx,rfl⟩:=h1;obtain⟨_,⟨x',hx',rfl⟩,rfl⟩:=h2;rw[hx] at hx';cases hx';obtain⟨e1,e2⟩:=hw x (List.mem_of_getElem? hx);rw[e1];generalize unw x=y at *;walk_at "a1";refine eE (rs:=y.map D.int) (by simp) (Nat.le_of_lt (aA (by simp;omega))) (fun j a r h1 h2 Q q=>?_) (fun ρ=>⟨_,bj _,q⟩)
   simp only[List.getElem?_map,Option.map_eq_some_iff] at h1 h2;obtain⟨_,⟨z,hz,rfl⟩,rfl⟩:=h1;obtain⟨z',hz',rfl⟩:=h2;rw[hz] at hz';cases hz';walk_at "a1";exact q
  ·obtain⟨x,hx,rfl⟩:=List.mem_map.mp hy
   have:=(hw x hx).2;rw[e] at this;simp at this;omega
  have hsl:=iB (ds.map unw);rw[List.length_map] at hsl;have hu:=AK (xL (ds.map unw))
  have hnd:decide (dB (ds.map unw)).Nodup=decide (ds.map unw).Nodup:=by
   rw[decide_eq_decide];exact(iC _).nodup_iff
  walk_at "s1";refine⟨dB (ds.map unw),rfl,by omega,_,rfl,?_⟩
  rw[hu,hnd];by_cases hd:(ds.map unw).Nodup
  ·rw[decide_eq_true hd,if_neg (by decide),az]
   refine kq (ds.map unw) ?_;unfold wio;rw[hs];exact if_pos ⟨h0,ha,hd⟩
  ·rw[decide_eq_false hd,if_pos (by decide),az]
   exact kx (sk hs hd)
noncomputable def lI(t:Adr):f6:=fun xs ω Q Ex=>∃(p y z:D),xs=[.d p,.d y,.d z]/\(∀ds,cI y=some ds->ds.length<=60)/\(∀ds,cI z=some ds->ds.length<=60)/\(∀ys zs,csO p y z=some (ys,zs)->Q (.d (csD (fR p).toNat (dB ys) (dB zs))) ω)/\(csO p y z=none->Ex t.av ω)
theorem lr(T:Txt K mg t):aY P w K mg base (CXx P w) 5 t.cP t.gx ["places","yes","no"] (jc (lI t)):=by
 have G_are_places:aY P w K mg base _ _ _ _ _ _:=sA T;have GX_words_in_order:aY P w K mg base _ _ _ _ _ _:=BN T
 refine T.t4.okX g4 (fun xs ω Q Ex h=>by obtain ⟨p,y,z,rfl,_⟩:=h;rfl) (fun cdv A outer s H E hr=>⟨_,_,(ai (b9 (PT.nox (dZ (bb K rfl (ay G_are_places (hr.mono (by omega)) (by rfl) T.iy T.g8 T.hG .nil aV (ac (pv 0) af)) (fun _=>rfl)))) (au (eA hr.hd (by rfl) T.cV (g0 T.bH) (aj cJ af))) aX)
   (ai (aE (i:=3) g4.nd rfl (Or.inl rfl) (ay GX_words_in_order (hr.mono (by omega)) (by rfl) T.eT T.fe T.eX .nil rX (PA.nox (ac (pv 0) (ac (pv 1) af)))))
   (ai (aE (i:=4) g4.nd rfl (Or.inr rfl) (ay GX_words_in_order (hr.mono (by omega)) (by rfl) T.eT T.fe T.eX .nil rX (PA.nox (ac (pv 0) (ac (pv 2) af)))))
   (ai (b9 (PT.nox (bb K rfl (ar (uf K rfl rfl) (by rfl) T.Dt (by kernel_rfl) (ac (cT (N:=(["word","no_words"] : List Str)) (src:=[none,some 4]) rfl (by show dz _ (defScope gy) _ _ (["places","yes","no","yes_words","no_words"] : List Str) = true;decide +kernel) (by intro g' h;cases h) (ee K rfl (pv 3)) (fun _ _ _ _ _ _=>(a8 (i:=0) (show (["word","no_words"] : List Str).Nodup by decide +kernel) rfl (Or.inl rfl))) (fun _ _ _ _ _ _=>cR) (fun _ _ _ _ _ _=>(cD rfl rfl (m6 (Ap hr.D6) (pv 0) (pv 1) (by with_unfolding_all rfl))))) af)) (fun _=>rfl))) (au (eA hr.hd (by rfl) T.cV (g0 T.bH) (aj cJ af))) aX)
   (au (PS.nox (a9 (bh (ac (bD k7 (by rfl) T.vH (by kernel_rfl) (ac (pv 0) af)) (ac (pv 3) (ac (pv 4) af))))))))))),(eF (qF (gm (ei (aG (aa ae ag)))) (fz (aa er ag)) (gQ br))
   (eF (zJ (aa ae (aa ae ag)))
   (eF (zJ (aa ae (aa ae ag)))
   (eF (qF (ei (bf re (aa (d6 (f7 ae) ao kj (du (ax DJ ae ae))) ag))) (fz (aa er ag)) (gQ br))
   (gQ (bG (cb (aa (bf zU (aa ae ag)) (aa ae (aa ae ag)))))))))),fun xs ω Q Ex h=>?_⟩)
 obtain⟨p,y,z,rfl,hy,hz,kq,kx⟩:=h;walk_at "s1";refine⟨p,rfl,_,rfl,?_⟩;by_cases hp:mB p=true
 case neg=>
  have hp':mB p=false:=by simpa using hp
  rw[if_pos (by rw[hp'];rfl),az]
  exact kx (Dc hp')
 rw[hp,if_neg (by decide)]
 obtain⟨n,rfl,hn1,hn⟩:∃n:Nat,p=.int n/\1<=n/\n<=5:=by
  cases p<;>simp[mB] at hp
  rename_i i
  exact⟨i.toNat,by congr 1;omega,by omega,by omega⟩
 have en:(fR (.int (n:Int))).toNat=n:=by simp[fR]
 rw[en] at kq;walk_at "s1";refine⟨n,y,rfl,hn1,hn,hy,fun ys ey=>?_,fun ey=>?_⟩
 case refine_2=>
  show Ex t.av (ω.only ω);rw[az];exact kx (qg ey)
 walk_at "s1";refine⟨n,z,rfl,hn1,hn,hz,fun zs ez=>?_,fun ez=>?_⟩
 case refine_2=>
  show Ex t.av (ω.only ω);rw[az];exact kx (tP ez)
 obtain⟨ds1,s1,d1,_,_,_⟩:=l9 ey;obtain⟨ds2,s2,d2,_,_,_⟩:=l9 ez;have l1:=hy _ s1;have l2:=hz _ s2;rw[d1,List.length_map] at l1;rw[d2,List.length_map] at l2;have hsy:=iB ys;have hsz:=iB zs
 have ec:csO (.int n) y z=if kP ys zs=true then none else some (ys,zs):=by
  unfold csO;rw[if_pos hp,en,ey];dsimp only;rw[ez]
 walk_at "s1";refine eE (rs:=((dB ys).map fun v=>decide (v∈dB zs)).map D.bl) (by simp) (Nat.le_of_lt (aA (by simp;omega))) (fun j a r h1 h2 Q q=>?_) (fun ρ=>⟨_,bj _,_,rfl,?_⟩)
 ·simp only[List.map_map,List.getElem?_map,Option.map_eq_some_iff] at h1 h2
  obtain⟨v,hv,rfl⟩:=h1;obtain⟨v',hv',rfl⟩:=h2;rw[hv] at hv';cases hv';simp only[Function.comp_apply] at q ⊢;walk_at "a1";refine⟨by have:=wT (dB zs);omega,?_⟩
  rw[Ay];exact q
 have ea:(((dB ys).map fun v=>decide (v∈dB zs)).any id)=kP ys zs:=by
  rw[Bool.eq_iff_iff];unfold kP;simp only[List.any_map,List.any_eq_true,Function.comp_apply,id_eq,decide_eq_true_eq,xh]
 rw[ea];by_cases hb:kP ys zs=true
 ·rw[if_pos hb,az]
  exact kx (by rw[ec,if_pos hb])
 ·rw[if_neg hb,az]
  exact kq ys zs (by rw[ec,if_neg hb])
noncomputable def uw(t:Adr):f6:=fun xs ω Q Ex=>∃(n:Nat)(b:Int),xs=[.d (wdD (List.replicate (2^n) b))]/\n<=5/\(b=0\/b=1)/\Ex t.av ω
theorem tD(T:Txt K mg t):aY P w K mg base (CXx P w) 2 t.da t.iQ ["table"] (jc (uw t)):=by
 have G_all_words:aY P w K mg base _ _ _ _ _ _:=yo T;have G_places_of:aY P w K mg base _ _ _ _ _ _:=Bx T;have G_value_at:aY P w K mg base _ _ _ _ _ _:=vn T
 refine T.tj.okX d5 (fun xs ω Q Ex h=>by obtain ⟨n,b,rfl,_⟩:=h;rfl) (fun cdv A outer s H E hr=>⟨_,_,(ai (PS.nox (aE (i:=1) d5.nd rfl (Or.inl rfl) (ay G_places_of (hr.mono (by omega)) (by rfl) T.pN T.oV T.nB .nil aV (ac (pv 0) af))))
   (ai (PS.nox (aE (i:=2) d5.nd rfl (Or.inl rfl) (ay G_all_words (hr.mono (by omega)) (by rfl) T.pH T.pJ T.nT .nil aV (ac (pv 1) af))))
   (ai (PS.nox (aE (i:=3) d5.nd rfl (Or.inl rfl) (bD (bw K rfl) (by rfl) T.dh (by kernel_rfl) (ac (cT (N:=(["word","table"] : List Str)) (src:=[none,some 0]) rfl (by show dz _ (defScope eR) _ _ (["table","places","words","yes","no"] : List Str) = true;decide +kernel) (by intro g' h;cases h) (ee K rfl (pv 2)) (fun _ _ _ _ _ _=>(a8 (i:=0) (show (["word","table"] : List Str).Nodup by decide +kernel) rfl (Or.inl rfl))) (fun _ _ _ _ _ _=>(sQ (bt (cG hr.D6) (ay G_value_at (hr.mono (by omega)) (by rfl) T.jU T.j8 T.ke .nil aV (ac (pv 1) (ac (pv 0) af))) ah (bI _)))) (fun _ _ _ _ _ _=>(cD rfl rfl (pv 0)))) af))))
   (ai (PS.nox (aE (i:=4) d5.nd rfl (Or.inl rfl) (bD (bw K rfl) (by rfl) T.dh (by kernel_rfl) (ac (cT (N:=(["word","table"] : List Str)) (src:=[none,some 0]) rfl (by show dz _ (defScope eR) _ _ (["table","places","words","yes","no"] : List Str) = true;decide +kernel) (by intro g' h;cases h) (ee K rfl (pv 2)) (fun _ _ _ _ _ _=>(a8 (i:=0) (show (["word","table"] : List Str).Nodup by decide +kernel) rfl (Or.inl rfl))) (fun _ _ _ _ _ _=>(sQ (bt (cG hr.D6) (ay G_value_at (hr.mono (by omega)) (by rfl) T.jU T.j8 T.ke .nil aV (ac (pv 1) (ac (pv 0) af))) ah (bI _)))) (fun _ _ _ _ _ _=>(cD rfl rfl (pv 0)))) af))))
   (ai (b9 (PT.nox (PW.pt (nk (bt (cG hr.D6) (ar (aH K rfl) (by rfl) T.cu (by kernel_rfl) (ac (pv 3) af)) ah (bI _)) (kD (bt (cG hr.D6) (ar (aH K rfl) (by rfl) T.cu (by kernel_rfl) (ac (pv 4) af)) ah (bI _)))))) (au (eA hr.hd (by rfl) T.cV (g0 T.bH) (aj cJ af))) aX)
   (au (PS.nox (a9 (bh (ac (pv 1) (ac (pv 3) (ac (pv 4) af)))))))))))),(eF (gQ (aL (aG (aa ae ag)) ao))
   (eF (gQ (aL (aG (aa ae ag)) ao))
   (eF (gQ (aL (bf fw (aa (d6 (f7 ae) ao (bT (ax dj (aG (aa ae (aa ae ag))) ak)) (du ae)) ag)) ao))
   (eF (gQ (aL (bf fw (aa (d6 (f7 ae) ao (bT (ax dj (aG (aa ae (aa ae ag))) ak)) (du ae)) ag)) ao))
   (eF (qF (xl (bT (ax dj (bf cK (aa ae ag)) ak)) (bT (ax dj (bf cK (aa ae ag)) ak))) (fz (aa er ag)) (gQ br))
   (gQ (bG (cb (aa ae (aa ae (aa ae ag))))))))))),fun xs ω Q Ex h=>?_⟩)
 obtain⟨n,b,rfl,hn,hb,kx⟩:=h;have hwl:=rg hn;have htl:(List.replicate (2^n) b).length=2^n:=List.length_replicate;walk_at "s1";refine⟨_,n,rfl,htl,hn,?_⟩;walk_at "s1";refine⟨n,rfl,hn,?_⟩;walk_at "s1";generalize htb:List.replicate (2^n) b=tb at *
 have hg:∀v∈wl n,tb.getD (num v).toNat 0=b:=fun v hv=>by
  obtain⟨e1,e2⟩:=eI hv;obtain⟨g1,g2⟩:=pW e2 0 (Int.le_refl _)
  have:(num v).toNat<2^n:=by
   unfold num;rw[e1] at g2;have e3:((2:Int)^n)=((2^n:Nat):Int):=by rw[Int.natCast_pow];rfl
   omega
  rw[←htb,List.getD_eq_getElem?_getD,List.getElem?_replicate,if_pos this];rfl
 have val:∀(c:Int)(v:List Int),v∈wl n->∀Q:Bool->Om->Prop,Q (decide (b=c)) ω->oG (aOp (vS false) (no oA (bP (gE 1) (bP (gE 0) i0))) (aC (D.int c))) [some (AV.d (wdD v)),some (AV.d (wdD tb))] ω Q:=fun c v hv Q q=>by
  obtain⟨e1,e2⟩:=eI hv;walk_at "a1";refine⟨tb,v,rfl,e2,by rw[e1];exact htl,_,rfl,by simp[dep],?_⟩
  rw[hg v hv,show eqD (D.int b) (D.int c)=decide (b=c) from by rw[jG];rfl]
  exact q
 refine sr wdD (fun _=>decide (b=1)) wdD (Nat.le_of_lt (aA (by omega))) (fun v hv Q q=>val 1 v hv Q q) (fun v hv _ Q q=>?_) (fun ρ=>⟨_,bj _,?_⟩)
 ·walk_at "a1"
  exact q
 walk_at "s1";refine sr wdD (fun _=>decide (b=0)) wdD (Nat.le_of_lt (aA (by omega))) (fun v hv Q q=>val 0 v hv Q q) (fun v hv _ Q q=>?_) (fun ρ=>⟨_,bj _,?_⟩)
 ·walk_at "a1"
  exact q
 walk_at "s1";rcases hb with rfl|rfl
 ·rw[if_pos (by simp),az]
  exact kx
 ·have e1:((List.filter (fun _:List Int=>decide ((1:Int)=0)) (wl n)).length:Int)=0:=by simp
  split
  ·rw[az];exact kx
  ·rw[az];exact kx
theorem jN{ds:List D}{r:Int}(h0:0<=r)(h1:r<ds.length):∃d∈ds,atI (ds.map AV.d) r=some (.d d):=by
 obtain⟨d,hm,_,hx⟩:=mS (f:=AV.d) (xs:=ds) h0 h1;exact⟨d,hm,hx⟩
noncomputable def yb:List D:=[.non,.bl true,.bl false,.int 0,.int 1,.int 2,.int (-1),.int (10^29),.str "",.str "0",.str "01",.tup [],.lst [],.dk [],.tup [.int 0],.lst [.int 0],.tup [.int 1,.int 0],.lst [.tup [.int 0,.int 1]],.dk [0]]
noncomputable def Ad:ASp:=fun xs ω Q=>∃(p:Addr)(b:Nat),xs=[.r (.ref p)]/\uk ω p b/\b<=10000/\∀(d:D)(c:Pn),Cn c (b+1)->d∈yb->Q (.d d) (ω.put p (bi c))
theorem BT(T:Txt K mg t):aY P w K mg base CX0 2 t.fI t.mt ["_law_pen_here"] (dY Ad):=by
 have G_l_pick:aY P w K mg base _ _ _ _ _ _:=iw T
 refine T.yN.okD pi (fun xs ω Q h=>by obtain ⟨p,b,rfl,_⟩:=h;rfl) (fun cdv A outer s H E hr=>⟨_,_,(ai (aE (i:=1) pi.nd rfl (Or.inl rfl) (bK (aj iO (aj eU (aj eU (aj ah (aj ah (aj ah (ac (qM mO ah) (ac (aD qq ah ah) (aj cJ (aj cJ (aj cJ (bX (bh af) (dU (bK af) (ac (pQ) (bX (bh (aj ah af)) (dU (bK (aj ah af)) (bX (bh (aj ah (aj ah af))) (dU (bK (bX (bh (aj ah (aj ah af))) af)) (ac (yc (wm ah ah xX) rfl rfl (by simp) (by decide)) af)))))))))))))))))))))
   (au (a9 (bR (aO K rfl) (pv 1) (ay G_l_pick (hr.mono (by omega)) (by rfl) T.aS T.aT T.aW .nil aV (ac (pv 0) (ac (ar (aH K rfl) (by rfl) T.cu (by kernel_rfl) (ac (pv 1) af)) af))) (fun _ _=>rfl))))),(aF (aL (ef (aa lD (aa iJ (aa iJ (aa ak (aa ak (aa ak (aa (yd u_i ak) (aa (ax gS ak ak) (aa er (aa er (aa er (aa (cb ag) (aa (ef ag) (aa zi (aa (cb (aa ak ag)) (aa (ef (aa ak ag)) (aa (cb (aa ak (aa ak ag))) (aa (ef (aa (cb (aa ak (aa ak ag))) ag)) (aa CG ag)))))))))))))))))))) ao)
   (bG (ax dq ae (aG (aa ae (aa (bf cK (aa ae ag)) ag)))))),fun xs ω Q h=>?_⟩)
 obtain⟨p,b,rfl,hp,hb,k⟩:=h;walk_at "s1";refine⟨⟨by decide,by decide,by decide⟩,by decide,p,19,b,rfl,hp,by omega,by decide,by decide,fun r c hc r0 r1=>?_⟩
 obtain⟨d,hd,e⟩:=jN (ds:=yb) r0 r1;refine⟨r,rfl,_,e,_,rfl,?_⟩;rw[lF (by obtain⟨c0,_,e⟩:=hp;exact⟨c0,e⟩)]
 exact k d c hc hd
theorem pb{α:Type}(v:List α):(bO v none (some (-1))).length=v.length-1:=by
 unfold bO HT.sIx;simp;omega
noncomputable def Ar(v:List Int)(r x:Int):List D:=[D.tup ((v++[0]).map D.int),D.tup ((bO v none (some (-1))).map D.int),D.lst (v.map D.int),D.tup ((bO v none (some r)++[2]++bO v (some (r+1)) none).map D.int),
 D.tup ((bO v none (some r)).map D.int++[D.bl true]++(bO v (some (r+1)) none).map D.int),.non,D.tup (bO (v.map D.int) none (some r)++[D.int (-1)]++bO (v.map D.int) (some (r+1)) none),D.tup (bO (v.map D.int) none (some r)++[D.str "1"]++bO (v.map D.int) (some (r+1)) none),.str "01",.int x,.tup [.tup (v.map D.int)]]
theorem g7{n:Nat}{ds:List D}(h:ds.length≠n):cf n (.tup ds)=false:=by
 show (decide ((ds.length:Int)=n) && _)=false;rw[decide_eq_false (by omega),Bool.false_and]
theorem gk{n:Nat}{ds:List D}{x:D}(hx:x∈ds)(hb:iW x=false):cf n (.tup ds)=false:=by
 show (_ && ds.all iW)=false;rw[show ds.all iW=false from List.all_eq_false.mpr ⟨x,hx,by rw[hb];decide⟩,Bool.and_false]
theorem yY{n:Nat}{v:List Int}{r x:Int}(hn1:1<=n)(hn:n<=5)(hv:v∈wl n)(hx:x∈v):∀d∈Ar v r x,cf n d=false/\Sz 2 100 d:=by
 obtain⟨hl,hb⟩:=eI hv;have l0:=(cU v none (some r)).length_le;have l0':=(cU v (some (r+1)) none).length_le
 have bits:∀ {u:List Int},(∀x∈u,x=0\/x=1)->∀d∈u.map D.int,Sz 0 5 d:=fun h d hd=>by
  obtain⟨z,hz,rfl⟩:=List.mem_map.mp hd;exact(qk (h z hz)).up (Nat.le_refl _) (by decide)
 have b1:∀d∈(bO v none (some r)).map D.int,Sz 0 5 d:=bits fun z hz=>hb z ((cU v none (some r)).mem hz);have b2:∀d∈(bO v (some (r+1)) none).map D.int,Sz 0 5 d:=bits fun z hz=>hb z ((cU v (some (r+1)) none).mem hz)
 have three:∀ {y:D},Sz 0 5 y->Sz 2 100 (.tup ((bO v none (some r)).map D.int++[y]++(bO v (some (r+1)) none).map D.int)):=fun hy=>by
  refine(fi (m:=0) (B:=5) (L:=11) rfl (by simp;omega) fun d hd=>?_).up (by decide) (by decide)
  rcases List.mem_append.mp hd with hd|hd
  ·rcases List.mem_append.mp hd with hd|hd
   ·exact b1 d hd
   ·rw[List.mem_singleton.mp hd];exact hy
  ·exact b2 d hd
 have mid:∀ {y:D},y∈((bO v none (some r)).map D.int++[y]++(bO v (some (r+1)) none).map D.int):=fun {y}=>List.mem_append_left _ (List.mem_append_right _ (List.mem_singleton.mpr rfl));have e1:bO (v.map D.int) none (some r)=(bO v none (some r)).map D.int:=km _ _ _ _;have e2:bO (v.map D.int) (some (r+1)) none=(bO v (some (r+1)) none).map D.int:=km _ _ _ _;intro d hd;unfold Ar at hd
 rw[e1,e2] at hd;simp only[List.mem_cons,List.not_mem_nil,or_false] at hd;rcases hd with rfl|rfl|rfl|rfl|rfl|rfl|rfl|rfl|rfl|rfl|rfl
 ·refine⟨g7 (by simp;omega),(fi (m:=0) (B:=5) (L:=11) rfl (by simp;omega) (bits fun z hz=>?_)).up (by decide) (by decide)⟩
  rcases List.mem_append.mp hz with hz|hz
  ·exact hb z hz
  ·rw[List.mem_singleton.mp hz];exact .inl rfl
 ·refine⟨g7 (by rw[List.length_map,pb];omega),(fi (m:=0) (B:=5) (L:=11) rfl (by rw[List.length_map,pb];omega) (bits fun z hz=>?_)).up (by decide) (by decide)⟩
  exact hb z ((cU v none (some (-1))).mem hz)
 ·exact⟨rfl,(fi (m:=0) (B:=5) (L:=11) rfl (by simp;omega) (bits hb)).up (by decide) (by decide)⟩
 ·rw[List.map_append,List.map_append]
  exact⟨gk mid rfl,three ⟨Nat.le_refl _,by decide,by decide⟩⟩
 ·exact⟨gk mid rfl,three ⟨Nat.le_refl _,by decide,by decide⟩⟩
 ·exact⟨rfl,by decide,by decide,by decide⟩
 ·exact⟨gk mid rfl,three ⟨Nat.le_refl _,by decide,by decide⟩⟩
 ·exact⟨gk mid rfl,three ⟨Nat.le_refl _,by decide,by decide +kernel⟩⟩
 ·exact⟨rfl,by decide,by decide,by decide +kernel⟩
 ·exact⟨rfl,(qk (hb x hx)).up (by decide) (by decide)⟩
 ·refine⟨gk (List.mem_singleton.mpr rfl) rfl,(fi (m:=1) (B:=80) (L:=1) rfl (by simp) fun d hd=>?_).up (by decide) (by decide)⟩
  rw[List.mem_singleton.mp hd];exact(fi (m:=0) (B:=5) (L:=11) rfl (by simp;omega) (bits hb)).up (by decide) (by decide)
noncomputable def BQ:ASp:=fun xs ω Q=>∃(p:Addr)(b n:Nat)(v:List Int),xs=[.r (.ref p),.d (wdD v)]/\uk ω p b/\b<=10000/\1<=n/\n<=5/\v∈wl n/\∀(d:D)(c:Pn),Cn c (b+2)->cf n d=false->Sz 2 100 d->Q (.d d) (ω.put p (bi c))
theorem AQ(T:Txt K mg t):aY P w K mg base CX0 2 t.bU t.fD ["_law_pen_here","_law_word"] (dY BQ):=by
 have G_l_pick:aY P w K mg base _ _ _ _ _ _:=iw T
 refine T.l7.okD di (fun xs ω Q h=>by obtain ⟨p,b,n,v,rfl,_⟩:=h;rfl) (fun cdv A outer s H E hr=>⟨_,_,(ai (aE (i:=2) di.nd rfl (Or.inl rfl) (ay G_l_pick (hr.mono (by omega)) (by rfl) T.aS T.aT T.aW .nil aV (ac (pv 0) (ac (ar (aH K rfl) (by rfl) T.cu (by kernel_rfl) (ac (pv 1) af)) af))))
   (ai (aE (i:=3) di.nd rfl (Or.inl rfl) (bK (ac (aD (am aQ (am aJ aR)) (pv 1) (bh (aj ah af))) (ac (cS (fG K rfl) (pv 1) dE (dG (qM mO ah))) (ac (bD (eO K rfl) (by rfl) T.iR (by kernel_rfl) (ac (pv 1) af)) (ac (aD (am aQ (am aJ aR)) (aD (am aQ (am aJ aR)) (cS (fG K rfl) (pv 1) dE (dG (pv 2))) (bh (aj ah af))) (cS (fG K rfl) (pv 1) (dG (aD (am aQ (am aJ aR)) (pv 2) ah)) dE)) (ac (aD (am aQ (am aJ aR)) (aD (am aQ (am aJ aR)) (cS (fG K rfl) (pv 1) dE (dG (pv 2))) (bh (aj eU af))) (cS (fG K rfl) (pv 1) (dG (aD (am aQ (am aJ aR)) (pv 2) ah)) dE)) (aj iO af))))))))
   (ai (aE (i:=3) di.nd rfl (Or.inl rfl) (aD (am aQ (am aJ aR)) (pv 3) (bK (ac (aD (am aQ (am aJ aR)) (aD (am aQ (am aJ aR)) (cS (fG K rfl) (pv 1) dE (dG (pv 2))) (bh (ac (qM mO ah) af))) (cS (fG K rfl) (pv 1) (dG (aD (am aQ (am aJ aR)) (pv 2) ah)) dE)) (ac (aD (am aQ (am aJ aR)) (aD (am aQ (am aJ aR)) (cS (fG K rfl) (pv 1) dE (dG (pv 2))) (bh (aj cJ af))) (cS (fG K rfl) (pv 1) (dG (aD (am aQ (am aJ aR)) (pv 2) ah)) dE)) (aj cJ (ac (bR (aO K rfl) (pv 1) (pv 2) (fun _ _=>rfl)) (bX (bh (ac (pv 1) af)) af))))))))
   (au (a9 (bR (aO K rfl) (pv 3) (ay G_l_pick (hr.mono (by omega)) (by rfl) T.aS T.aT T.aW .nil aV (ac (pv 0) (ac (ar (aH K rfl) (by rfl) T.cu (by kernel_rfl) (ac (pv 3) af)) af))) (fun _ _=>rfl))))))),(aF (aL (aG (aa ae (aa (bf cK (aa ae ag)) ag))) ao)
   (aF (aL (ef (aa (ax bz ae (cb (aa ak ag))) (aa (mm ae fx (fg (yd u_i ak))) (aa (bf Bm (aa ae ag)) (aa (ax bz (ax bz (mm ae fx (fg ae)) (cb (aa ak ag))) (mm ae (fg (ax bz ae ak)) fx)) (aa (ax bz (ax bz (mm ae fx (fg ae)) (cb (aa iJ ag))) (mm ae (fg (ax bz ae ak)) fx)) (aa lD ag))))))) ao)
   (aF (aL (ax bz ae (ef (aa (ax bz (ax bz (mm ae fx (fg ae)) (cb (aa (yd u_i ak) ag))) (mm ae (fg (ax bz ae ak)) fx)) (aa (ax bz (ax bz (mm ae fx (fg ae)) (cb (aa er ag))) (mm ae (fg (ax bz ae ak)) fx)) (aa er (aa (ax dq ae ae) (aa (cb (aa ae ag)) ag))))))) ao)
   (bG (ax dq ae (aG (aa ae (aa (bf cK (aa ae ag)) ag)))))))),fun xs ω Q h=>?_⟩)
 obtain⟨p,b,n,v,rfl,hp,hb,hn1,hn,hv,k⟩:=h;obtain⟨hl,hbit⟩:=eI hv;walk_at "s1";refine⟨p,_,b,rfl,hp,by omega,by omega,by omega,fun r c hc r0 r1=>?_⟩
 walk_at "s1";simp only[wdD];walk_at "a1";have l1:=(cU v none (some r)).length_le;have l2:=(cU v (some (r+1)) none).length_le;have sm:∀ {m:Nat},m<=100->m<=sizeLine:=fun h=>Nat.le_of_lt (aA (by omega))
 refine⟨sm (by omega),sm (by omega),sm (by omega),sm (by omega),sm (by omega),?_⟩
 walk_at "s1";have c1:(bO (v.map D.int) none (some r)).length<=v.length:=by have:=(cU (v.map D.int) none (some r)).length_le;rwa [List.length_map] at this
 have c2:(bO (v.map D.int) (some (r+1)) none).length<=v.length:=by have:=(cU (v.map D.int) (some (r+1)) none).length_le;rwa [List.length_map] at this
 obtain⟨x0,hx0,_,ex⟩:=mS (f:=AV.d) (xs:=v.map D.int) r0 (by simpa using r1)
 obtain⟨x,hx,rfl⟩:=List.mem_map.mp hx0;refine⟨sm (by omega),sm (by omega),sm (by omega),sm (by omega),_,ex,_,rfl,sm (by simp),p,_,b+1,rfl,fW hc,by omega,(by show (0:Int)<((11:Nat):Int);decide),(by show ((11:Nat):Int)<1073741824;decide),fun r2 c3 hc3 r20 r21=>?_⟩
 obtain⟨d,hd,e⟩:=jN (ds:=Ar v r x) r20 r21;obtain⟨q1,q2⟩:=yY hn1 hn hv hx d hd;refine⟨r2,rfl,_,e,_,rfl,?_⟩;rw[Om.D4,lF (by obtain⟨c0,_,e⟩:=hp;exact⟨c0,e⟩)]
 exact k d c3 hc3 q1 q2
noncomputable def qi:ASp:=fun xs ω Q=>∃(p y z:D),xs=[.d p,.d y,.d z]/\(∀ds,cI y=some ds->ds.length<=60)/\(∀ds,cI z=some ds->ds.length<=60)/\csO p y z=none/\Q (.d (.bl true)) ω
theorem qH(T:Txt K mg t):aY P w K mg base CX0 6 t.cg t.fT ["_law_places","_law_yes","_law_no"] (dY qi):=by
 have GX_case_of:aY P w K mg base _ _ _ _ _ _:=lr T
 refine T.pD.okD fu (fun xs ω Q h=>by obtain⟨p,y,z,rfl,_⟩:=h;rfl) (fun cdv A outer s H E hr=>⟨_,_,(ai (aE (i:=3) fu.nd rfl (Or.inl rfl) iO)
   (ai (Bc (i:=4) (j:=3) rfl rfl rfl (pP (nn GX_case_of (hr.mono (by omega)) (by rfl) T.lv T.lV T.lC (ac (pv 0) (ac (pv 1) (ac (pv 2) af))))) (by rfl) T.pq fu.nd rfl rfl (by decide) rfl rfl)
   (ai (b9 (PW.pt (nk (dZ (bb K rfl (ar (nN K rfl) (by rfl) T.be (by kernel_rfl) (ac (pv 3) (ac (dF (v:=.ref t.av) rfl T.cV rfl) af))) (fun _=>rfl))) (kD (dZ (bb K rfl (ar (nN K rfl) (by rfl) T.be (by kernel_rfl) (ac (pv 3) (ac (dD (v:=.ty "ValueError") (by rfl) T.mZ (by kernel_rfl) (by rfl)) af))) (fun _=>rfl)))))) (au (a9 eU)) aX)
   (au (a9 (qV K rfl (ar (ut K rfl) (by rfl) T.be (by kernel_rfl) (ac (pv 3) (bX (bh (ac (dF (v:=.ref t.cx) rfl T.xb rfl) (ac (dF (v:=.ref t.dg) rfl T.yE rfl) (ac (dF (v:=.ref t.bJ) rfl T.qt rfl) (ac (dF (v:=.ref t.cz) rfl T.xx rfl) (ac (dF (v:=.ref t.cB) rfl T.uN rfl) (ac (dF (v:=.ref t.cy) rfl T.wB rfl) (ac (dF (v:=.ref t.b8) rfl T.uJ rfl) af)))))))) af))))))))),(aF (aL lD ao)
   (aF (CW (aa ae (aa ae (aa ae ag))))
   (aF (gj (xl (gm (ei (bf Ab (aa ae (aa dm ag))))) (gm (ei (bf Ab (aa ae (aa dm ag)))))) (bG iJ) br)
   (bG (vQ (BB ae (aa dm (aa dm (aa dm (aa dm (aa dm (aa dm (aa dm ag))))))))))))),fun xs ω Q h=>?_⟩)
 obtain⟨p,y,z,rfl,hy,hz,hc,k⟩:=h;walk_at "s1";walk_at "s1";refine⟨p,y,z,rfl,hy,hz,fun ys zs e=>(by rw[hc] at e;cases e),fun _=>⟨T.bx,fun a=>?_⟩⟩
 walk_at "s1";refine⟨_,rfl,true,kQ T.bH T.bY,?_⟩;rw[if_neg (by decide)]
 refine⟨_,rfl,true,kQ T.bH T.bp,?_⟩;rw[if_neg (by decide)]
 refine⟨[.ref t.cx,.ref t.dg,.ref t.bJ,.ref t.cz,.ref t.cB,.ref t.cy,.ref t.b8],rfl,by simp,_,rfl,false,kQ T.bH (by simp only[W.kitAny,T.bV,T.cj,T.bF,T.bW,T.bZ,T.b7,T.bM]),?_⟩
 rw[az];exact k
noncomputable def xf:ASp:=fun xs ω Q=>∃(n:Nat)(b:Int),xs=[.d (wdD (List.replicate (2^n) b))]/\n<=5/\(b=0\/b=1)/\Q (.d (.bl true)) ω
theorem vz(T:Txt K mg t):aY P w K mg base CX0 3 t.db t.iD ["_law_table"] (dY xf):=by
 have GX_case_by:aY P w K mg base _ _ _ _ _ _:=tD T
 refine T.t0.okD gP (fun xs ω Q h=>by obtain⟨n,b,rfl,_⟩:=h;rfl) (fun cdv A outer s H E hr=>⟨_,_,(ai (aE (i:=1) gP.nd rfl (Or.inl rfl) eU)
   (ai (yq rfl rfl rfl (pP (nn GX_case_by (hr.mono (by omega)) (by rfl) T.tH T.tf T.tO (ac (pv 0) af))) (by rfl) T.cV (fun e=>(aE (i:=1) gP.nd rfl (Or.inl rfl) eU)))
   (au (a9 (pv 1))))),(aF (aL iJ ao)
   (aF (Aj (aa ae ag) (aL iJ ao))
   (bG ae))),fun xs ω Q h=>?_⟩)
 obtain⟨n,b,rfl,hn,hb,k⟩:=h;walk_at "s1";walk_at "s1";refine⟨n,b,rfl,hn,hb,T.b0,?_⟩;rw[az];exact k
noncomputable def Bn(y:D):Prop:=Sz 3 2043 y/\∀ds,cI y=some ds->ds.length<=20
theorem vC{n:Nat}{S:List D}{Wo:List (List Int)}{v:List Int}(hW:Wds n Wo)(h0:Wo≠[])(hv:v∈Wo)(hS:wdD v∈S):csO (.int n) (.lst S) (.lst (Wo.map wdD))=none/\csO (.int n) (.lst (Wo.map wdD)) (.lst S)=none:=by
 have ho:wio n (.lst (Wo.map wdD))=some Wo:=pX hW h0 rfl
 cases e:wio n (.lst S) with
 |none=>exact⟨qg e,tP e⟩
 |some ws=>
  obtain⟨ds,e1,e2,_⟩:=l9 e;cases e1;obtain⟨u,hu,eu⟩:=List.mem_map.mp (e2 ▸ hS);have:u=v:=by rw[←m9 u,eu,m9]
  subst this;exact⟨qQ e ho hu hv,qQ ho e hv hu⟩
theorem yS{n:Nat}{Ws:List (List Int)}{v:List Int}{j:Nat}(hv:v∈Ws):wio n (.lst ((Ws.map wdD).take j++wdD v::(Ws.map wdD).drop j))=none:=by
 refine sk rfl fun h=>?_;rw[List.map_append,List.map_cons,←List.map_take,←List.map_drop,js,js,m9] at h
 have:=(jv (L:=Ws) (j:=j) (v:=v)).nodup_iff.mp h;exact(List.nodup_cons.mp this).1 hv
theorem mH{S:List D}(hl:S.length<=20)(h:∀d∈S,Sz 2 100 d):Bn (.lst S):=
 ⟨fi (m:=2) (B:=100) (L:=20) rfl hl h,fun ds e=>by cases e;exact hl⟩
theorem xQ{α:Type}{L:List α}{j:Nat}{x d:α}(h:d∈L.take j++x::L.drop j):d∈L\/d=x:=by
 rcases List.mem_append.mp h with h|h
 ·exact .inl (List.mem_of_mem_take h)
 ·rcases List.mem_cons.mp h with h|h
  ·exact .inr h
  ·exact .inl (List.mem_of_mem_drop h)
theorem C9{n:Nat}(hn:n<=5):Sz 0 10 (.int n):=by
 rcases(by omega:n=0\/n=1\/n=2\/n=3\/n=4\/n=5) with rfl|rfl|rfl|rfl|rfl|rfl<;>exact⟨Nat.le_refl _,by decide,by decide⟩
noncomputable def xJ(n:Nat):List D:=[.int 0,.int 6,.int (-1),.bl true,.non,.str "2",.tup [.int 2],.lst [.int 2],.int (10^29),.int (1+(n:Int)%5)]
theorem Af{n:Nat}{q:D}{Y:List (List Int)}{z:D}(hn1:1<=n)(hn:n<=5)(hY:Wds n Y)(h0:Y≠[])(hq:q∈xJ n):csO q (.lst (Y.map wdD)) z=none:=by
 simp only[xJ,List.mem_cons,List.not_mem_nil,or_false] at hq;rcases hq with rfl|rfl|rfl|rfl|rfl|rfl|rfl|rfl|rfl|rfl
 case inr.inr.inr.inr.inr.inr.inr.inr.inr=>
  obtain⟨m,hm⟩:∃m:Nat,1+(n:Int)%5=(m:Int):=⟨(1+(n:Int)%5).toNat,by omega⟩
  rw[hm];refine qg ?_;obtain⟨v,r,rfl⟩:=List.exists_cons_of_ne_nil h0;refine jw rfl (x:=wdD v) (by simp) (g7 ?_)
  rw[List.length_map,(eI (hY.2 v (by simp))).1]
  omega
 all_goals exact Dc (by decide)
theorem Aw{n:Nat}{q:D}(hn:n<=5)(hq:q∈xJ n):Sz 1 200 q:=by
 simp only[xJ,List.mem_cons,List.not_mem_nil,or_false] at hq;rcases hq with rfl|rfl|rfl|rfl|rfl|rfl|rfl|rfl|rfl|rfl
 case inr.inr.inr.inr.inr.inr.inr.inr.inr=>
  rcases(by omega:n=0\/n=1\/n=2\/n=3\/n=4\/n=5) with rfl|rfl|rfl|rfl|rfl|rfl<;>exact⟨by decide,by decide,by decide⟩
 all_goals exact⟨by decide,by decide,by decide +kernel⟩
theorem x9{n j:Nat}(h:j<n):ixN n (j:Int)=some j:=by
 unfold ixN;simp;omega
theorem skip{wy m:Int}{X R:AS}{E':bC}{ρ:SA}{ω:Om}(h8:ρ[8]?=some (some (.d (.int wy))))(hne:wy≠m)(q:R E' ρ ω):yC (xO (oG (aOp (vS false) (gE 8) (aC (D.int m)))) X rS) R E' ρ ω:=by
 rw[ig];walk_at "a1";refine⟨_,h8,?_⟩;walk_at "a1";rw[if_neg hne];exact q
noncomputable def q8(w0:List Int):List D:=[.non,.int 7,.str "01",.dk [],.tup [],.lst [],.str "",.dt [w0],.bl true]
theorem rK{n:Nat}{w0:List Int}{d:D}(hn:n<=5)(hw:w0∈wl n)(hd:d∈q8 w0):wio n d=none/\Bn d:=by
 simp only[q8,List.mem_cons,List.not_mem_nil,or_false] at hd;rcases hd with rfl|rfl|rfl|rfl|rfl|rfl|rfl|rfl|rfl
 case inr.inr.inr.inr.inr.inr.inr.inl=>
  obtain⟨hl,hb⟩:=eI hw;refine⟨rfl,⟨?_,?_,?_⟩,fun ds e=>by cases e⟩
  ·have:PyData.depthAll (w0.map PyData.int)=0:=by
    clear hl hb hw
    induction w0 with
    |nil=>rfl
    |cons x r ih=>rw[List.map_cons,PyData.depthAll,ih];rfl
   simp only[pyD,List.map_cons,List.map_nil,PyData.depth,PyData.depthKv,this]
   decide
  ·simp only[fit,List.all_cons,List.all_nil,Bool.and_true,List.all_eq_true]
   intro x hx;rcases hb x hx with rfl|rfl<;>decide
  ·simp only[wt,List.map_cons,List.map_nil,List.sum_cons,List.sum_nil]
   have:(w0.map fun i=>i.natAbs.log2+5).sum<=w0.length*5:=by
    clear hl hw
    induction w0 with
    |nil=>simp
    |cons x r ih=>
     have h1:=ih fun y hy=>hb y (List.mem_cons_of_mem _ hy);have h2:x.natAbs.log2=0:=by rcases hb x (by simp) with rfl|rfl<;>decide
     simp only[List.map_cons,List.sum_cons,List.length_cons,h2];omega
   omega
 case inr.inr.inr.inr.inl=>exact⟨mo rfl,⟨by decide,by decide,by decide⟩,fun ds e=>by cases e;simp⟩
 case inr.inr.inr.inr.inr.inl=>exact⟨mo rfl,⟨by decide,by decide,by decide⟩,fun ds e=>by cases e;simp⟩
 all_goals exact⟨xA rfl,⟨by decide,by decide,by decide +kernel⟩,fun ds e=>by cases e⟩
theorem uY{d:D}(hd:d∈yb):Sz 2 100 d:=by
 simp only[yb,List.mem_cons,List.not_mem_nil,or_false] at hd;rcases hd with rfl|rfl|rfl|rfl|rfl|rfl|rfl|rfl|rfl|rfl|rfl|rfl|rfl|rfl|rfl|rfl|rfl|rfl|rfl
 all_goals exact⟨by decide,by decide,by decide +kernel⟩
structure Bz(ω ω':Om)(p ls lo:Addr)(c:Pn)(S O:List D):Prop where
 ex:Ex (ω.put p (bi c)) ω'
 at_p:ω' p=some (bi c)
 at_s:ω' ls=some (.own (S.map AV.d))
 at_o:ω' lo=some (.own (O.map AV.d))
 s0:ω ls=none
 o0:ω lo=none
 ps:p≠ls
 po:p≠lo
 so:ls≠lo
section
variable{ω ω':Om}{p ls lo q:Addr}{c c':Pn}{S O S':List D}{o:OC}
theorem Bz.swap(h:Bz ω ω' p ls lo c S O):Bz ω ω' p lo ls c O S:=⟨h.ex,h.at_p,h.at_o,h.at_s,h.o0,h.s0,h.po,h.ps,Ne.symm h.so⟩
theorem Bz.pen(h:Bz ω ω' p ls lo c S O):Bz ω (ω'.put p (bi c')) p ls lo c' S O:=
 ⟨h.ex.put2,Om.D3,by rw[Om.D2 (Ne.symm h.ps)];exact h.at_s,by rw[Om.D2 (Ne.symm h.po)];exact h.at_o,h.s0,h.o0,h.ps,h.po,h.so⟩
theorem Bz.new(h:Bz ω ω' p ls lo c S O)(hq:ω' q=none):Bz ω (ω'.put q o) p ls lo c S O:=by
 have e1:p≠q:=fun e=>by rw[←e,h.at_p] at hq;cases hq
 have e2:ls≠q:=fun e=>by rw[←e,h.at_s] at hq;cases hq
 have e3:lo≠q:=fun e=>by rw[←e,h.at_o] at hq;cases hq
 exact⟨h.ex.new hq,by rw[Om.D2 e1];exact h.at_p,by rw[Om.D2 e2];exact h.at_s,by rw[Om.D2 e3];exact h.at_o,h.s0,h.o0,h.ps,h.po,h.so⟩
theorem Bz.set(h:Bz ω ω' p ls lo c S O):Bz ω (ω'.put ls (.own (S'.map AV.d))) p ls lo c S' O:=
 ⟨h.ex.over (by rw[Om.D2 (Ne.symm h.ps)];exact h.s0),by rw[Om.D2 h.ps];exact h.at_p,Om.D3,by rw[Om.D2 (Ne.symm h.so)];exact h.at_o,h.s0,h.o0,h.ps,h.po,h.so⟩
end
noncomputable def yO:ASp:=fun xs ω Q=>∃(p:Addr)(b n:Nat) (ys zs:List (List Int)),xs=[.r (.ref p),.d (.int n),.d (.lst [.lst (ys.map wdD),.lst (zs.map wdD)])]/\uk ω p b/\b<=5000/\1<=n/\n<=5/\Sd n ys zs/\ys.length<=11/\zs.length<=11 /\
 ∀(q y z:D)(c:Pn),Cn c (b+10)->csO q y z=none->Sz 3 2043 q->Bn y->Bn z->Q (.d (.tup [q,y,z])) (ω.put p (bi c))
theorem yX(T:Txt K mg t):aY P w K mg base CX0 3 t.dX t.kK ["_law_pen_here","_law_places","_law_sides_here"] (dY yO):=by
 have G_l_pick:aY P w K mg base _ _ _ _ _ _:=iw T;have G_l_odd:aY P w K mg base _ _ _ _ _ _:=BT T;have G_l_bad_word:aY P w K mg base _ _ _ _ _ _:=AQ T
 refine T.wz.okD bN (fun xs ω Q h=>by obtain ⟨p,b,n,ys,zs,rfl,_⟩:=h;rfl) (fun cdv A outer s H E hr=>⟨_,_,(ai (kB (cT (N:=(["_law_side"] : List Str)) (src:=[none]) rfl (by show dz _ (defScope ii) _ _ (["_law_pen_here","_law_places","_law_sides_here","_law_yes","_law_no","_law_at","_law_side","_law_spot","_law_way","_law_some","_law_other","_law_thing"] : List Str) = true;decide +kernel) (by intro g' h;cases h) (ee K rfl (pv 2)) (fun _ _ _ _ _ _=>(a8 (i:=0) (show (["_law_side"] : List Str).Nodup by decide +kernel) rfl (Or.inl rfl))) (fun _ _ _ _ _ _=>cR) (fun _ _ _ _ _ _=>(cD rfl rfl (bD (eO K rfl) (by rfl) T.iR (by kernel_rfl) (ac (pv 0) af))))) (A4 (n:=2) rfl (gf (a8 (i:=3) bN.nd rfl (Or.inl rfl)) (gf (a8 (i:=4) bN.nd rfl (Or.inl rfl)) sw))))
   (ai (aE (i:=5) bN.nd rfl (Or.inl rfl) (ay G_l_pick (hr.mono (by omega)) (by rfl) T.aS T.aT T.aW .nil aV (ac (pv 0) (aj ah af))))
   (ai (aE (i:=6) bN.nd rfl (Or.inl rfl) (bR (aO K rfl) (bK (ac (pv 3) (ac (pv 4) af))) (pv 5) (fun _ _=>rfl)))
   (ai (aE (i:=7) bN.nd rfl (Or.inl rfl) (ay G_l_pick (hr.mono (by omega)) (by rfl) T.aS T.aT T.aW .nil aV (ac (pv 0) (ac (ar (aH K rfl) (by rfl) T.cu (by kernel_rfl) (ac (pv 6) af)) af))))
   (ai (aE (i:=8) bN.nd rfl (Or.inl rfl) (ay G_l_pick (hr.mono (by omega)) (by rfl) T.aS T.aT T.aW .nil aV (ac (pv 0) (aj ah af))))
   (ai (b9 (bt (cG hr.D6) (pv 8) ah (bI _)) (au (a9 (bh (ac (bR (aO K rfl) (bK (aj ah (aj ah (ac (qM mO ah) (aj eU (aj iO (aj cJ (bX (bh (aj ah af)) (dU (bK (aj ah af)) (ac (aD qq ah ah) (ac (aD (am aQ (am aJ aR)) ah (aD f9 (pv 1) ah)) af))))))))))) (ay G_l_pick (hr.mono (by omega)) (by rfl) T.aS T.aT T.aW .nil aV (ac (pv 0) (aj ah af))) (fun _ _=>rfl)) (ac (pv 3) (ac (pv 4) af)))))) aX)
   (ai (b9 (bt (cG hr.D6) (pv 8) ah (bI _)) (ai (aE (i:=9) bN.nd rfl (Or.inl rfl) (bK (aj iO (aj ah (aj cJ (ac (pQ) (bX (bh af) (dU (bK af) (aj cJ (ac (tm (CO hr) (bR (aO K rfl) (pv 6) ah (fun _ _=>rfl)) ah) (aj eU af)))))))))))
   (au (a9 (aD (am aQ (am aJ aR)) (bh (ac (pv 1) af)) (bR (aO K rfl) (bK (bX (bh (ac (bR (aO K rfl) (pv 9) (ay G_l_pick (hr.mono (by omega)) (by rfl) T.aS T.aT T.aW .nil aV (ac (pv 0) (aj ah af))) (fun _ _=>rfl)) (ac (pv 4) af))) (bX (bh (ac (pv 3) (ac (bR (aO K rfl) (pv 9) (ay G_l_pick (hr.mono (by omega)) (by rfl) T.aS T.aT T.aW .nil aV (ac (pv 0) (aj ah af))) (fun _ _=>rfl)) af))) af))) (pv 5) (fun _ _=>rfl)))))) aX)
   (ai (b9 (bt (cG hr.D6) (pv 8) ah (bI _)) (au (kB (ay G_l_bad_word (hr.mono (by omega)) (by rfl) T.m4 T.mr T.mD .nil aV (ac (pv 0) (ac (bR (aO K rfl) (pv 6) (pv 7) (fun _ _=>rfl)) af))) (p6 (pv 6) (pv 7) kE))) aX)
   (ai (b9 (bt (cG hr.D6) (pv 8) ah (bI _)) (au (jx (jJ PySem.F.plainAttrs_list PySem.F.slot_list_insert PySem.F.type_list_insert iL (pv 6) (ac (ay G_l_pick (hr.mono (by omega)) (by rfl) T.aS T.aT T.aW .nil aV (ac (pv 0) (ac (aD (am aQ (am aJ aR)) (ar (aH K rfl) (by rfl) T.cu (by kernel_rfl) (ac (pv 6) af)) ah) af))) (ac (bR (aO K rfl) (pv 6) (pv 7) (fun _ _=>rfl)) af))))) aX)
   (ai (b9 (bt (cG hr.D6) (pv 8) ah (bI _)) (ai (aE (i:=10) bN.nd rfl (Or.inl rfl) (bR (aO K rfl) (bK (ac (pv 4) (ac (pv 3) af))) (pv 5) (fun _ _=>rfl)))
   (au (jx (jJ PySem.F.plainAttrs_list PySem.F.slot_list_insert PySem.F.type_list_insert iL (pv 6) (ac (pv 7) (ac (bR (aO K rfl) (pv 10) (ay G_l_pick (hr.mono (by omega)) (by rfl) T.aS T.aT T.aW .nil aV (ac (pv 0) (ac (ar (aH K rfl) (by rfl) T.cu (by kernel_rfl) (ac (pv 10) af)) af))) (fun _ _=>rfl)) af)))))) aX)
   (ai (b9 (bt (cG hr.D6) (pv 8) ah (bI _)) (ai (aE (i:=11) bN.nd rfl (Or.inl rfl) (ay G_l_odd (hr.mono (by omega)) (by rfl) T.yu T.yw T.yf .nil aV (ac (pv 0) af)))
   (ai (b9 (PW.pt (qE (bb K rfl (ar fc (by rfl) T.be (by kernel_rfl) (ac (pv 11) (ac (dD (v:=.ty "tuple") (by rfl) T.dh (by kernel_rfl) (by rfl)) af))) (fun _=>rfl)) (mC (bt (cG hr.D6) (ar (aH K rfl) (by rfl) T.cu (by kernel_rfl) (ac (pv 11) af)) (pv 1) (bI _))))) (au (aE (i:=11) bN.nd rfl (Or.inl rfl) iO)) aX)
   (au (jx (jJ PySem.F.plainAttrs_list PySem.F.slot_list_insert PySem.F.type_list_insert iL (pv 6) (ac (ay G_l_pick (hr.mono (by omega)) (by rfl) T.aS T.aT T.aW .nil aV (ac (pv 0) (ac (aD (am aQ (am aJ aR)) (ar (aH K rfl) (by rfl) T.cu (by kernel_rfl) (ac (pv 6) af)) ah) af))) (ac (pv 11) af))))))) aX)
   (au (a9 (bh (ac (pv 1) (ac (pv 3) (ac (pv 4) af))))))))))))))))),(aF (aL (ya (f7 ae) ao kj (du (bf rM (aa ae ag)))) (Ch (jS ao (jS ao y4))))
   (aF (aL (aG (aa ae (aa ak ag))) ao)
   (aF (aL (ax dq (iH (aa ae (aa ae ag))) ae) ao)
   (aF (aL (aG (aa ae (aa (bf cK (aa ae ag)) ag))) ao)
   (aF (aL (aG (aa ae (aa ak ag))) ao)
   (aF (gj (bT (ax dj ae ak)) (bG (cb (aa (ax dq (ef (aa ak (aa ak (aa (yd u_i ak) (aa iJ (aa lD (aa er (aa (cb (aa ak ag)) (aa (ef (aa ak ag)) (aa (ax gS ak ak) (aa (ax bz ak (ax gS ae ak)) ag))))))))))) (aG (aa ae (aa ak ag)))) (aa gc (aa gc ag))))) br)
   (aF (gj (bT (ax dj ae ak)) (aF (aL (ef (aa lD (aa ak (aa er (aa zi (aa (cb ag) (aa (ef ag) (aa er (aa (CF (ax dq ae ak) ak) (aa iJ ag)))))))))) ao)
   (bG (ax bz (cb (aa ae ag)) (ax dq (ef (aa (cb (aa (ax dq ae (aG (aa ae (aa ak ag)))) (aa gc ag))) (aa (cb (aa gc (aa (ax dq ae (aG (aa ae (aa ak ag)))) ag))) ag))) ae)))) br)
   (aF (gj (bT (ax dj ae ak)) (aL (aG (aa ae (aa (ax dq ae ae) ag))) (uL ae ae)) br)
   (aF (gj (bT (ax dj ae ak)) (ni (ki ae (aa (aG (aa ae (aa (ax bz (bf cK (aa ae ag)) ak) ag))) (aa (ax dq ae ae) ag)))) br)
   (aF (gj (bT (ax dj ae ak)) (aF (aL (ax dq (iH (aa ae (aa ae ag))) ae) ao)
   (ni (ki ae (aa ae (aa (ax dq ae (aG (aa ae (aa (bf cK (aa ae ag)) ag)))) ag))))) br)
   (aF (gj (bT (ax dj ae ak)) (aF (aL (aG (aa ae ag)) ao)
   (aF (gj (vw (ei (bf lG (aa ae (aa dm ag)))) (bT (ax dj (bf cK (aa ae ag)) ae))) (aL lD ao) br)
   (ni (ki ae (aa (aG (aa ae (aa (ax bz (bf cK (aa ae ag)) ak) ag))) (aa ae ag)))))) br)
   (bG (cb (aa ae (aa gc (aa gc ag)))))))))))))))),fun xs ω Q h=>?_⟩)
 obtain⟨p,b,n,ys,zs,rfl,hp,hb,hn1,hn,hS,hyl,hzl,k⟩:=h;walk_at "s1";simp only[kr,iE];walk_at "a1";intro ly hly;refine⟨aA (by decide),fun lz hlz=>⟨aA (by decide),fun lq hlq=>?_⟩⟩
 obtain⟨c0,hc0,hp0⟩:=hp;have e0:ω.put p (bi c0)=ω:=Om.Ek hp0;have py:p≠ly:=fun e=>by subst e;rw[hp0] at hly;cases hly
 have zy:lz≠ly:=fun e=>by subst e;rw[Om.D3] at hlz;cases hlz
 have hlz0:ω lz=none:=by rw[Om.D2 zy] at hlz;exact hlz
 have pz:p≠lz:=fun e=>by subst e;rw[hp0] at hlz0;cases hlz0
 have F0:Bz ω ((ω.put ly (.own (List.map AV.d (List.map wdD ys)))).put lz (.own (List.map AV.d (List.map wdD zs)))) p ly lz c0 (ys.map wdD) (zs.map wdD):=
  ⟨by rw[e0];exact((Ex.refl ω).new hly).new (by rw[Om.D2 zy];exact hlz0),by rw[Om.D2 pz,Om.D2 py];exact hp0,by rw[Om.D2 (Ne.symm zy),Om.D3],Om.D3,hly,hlz0,py,pz,Ne.symm zy⟩
 have F1:=F0.new (o:=.own [AV.r (V.ref ly),AV.r (V.ref lz)]) hlq;generalize ((ω.put ly (.own (List.map AV.d (List.map wdD ys)))).put lz (.own (List.map AV.d (List.map wdD zs)))).put lq (.own [AV.r (V.ref ly),AV.r (V.ref lz)])=ω1 at *;clear hlq hlz F0;walk_at "s1";refine⟨p,2,b,rfl,⟨c0,hc0,F1.at_p⟩,by omega,by decide,by decide,fun a c1 hc1 a0 a1=>?_⟩
 have F2:=F1.pen (c':=c1);generalize ω1.put p (bi c1)=ω2 at *;walk_at "s1";intro l3 hl3;have F3:=F2.new (o:=.own [AV.r (V.ref ly),AV.r (V.ref lz)]) hl3;generalize ω2.put l3 (.own [AV.r (V.ref ly),AV.r (V.ref lz)])=ω3 at *;have hys:Wds n ys:=⟨(List.nodup_append.mp hS.nd).1,fun v hv=>hS.inn v (List.mem_append_left _ hv)⟩;have hzs:Wds n zs:=⟨(List.nodup_append.mp hS.nd).2.1,fun v hv=>hS.inn v (List.mem_append_right _ hv)⟩
 obtain⟨ls,lo,Ws,Wo,es,eo,F4,hWs,hWo,s0,o0,sl,ol,ori⟩:∃(ls lo:Addr) (Ws Wo:List (List Int)),atI [AV.r (V.ref ly),AV.r (V.ref lz)] a=some (AV.r (V.ref ls))/\atI [AV.r (V.ref lz),AV.r (V.ref ly)] a=some (AV.r (V.ref lo))/\Bz ω ω3 p ls lo c1 (Ws.map wdD) (Wo.map wdD)/\Wds n Ws/\Wds n Wo/\Ws≠[]/\Wo≠[]/\Ws.length<=11/\Wo.length<=11/\((a=0/\ls=ly/\lo=lz)\/(a=1/\ls=lz/\lo=ly)):=by
  rcases(by omega:a=0\/a=1) with rfl|rfl
  ·exact⟨ly,lz,ys,zs,rfl,rfl,F3,hys,hzs,hS.y0,hS.z0,hyl,hzl,.inl ⟨rfl,rfl,rfl⟩⟩
  ·exact⟨lz,ly,zs,ys,rfl,rfl,F3.swap,hzs,hys,hS.z0,hS.y0,hzl,hyl,.inr ⟨rfl,rfl,rfl⟩⟩
 refine⟨_,es,?_⟩;clear F1 F2 F3 hl3
 have szw:∀ {W:List (List Int)},Wds n W->∀d∈W.map wdD,Sz 2 100 d:=fun hW d hd=>by
  obtain⟨v,hv,rfl⟩:=List.mem_map.mp hd;exact(C0 hn (hW.2 v hv)).up (by decide) (by decide)
 have bo:Bn (.lst (Wo.map wdD)):=mH (by rw[List.length_map];omega) (szw hWo)
 have bs:Bn (.lst (Ws.map wdD)):=mH (by rw[List.length_map];omega) (szw hWs)
 walk_at "s1";have hpos:0<Ws.length:=List.length_pos_iff.mpr s0;have hpo:0<Wo.length:=List.length_pos_iff.mpr o0;refine⟨_,by rw[F4.at_s];rfl,p,_,b+1,rfl,⟨c1,hc1,F4.at_p⟩,by omega,by simp;omega,by simp;omega,fun sp c2 hc2 sp0 sp1=>?_⟩
 have F5:=F4.pen (c':=c2);generalize ω3.put p (bi c2)=ω5 at *;clear F4;simp only[List.length_map] at sp1;walk_at "s1";refine⟨p,6,b+2,rfl,⟨c2,hc2,F5.at_p⟩,by omega,by decide,by decide,fun wy c3 hc3 wy0 wy1=>?_⟩
 have F6:=F5.pen (c':=c3);generalize ω5.put p (bi c3)=ω6 at *;clear F5;have only:∀ {ω':Om} {c:Pn} {S O:List D} {l l':Addr},Bz ω ω' p l l' c S O->ω'.only ω=ω.put p (bi c):=fun F=>gn F.ex (by rw[hp0];rfl)
 have told:∀ {ω':Om} {c:Pn} {Y Z:List D},Bz ω ω' p ly lz c Y Z->((ω'.put ly (.frz Y)).put lz (.frz Z)).only ω=ω.put p (bi c):=fun {ω' c Y Z} F=>
  gn ((F.ex.over (by rw[Om.D2 (Ne.symm F.ps)];exact F.s0)).over (by rw[Om.D2 (Ne.symm F.po)];exact F.o0)) (by rw[hp0];rfl)
 have fin:∀(v5 v6 v7 v8 v9 v10 v11:Option AV) {ω':Om} {c:Pn} {S:List D},Bz ω ω' p ls lo c S (Wo.map wdD)->Cn c (b+10)->(csO (.int n) (.lst S) (.lst (Wo.map wdD))=none/\csO (.int n) (.lst (Wo.map wdD)) (.lst S)=none)->Bn (.lst S) ->
   tN (uD (bP (gE 1) (bP (gG 3) (bP (gG 4) i0)))) { nx:=fun x ω'=>Q (AV.d D.non) (ω'.only ω),rt:=fun a ω'=>∃d,a=AV.d d/\Q (AV.d d) (ω'.only ω) }
    [some (AV.r (V.ref p)),some (AV.d (D.int n)),some (AV.d (D.lst [D.lst (List.map wdD ys),D.lst (List.map wdD zs)])),some (AV.r (V.ref ly)),some (AV.r (V.ref lz)),v5,v6,v7,v8,v9,v10,v11] ω':=by
  intro v5 v6 v7 v8 v9 v10 v11 ω' c S F hc hcs hB
  have main:∀ {Y Z:List D},Bz ω ω' p ly lz c Y Z->csO (.int n) (.lst Y) (.lst Z)=none->Bn (.lst Y)->Bn (.lst Z)->tN (uD (bP (gE 1) (bP (gG 3) (bP (gG 4) i0)))) { nx:=fun x ω'=>Q (AV.d D.non) (ω'.only ω),rt:=fun a ω'=>∃d,a=AV.d d/\Q (AV.d d) (ω'.only ω) }
    [some (AV.r (V.ref p)),some (AV.d (D.int n)),some (AV.d (D.lst [D.lst (List.map wdD ys),D.lst (List.map wdD zs)])),some (AV.r (V.ref ly)),some (AV.r (V.ref lz)),v5,v6,v7,v8,v9,v10,v11] ω':=fun {Y Z} G e1 e2 e3=>by
   walk_at "a1";rw[G.at_s];dsimp only;refine⟨_,bj _,?_⟩;rw[Om.D2 (Ne.symm G.so),G.at_o];dsimp only;refine⟨_,bj _,?_⟩;rw[told G];exact k _ _ _ c hc e1 ((C9 hn).up (by decide) (by decide)) e2 e3
  rcases ori with⟨_,rfl,rfl⟩|⟨_,rfl,rfl⟩
  ·exact main F hcs.1 hB bo
  ·exact main F.swap hcs.2 bo hB
 have c10:∀ {c:Pn} {m:Nat},Cn c m->m<=b+10->Cn c (b+10):=fun h hm=>⟨h.1,by have:=h.2;omega⟩
 have at_sp:∃v∈Ws,atI ((Ws.map wdD).map AV.d) sp=some (.d (wdD v)):=by
  obtain⟨d,hd,e⟩:=jN (ds:=Ws.map wdD) sp0 (by simpa using sp1)
  obtain⟨v,hv,rfl⟩:=List.mem_map.mp hd;exact⟨v,hv,e⟩
 obtain⟨v0,hv0,ev0⟩:=at_sp;walk_at "s1";refine mh (fun w0=>?_) (fun w0=>?_)
 ·-- another thing for the places
  refine⟨⟨by decide,by decide,by decide⟩,p,10,b+3,rfl,⟨c3,hc3,F6.at_p⟩,by omega,by decide,by decide,fun r c4 hc4 r0 r1=>?_⟩
  have F7:=F6.pen (c':=c4);generalize ω6.put p (bi c4)=ω7 at *;obtain⟨q,hq,e⟩:=jN (ds:=xJ n) r0 r1;refine⟨r,rfl,_,e,?_⟩;have key:∀ {Y Z:List (List Int)},Wds n Y->Y≠[]->csO q (.lst (Y.map wdD)) (.lst (Z.map wdD))=none:=fun hY h0=>Af hn1 hn hY h0 hq;have szq:Sz 3 2043 q:=(Aw hn hq).up (by decide) (by decide)
  obtain⟨Y,Z,G,hY,h0,b1,b2⟩:∃Y Z:List (List Int),Bz ω ω7 p ly lz c4 (Y.map wdD) (Z.map wdD)/\Wds n Y/\Y≠[]/\Bn (.lst (Y.map wdD))/\Bn (.lst (Z.map wdD)):=by
   rcases ori with⟨_,rfl,rfl⟩|⟨_,rfl,rfl⟩
   ·exact⟨Ws,Wo,F7,hWs,s0,bs,bo⟩
   ·exact⟨Wo,Ws,F7.swap,hWo,o0,bo,bs⟩
  rw[G.at_s];dsimp only;refine⟨_,bj _,?_⟩;rw[Om.D2 (Ne.symm G.so),G.at_o];dsimp only;refine⟨_,bj _,_,rfl,?_⟩;rw[told G];exact k _ _ _ c4 (c10 hc4 (by omega)) (key hY h0) szq b1 b2
 walk_at "s1";refine mh (fun w1=>?_) (fun w1=>?_)
 ·-- another thing for a side
  walk_at "s1";intro l4 hl4;have n4:ls≠l4:=fun e=>by rw[←e,F6.at_s] at hl4;cases hl4
  obtain⟨w0,rW,eW⟩:=List.exists_cons_of_ne_nil s0;have hw0:w0∈wl n:=hWs.2 w0 (by rw[eW];simp)
  have e0:atI ((Ws.map wdD).map AV.d) 0=some (.d (wdD w0)):=by rw[eW];exact fJ 0 rfl rfl
  refine⟨_,by rw[Om.D2 n4,F6.at_s],_,e0,w0,rfl,?_⟩
  try rw[Om.Eo hl4]
  refine⟨p,9,b+3,rfl,⟨c3,hc3,F6.at_p⟩,by omega,by decide,by decide,fun r1 c4 hc4 r10 r11=>?_⟩
  have F7:=F6.pen (c':=c4);generalize ω6.put p (bi c4)=ω7 at *
  obtain⟨Y,Z,G,b1,b2⟩:∃Y Z:List D,Bz ω ω7 p ly lz c4 Y Z/\Bn (.lst Y)/\Bn (.lst Z):=by
   rcases ori with⟨_,rfl,rfl⟩|⟨_,rfl,rfl⟩
   ·exact⟨_,_,F7,bs,bo⟩
   ·exact⟨_,_,F7.swap,bo,bs⟩
  obtain⟨d1,hd1,e1⟩:=jN (ds:=q8 w0) r10 r11;obtain⟨n1,g1⟩:=rK hn hw0 hd1;refine⟨r1,rfl,_,e1,?_⟩;rw[G.at_o];dsimp only;refine⟨_,bj _,_,rfl,?_⟩;rw[Om.D2 G.so,G.at_s];dsimp only;refine⟨_,bj _,p,9,b+4,rfl,⟨c4,hc4,by rw[Om.D2 G.ps,Om.D2 G.po];exact G.at_p⟩,by omega,by decide,by decide,fun r2 c5 hc5 r20 r21=>?_⟩
  obtain⟨d2,hd2,e2⟩:=jN (ds:=q8 w0) r20 r21;obtain⟨n2,g2⟩:=rK hn hw0 hd2;refine⟨r2,rfl,_,e2,_,rfl,?_⟩
  have hO:(((ω7.put lz (.frz Z)).put ly (.frz Y)).put p (bi c5)).only ω=ω.put p (bi c5):=
   gn (((G.ex.over (by rw[Om.D2 (Ne.symm G.po)];exact G.o0)).over (by rw[Om.D2 (Ne.symm G.ps)];exact G.s0)).put2) (by rw[hp0];rfl)
  have sn:Sz 3 2043 (.int n):=(C9 hn).up (by decide) (by decide)
  rcases(by omega:a=0\/a=1) with rfl|rfl
  ·refine⟨_,rfl,_,rfl,aA (by simp),?_⟩
   rw[hO];exact k _ _ _ c5 (c10 hc5 (by omega)) (qg n1) sn g1 b2
  ·refine⟨_,rfl,_,rfl,aA (by simp),?_⟩
   rw[hO];exact k _ _ _ c5 (c10 hc5 (by omega)) (tP n2) sn b1 g2
 obtain⟨sj,rfl⟩:=Int.eq_ofNat_of_zero_le sp0;have hsj:sj<Ws.length:=by omega
 have mset:∀(d:D),(((Ws.map wdD).map AV.d).set sj (.d d))=((Ws.map wdD).set sj d).map AV.d:=fun d=>by rw[List.map_set]
 have mins:∀(i:Nat)(d:D),(((Ws.map wdD).map AV.d).take i++AV.d d::((Ws.map wdD).map AV.d).drop i)=((Ws.map wdD).take i++d::(Ws.map wdD).drop i).map AV.d:=fun i d=>by simp only[List.map_append,List.map_cons,List.map_take,List.map_drop]
 have insl:∀(i:Nat)(d:D),((Ws.map wdD).take i++d::(Ws.map wdD).drop i).length<=20:=fun i d=>by
  have:=(jv (L:=Ws.map wdD) (j:=i) (v:=d)).length_eq;rw[this];simp;omega
 have inss:∀(i:Nat)(d:D),Sz 2 100 d->Bn (.lst ((Ws.map wdD).take i++d::(Ws.map wdD).drop i)):=fun i d hd=>mH (insl i d) fun e he=>(xQ he).elim (szw hWs e) fun q=>by rw[q];exact hd
 walk_at "s1";refine mh (fun w2=>?_) (fun w2=>?_)
 ·-- a word that is none
  refine⟨_,by rw[F6.at_s],_,ev0,p,b+3,n,v0,rfl,⟨c3,hc3,F6.at_p⟩,by omega,hn1,hn,hWs.2 v0 hv0,fun d c4 hc4 q1 q2=>?_⟩
  have F7:=F6.pen (c':=c4);generalize ω6.put p (bi c4)=ω7 at *;refine⟨_,F7.at_s,sj,x9 (by simp;omega),?_⟩
  rw[mset];have hm:d∈(Ws.map wdD).set sj d:=List.mem_set (by simpa using hsj) d
  have hno:wio n (.lst ((Ws.map wdD).set sj d))=none:=jw rfl hm q1;refine skip rfl (by omega) (skip rfl (by omega) (skip rfl (by omega) (fin _ _ _ _ _ _ _ F7.set (c10 hc4 (by omega)) ⟨qg hno,tP hno⟩ (mH (by simp;omega) fun e he=>?_))))
  rcases List.mem_or_eq_of_mem_set he with he|rfl
  ·exact szw hWs e he
  ·exact q2
 walk_at "s1";refine mh (fun w3=>?_) (fun w3=>?_)
 ·-- a word twice
  refine⟨⟨_,F6.at_s⟩,_,by rw[F6.at_s];rfl,p,_,b+3,rfl,⟨c3,hc3,F6.at_p⟩,by omega,by simp<;>omega,by simp<;>omega,fun r c4 hc4 r0 r1=>?_⟩
  have F7:=F6.pen (c':=c4);generalize ω6.put p (bi c4)=ω7 at *;obtain⟨i,rfl⟩:=Int.eq_ofNat_of_zero_le r0;refine⟨_,by rw[F7.at_s],_,ev0,_,i,rfl,F7.at_s,by simp at r1 ⊢;omega,aA (by simp;omega),?_⟩
  rw[mins];have hno:=yS (n:=n) (j:=i) hv0;exact skip rfl (by omega) (skip rfl (by omega) (fin _ _ _ _ _ _ _ F7.set (c10 hc4 (by omega)) ⟨qg hno,tP hno⟩ (inss i _ (szw hWs _ (List.mem_map.mpr ⟨v0,hv0,rfl⟩)))))
 walk_at "s1";refine mh (fun w4=>?_) (fun w4=>?_)
 ·-- a word of the other list
  walk_at "s1";intro l4 hl4;have F7:=F6.new (o:=.own [AV.r (V.ref lz),AV.r (V.ref ly)]) hl4;generalize ω6.put l4 (.own [AV.r (V.ref lz),AV.r (V.ref ly)])=ω7 at *;refine⟨_,eo,?_⟩;walk_at "a1";refine⟨⟨_,F7.at_s⟩,_,by rw[F7.at_o];rfl,p,_,b+3,rfl,⟨c3,hc3,F7.at_p⟩,by omega,by simp<;>omega,by simp<;>omega,fun r c4 hc4 r0 r1=>?_⟩
  have F8:=F7.pen (c':=c4);generalize ω7.put p (bi c4)=ω8 at *;obtain⟨d,hd,e⟩:=jN (ds:=Wo.map wdD) r0 (by simpa using r1)
  obtain⟨v,hv,rfl⟩:=List.mem_map.mp hd;refine⟨_,by rw[F8.at_o],r,rfl,_,e,_,sj,rfl,F8.at_s,by simp;omega,aA (by simp;omega),?_⟩
  rw[mins];have hno:=vC (S:=(Ws.map wdD).take sj++wdD v::(Ws.map wdD).drop sj) hWo o0 hv (List.mem_append_right _ List.mem_cons_self);exact skip rfl (by omega) (fin _ _ _ _ _ _ _ F8.set (c10 hc4 (by omega)) hno (inss sj _ (szw hWo _ (List.mem_map.mpr ⟨v,hv,rfl⟩))))
 walk_at "s1";refine mh (fun w5=>?_) (fun w5=>absurd wy1 (by omega))
 walk_at "s1";refine⟨p,b+3,rfl,⟨c3,hc3,F6.at_p⟩,by omega,fun d c4 hc4 hd=>?_⟩
 have F7:=F6.pen (c':=c4);generalize ω6.put p (bi c4)=ω7 at *
 have bA:∀(x:D),cf n x=false->Sz 2 100 x->ww (mF (gE 6) (bP (no mE (bP (gE 0) (bP (aOp qo (aCB Am (bP (gE 6) i0)) (aC (D.int 1))) i0))) (bP (gE 11) i0)))
   { nx:=tN (uD (bP (gE 1) (bP (gG 3) (bP (gG 4) i0)))) { nx:=fun x ω'=>Q (AV.d D.non) (ω'.only ω),rt:=fun a ω'=>∃d,a=AV.d d/\Q (AV.d d) (ω'.only ω) },rt:=fun a ω'=>∃d,a=AV.d d/\Q (AV.d d) (ω'.only ω) }
   [some (AV.r (V.ref p)),some (AV.d (D.int n)),some (AV.d (D.lst [D.lst (List.map wdD ys),D.lst (List.map wdD zs)])),some (AV.r (V.ref ly)),some (AV.r (V.ref lz)),some (AV.d (D.int a)),some (AV.r (V.ref ls)),some (AV.d (D.int sj)),some (AV.d (D.int wy)),none,none,some (.d x)] ω7:=fun x hx sx=>by
  generalize hR:(tN (uD (bP (gE 1) (bP (gG 3) (bP (gG 4) i0)))))=R;walk_at "a1";refine⟨⟨_,F7.at_s⟩,_,by rw[F7.at_s];rfl,p,_,b+4,rfl,⟨c4,hc4,F7.at_p⟩,by omega,by simp<;>omega,by simp<;>omega,fun r c5 hc5 r0 r1=>?_⟩
  have F8:=F7.pen (c':=c5);generalize ω7.put p (bi c5)=ω8 at *;obtain⟨i,rfl⟩:=Int.eq_ofNat_of_zero_le r0;refine⟨_,i,rfl,F8.at_s,by simp at r1 ⊢;omega,aA (by simp;omega),?_⟩
  rw[mins,←hR]
  have hno:wio n (.lst ((Ws.map wdD).take i++x::(Ws.map wdD).drop i))=none:=jw rfl (List.mem_append_right _ List.mem_cons_self) hx;exact fin _ _ _ _ _ _ _ F8.set (c10 hc5 (by omega)) ⟨qg hno,tP hno⟩ (inss i x sx)
 refine m8 (fun ρ' ω'=>ω'=ω7/\∃x,cf n x=false/\Sz 2 100 x/\ρ'=[some (AV.r (V.ref p)),some (AV.d (D.int n)),some (AV.d (D.lst [D.lst (List.map wdD ys),D.lst (List.map wdD zs)])),some (AV.r (V.ref ly)),some (AV.r (V.ref lz)),some (AV.d (D.int a)),some (AV.r (V.ref ls)),some (AV.d (D.int sj)),some (AV.d (D.int wy)),none,none,some (.d x)]) (fun M kM=>?_) ?_
 ·walk_at "a1"
  refine⟨by decide,?_⟩
  by_cases ht:isD "tuple" d=true
  ·obtain⟨ds,rfl⟩:∃ds,d=.tup ds:=by cases d<;>first|exact⟨_,rfl⟩|(simp[isD,tyD] at ht)
   rw[if_pos ht];walk_at "a1";by_cases hl:(ds.length:Int)=n
   ·rw[if_pos hl]
    exact kM _ _ ⟨rfl,.non,rfl,⟨by decide,by decide,by decide⟩,rfl⟩
   ·rw[if_neg hl]
    exact kM _ _ ⟨rfl,_,g7 (by omega),uY hd,rfl⟩
  ·rw[if_neg ht]
   exact kM _ _ ⟨rfl,d,by cases d<;>first|rfl|(simp[isD,tyD] at ht),uY hd,rfl⟩
 rintro ρ' ω' ⟨rfl,x,hx,sx,rfl⟩;exact bA x hx sx
theorem rL{n:Nat}{y y':D}(h:cI y=cI y'):wio n y=wio n y':=by unfold wio;rw[h]
theorem Ax{q y z y' z':D}(hy:cI y=cI y')(hz:cI z=cI z'):csO q y z=csO q y' z':=by unfold csO;rw[rL hy,rL hz]
noncomputable def Bt(y:D):Prop:=Sz 3 2044 y/\∀ds,cI y=some ds->ds.length<=20
theorem C2{y:D}(h:Bn y):Bt y:=⟨h.1.up (Nat.le_refl _) (by decide),h.2⟩
theorem BX{ds:List D}(h:Bn (.lst ds)):Bt (.tup ds):=by
 obtain⟨⟨h1,h2,h3⟩,h4⟩:=h;refine⟨⟨?_,?_,?_⟩,fun es e=>by cases e;exact h4 ds rfl⟩
 ·simpa only[pyD,PyData.depth] using h1
 ·simpa only[fit] using h2
 ·simp only[wt] at h3 ⊢
  omega
theorem lb{p:Addr}{b s:Nat}{ω:Om}{c:Pn}{y:D}{ρ:SA}{M:SA->Om->Prop}{X:bC}(hc:Cn c b)(hb:b<=1000)(h2:ρ[2]?=some (some (.r (.ref p))))(hs:ρ[s]?=some (some (.d y)))(hB:Bn y)(k:∀y' c',Cn c' (b+1)->Bt y'->cI y'=cI y->M (ρ.set s (some (.d y'))) (ω.put p (bi c'))):
  xO (Bf (BE (aCB Ag (bP (gE s) (bP (BA (V.ty "list")) i0)))) (oG (aOp (vS false) (no mE (bP (gE 2) (bP (aC (D.int 2)) i0))) (aC (D.int 0))))) (Bj (aCB qm (bP (gE s) i0)) (jK s)) rS { X with nx:=M } ρ (ω.put p (bi c)):=by
 walk_at "a1";refine⟨_,hs,?_⟩;walk_at "a1";refine⟨by decide,?_⟩
 have same:ρ.set s (some (.d y))=ρ:=by
  apply List.ext_getElem?;intro i;rw[List.getElem?_set];split
  ·rename_i e;subst e
   rw[hs,if_pos (List.getElem?_eq_some_iff.mp hs).1]
  ·rfl
 have stay:∀c',Cn c' (b+1)->M ρ (ω.put p (bi c')):=fun c' hc'=>by
  have:=k y c' hc' (C2 hB) rfl
  rwa [same] at this
 by_cases hl:isD "list" y=true
 ·obtain⟨ds,rfl⟩:∃ds,y=.lst ds:=by cases y<;>first|exact⟨_,rfl⟩|(simp[isD,tyD] at hl)
  rw[if_pos hl];refine⟨_,h2,p,2,b,rfl,fW hc,by omega,by decide,by decide,fun r c' hc' r0 r1=>?_⟩
  rw[Om.D4];refine⟨_,rfl,by simp[dep],?_⟩
  split
  ·exact⟨_,hs,ds,.inl rfl,k _ c' hc' (BX hB) rfl⟩
  ·exact stay c' hc'
 ·rw[if_neg hl]
  exact stay c ⟨hc.1,by have:=hc.2;omega⟩
theorem BO(T:Txt K mg t):aY P w K mg base CX0 30 t.hJ t.rC ["_law_script"] (qf K):=by
 have G_l_pen:aY P w K mg base _ _ _ _ _ _:=BV T;have G_l_pick:aY P w K mg base _ _ _ _ _ _:=iw T;have G_l_words:aY P w K mg base _ _ _ _ _ _:=vV T;have G_l_sides:aY P w K mg base _ _ _ _ _ _:=vg T;have G_l_bent:aY P w K mg base _ _ _ _ _ _:=yX T;have G_l_refused:aY P w K mg base _ _ _ _ _ _:=qH T;have G_l_never:aY P w K mg base _ _ _ _ _ _:=vz T;have G_case_of:aY P w K mg base CX0 5 t.cP t.gx ["places","yes","no"] (dY (spN (lI t))):=(lr T).calm
 refine T.Cy.okA cW (fun xs ω Q h=>by obtain ⟨a,ns,rfl,_⟩:=h;rfl) (fun cdv A outer s H E hr=>⟨_,_,(ai (jI PassesOwn.never rfl (de rfl T.fh (ac (ar (uh rfl) (by rfl) T.Df (by kernel_rfl) (aj ah (ac (ar (lg rfl) (by rfl) T.zx (by kernel_rfl) (aj ah (ac (ar (aH K rfl) (by rfl) T.cu (by kernel_rfl) (ac (pv 0) af)) af))) af))) af)) (a8 (i:=1) cW.nd rfl (Or.inl rfl)) (ai (aE (i:=2) cW.nd rfl (Or.inl rfl) (ay G_l_pen (hr.mono (by omega)) (by rfl) T.yk T.yM T.yp .nil aV (ac (pv 0) (ac (pv 1) af))))
   (ai (aE (i:=3) cW.nd rfl (Or.inl rfl) (aD (am aQ (am aJ aR)) ah (ay G_l_pick (hr.mono (by omega)) (by rfl) T.aS T.aT T.aW .nil aV (ac (pv 2) (aj ah af)))))
   (ai (aE (i:=4) cW.nd rfl (Or.inl rfl) (ay G_l_words (hr.mono (by omega)) (by rfl) T.tV T.ud T.tY .nil aV (ac (pv 3) af)))
   (ai (aE (i:=5) cW.nd rfl (Or.inl rfl) (ay G_l_sides (hr.mono (by omega)) (by rfl) T.tS T.tz T.tG .nil aV (ac (pv 2) (ac (pv 4) af))))
   (ai (jI PassesOwn.never rfl (de rfl T.fh (aj ah af)) (a8 (i:=6) cW.nd rfl (Or.inl rfl)) (ai (kB (ay G_l_bent (hr.mono (by omega)) (by rfl) T.vD T.xM T.vF .nil aV (ac (pv 2) (ac (pv 3) (ac (pv 5) af)))) (yx K rfl (n:=3) rfl (gf (a8 (i:=7) cW.nd rfl (Or.inl rfl)) (gf (a8 (i:=8) cW.nd rfl (Or.inl rfl)) (gf (a8 (i:=9) cW.nd rfl (Or.inl rfl)) sw)))))
   (ai (b9 (PW.pt (qE (bb K rfl (ar fc (by rfl) T.be (by kernel_rfl) (ac (pv 8) (ac (dD (v:=.ty "list") (by rfl) T.iR (by kernel_rfl) (by rfl)) af))) (fun _=>rfl)) (mC (bt (cG hr.D6) (ay G_l_pick (hr.mono (by omega)) (by rfl) T.aS T.aT T.aW .nil aV (ac (pv 2) (aj ah af))) ah (bI _))))) (au (aE (i:=8) cW.nd rfl (Or.inl rfl) (bD (bw K rfl) (by rfl) T.dh (by kernel_rfl) (ac (pv 8) af)))) aX)
   (ai (b9 (PW.pt (qE (bb K rfl (ar fc (by rfl) T.be (by kernel_rfl) (ac (pv 9) (ac (dD (v:=.ty "list") (by rfl) T.iR (by kernel_rfl) (by rfl)) af))) (fun _=>rfl)) (mC (bt (cG hr.D6) (ay G_l_pick (hr.mono (by omega)) (by rfl) T.aS T.aT T.aW .nil aV (ac (pv 2) (aj ah af))) ah (bI _))))) (au (aE (i:=9) cW.nd rfl (Or.inl rfl) (bD (bw K rfl) (by rfl) T.dh (by kernel_rfl) (ac (pv 9) af)))) aX)
   (ai (aE (i:=10) cW.nd rfl (Or.inl rfl) (ar (kO hr.gd hr.D6 T.sm) (by rfl) T.uU (by kernel_rfl) (dU (bK (ac (pv 7) (ac (pv 8) (ac (pv 9) af)))) af)))
   (au (b9 (PW.pt (nk (dZ (bb K rfl (ay G_l_refused (hr.mono (by omega)) (by rfl) T.om T.nZ T.nV .nil aV (ac (pv 7) (ac (pv 8) (ac (pv 9) af)))) (fun _=>rfl))) (kD (bt (w6 hr.D6) (ar (kO hr.gd hr.D6 T.sm) (by rfl) T.uU (by kernel_rfl) (dU (bK (ac (pv 7) (ac (pv 8) (ac (pv 9) af)))) af)) (pv 10) (bI _))))) (au (a9 eU)) aX)))))))
   (ai (b9 (bt (w6 hr.D6) (bR (aO K rfl) (ay G_case_of (hr.mono (by omega)) (by rfl) T.lv T.lV T.lC .nil aV (ac (pv 3) (ac (bR (aO K rfl) (pv 5) ah (fun _ _=>rfl)) (ac (bR (aO K rfl) (pv 5) ah (fun _ _=>rfl)) af)))) ah (fun _ _=>rfl)) (pv 3) (bI _)) (au (a9 eU)) aX)
   (au (b9 (PW.pt (nk (dZ (bb K rfl (ay G_l_never (hr.mono (by omega)) (by rfl) T.lW T.lm T.lZ .nil aV (ac (aD qU (bh (aj ah af)) (ar (aH K rfl) (by rfl) T.cu (by kernel_rfl) (ac (pv 4) af))) af)) (fun _=>rfl))) (kD (dZ (bb K rfl (ay G_l_never (hr.mono (by omega)) (by rfl) T.lW T.lm T.lZ .nil aV (ac (aD qU (bh (aj ah af)) (ar (aH K rfl) (by rfl) T.cu (by kernel_rfl) (ac (pv 4) af))) af)) (fun _=>rfl)))))) (au (a9 eU)) aX)))))))))
   (au (a9 eU))),(aF (pB (gN (aa (bf Az (aa ak (aa (bf Az (aa ak (aa (bf vx (aa ae ag)) ag))) ag))) ag)) ao (aF (aL (aG (aa ae (aa ae ag))) ao)
   (aF (aL (ax bz ak (aG (aa ae (aa ak ag)))) ao)
   (aF (aL (aG (aa ae ag)) ao)
   (aF (aL (aG (aa ae (aa ae ag))) ao)
   (aF (pB (gN (aa ak ag)) ao (aF (aL (aG (aa ae (aa ae (aa ae ag)))) (B0 (jS ao (jS ao (jS ao y4)))))
   (aF (gj (vw (ei (bf lG (aa ae (aa dm ag)))) (bT (ax dj (aG (aa ae (aa ak ag))) ak))) (aL (bf fw (aa ae ag)) ao) br)
   (aF (gj (vw (ei (bf lG (aa ae (aa dm ag)))) (bT (ax dj (aG (aa ae (aa ak ag))) ak))) (aL (bf fw (aa ae ag)) ao) br)
   (aF (aL (bf rF (aa (ef (aa ae (aa ae (aa ae ag)))) ag)) ao)
   (gj (xl (gm (ei (aG (aa ae (aa ae (aa ae ag)))))) (bT (ax dj (bf rF (aa (ef (aa ae (aa ae (aa ae ag)))) ag)) ae))) (bG iJ) br))))))
   (aF (gj (bT (ax dj (ax dq (aG (aa ae (aa (ax dq ae ak) (aa (ax dq ae ak) ag)))) ak) ae)) (bG iJ) br)
   (gj (xl (gm (ei (aG (aa (ax xN (cb (aa ak ag)) (bf cK (aa ae ag))) ag)))) (gm (ei (aG (aa (ax xN (cb (aa ak ag)) (bf cK (aa ae ag))) ag))))) (bG iJ) br))))))))
   (bG iJ)),fun xs ω Q h=>?_⟩)
 obtain⟨a,ns,rfl,hl,rfl,k⟩:=h;walk_at "s1";refine⟨a,ns,rfl,?_⟩;generalize hM:(if (if (ns.length:Int)<16 then (ns.length:Int) else 16)>1 then (if (ns.length:Int)<16 then (ns.length:Int) else 16) else 1)=M
 have hM1:1<=M/\M<=16:=by subst hM;split<;>(try split)<;>omega
 clear hM;obtain⟨m,rfl⟩:=Int.eq_ofNat_of_zero_le (by omega:0<=M)
 refine⟨by omega,by omega,jt (fun i ρ ω'=>∃v1 v2 v3 v4 v5 v6 v7 v8 v9 v10,ρ=[some (iI K a ns),v1,v2,v3,v4,v5,v6,v7,v8,v9,v10]) ⟨_,_,_,_,_,_,_,_,_,_,rfl⟩ ?_ ?_⟩
 ·rintro i ρ ω N hi ⟨v1,v2,v3,v4,v5,v6,v7,v8,v9,v10,rfl⟩ kN
  walk_at "s1";refine⟨a,ns,_,rfl,by omega,fun p c hc hp0=>?_⟩
  walk_at "s1";refine⟨p,5,0,rfl,fW hc,by decide,by decide,by decide,fun r c hc r0 r1=>⟨r,rfl,?_⟩⟩
  obtain⟨n,hn⟩:∃n:Nat,1+r=(n:Int):=⟨(1+r).toNat,by omega⟩
  have hn1:1<=n:=by omega
  have hn5:n<=5:=by omega
  rw[hn,Om.D4];clear hn r0 r1;have hwl:=rg hn5;walk_at "s1";refine⟨n,rfl,hn5,?_⟩;walk_at "s1";refine⟨p,n,1,rfl,fW hc,by decide,hn1,hn5,fun ys zs c hc hS hyl hzl=>?_⟩
  rw[Om.D4];have hys:Wds n ys:=⟨(List.nodup_append.mp hS.nd).1,fun v hv=>hS.inn v (List.mem_append_left _ hv)⟩;have hzs:Wds n zs:=⟨(List.nodup_append.mp hS.nd).2.1,fun v hv=>hS.inn v (List.mem_append_right _ hv)⟩;have hdis:∀v∈ys,v ∉ zs:=fun v hv hz=>(List.nodup_append.mp hS.nd).2.2 v hv v hz rfl;walk_at "s1";refine⟨by decide,by decide,jt (fun j ρ ω'=>∃(c:Pn)(v6 v7 v8 v9 v10:Option AV),Cn c (51+12*j)/\ω'=ω.put p (bi c)/\ρ=[some (iI K a ns),some (AV.d (D.int (0+(i:Int)))),some (AV.r (V.ref p)),some (AV.d (D.int n)),some (AV.d (D.lst (List.map wdD (wl n)))),some (AV.d (D.lst [D.lst (ys.map wdD),D.lst (zs.map wdD)])),v6,v7,v8,v9,v10]) ⟨c,_,_,_,_,_,hc,rfl,rfl⟩ ?_ ?_⟩
  ·rintro j ρ ω1 N1 hj ⟨c,v6,v7,v8,v9,v10,hc,rfl,rfl⟩ kN1
   walk_at "s1";refine⟨p,51+12*j,n,ys,zs,rfl,fW hc,by omega,hn1,hn5,hS,hyl,hzl,fun q y z c hc hno sq by' bz'=>?_⟩
   rw[Om.D4];walk_at "a1";rw[ig];refine lb (b:=51+12*j+10) (s:=8) (y:=y) (p:=p) hc (by omega) rfl rfl by' fun y' c2 hc2 by2 ey=>?_
   simp only[List.set_cons_zero,List.set_cons_succ];rw[ig];refine lb (b:=51+12*j+11) (s:=9) (y:=z) (p:=p) hc2 (by omega) rfl rfl bz' fun z' c3 hc3 bz2 ez=>?_
   simp only[List.set_cons_zero,List.set_cons_succ];have hno':csO q y' z'=none:=by rw[Ax ey ez];exact hno
   have all3 : Sz 4 10000 (.lst [q,y',z']):=(fi (m:=3) (B:=2044) (L:=3) rfl (by simp) fun d hd=>by
    simp only[List.mem_cons,List.not_mem_nil,or_false] at hd;rcases hd with rfl|rfl|rfl
    ·exact sq.up (Nat.le_refl _) (by decide)
    ·exact by2.1
    ·exact bz2.1).up (by decide) (by decide)
   obtain⟨a1,a2,a3⟩:=all3;walk_at "s1";refine⟨rfl,by omega,a2,by omega,?_⟩
   refine⟨q,y',z',rfl,fun ds e=>by have:=by2.2 ds e;omega,fun ds e=>by have:=bz2.2 ds e;omega,hno',true,rfl,?_⟩
   rw[if_neg (by decide)]
   refine⟨rfl,by omega,a2,by omega,?_⟩
   rw[if_neg (by simp)]
   exact kN1 _ _ ⟨c3,_,_,_,_,_,⟨hc3.1,by have:=hc3.2;omega⟩,rfl,rfl⟩
  ·rintro ρ ω1 ⟨c,v6,v7,v8,v9,v10,hc,rfl,rfl⟩
   have ecs:csO (.int n) (.lst (ys.map wdD)) (.lst (zs.map wdD))=some (ys,zs):=by
    unfold csO;rw[if_pos (q0 hn1 hn5).1,(q0 hn1 hn5).2,pX hys hS.y0 rfl];dsimp only;rw[pX hzs hS.z0 rfl];dsimp only;rw[if_neg];unfold kP;rw[List.any_eq_true];rintro⟨v,hv,hz⟩;exact hdis v hv (by simpa using hz)
   have hpw:(wl n).length=2^n:=kJ n;have hpos:1<=(wl n).length:=Bg n;walk_at "s1";refine⟨.int n,.lst (ys.map wdD),.lst (zs.map wdD),rfl,fun ds e=>by cases e;simp;omega,fun ds e=>by cases e;simp;omega,fun ys' zs' e=>?_,fun e=>by rw[ecs] at e;cases e⟩
   rw[(q0 hn1 hn5).2];refine⟨_,.inr rfl,_,rfl,_,rfl,by simp[dep],?_⟩
   rw[if_neg (by rw[nS];decide)]
   have rp:∀b:Int,(List.replicate (wl n).length [D.int b]).flatten=(List.replicate (2^n) b).map D.int:=fun b=>by
    rw[hpw];generalize 2^n=m
    induction m with
    |zero=>rfl
    |succ m ih=>rw[List.replicate_succ,List.flatten_cons,ih,List.replicate_succ,List.map_cons];rfl
   refine⟨fun e=>e,by omega,by omega,by omega,n,0,by rw[rp];rfl,hn5,.inl rfl,true,rfl,?_⟩
   rw[if_neg (by decide)]
   refine⟨fun e=>e,by omega,by omega,by omega,n,1,by rw[rp];rfl,hn5,.inr rfl,true,rfl,?_⟩
   rw[if_neg (by decide)]
   exact kN _ _ ⟨_,_,_,_,_,_,_,_,_,_,rfl⟩
 ·rintro ρ ω' ⟨v1,v2,v3,v4,v5,v6,v7,v8,v9,v10,rfl⟩
  walk_at "a1";exact k _
end
theorem A8{K:W.Frag}{h:Heap}{mg:Str->Option Value}(X:K.In h)(G:h.Ns mainGlobals mg){cF:Addr}{fd_is_whole:FuncData}{d7:Addr}{fd_is_bit:FuncData}{bS:Addr}{fd_are_places:FuncData}{c9:Addr}{fd_is_word:FuncData}{cm:Addr}{fd_is_rising:FuncData}{cc:Addr}{fd_all_words:FuncData}{ci:Addr}{fd_places_of:FuncData}{cE:Addr}{fd_value_at:FuncData}{cP:Addr}{fd_case_of:FuncData}{bd:Addr}{fd_words_in_order:FuncData}{da:Addr}{fd_case_by:FuncData}{fH:Addr}{fd_l_pen:FuncData}{dW:Addr}{fd_l_pick:FuncData}{fI:Addr}{fd_l_odd:FuncData}{cX:Addr}{fd_l_words:FuncData}{cZ:Addr}{fd_l_sides:FuncData}{bU:Addr}{fd_l_bad_word:FuncData}{cg:Addr}{fd_l_refused:FuncData}{db:Addr}{fd_l_never:FuncData}{dX:Addr}{fd_l_bent:FuncData}{hJ:Addr}{od_law an_law:Option Addr}{sl_law:Array (Option Value)}{oc_law kV_law dc_law pm_law cd_law ct_law:Value}{df:Tok}{cM:Addr}{av:Addr}{bJ:Addr}{cz:Addr}{cx:Addr}{b8:Addr}{dg:Addr}{cy:Addr}{cB:Addr}(dc:eM K "is_whole" gZ cF fd_is_whole)(eV:eM K "is_bit" kg d7 fd_is_bit)(cr:eM K "are_places" fm bS fd_are_places)(dR:eM K "is_word" gC c9 fd_is_word)(cQ:eM K "is_rising" eC cm fd_is_rising)(cL:eM K "all_words" eG cc fd_all_words)(cO:eM K "places_of" gi ci fd_places_of)(cY:eM K "value_at" gR cE fd_value_at)(dL:eM K "case_of" gy cP fd_case_of)(bv:eM K "words_in_order" bL bd fd_words_in_order)(dO:eM K "case_by" eR da fd_case_by)(gA:eM K "_law_pen" m7 fH fd_l_pen)(eS:eM K "_law_pick" j6 dW fd_l_pick)(gB:eM K "_law_odd" mJ fI fd_l_odd)(dM:eM K "_law_words" gD cX fd_l_words)(dJ:eM K "_law_sides" iX cZ fd_l_sides)(cn:eM K "_law_bad_word" fk bU fd_l_bad_word)(cN:eM K "_law_refused" gh cg fd_l_refused)(dQ:eM K "_law_never" iN db fd_l_never)(fb:eM K "_law_bent" ii dX fd_l_bent)(xg:W.nsIn K mainGlobals "law"=some (some (.ref hJ)))(wa:K.lookup hJ=some ⟨oc_law,od_law,.func (W.fnOf "law" "law" (defArgs ln) (defBody ln) (defScope ln) .none kV_law dc_law pm_law an_law cd_law ct_law),sl_law⟩)(vR:W.codeIn K cd_law "law"=true)(rV:W.keepIn K (.ref hJ)=true)(eN:W.nsIn K mainGlobals "MOST_PLACES"=some (some (.int 5 df)))(gl:W.nsIn K mainGlobals "TalkError"=some (some (.ref cM)))(jZ:W.nsIn K mainGlobals "NoCase"=some (some (.ref av)))(gW:W.nsIn K mainGlobals "NoSaying"=some (some (.ref bJ)))(kF:W.nsIn K mainGlobals "NoTalk"=some (some (.ref cz)))(jX:W.nsIn K mainGlobals "NoRise"=some (some (.ref cx)))(iV:W.nsIn K mainGlobals "TooMany"=some (some (.ref b8)))(nh:W.nsIn K mainGlobals "NoRow"=some (some (.ref dg)))(kA:W.nsIn K mainGlobals "NoWord"=some (some (.ref cy)))(jY:W.nsIn K mainGlobals "NoText"=some (some (.ref cB)))(bH:fL K av=true)(bV:W.kitOne K (.ref av) (.ref cx)=some false)(cj:W.kitOne K (.ref av) (.ref dg)=some false)(bF:W.kitOne K (.ref av) (.ref bJ)=some false)(bW:W.kitOne K (.ref av) (.ref cz)=some false)(bZ:W.kitOne K (.ref av) (.ref cB)=some false)(b7:W.kitOne K (.ref av) (.ref cy)=some false)(bM:W.kitOne K (.ref av) (.ref b8)=some false)(bY:W.kitOne K (.ref av) (.ref av)=some true)(bp:W.kitOne K (.ref av) (.type "ValueError")=some true)(bx:W.exmOne K (.ref av) (.ref cM)=some true)(b0:W.exmOne K (.ref av) (.ref av)=some true)(ik:W.kitOne K (.type "NoneType") (.ref cx)=some false)(jD:W.kitOne K (.type "NoneType") (.ref dg)=some false)(fv:W.kitOne K (.type "NoneType") (.ref bJ)=some false)(h9:W.kitOne K (.type "NoneType") (.ref cz)=some false)(hV:W.kitOne K (.type "NoneType") (.ref cB)=some false)(iu:W.kitOne K (.type "NoneType") (.ref cy)=some false)(gu:W.kitOne K (.type "NoneType") (.ref b8)=some false)(ip:W.kitOne K (.type "NoneType") (.ref av)=some false)(dH:W.kitOne K (.type "NoneType") (.type "ValueError")=some false)(sm:(K.lookup sysModules).isSome=true)(fj:W.nsIn K mainGlobals "ValueError"=some none)(vk:W.nsIn K mainGlobals "abs"=some none)(wE:W.nsIn K mainGlobals "all"=some none)(wn:W.nsIn K mainGlobals "any"=some none)(qD:W.nsIn K mainGlobals "bool"=some none)(vZ:W.nsIn K mainGlobals "int"=some none)(ft:W.nsIn K mainGlobals "isinstance"=some none)(wb:W.nsIn K mainGlobals "len"=some none)(qB:W.nsIn K mainGlobals "list"=some none)(wK:W.nsIn K mainGlobals "max"=some none)(vM:W.nsIn K mainGlobals "min"=some none)(mz:W.nsIn K mainGlobals "range"=some none)(qd:W.nsIn K mainGlobals "repr"=some none)(kn:W.nsIn K mainGlobals "sorted"=some none)(mw:W.nsIn K mainGlobals "tuple"=some none):∃t,Txt K mg t:=by
 have F_law:=wI (st:=ln) wa vR rV
 exact⟨⟨cF,_,d7,_,bS,_,c9,_,cm,_,cc,_,ci,_,cE,_,cP,_,bd,_,da,_,fH,_,dW,_,fI,_,cX,_,cZ,_,bU,_,cg,_,db,_,dX,_,hJ,_,df,cM,av,bJ,cz,cx,b8,dg,cy,cB⟩,⟨W.mg_of X G dc.g,dc.f,dc.e,dc.f.D5 fun _ _ _ _ _ _ _=>rfl,
  W.mg_of X G eV.g,eV.f,eV.e,eV.f.D5 fun _ _ _ _ _ _ _=>rfl,
  W.mg_of X G cr.g,cr.f,cr.e,cr.f.D5 fun _ _ _ _ _ _ _=>rfl,
  W.mg_of X G dR.g,dR.f,dR.e,dR.f.D9 fun _ _ _ _ _ _ _ _=>rfl,
  W.mg_of X G cQ.g,cQ.f,cQ.e,cQ.f.D5 fun _ _ _ _ _ _ _=>rfl,
  W.mg_of X G cL.g,cL.f,cL.e,cL.f.D5 fun _ _ _ _ _ _ _=>rfl,
  W.mg_of X G cO.g,cO.f,cO.e,cO.f.D5 fun _ _ _ _ _ _ _=>rfl,
  W.mg_of X G cY.g,cY.f,cY.e,cY.f.D9 fun _ _ _ _ _ _ _ _=>rfl,
  W.mg_of X G dL.g,dL.f,dL.e,dL.f.Ef fun _ _ _ _ _ _ _ _ _=>rfl,
  W.mg_of X G bv.g,bv.f,bv.e,bv.f.D9 fun _ _ _ _ _ _ _ _=>rfl,
  W.mg_of X G dO.g,dO.f,dO.e,dO.f.D5 fun _ _ _ _ _ _ _=>rfl,
  W.mg_of X G gA.g,gA.f,gA.e,gA.f.D9 fun _ _ _ _ _ _ _ _=>rfl,
  W.mg_of X G eS.g,eS.f,eS.e,eS.f.D9 fun _ _ _ _ _ _ _ _=>rfl,
  W.mg_of X G gB.g,gB.f,gB.e,gB.f.D5 fun _ _ _ _ _ _ _=>rfl,
  W.mg_of X G dM.g,dM.f,dM.e,dM.f.D5 fun _ _ _ _ _ _ _=>rfl,
  W.mg_of X G dJ.g,dJ.f,dJ.e,dJ.f.D9 fun _ _ _ _ _ _ _ _=>rfl,
  W.mg_of X G cn.g,cn.f,cn.e,cn.f.D9 fun _ _ _ _ _ _ _ _=>rfl,
  W.mg_of X G cN.g,cN.f,cN.e,cN.f.Ef fun _ _ _ _ _ _ _ _ _=>rfl,
  W.mg_of X G dQ.g,dQ.f,dQ.e,dQ.f.D5 fun _ _ _ _ _ _ _=>rfl,
  W.mg_of X G fb.g,fb.f,fb.e,fb.f.Ef fun _ _ _ _ _ _ _ _ _=>rfl,
  W.mg_of X G xg,F_law,rV,F_law.D5 (p0:="_law_script") fun _ _ _ _ _ _ _=>rfl,
  fun s v=>.of_eq rfl,
  W.mg_none_of X G fj,
  W.mg_none_of X G vk,
  W.mg_none_of X G wE,
  W.mg_none_of X G wn,
  W.mg_none_of X G qD,
  W.mg_none_of X G vZ,
  W.mg_none_of X G ft,
  W.mg_none_of X G wb,
  W.mg_none_of X G qB,
  W.mg_none_of X G wK,
  W.mg_none_of X G vM,
  W.mg_none_of X G mz,
  W.mg_none_of X G qd,
  W.mg_none_of X G kn,
  W.mg_none_of X G mw,
  W.mg_of X G eN,
  W.mg_of X G gl,
  W.mg_of X G jZ,
  W.mg_of X G gW,
  W.mg_of X G kF,
  W.mg_of X G jX,
  W.mg_of X G iV,
  W.mg_of X G nh,
  W.mg_of X G kA,
  W.mg_of X G jY,
  bH,
  bV,
  cj,
  bF,
  bW,
  bZ,
  b7,
  bM,
  bY,
  bp,
  bx,
  b0,
  ik,
  jD,
  fv,
  h9,
  hV,
  iu,
  gu,
  ip,
  dH,
  sm⟩⟩
noncomputable def inCls(s:PySem.Stmt)(j:Nat):PySem.Stmt:=match s with
 |.ClassDef _ _ _ b _ _ _ _ _ _ _=>b.getD j (.Pass ⟨0,0,0,0⟩)
 |_=>s
noncomputable abbrev oT(x:Array Value):Obj:=⟨.type "tuple",.none,.seq x 0,#[]⟩
noncomputable abbrev oF(n:Str)(i:Nat)(s:Str)(k:Tok)(c:Addr):Obj:=⟨.type "function",.none,.func (W.fnOf n n (defArgs (top i)) (defBody (top i)) (defScope (top i)) .none .none .none (.str s k) .none (.ref c) .none),#[]⟩
noncomputable abbrev oC(n:Str)(a b c:Tok)(l k:Int)(r:Addr)(e:Int)(u:Addr)(v w:Value)(x:Addr)(y:Int)(d:Tok):Obj:=⟨.type "code",.none,.fields #[.str n a,.str n b,.str "/claim/cut.py" c,.int l 0,.int k 0,.int 0 0,.int 0 0,.int 3 0,.ref r,.bool true,.int e 0,.ref u,.none,v,w,.ref x,.int y 0,.int l 0,.str "/claim/cut.py" d],#[]⟩
noncomputable def KK:PySem.Params->PySem.W.Frag:=fun P=>
 (nat_lit 1,⟨.type "dict",.none,.dict #[⟨PyData.keyHash P "builtins",.str "builtins" 162,.ref 4⟩,⟨PyData.keyHash P "__main__",.str "__main__" 163,.ref 5⟩] 2,#[]⟩)::
 (nat_lit 2,⟨.none,.none,.dict #[] 0,#[]⟩)::
 (nat_lit 3,⟨.type "dict",.none,.dict #[⟨PyData.keyHash P "__name__",.str "__name__" 165,.str "law_unlikeplace_k06_no_cases" 426⟩,⟨PyData.keyHash P "__doc__",.str "__doc__" 166,.none⟩,⟨PyData.keyHash P "__package__",.str "__package__" 167,.none⟩,⟨PyData.keyHash P "__loader__",.str "__loader__" 168,.builtin "__main__.__loader__#opaque"⟩,⟨PyData.keyHash P "__spec__",.str "__spec__" 169,.none⟩,⟨PyData.keyHash P "__annotations__",.str "__annotations__" 170,.ref 6⟩,⟨PyData.keyHash P "__builtins__",.str "__builtins__" 171,.ref 4⟩,⟨PyData.keyHash P "__file__",.str "__file__" 173,.str "/claim/cut.py" 172⟩,⟨PyData.keyHash P "__cached__",.str "__cached__" 174,.none⟩,⟨PyData.keyHash P "TalkError",.str "TalkError" 206,.ref 24⟩,⟨PyData.keyHash P "NoCase",.str "NoCase" 222,.ref 37⟩,⟨PyData.keyHash P "NoSaying",.str "NoSaying" 238,.ref 49⟩,⟨PyData.keyHash P "NoTalk",.str "NoTalk" 254,.ref 61⟩,⟨PyData.keyHash P "NoRise",.str "NoRise" 270,.ref 73⟩,⟨PyData.keyHash P "TooMany",.str "TooMany" 286,.ref 85⟩,⟨PyData.keyHash P "NoRow",.str "NoRow" 302,.ref 97⟩,⟨PyData.keyHash P "NoWord",.str "NoWord" 318,.ref 109⟩,⟨PyData.keyHash P "NoText",.str "NoText" 343,.ref 128⟩,⟨PyData.keyHash P "MOST_PLACES",.str "MOST_PLACES" 347,.int 5 346⟩,⟨PyData.keyHash P "is_whole",.str "is_whole" 354,.ref 137⟩,⟨PyData.keyHash P "is_bit",.str "is_bit" 361,.ref 144⟩,⟨PyData.keyHash P "are_places",.str "are_places" 368,.ref 151⟩,⟨PyData.keyHash P "is_word",.str "is_word" 374,.ref 156⟩,⟨PyData.keyHash P "is_rising",.str "is_rising" 380,.ref 161⟩,⟨PyData.keyHash P "all_words",.str "all_words" 386,.ref 166⟩,⟨PyData.keyHash P "places_of",.str "places_of" 395,.ref 173⟩,⟨PyData.keyHash P "value_at",.str "value_at" 405,.ref 180⟩,⟨PyData.keyHash P "case_of",.str "case_of" 413,.ref 185⟩,⟨PyData.keyHash P "words_in_order",.str "words_in_order" 419,.ref 190⟩,⟨PyData.keyHash P "case_by",.str "case_by" 425,.ref 195⟩,⟨PyData.keyHash P "_law_pen",.str "_law_pen" 437,.ref 202⟩,⟨PyData.keyHash P "_law_pick",.str "_law_pick" 448,.ref 209⟩,⟨PyData.keyHash P "_law_odd",.str "_law_odd" 456,.ref 216⟩,⟨PyData.keyHash P "_law_words",.str "_law_words" 462,.ref 221⟩,⟨PyData.keyHash P "_law_sides",.str "_law_sides" 474,.ref 228⟩,⟨PyData.keyHash P "_law_bad_word",.str "_law_bad_word" 484,.ref 235⟩,⟨PyData.keyHash P "_law_refused",.str "_law_refused" 495,.ref 242⟩,⟨PyData.keyHash P "_law_never",.str "_law_never" 503,.ref 249⟩,⟨PyData.keyHash P "_law_bent",.str "_law_bent" 509,.ref 254⟩,⟨PyData.keyHash P "law",.str "law" 526,.ref 261⟩] 40,#[]⟩)::
 (nat_lit 15,oT #[.type "ValueError"])::
 (nat_lit 22,oT #[])::
 (nat_lit 23,⟨.type "dict",.none,.dict #[⟨PyData.keyHash P "__module__",.str "__module__" 196,.str "unlikeplace.errors" 187⟩,⟨PyData.keyHash P "__firstlineno__",.str "__firstlineno__" 200,.int 2 199⟩,⟨PyData.keyHash P "__static_attributes__",.str "__static_attributes__" 201,.ref 22⟩,⟨PyData.keyHash P "__weakref__",.str "__weakref__" 203,.ref 25⟩,⟨PyData.keyHash P "__doc__",.str "__doc__" 204,.none⟩] 3,#[]⟩)::
 (nat_lit 24,⟨.type "type",.none,.cls ⟨"TalkError",[.type "ValueError"],[.ref 24,.type "ValueError",.type "Exception",.type "BaseException",.type "object"],23,"TalkError",true,[],[.ref 37,.ref 49,.ref 61,.ref 73,.ref 85,.ref 97,.ref 109,.ref 128],false,.none,false⟩,#[(.some (.ref 15)),.none,(.some (.str "TalkError" 189)),(.some (.str "TalkError" 197)),(.some (.builtin "ValueError.__new__")),(.some (.bool true))]⟩)::
 (nat_lit 25,⟨.type "getset_descriptor",.none,.fields #[.str "__weakref__" 202,.ref 24,.builtin "ExceptionGroup.__weakref__",.none],#[]⟩)::
 (nat_lit 28,oT #[.ref 24])::
 (nat_lit 35,oT #[])::
 (nat_lit 36,⟨.type "dict",.none,.dict #[⟨PyData.keyHash P "__module__",.str "__module__" 214,.str "unlikeplace.errors" 187⟩,⟨PyData.keyHash P "__firstlineno__",.str "__firstlineno__" 218,.int 4 217⟩,⟨PyData.keyHash P "__static_attributes__",.str "__static_attributes__" 219,.ref 35⟩,⟨PyData.keyHash P "__doc__",.str "__doc__" 220,.none⟩] 2,#[]⟩)::
 (nat_lit 37,⟨.type "type",.none,.cls ⟨"NoCase",[.ref 24],[.ref 37,.ref 24,.type "ValueError",.type "Exception",.type "BaseException",.type "object"],36,"NoCase",true,[],[],false,.none,false⟩,#[(.some (.ref 28)),.none,(.some (.str "NoCase" 207)),(.some (.str "NoCase" 215)),(.some (.builtin "ValueError.__new__")),(.some (.bool true))]⟩)::
 (nat_lit 40,oT #[.ref 24])::
 (nat_lit 47,oT #[])::
 (nat_lit 48,⟨.type "dict",.none,.dict #[⟨PyData.keyHash P "__module__",.str "__module__" 230,.str "unlikeplace.errors" 187⟩,⟨PyData.keyHash P "__firstlineno__",.str "__firstlineno__" 234,.int 6 233⟩,⟨PyData.keyHash P "__static_attributes__",.str "__static_attributes__" 235,.ref 47⟩,⟨PyData.keyHash P "__doc__",.str "__doc__" 236,.none⟩] 2,#[]⟩)::
 (nat_lit 49,⟨.type "type",.none,.cls ⟨"NoSaying",[.ref 24],[.ref 49,.ref 24,.type "ValueError",.type "Exception",.type "BaseException",.type "object"],48,"NoSaying",true,[],[],false,.none,false⟩,#[(.some (.ref 40)),.none,(.some (.str "NoSaying" 223)),(.some (.str "NoSaying" 231)),(.some (.builtin "ValueError.__new__")),(.some (.bool true))]⟩)::
 (nat_lit 52,oT #[.ref 24])::
 (nat_lit 59,oT #[])::
 (nat_lit 60,⟨.type "dict",.none,.dict #[⟨PyData.keyHash P "__module__",.str "__module__" 246,.str "unlikeplace.errors" 187⟩,⟨PyData.keyHash P "__firstlineno__",.str "__firstlineno__" 250,.int 8 249⟩,⟨PyData.keyHash P "__static_attributes__",.str "__static_attributes__" 251,.ref 59⟩,⟨PyData.keyHash P "__doc__",.str "__doc__" 252,.none⟩] 2,#[]⟩)::
 (nat_lit 61,⟨.type "type",.none,.cls ⟨"NoTalk",[.ref 24],[.ref 61,.ref 24,.type "ValueError",.type "Exception",.type "BaseException",.type "object"],60,"NoTalk",true,[],[],false,.none,false⟩,#[(.some (.ref 52)),.none,(.some (.str "NoTalk" 239)),(.some (.str "NoTalk" 247)),(.some (.builtin "ValueError.__new__")),(.some (.bool true))]⟩)::
 (nat_lit 64,oT #[.ref 24])::
 (nat_lit 71,oT #[])::
 (nat_lit 72,⟨.type "dict",.none,.dict #[⟨PyData.keyHash P "__module__",.str "__module__" 262,.str "unlikeplace.errors" 187⟩,⟨PyData.keyHash P "__firstlineno__",.str "__firstlineno__" 266,.int 10 265⟩,⟨PyData.keyHash P "__static_attributes__",.str "__static_attributes__" 267,.ref 71⟩,⟨PyData.keyHash P "__doc__",.str "__doc__" 268,.none⟩] 2,#[]⟩)::
 (nat_lit 73,⟨.type "type",.none,.cls ⟨"NoRise",[.ref 24],[.ref 73,.ref 24,.type "ValueError",.type "Exception",.type "BaseException",.type "object"],72,"NoRise",true,[],[],false,.none,false⟩,#[(.some (.ref 64)),.none,(.some (.str "NoRise" 255)),(.some (.str "NoRise" 263)),(.some (.builtin "ValueError.__new__")),(.some (.bool true))]⟩)::
 (nat_lit 76,oT #[.ref 24])::
 (nat_lit 83,oT #[])::
 (nat_lit 84,⟨.type "dict",.none,.dict #[⟨PyData.keyHash P "__module__",.str "__module__" 278,.str "unlikeplace.errors" 187⟩,⟨PyData.keyHash P "__firstlineno__",.str "__firstlineno__" 282,.int 12 281⟩,⟨PyData.keyHash P "__static_attributes__",.str "__static_attributes__" 283,.ref 83⟩,⟨PyData.keyHash P "__doc__",.str "__doc__" 284,.none⟩] 2,#[]⟩)::
 (nat_lit 85,⟨.type "type",.none,.cls ⟨"TooMany",[.ref 24],[.ref 85,.ref 24,.type "ValueError",.type "Exception",.type "BaseException",.type "object"],84,"TooMany",true,[],[],false,.none,false⟩,#[(.some (.ref 76)),.none,(.some (.str "TooMany" 271)),(.some (.str "TooMany" 279)),(.some (.builtin "ValueError.__new__")),(.some (.bool true))]⟩)::
 (nat_lit 88,oT #[.ref 24])::
 (nat_lit 95,oT #[])::
 (nat_lit 96,⟨.type "dict",.none,.dict #[⟨PyData.keyHash P "__module__",.str "__module__" 294,.str "unlikeplace.errors" 187⟩,⟨PyData.keyHash P "__firstlineno__",.str "__firstlineno__" 298,.int 14 297⟩,⟨PyData.keyHash P "__static_attributes__",.str "__static_attributes__" 299,.ref 95⟩,⟨PyData.keyHash P "__doc__",.str "__doc__" 300,.none⟩] 2,#[]⟩)::
 (nat_lit 97,⟨.type "type",.none,.cls ⟨"NoRow",[.ref 24],[.ref 97,.ref 24,.type "ValueError",.type "Exception",.type "BaseException",.type "object"],96,"NoRow",true,[],[],false,.none,false⟩,#[(.some (.ref 88)),.none,(.some (.str "NoRow" 287)),(.some (.str "NoRow" 295)),(.some (.builtin "ValueError.__new__")),(.some (.bool true))]⟩)::
 (nat_lit 100,oT #[.ref 24])::
 (nat_lit 107,oT #[])::
 (nat_lit 108,⟨.type "dict",.none,.dict #[⟨PyData.keyHash P "__module__",.str "__module__" 310,.str "unlikeplace.errors" 187⟩,⟨PyData.keyHash P "__firstlineno__",.str "__firstlineno__" 314,.int 16 313⟩,⟨PyData.keyHash P "__static_attributes__",.str "__static_attributes__" 315,.ref 107⟩,⟨PyData.keyHash P "__doc__",.str "__doc__" 316,.none⟩] 2,#[]⟩)::
 (nat_lit 109,⟨.type "type",.none,.cls ⟨"NoWord",[.ref 24],[.ref 109,.ref 24,.type "ValueError",.type "Exception",.type "BaseException",.type "object"],108,"NoWord",true,[],[],false,.none,false⟩,#[(.some (.ref 100)),.none,(.some (.str "NoWord" 303)),(.some (.str "NoWord" 311)),(.some (.builtin "ValueError.__new__")),(.some (.bool true))]⟩)::
 (nat_lit 112,oT #[.ref 24])::
 (nat_lit 119,oT #[])::
 (nat_lit 121,oT #[.str "self" 334,.str "at" 335])::
 (nat_lit 122,oT #[])::
 (nat_lit 124,⟨.type "code",.none,.fields #[.str "__init__" 331,.str "NoText.__init__" 332,.str "/claim/cut.py" 333,.int 20 0,.int 2 0,.int 0 0,.int 0 0,.int 3 0,.ref 119,.bool true,.int 181 0,.ref 120,.none,.ref 121,.ref 122,.ref 123,.int 336 0,.int 20 0,.str "/claim/cut.py" 337],#[]⟩)::
 (nat_lit 125,⟨.type "function",.none,.func (W.fnOf "__init__" "NoText.__init__" (defArgs (inCls (top 9) 0)) (defBody (inCls (top 9) 0)) (defScope (inCls (top 9) 0)) .none .none .none (.str "unlikeplace.errors" 187) .none (.ref 124) .none),#[]⟩)::
 (nat_lit 126,oT #[.str "at" 339])::
 (nat_lit 127,⟨.type "dict",.none,.dict #[⟨PyData.keyHash P "__module__",.str "__module__" 326,.str "unlikeplace.errors" 187⟩,⟨PyData.keyHash P "__firstlineno__",.str "__firstlineno__" 330,.int 18 329⟩,⟨PyData.keyHash P "__init__",.str "__init__" 338,.ref 125⟩,⟨PyData.keyHash P "__static_attributes__",.str "__static_attributes__" 340,.ref 126⟩,⟨PyData.keyHash P "__doc__",.str "__doc__" 341,.none⟩] 2,#[]⟩)::
 (nat_lit 128,⟨.type "type",.none,.cls ⟨"NoText",[.ref 24],[.ref 128,.ref 24,.type "ValueError",.type "Exception",.type "BaseException",.type "object"],127,"NoText",true,[],[],false,.none,false⟩,#[(.some (.ref 112)),.none,(.some (.str "NoText" 319)),(.some (.str "NoText" 327)),(.some (.builtin "ValueError.__new__")),(.some (.bool true))]⟩)::
 (nat_lit 131,oT #[])::
 (nat_lit 133,oT #[.str "thing" 351])::
 (nat_lit 134,oT #[])::
 (nat_lit 136,oC "is_whole" 348 349 350 24 1 131 181 132 (.ref 133) (.ref 134) 135 352 353)::
 (nat_lit 137,oF "is_whole" 12 "unlikeplace.words" 344 136)::
 (nat_lit 138,oT #[])::
 (nat_lit 140,oT #[.str "thing" 358])::
 (nat_lit 141,oT #[])::
 (nat_lit 143,oC "is_bit" 355 356 357 26 1 138 181 139 (.ref 140) (.ref 141) 142 359 360)::
 (nat_lit 144,oF "is_bit" 13 "unlikeplace.words" 344 143)::
 (nat_lit 145,oT #[])::
 (nat_lit 147,oT #[.str "thing" 365])::
 (nat_lit 148,oT #[])::
 (nat_lit 150,oC "are_places" 362 363 364 28 1 145 181 146 (.ref 147) (.ref 148) 149 366 367)::
 (nat_lit 151,oF "are_places" 14 "unlikeplace.words" 344 150)::
 (nat_lit 152,oT #[])::
 (nat_lit 155,oC "is_word" 369 370 371 30 2 152 181 153 .none .none 154 372 373)::
 (nat_lit 156,oF "is_word" 15 "unlikeplace.words" 344 155)::
 (nat_lit 157,oT #[])::
 (nat_lit 160,oC "is_rising" 375 376 377 34 1 157 181 158 .none .none 159 378 379)::
 (nat_lit 161,oF "is_rising" 16 "unlikeplace.words" 344 160)::
 (nat_lit 162,oT #[])::
 (nat_lit 165,oC "all_words" 381 382 383 36 1 162 181 163 .none .none 164 384 385)::
 (nat_lit 166,oF "all_words" 17 "unlikeplace.words" 344 165)::
 (nat_lit 167,oT #[])::
 (nat_lit 169,oT #[.str "table" 392])::
 (nat_lit 170,oT #[])::
 (nat_lit 172,oC "places_of" 389 390 391 42 1 167 181 168 (.ref 169) (.ref 170) 171 393 394)::
 (nat_lit 173,oF "places_of" 19 "unlikeplace.tables" 387 172)::
 (nat_lit 174,oT #[])::
 (nat_lit 176,oT #[.str "table" 399,.str "word" 400,.str "at" 401,.str "bit" 402])::
 (nat_lit 177,oT #[])::
 (nat_lit 179,oC "value_at" 396 397 398 44 2 174 181 175 (.ref 176) (.ref 177) 178 403 404)::
 (nat_lit 180,oF "value_at" 20 "unlikeplace.tables" 387 179)::
 (nat_lit 181,oT #[])::
 (nat_lit 184,oC "case_of" 408 409 410 50 3 181 181 182 .none .none 183 411 412)::
 (nat_lit 185,oF "case_of" 22 "unlikeplace.cases" 406 184)::
 (nat_lit 186,oT #[])::
 (nat_lit 189,oC "words_in_order" 414 415 416 58 2 186 181 187 .none .none 188 417 418)::
 (nat_lit 190,oF "words_in_order" 23 "unlikeplace.cases" 406 189)::
 (nat_lit 191,oT #[])::
 (nat_lit 194,oC "case_by" 420 421 422 69 1 191 181 192 .none .none 193 423 424)::
 (nat_lit 195,oF "case_by" 24 "unlikeplace.cases" 406 194)::
 (nat_lit 196,oT #[])::
 (nat_lit 198,oT #[.str "_law_script" 431,.str "_law_at" 432,.str "_law_cell" 433,.str "_law_far" 434])::
 (nat_lit 199,oT #[])::
 (nat_lit 201,oC "_law_pen" 428 429 430 78 2 196 181 197 (.ref 198) (.ref 199) 200 435 436)::
 (nat_lit 202,oF "_law_pen" 26 "law_unlikeplace_k06_no_cases" 426 201)::
 (nat_lit 203,oT #[])::
 (nat_lit 205,oT #[.str "_law_pen_here" 441,.str "_law_many" 442,.str "_law_digit" 443,.str "_law_turn" 444,.str "_law_mixed" 445])::
 (nat_lit 206,oT #[])::
 (nat_lit 208,oC "_law_pick" 438 439 440 86 2 203 181 204 (.ref 205) (.ref 206) 207 446 447)::
 (nat_lit 209,oF "_law_pick" 27 "law_unlikeplace_k06_no_cases" 426 208)::
 (nat_lit 210,oT #[])::
 (nat_lit 212,oT #[.str "_law_pen_here" 452,.str "_law_some" 453])::
 (nat_lit 213,oT #[])::
 (nat_lit 215,oC "_law_odd" 449 450 451 97 1 210 181 211 (.ref 212) (.ref 213) 214 454 455)::
 (nat_lit 216,oF "_law_odd" 28 "law_unlikeplace_k06_no_cases" 426 215)::
 (nat_lit 217,oT #[])::
 (nat_lit 220,oC "_law_words" 457 458 459 100 1 217 181 218 .none .none 219 460 461)::
 (nat_lit 221,oF "_law_words" 29 "law_unlikeplace_k06_no_cases" 426 220)::
 (nat_lit 222,oT #[])::
 (nat_lit 224,oT #[.str "_law_pen_here" 466,.str "_law_words_here" 467,.str "_law_left" 468,.str "_law_yes" 469,.str "_law_no" 470,.str "_law_k" 471])::
 (nat_lit 225,oT #[])::
 (nat_lit 227,oC "_law_sides" 463 464 465 102 2 222 181 223 (.ref 224) (.ref 225) 226 472 473)::
 (nat_lit 228,oF "_law_sides" 30 "law_unlikeplace_k06_no_cases" 426 227)::
 (nat_lit 229,oT #[])::
 (nat_lit 231,oT #[.str "_law_pen_here" 478,.str "_law_word" 479,.str "_law_k" 480,.str "_law_some" 481])::
 (nat_lit 232,oT #[])::
 (nat_lit 234,oC "_law_bad_word" 475 476 477 109 2 229 181 230 (.ref 231) (.ref 232) 233 482 483)::
 (nat_lit 235,oF "_law_bad_word" 31 "law_unlikeplace_k06_no_cases" 426 234)::
 (nat_lit 236,oT #[])::
 (nat_lit 238,oT #[.str "_law_places" 488,.str "_law_yes" 489,.str "_law_no" 490,.str "_law_caught" 491,.str "e" 492])::
 (nat_lit 239,oT #[])::
 (nat_lit 241,oC "_law_refused" 485 486 487 114 3 236 181 237 (.ref 238) (.ref 239) 240 493 494)::
 (nat_lit 242,oF "_law_refused" 32 "law_unlikeplace_k06_no_cases" 426 241)::
 (nat_lit 243,oT #[])::
 (nat_lit 245,oT #[.str "_law_table" 499,.str "_law_refused_here" 500])::
 (nat_lit 246,oT #[])::
 (nat_lit 248,oC "_law_never" 496 497 498 123 1 243 181 244 (.ref 245) (.ref 246) 247 501 502)::
 (nat_lit 249,oF "_law_never" 33 "law_unlikeplace_k06_no_cases" 426 248)::
 (nat_lit 250,oT #[])::
 (nat_lit 253,oC "_law_bent" 504 505 506 130 3 250 181 251 .none .none 252 507 508)::
 (nat_lit 254,oF "_law_bent" 34 "law_unlikeplace_k06_no_cases" 426 253)::
 (nat_lit 255,oT #[])::
 (nat_lit 257,oT #[.str "_law_script" 513,.str "_law_at" 514,.str "_law_pen_here" 515,.str "_law_places" 516,.str "_law_words_here" 517,.str "_law_sides_here" 518,.str "_law_turn" 519,.str "_law_bent_here" 520,.str "_law_yes" 521,.str "_law_no" 522,.str "_law_before" 523])::
 (nat_lit 258,oT #[])::
 (nat_lit 260,oC "law" 510 511 512 154 1 255 181 256 (.ref 257) (.ref 258) 259 524 525)::
 (nat_lit 261,oF "law" 35 "law_unlikeplace_k06_no_cases" 426 260)::[]
end My
noncomputable def PySem.W.Fast.tw6894247980046229166:PySem.Params->PySem.W.Frag:=My.KK
theorem PySem.W.Fast.te6894247980046229166:My.KK=PySem.W.Fast.tw6894247980046229166:=rfl
noncomputable def PySem.W.Fast.tw4846113516628988763:PySem.Program:=PySem.Challenge.pw_unlikeplace_k06_no_cases
theorem PySem.W.Fast.te4846113516628988763:PySem.Challenge.pw_unlikeplace_k06_no_cases=PySem.W.Fast.tw4846113516628988763:=rfl
namespace PySem.W.Fast
theorem te9977970332245133376:True:=⟨⟩
theorem te6341647174503972928:True:=⟨⟩
theorem te11014904983569953856:True:=⟨⟩
theorem te18028875760097028256:True:=⟨⟩
theorem te9568493774810204352:True:=⟨⟩
theorem te13189940285647839616:True:=⟨⟩
theorem te4207623641840320928:True:=⟨⟩
theorem te16845866545529337248:True:=⟨⟩
theorem te16799020695429458400:True:=⟨⟩
theorem te8325672990880856576:True:=⟨⟩
theorem te18108514052038919712:True:=⟨⟩
theorem te13743022892808729120:True:=⟨⟩
theorem te1841266861329570368:True:=⟨⟩
theorem te1822125000272133792:True:=⟨⟩
theorem te4459113519311005344:True:=⟨⟩
theorem te2155726533129271040:True:=⟨⟩
theorem te14246272437261227776:True:=⟨⟩
theorem te5742223140561555264:True:=⟨⟩
theorem te4503934355339448192:True:=⟨⟩
theorem te18005916408764747841:True:=⟨⟩
theorem te17173880285569180897:True:=⟨⟩
theorem te15926319125596390753:True:=⟨⟩
theorem te1024746187414645089:True:=⟨⟩
theorem te14110107369286207969:True:=⟨⟩
theorem te17946711528067877633:True:=⟨⟩
theorem te6900034678254331745:True:=⟨⟩
theorem te8094874046692990817:True:=⟨⟩
theorem te1530970351141928833:True:=⟨⟩
theorem te14535959461529490369:True:=⟨⟩
theorem te11177453120601913281:True:=⟨⟩
theorem te6031609657076722818:True:=⟨⟩
theorem te2488173550897462434:True:=⟨⟩
theorem te8258495397641769122:True:=⟨⟩
theorem te9037686006938705154:True:=⟨⟩
theorem te17236220207713774850:True:=⟨⟩
theorem te465368688241385794:True:=⟨⟩
theorem te5224242167665941858:True:=⟨⟩
theorem te12095419291311995266:True:=⟨⟩
theorem te12925255342103085506:True:=⟨⟩
theorem te17824531046109697762:True:=⟨⟩
theorem te3908887402269903714:True:=⟨⟩
theorem te10094990731469772995:True:=⟨⟩
theorem te8711705742199026915:True:=⟨⟩
theorem te5160098006460273091:True:=⟨⟩
theorem te5332029400064736803:True:=⟨⟩
theorem te12292991625748213443:True:=⟨⟩
theorem te1607064580467987235:True:=⟨⟩
theorem te11583062144322820995:True:=⟨⟩
theorem te14936340829372495940:True:=⟨⟩
theorem te10811399213317444932:True:=⟨⟩
theorem te10529042868358860100:True:=⟨⟩
theorem te4376637068019773828:True:=⟨⟩
theorem te16694195918855930532:True:=⟨⟩
theorem te4276162691011472389:True:=⟨⟩
theorem te10265196505412409381:True:=⟨⟩
theorem te6105968799169076325:True:=⟨⟩
theorem te17484911700594786565:True:=⟨⟩
theorem te2987553513145064901:True:=⟨⟩
theorem te11530623485228617317:True:=⟨⟩
theorem te3788484643861151333:True:=⟨⟩
theorem te16172978898663457381:True:=⟨⟩
theorem te15893071156487810725:True:=⟨⟩
noncomputable def My.sts_64:List PySem.Stmt:=[My.top 2]
noncomputable def tw3279248266019436197:List PySem.Stmt:=My.sts_64
theorem te3279248266019436197:My.sts_64=tw3279248266019436197:=rfl
theorem te1015951974894881509:True:=⟨⟩
theorem te7902265407845130117:True:=⟨⟩
theorem te17014204770041970694:True:=⟨⟩
theorem te14111942407068518662:True:=⟨⟩
noncomputable def My.sts_79:List PySem.Stmt:=[My.top 3]
noncomputable def tw16612161487885297030:List PySem.Stmt:=My.sts_79
theorem te16612161487885297030:My.sts_79=tw16612161487885297030:=rfl
theorem te9299295473103749766:True:=⟨⟩
noncomputable def My.sts_217:List PySem.Stmt:=[My.top 16,My.top 17,My.top 18,My.top 19,My.top 20,My.top 21,My.top 22,My.top 23,My.top 24,My.top 25,My.top 26,My.top 27,My.top 28,My.top 29,My.top 30]
noncomputable def tw6642939555610757958:List PySem.Stmt:=My.sts_217
theorem te6642939555610757958:My.sts_217=tw6642939555610757958:=rfl
theorem te12885873550422765414:True:=⟨⟩
theorem te10904053316029011910:True:=⟨⟩
theorem te15425717108028266470:True:=⟨⟩
theorem te3184603943237604647:True:=⟨⟩
theorem te6438409221521232199:True:=⟨⟩
theorem te1823444877682317991:True:=⟨⟩
theorem te5954313401613068103:True:=⟨⟩
theorem te7118177668838734759:True:=⟨⟩
theorem te7388494333028301735:True:=⟨⟩
theorem te12504379001918576776:True:=⟨⟩
theorem te4459383415749021864:True:=⟨⟩
theorem te11367137316322450696:True:=⟨⟩
theorem te7028308893047581960:True:=⟨⟩
theorem te18386102732639399368:True:=⟨⟩
theorem te3608699136292368840:True:=⟨⟩
theorem te13439021885390036584:True:=⟨⟩
theorem te13581901584730975880:True:=⟨⟩
theorem te2700558822570085096:True:=⟨⟩
theorem te6953767382474689384:True:=⟨⟩
theorem te5807719958508618793:True:=⟨⟩
theorem te6866104539498705001:True:=⟨⟩
theorem te11892655316973098313:True:=⟨⟩
theorem te10316113775264106857:True:=⟨⟩
theorem te3686712694639469961:True:=⟨⟩
theorem te16406347382489637385:True:=⟨⟩
theorem te11990057195153669801:True:=⟨⟩
theorem te16834088738818878217:True:=⟨⟩
theorem te8863889724690553641:True:=⟨⟩
theorem te10633595871795502953:True:=⟨⟩
theorem te1022155740312507273:True:=⟨⟩
theorem te10661753277679257513:True:=⟨⟩
theorem te11387560589902131274:True:=⟨⟩
theorem te2543557883350797418:True:=⟨⟩
theorem te16631867109392470122:True:=⟨⟩
theorem te14137959338214570698:True:=⟨⟩
theorem te16125511439371733930:True:=⟨⟩
theorem te7506258529864641611:True:=⟨⟩
theorem te9095057844051095723:True:=⟨⟩
theorem te15996055684123786475:True:=⟨⟩
theorem te7025014231439554827:True:=⟨⟩
noncomputable def My.sts_94:List PySem.Stmt:=[My.top 4]
noncomputable def tw6680419356900680876:List PySem.Stmt:=My.sts_94
theorem te6680419356900680876:My.sts_94=tw6680419356900680876:=rfl
theorem te8116643930222986796:True:=⟨⟩
theorem te7342292712884650604:True:=⟨⟩
theorem te9111753867200157612:True:=⟨⟩
theorem te5782028428862685100:True:=⟨⟩
theorem te5906208379227572204:True:=⟨⟩
theorem te6721761112576612332:True:=⟨⟩
theorem te11169598549179602093:True:=⟨⟩
theorem te4672841354481721613:True:=⟨⟩
theorem te1212862139529554349:True:=⟨⟩
theorem te17118163608581708269:True:=⟨⟩
theorem te2032989194731360781:True:=⟨⟩
theorem te17851962888071505901:True:=⟨⟩
theorem te3861103503451757710:True:=⟨⟩
theorem te638262977431707886:True:=⟨⟩
theorem te6052880866425451822:True:=⟨⟩
noncomputable def My.sts_169:List PySem.Stmt:=[My.top 9,My.top 10,My.top 11,My.top 12,My.top 13,My.top 14,My.top 15]
noncomputable def tw5516511263998139758:List PySem.Stmt:=My.sts_169
theorem te5516511263998139758:My.sts_169=tw5516511263998139758:=rfl
theorem te16589835807423079822:True:=⟨⟩
theorem te14613113865914550702:True:=⟨⟩
theorem te16663434671505930670:True:=⟨⟩
theorem te18433693354440183278:True:=⟨⟩
noncomputable def My.sts_139:List PySem.Stmt:=[My.top 7]
noncomputable def tw17120068826912595470:List PySem.Stmt:=My.sts_139
theorem te17120068826912595470:My.sts_139=tw17120068826912595470:=rfl
theorem te1394159767874815502:True:=⟨⟩
theorem te11091794980195484270:True:=⟨⟩
theorem te11892211396983858862:True:=⟨⟩
theorem te1377320747558184686:True:=⟨⟩
theorem te16622848727062077198:True:=⟨⟩
theorem te16695019858848836398:True:=⟨⟩
theorem te17405424532693120878:True:=⟨⟩
theorem te14836214485521453998:True:=⟨⟩
noncomputable def My.sts_154:List PySem.Stmt:=[My.top 8]
noncomputable def tw16962652179325563886:List PySem.Stmt:=My.sts_154
theorem te16962652179325563886:My.sts_154=tw16962652179325563886:=rfl
theorem te12748969730557319407:True:=⟨⟩
theorem te712785417284757775:True:=⟨⟩
theorem te7457166976281432527:True:=⟨⟩
theorem te8645585006527220271:True:=⟨⟩
theorem te16332961139902060175:True:=⟨⟩
theorem te15712343872418185935:True:=⟨⟩
theorem te5283032915164181359:True:=⟨⟩
theorem te12143189415766598575:True:=⟨⟩
theorem te14459749500823210224:True:=⟨⟩
theorem te3558390544649239824:True:=⟨⟩
theorem te12989959508600323600:True:=⟨⟩
noncomputable def My.view_39:PySem.Program:={ PySem.Challenge.pw_unlikeplace_k06_no_cases with main:={ PySem.Challenge.pw_unlikeplace_k06_no_cases.main with body:=[My.top 1,My.top 2,My.top 3,My.top 4,My.top 5,My.top 6,My.top 7,My.top 8,My.top 9,My.top 11,My.top 12,My.top 13,My.top 14,My.top 15,My.top 16,My.top 17,My.top 19,My.top 20,My.top 22,My.top 23,My.top 24,My.top 26,My.top 27,My.top 28,My.top 29,My.top 30,My.top 31,My.top 32,My.top 33,My.top 34,My.top 35] } }
noncomputable def tw8617833884377067344:PySem.Program:=My.view_39
theorem te8617833884377067344:My.view_39=tw8617833884377067344:=rfl
theorem te7406329495859694416:True:=⟨⟩
theorem te17698122239414731632:True:=⟨⟩
theorem te467394458689467409:True:=⟨⟩
theorem te10959778558986575953:True:=⟨⟩
theorem te13782044213765997745:True:=⟨⟩
theorem te7807060314473275633:True:=⟨⟩
theorem te13064528961727953233:True:=⟨⟩
theorem te9352023012272000497:True:=⟨⟩
theorem te3986708519050106417:True:=⟨⟩
theorem te5565022016061313585:True:=⟨⟩
theorem te14512931234153480945:True:=⟨⟩
theorem te2367925199837647633:True:=⟨⟩
theorem te26846929851457425:True:=⟨⟩
theorem te8292291674634276785:True:=⟨⟩
theorem te12107961840646930417:True:=⟨⟩
theorem te16754903547646915826:True:=⟨⟩
theorem te13140000448593760530:True:=⟨⟩
theorem te4378885840980286930:True:=⟨⟩
theorem te9551519576067655282:True:=⟨⟩
theorem te14074877495800146578:True:=⟨⟩
theorem te16356696649897660178:True:=⟨⟩
theorem te1125685151840749426:True:=⟨⟩
theorem te5929618354652282931:True:=⟨⟩
theorem te7962160645509668947:True:=⟨⟩
theorem te9798045478047455347:True:=⟨⟩
theorem te13025849537904042099:True:=⟨⟩
theorem te16177660735001726099:True:=⟨⟩
theorem te13051057497814434995:True:=⟨⟩
theorem te12636584893790950611:True:=⟨⟩
theorem te2350989741059659027:True:=⟨⟩
theorem te16243543743225947539:True:=⟨⟩
theorem te4420892180427244019:True:=⟨⟩
theorem te9612715068481048147:True:=⟨⟩
theorem te15076822876993034867:True:=⟨⟩
theorem te6531661934884302579:True:=⟨⟩
theorem te18370739802413712371:True:=⟨⟩
theorem te6698764079577873428:True:=⟨⟩
theorem te12085152874625076:True:=⟨⟩
theorem te10461296263174958132:True:=⟨⟩
theorem te12213723215836158036:True:=⟨⟩
noncomputable def My.sts_49:List PySem.Stmt:=[My.top 0,My.top 1]
noncomputable def tw10923065383002193140:List PySem.Stmt:=My.sts_49
theorem te10923065383002193140:My.sts_49=tw10923065383002193140:=rfl
theorem te13932290062975141108:True:=⟨⟩
theorem te6967725348035604756:True:=⟨⟩
theorem te620534032008869396:True:=⟨⟩
theorem te12930413530050812500:True:=⟨⟩
theorem te6895224159549104756:True:=⟨⟩
theorem te4578597455143376564:True:=⟨⟩
theorem te17674800094229293876:True:=⟨⟩
theorem te1536570146020776181:True:=⟨⟩
theorem te17551033844056242453:True:=⟨⟩
theorem te5479802446652886453:True:=⟨⟩
theorem te1078638567027442261:True:=⟨⟩
theorem te5646356999652588181:True:=⟨⟩
theorem te16396792567003071157:True:=⟨⟩
theorem te3069460389153939253:True:=⟨⟩
theorem te12646973769077318549:True:=⟨⟩
theorem te14443965811873449973:True:=⟨⟩
theorem te9148950872582745334:True:=⟨⟩
theorem te9748157825647163670:True:=⟨⟩
theorem te7029904986846706070:True:=⟨⟩
theorem te8432639022830535158:True:=⟨⟩
theorem te18153522243674332758:True:=⟨⟩
theorem te15361394749992815382:True:=⟨⟩
theorem te13838429443067288342:True:=⟨⟩
theorem te390462591625713526:True:=⟨⟩
theorem te14046048704069127062:True:=⟨⟩
theorem te10664580899221788855:True:=⟨⟩
theorem te4156197845101094263:True:=⟨⟩
theorem te4472062573697122679:True:=⟨⟩
theorem te910946126869202327:True:=⟨⟩
theorem te4735455543722681783:True:=⟨⟩
theorem te13780328876641507799:True:=⟨⟩
theorem te6947363583002157751:True:=⟨⟩
theorem te14836455714733307703:True:=⟨⟩
theorem te4164614748907759479:True:=⟨⟩
theorem te12887803271284540632:True:=⟨⟩
theorem te15022515606780190040:True:=⟨⟩
theorem te9593264721665524120:True:=⟨⟩
theorem te1420022961900227000:True:=⟨⟩
theorem te17689342088617085368:True:=⟨⟩
theorem te17962902401722223224:True:=⟨⟩
theorem te9755864726807582360:True:=⟨⟩
noncomputable def My.sts_109:List PySem.Stmt:=[My.top 5]
noncomputable def tw8647374063744377560:List PySem.Stmt:=My.sts_109
theorem te8647374063744377560:My.sts_109=tw8647374063744377560:=rfl
theorem te13528965641469963000:True:=⟨⟩
theorem te10777622353588665144:True:=⟨⟩
theorem te5907099666109692985:True:=⟨⟩
theorem te3271842621049225305:True:=⟨⟩
theorem te4568642200003449017:True:=⟨⟩
theorem te7949406828053124377:True:=⟨⟩
theorem te17510506139557498201:True:=⟨⟩
theorem te6149071360819225177:True:=⟨⟩
theorem te11805066848595905209:True:=⟨⟩
theorem te11621411290677500122:True:=⟨⟩
theorem te4863748971661231386:True:=⟨⟩
theorem te6718499971320389946:True:=⟨⟩
theorem te1515205478168600122:True:=⟨⟩
noncomputable def My.sts_291:List PySem.Stmt:=[My.top 31,My.top 32,My.top 33,My.top 34,My.top 35]
noncomputable def tw16026467872189717050:List PySem.Stmt:=My.sts_291
theorem te16026467872189717050:My.sts_291=tw16026467872189717050:=rfl
theorem te15422073542312133210:True:=⟨⟩
theorem te18104088842370116282:True:=⟨⟩
theorem te14781651390961513178:True:=⟨⟩
theorem te953945509582758618:True:=⟨⟩
theorem te10447842977236537082:True:=⟨⟩
theorem te11630389892052985883:True:=⟨⟩
theorem te12084383709449166939:True:=⟨⟩
theorem te3389403759659914715:True:=⟨⟩
theorem te7284366737056949851:True:=⟨⟩
theorem te15208840396233567899:True:=⟨⟩
theorem te11722636488954063611:True:=⟨⟩
theorem te14307628535884747579:True:=⟨⟩
theorem te15556276108459175803:True:=⟨⟩
theorem te3630939068429715355:True:=⟨⟩
theorem te5054388196065974171:True:=⟨⟩
theorem te11757688363751430236:True:=⟨⟩
theorem te5942076185542428956:True:=⟨⟩
theorem te4601665299529360796:True:=⟨⟩
theorem te329873394461949981:True:=⟨⟩
theorem te2371090443764418717:True:=⟨⟩
theorem te7031479799916993853:True:=⟨⟩
theorem te1326503067320778045:True:=⟨⟩
theorem te2739602964164266365:True:=⟨⟩
theorem te14515026827465014813:True:=⟨⟩
theorem te2075882763157375709:True:=⟨⟩
theorem te6934069369622204221:True:=⟨⟩
theorem te7056281891968515005:True:=⟨⟩
theorem te13175882576409390206:True:=⟨⟩
theorem te14616961520947908766:True:=⟨⟩
theorem te242518486818741438:True:=⟨⟩
theorem te1824216262275894526:True:=⟨⟩
theorem te10507946449043823038:True:=⟨⟩
theorem te6407269916351629150:True:=⟨⟩
theorem te17407532654102414206:True:=⟨⟩
theorem te1591694725233919870:True:=⟨⟩
theorem te309180129045540766:True:=⟨⟩
theorem te17554093703421771839:True:=⟨⟩
theorem te18206475779196482719:True:=⟨⟩
theorem te2232025663526421023:True:=⟨⟩
theorem te5491966993166972703:True:=⟨⟩
theorem te11611626312284198719:True:=⟨⟩
noncomputable def My.sts_124:List PySem.Stmt:=[My.top 6]
noncomputable def tw8732160443699413855:List PySem.Stmt:=My.sts_124
theorem te8732160443699413855:My.sts_124=tw8732160443699413855:=rfl
theorem te6498857232365930399:True:=⟨⟩
end PySem.W.Fast
open PySem PySem.W PyProof.Rows
local macro_rules | `(tactic| walk_at "q")=>`(tactic| (refine' L2.B9 ?d1 ?d2 ?d3 ?d4;(case d1=>k_is);(case d2=>k_is);(case d3=>k_is);(case d4=>k_is)))
set_option maxRecDepth 100000 in
set_option maxHeartbeats 0 in
theorem PySem.Challenge.cw_unlikeplace_k06_no_cases_holds : PySem.Challenge.rw_unlikeplace_k06_no_cases.Holds := by
 w_on;o_law
 o_head (PySem.W.kHook My.KK [nat_lit 1,nat_lit 2,nat_lit 3,nat_lit 15,nat_lit 22,nat_lit 23,nat_lit 24,nat_lit 25,nat_lit 28,nat_lit 35,nat_lit 36,nat_lit 37,nat_lit 40,nat_lit 47,nat_lit 48,nat_lit 49,nat_lit 52,nat_lit 59,nat_lit 60,nat_lit 61,nat_lit 64,nat_lit 71,nat_lit 72,nat_lit 73,nat_lit 76,nat_lit 83,nat_lit 84,nat_lit 85,nat_lit 88,nat_lit 95,nat_lit 96,nat_lit 97,nat_lit 100,nat_lit 107,nat_lit 108,nat_lit 109,nat_lit 112,nat_lit 119,nat_lit 121,nat_lit 122,nat_lit 124,nat_lit 125,nat_lit 126,nat_lit 127,nat_lit 128,nat_lit 131,nat_lit 133,nat_lit 134,nat_lit 136,nat_lit 137,nat_lit 138,nat_lit 140,nat_lit 141,nat_lit 143,nat_lit 144,nat_lit 145,nat_lit 147,nat_lit 148,nat_lit 150,nat_lit 151,nat_lit 152,nat_lit 155,nat_lit 156,nat_lit 157,nat_lit 160,nat_lit 161,nat_lit 162,nat_lit 165,nat_lit 166,nat_lit 167,nat_lit 169,nat_lit 170,nat_lit 172,nat_lit 173,nat_lit 174,nat_lit 176,nat_lit 177,nat_lit 179,nat_lit 180,nat_lit 181,nat_lit 184,nat_lit 185,nat_lit 186,nat_lit 189,nat_lit 190,nat_lit 191,nat_lit 194,nat_lit 195,nat_lit 196,nat_lit 198,nat_lit 199,nat_lit 201,nat_lit 202,nat_lit 203,nat_lit 205,nat_lit 206,nat_lit 208,nat_lit 209,nat_lit 210,nat_lit 212,nat_lit 213,nat_lit 215,nat_lit 216,nat_lit 217,nat_lit 220,nat_lit 221,nat_lit 222,nat_lit 224,nat_lit 225,nat_lit 227,nat_lit 228,nat_lit 229,nat_lit 231,nat_lit 232,nat_lit 234,nat_lit 235,nat_lit 236,nat_lit 238,nat_lit 239,nat_lit 241,nat_lit 242,nat_lit 243,nat_lit 245,nat_lit 246,nat_lit 248,nat_lit 249,nat_lit 250,nat_lit 253,nat_lit 254,nat_lit 255,nat_lit 257,nat_lit 258,nat_lit 260,nat_lit 261] (fun _=>by kernel_rfl))
 (case hw=>w_witness2)
 k_fill
 refine L2.uK (l:=PySem.Challenge.rw_unlikeplace_k06_no_cases) (n:=63) (k:=30) (x:="_law_script") (CX:=L2.CX0) (sp:=My.qf) rfl (by decide) rfl ⟨rfl,by decide,by decide,rfl⟩ (fun w h Y=>by first | exact PySem.W.kIn_of Y | exact PySem.W.km_in_of Y) (fun w=>by kernel_rfl) ?F ?S ?C
 case F =>
  intro w mg fa h KX G hmg
  have T : ∃ t,My.Txt (L2.KOf KX) mg t:=by
   dsimp only [L2.KOf]
   refine' My.A8 KX G ?dc ?eV ?cr ?dR ?cQ ?cL ?cO ?cY ?dL ?bv ?dO ?gA ?eS ?gB ?dM ?dJ ?cn ?cN ?dQ ?fb ?xg ?wa ?vR ?rV ?eN ?gl ?jZ ?gW ?kF ?jX ?iV ?nh ?kA ?jY ?bH ?bV ?cj ?bF ?bW ?bZ ?b7 ?bM ?bY ?bp ?bx ?b0 ?ik ?jD ?fv ?h9 ?hV ?iu ?gu ?ip ?dH ?sm ?fj ?vk ?wE ?wn ?qD ?vZ ?ft ?wb ?qB ?wK ?vM ?mz ?qd ?kn ?mw
   (case dc=>walk_at "q")
   (case eV=>walk_at "q")
   (case cr=>walk_at "q")
   (case dR=>walk_at "q")
   (case cQ=>walk_at "q")
   (case cL=>walk_at "q")
   (case cO=>walk_at "q")
   (case cY=>walk_at "q")
   (case dL=>walk_at "q")
   (case bv=>walk_at "q")
   (case dO=>walk_at "q")
   (case gA=>walk_at "q")
   (case eS=>walk_at "q")
   (case gB=>walk_at "q")
   (case dM=>walk_at "q")
   (case dJ=>walk_at "q")
   (case cn=>walk_at "q")
   (case cN=>walk_at "q")
   (case dQ=>walk_at "q")
   (case fb=>walk_at "q")
   (case xg=>k_is)
   (case wa=>k_is)
   (case vR=>k_is)
   (case rV=>k_is)
   (case eN=>k_is)
   (case gl=>k_is)
   (case jZ=>k_is)
   (case gW=>k_is)
   (case kF=>k_is)
   (case jX=>k_is)
   (case iV=>k_is)
   (case nh=>k_is)
   (case kA=>k_is)
   (case jY=>k_is)
   (case bH=>kernel_rfl)
   (case bV=>kernel_rfl)
   (case cj=>kernel_rfl)
   (case bF=>kernel_rfl)
   (case bW=>kernel_rfl)
   (case bZ=>kernel_rfl)
   (case b7=>kernel_rfl)
   (case bM=>kernel_rfl)
   (case bY=>kernel_rfl)
   (case bp=>kernel_rfl)
   (case bx=>kernel_rfl)
   (case b0=>kernel_rfl)
   (case ik=>kernel_rfl)
   (case jD=>kernel_rfl)
   (case fv=>kernel_rfl)
   (case h9=>kernel_rfl)
   (case hV=>kernel_rfl)
   (case iu=>kernel_rfl)
   (case gu=>kernel_rfl)
   (case ip=>kernel_rfl)
   (case dH=>kernel_rfl)
   (case sm=>kernel_rfl)
   (case fj=>k_is)
   (case vk=>k_is)
   (case wE=>k_is)
   (case wn=>k_is)
   (case qD=>k_is)
   (case vZ=>k_is)
   (case ft=>k_is)
   (case wb=>k_is)
   (case qB=>k_is)
   (case wK=>k_is)
   (case vM=>k_is)
   (case mz=>k_is)
   (case qd=>k_is)
   (case kn=>k_is)
   (case mw=>k_is)
  obtain ⟨t,T⟩:=T
  have e0:=hmg.symm.trans T.B1
  cases e0
  exact ⟨_,T.AJ,fun base=>My.BO T⟩
 case S=>exact fun K H a ns hl hO hS=>My.tK hl hO hS
 case C=>exact fun _ _ _ _ h=>h
