import PyProof.Rows.All
import Wide.All
import OpenK.AllK
import Wide.FinOn
import Lean
import PyProof.EqAt
import PyProof.EqKinds
import PyProof.TupleCall
import PyProof.NeKinds
import PyProof.Rows.StrLen
import PyProof.AutoIntG2
import PyProof.FactsAll.int_6
import PyProof.Rows.BootFacts.P1
import PyProof.ReprRoads
import PyProof.ListRange
import PyProof.TupleOfSeq
import PyProof.EnumMake
import PyProof.StrWalks
import PyProof.Rows.Range3
import PyProof.Rows.SetFrom
import KE.KIntText
import PyProof.FString
import PyProof.StrCalls2
import PyProof.StrOps2
import PyProof.SliceStr2
import PyProof.StrBlockI
import PyProof.StrBlockL
import PyProof.StrLaws
import OpenK.KOwn
import KE.KTryMore
import PyProof.ExcAttrAll.ValueError
import PyProof.NsDelKeeps
import KE.KRevIter
import PyProof.DictRoadsH
import PyProof.ListMulRoad
import PyProof.ExcInit
import PyProof.InstStoreFacts
import PyProof.AssignAttr
import PySem.SetOps
import PyProof.SetScanFacts
import PyProof.TupleKey
import PyProof.SetKind
import PyProof.IsRules
import PyProof.FactsAll.set
import PyProof.CollectIter
import PyProof.CollectWalk
import PyProof.WalksMore
import PyProof.Rows.FactsT3
import PyProof.DictWalks
import KE.KDictList
import PySem.Challenge.RW_unlikeplace_k14_talks_known
noncomputable section
set_option Elab.async false
set_option linter.all false
set_option maxRecDepth 100000
namespace L2
open PySem PySem.Spec PyProof.Rows
noncomputable abbrev Key:=Sum Int Str
noncomputable def Ca:Key->Value->Bool
 |.inl k,v=>Value.isInt k v
 |.inr x,v=>Value.isStrOf x v
noncomputable def Fl(w:World):Key->Int
 |.inl k=>hashInt k
 |.inr x=>hashStr w x
theorem bK:∀ {k:Key} {v:Value},Ca k v=true->(∃i t,k=Sum.inl i/\v=Value.int i t)\/(∃x t,k=Sum.inr x/\v=Value.str x t)
 |.inl i,v,h=>by
  obtain⟨t,e⟩:=Value.isInt_shape (k:=i) (v:=v) h;exact .inl ⟨i,t,rfl,e⟩
 |.inr x,v,h=>by
  obtain⟨t,e⟩:=Value.isStrOf_shape (x:=x) (v:=v) h;exact .inr ⟨x,t,rfl,e⟩
theorem DA(a b:Int):decide ((Sum.inl a:Key)=Sum.inl b)=(a == b):=by
 by_cases e:a=b
 ·subst e;simp
 ·have h:¬ (Sum.inl a:Key)=Sum.inl b:=fun q=>e (Sum.inl.inj q)
  rw[decide_eq_false h];exact(beq_eq_false_iff_ne.mpr e).symm
theorem DC(a b:Str):decide ((Sum.inr a:Key)=Sum.inr b)=decide (a=b):=by
 by_cases e:a=b
 ·subst e;simp
 ·have h:¬ (Sum.inr a:Key)=Sum.inr b:=fun q=>e (Sum.inr.inj q)
  rw[decide_eq_false h,decide_eq_false e]
theorem C2(a:Int)(b:Str):decide ((Sum.inl a:Key)=Sum.inr b)=false:=decide_eq_false (fun q=>nomatch q)
theorem CA(a:Str)(b:Int):decide ((Sum.inr a:Key)=Sum.inl b)=false:=decide_eq_false (fun q=>nomatch q)
noncomputable def hX(prog:Program)(w:World):PySem.KeyKind prog w Key where
 is:=Ca
 hash:=Fl w
 inj:=fun v a b ha hb=>by
  rcases bK ha with⟨i,t,rfl,rfl⟩|⟨x,t,rfl,rfl⟩
  ·rcases bK hb with⟨j,u,rfl,e⟩|⟨y,u,rfl,e⟩
   ·injection e with e1 _;rw[e1]
   ·exact nomatch e
  ·rcases bK hb with⟨j,u,rfl,e⟩|⟨y,u,rfl,e⟩
   ·exact nomatch e
   ·injection e with e1 _;rw[e1]
 byValue:=fun k v h=>by
  rcases bK h with⟨i,t,rfl,rfl⟩|⟨x,t,rfl,rfl⟩<;>rfl
 pyHash:=fun hv h=>by
  rcases bK hv with⟨i,t,rfl,rfl⟩|⟨x,t,rfl,rfl⟩
  ·exact wpAny_pyHash_int h
  ·exact wpAny_pyHash_str h
 eqBool:=fun hu hv h=>by
  rcases bK hu with⟨i,t,rfl,rfl⟩|⟨x,t,rfl,rfl⟩
  ·rcases bK hv with⟨j,u,rfl,rfl⟩|⟨y,u,rfl,rfl⟩
   ·rw[DA] at h;exact wpAny_eqBool_int h
   ·rw[C2] at h;exact SeqAt.EqAt.int_str i t y u _ _ _ _ h
  ·rcases bK hv with⟨j,u,rfl,rfl⟩|⟨y,u,rfl,rfl⟩
   ·rw[CA] at h;exact SeqAt.EqAt.str_int x t j u _ _ _ _ h
   ·rw[DC] at h;exact wpAny_eqBool_str h
 «strs»:=fun k x t v h=>by
  rcases bK h with⟨i,u,rfl,e⟩|⟨y,u,rfl,e⟩
  ·exact nomatch e
  ·injection e with e1 _
   subst e1;cases v<;>rfl
inductive V where
 |non|bl (b:Bool)|int (i:Int)|str (x:Str)|byt (b:Array UInt8)|flt (b:UInt64)|ref (a:Addr)|ty (n:String)
 deriving DecidableEq
noncomputable def br:V->Value->Prop
 |.non,u=>u=Value.none
 |.bl b,u=>u=Value.bool b
 |.int i,u=>∃t,u=Value.int i t
 |.str x,u=>∃t,u=Value.str x t
 |.byt b,u=>∃t,u=Value.bytes b t
 |.flt b,u=>∃t,u=Value.float b t
 |.ref a,u=>u=Value.ref a
 |.ty n,u=>u=Value.type n
noncomputable abbrev aQ:List V->List Value->Prop:=Paired br
theorem aQ.length{xs:List V}{us:List Value}(r:aQ xs us):xs.length=us.length:=Paired.length r
theorem aQ.get:∀ {xs:List V} {us:List Value} {i:Nat} {x:V},aQ xs us->xs[i]?=some x->∃u,us[i]?=some u/\br x u
 |_,_,_,_,.nil,e=>by simp at e
 |_,_,0,_,.cons r _,e=>by simp at e;subst e;exact⟨_,rfl,r⟩
 |_,_,i+1,x,.cons _ t,e=>by
  obtain⟨u,h1,h2⟩:=aQ.get (i:=i) (x:=x) t (by simpa using e)
  exact⟨u,by simpa using h1,h2⟩
theorem aQ.set{x:V}{u:Value}(r:br x u):∀ {xs:List V} {us:List Value} (i:Nat),aQ xs us->aQ (xs.set i x) (us.set i u)
 |_,_,_,.nil=>.nil
 |_,_,0,.cons _ t=>.cons r t
 |_,_,i+1,.cons q t=>.cons q (aQ.set r i t)
theorem aQ.append:∀ {xs ys:List V} {us ws:List Value},aQ xs us->aQ ys ws->aQ (xs++ys) (us++ws)
 |_,_,_,_,.nil,s=>s
 |_,_,_,_,.cons r t,s=>.cons r (aQ.append t s)
theorem aQ.take:∀ {xs:List V} {us:List Value} (n:Nat),aQ xs us->aQ (xs.take n) (us.take n)
 |_,_,0,_=>.nil
 |_,_,_+1,.nil=>.nil
 |_,_,n+1,.cons r t=>.cons r (aQ.take n t)
theorem aQ.drop:∀ {xs:List V} {us:List Value} (n:Nat),aQ xs us->aQ (xs.drop n) (us.drop n)
 |_,_,0,r=>r
 |_,_,_+1,.nil=>.nil
 |_,_,n+1,.cons _ t=>aQ.drop n t
noncomputable def DH:Option V->Option Value->Prop
 |some v,some u=>br v u
 |none,none=>True
 |_,_=>False
noncomputable def KV{κ:Type}:List (κ×V)->List (κ×Value)->Prop:=Paired fun(p:κ×V) (q:κ×Value)=>p.1=q.1/\br p.2 q.2
noncomputable def kV:Key->V
 |.inl i=>.int i
 |.inr x=>.str x
inductive HO where
 |lst (xs:List V)
 |tup (xs:List V)
 |dK (kvs:List (Key×V))|dT (kvs:List (List Key×V))
 |set (S:Int->Bool) (n:Nat)
 |ins (C dx:Addr) (fs:List (Str×V))
 |own (x:Addr)
 |xd (fs:List (Str×V))
 |met (f x:Addr)
 |rng (lo hi:Int)
 |frz (o:Obj) (u:HO)
 |tbl (ps:Array Value)
 |ext (φ:Heap->Prop)
noncomputable abbrev Hp:=Addr->Option HO
noncomputable def upd(H:Hp)(a:Addr)(o:HO):Hp:=fun b=>if b=a then some o else H b
theorem di{H:Hp}{a:Addr}{o:HO}:upd H a o a=some o:=by unfold upd;rw[if_pos rfl]
theorem aS{H:Hp}{a b:Addr}{o:HO}(h:b≠a):upd H a o b=H b:=by unfold upd;rw[if_neg h]
theorem bj{H:Hp}{a b:Addr}{o:HO}(h:H a=some o)(h':H b=none):a≠b:=by
 intro e;subst e;rw[h] at h';cases h'
noncomputable def pC(h:Heap)(a:Addr)(items:Array Value):Prop:=IsTup h a items/\∃o,h.get? a=some o/\o.dict=none
theorem pC.lt{h:Heap}{a:Addr}{items:Array Value}(x:pC h a items):a<h.objs.size:=x.1.lt
theorem pC.new(h:Heap)(items:Array Value):pC (h.push { cls:=.type "tuple",data:=.seq items }) h.objs.size items:=⟨IsTup.new h items,_,Heap.get?_push_size _ rfl,rfl⟩
noncomputable def vj(H:Hp)(a:Addr)(ps qs:Array Value):Prop:=TriplesOk qs.toList/\∀(pos:Pos)(cv:Value),codeAmong pos qs.toList=some cv ->
 ∃(c:Addr)(o:Obj)(vs:Array Value)(t:Tok)(q:Str),cv=.ref c/\H c=some (.frz o (.own a))/\o.data=.fields vs/\vs[1]?=some (.str q t)/\ps[0]?=some (.str q 0)
theorem vj.mono{H H':Hp}{a:Addr}{ps qs:Array Value}(x:vj H a ps qs)(k:∀b o u,H b=some (.frz o u)->H' b=some (.frz o u)):vj H' a ps qs:=
 ⟨x.1,fun pos cv e=>let ⟨c,o,vs,t,q,e1,e2,r⟩:=x.2 pos cv e;⟨c,o,vs,t,q,e1,k _ _ _ e2,r⟩⟩
section
variable(P:Program)(w:World)
noncomputable def cI(H:Hp)(h:Heap)(a:Addr):HO->Prop
 |.lst xs=>xs.length<=sizeLine/\∃(its:List Value)(n:Nat),aQ xs its/\h.get? a=some { cls:=.type "list",data:=.seq its.toArray n }
 |.tup xs=>xs.length<=sizeLine/\∃its:List Value,aQ xs its/\pC h a its.toArray
 |.dK kvs=>kvs.length<=sizeLine/\(a == sysModules)=false/\∃vs,KV kvs vs/\h.DictOf (hX P w) a vs
 |.dT kvs=>kvs.length<=sizeLine/\(a == sysModules)=false/\∃xs:List (List Key×Addr×Value),
   Paired (fun(p:List Key×V) (q:List Key×Addr×Value)=>p.1=q.1/\H q.2.1=some (.tup (p.1.map kV))/\br p.2 q.2.2) kvs xs /\
   ∃o es ep,h.get? a=some o/\o.ExactDict/\o.data=.dict es ep/\es.toList=xs.map (entryOfKey (tupleKind (hX P w)))/\(xs.map (·.1)).Nodup
 |.set S n=>h.SetOf (intKind P w) a S n
 |.ins C dx fs=>H dx=some (.own a)/\fs.length<=1000/\dx≠a/\h.get? a=some (W.instObj C dx) /\
   ∃mA,h.Ns1 dx mA/\(∀f,DH (fs.lookup f) (mA f))/\PySem.Within mA (fs.map (·.1))
 |.own _=>∃o,h.get? a=some o
 |.xd fs=>∃mA,h.Ns1 a mA/\∀f,DH (fs.lookup f) (mA f)
 |.rng lo hi=>∃t u v,h.get? a=some { cls:=.type "range",data:=.fields #[.int lo t,.int hi u,.int 1 v] }
 |.frz o u=>h.get? a=some o/\cI H h a u
 |.tbl ps=>∃qs:Array Value,h.get? a=some { cls:=.none,data:=.fields qs }/\vj H a ps qs
 |.met f x=>h.get? a=some (W.methodObj (.ref f) (.ref x))
 |.ext φ=>φ h/\(∃o,h.get? a=some o)/\∀h1 h2:Heap,φ h1->(∀o,h1.get? a=some o->h2.get? a=some o)->φ h2
noncomputable def HOk(H:Hp)(h:Heap):Prop:=∀a o,H a=some o->cI P w H h a o
end
section
variable{P:Program}{w:World}{H H':Hp}{h h':Heap}{a:Addr}{o:HO}
theorem cI.lt(x:cI P w H h a o):a<h.objs.size:=by
 cases o with
 |lst xs=>obtain⟨_,_,_,_,e⟩:=x;exact Heap.lt_size e
 |tup xs=>obtain⟨_,_,_,p⟩:=x;exact p.lt
 |dK kvs=>obtain⟨_,_,_,_,o,_,_,e,_⟩:=x;exact Heap.lt_size e
 |dT kvs=>obtain⟨_,_,_,_,o,_,_,e,_⟩:=x;exact Heap.lt_size e
 |set S n=>obtain⟨o,_,_,_,e,_⟩:=x;exact Heap.lt_size e
 |ins C dx fs=>obtain⟨_,_,_,e,_⟩:=x;exact Heap.lt_size e
 |own y=>obtain⟨_,e⟩:=x;exact Heap.lt_size e
 |xd fs=>obtain⟨_,⟨_,_,_,e,_⟩,_⟩:=x;exact Heap.lt_size e
 |rng lo hi=>obtain⟨_,_,_,e⟩:=x;exact Heap.lt_size e
 |frz ob u=>obtain⟨e,_⟩:=x;exact Heap.lt_size e
 |tbl ps=>obtain⟨qs,e,_⟩:=x;exact Heap.lt_size e
 |met f y=>exact Heap.lt_size (show h.get? a=some _ from x)
 |ext φ=>obtain⟨_,⟨_,e⟩,_⟩:=x;exact Heap.lt_size e
theorem Paired.Gb{α β:Type}{F G:α->β->Prop}:∀ {l₁:List α} {l₂:List β},Paired F l₁ l₂->(∀a b,F a b->G a b)->Paired G l₁ l₂
 |_,_,.nil,_=>.nil
 |_,_,.cons r t,f=>.cons (f _ _ r) (Paired.Gb t f)
theorem cI.stay(x:cI P w H h a o)(k:∀b u,(b=a\/H b=some (.own a))->h.get? b=some u->h'.get? b=some u)(ho:∀b,H b=some (.own a)->H' b=some (.own a))(ht:∀b xs,H b=some (.tup xs)->H' b=some (.tup xs))(hf:∀b o u,H b=some (.frz o u)->H' b=some (.frz o u)):cI P w H' h' a o:=by
 induction o with
 |lst xs=>obtain⟨z,its,n,r,e⟩:=x;exact⟨z,its,n,r,k _ _ (.inl rfl) e⟩
 |tup xs=>obtain⟨z,its,r,⟨ob,e,c⟩,ob',e',c'⟩:=x;exact⟨z,its,r,⟨ob,k _ _ (.inl rfl) e,c⟩,ob',k _ _ (.inl rfl) e',c'⟩
 |dK kvs=>obtain⟨z,y,vs,r,ob,es,ep,e,c⟩:=x;exact⟨z,y,vs,r,ob,es,ep,k _ _ (.inl rfl) e,c⟩
 |dT kvs=>
  obtain⟨z,y,xs,r,ob,es,ep,e,c⟩:=x;exact⟨z,y,xs,Paired.Gb r fun p q z=>⟨z.1,ht _ _ z.2.1,z.2.2⟩,ob,es,ep,k _ _ (.inl rfl) e,c⟩
 |set S n=>obtain⟨ob,es,ep,t,e,c⟩:=x;exact⟨ob,es,ep,t,k _ _ (.inl rfl) e,c⟩
 |ins C dx fs=>
  obtain⟨d,z,ne,e,mA,⟨od,es,ep,e2,c⟩,r⟩:=x;exact⟨ho _ d,z,ne,k _ _ (.inl rfl) e,mA,⟨od,es,ep,k _ _ (.inr d) e2,c⟩,r⟩
 |own y=>obtain⟨ob,e⟩:=x;exact⟨ob,k _ _ (.inl rfl) e⟩
 |xd fs=>obtain⟨mA,⟨od,es,ep,e,c⟩,r⟩:=x;exact⟨mA,⟨od,es,ep,k _ _ (.inl rfl) e,c⟩,r⟩
 |rng lo hi=>obtain⟨t,u,v,e⟩:=x;exact⟨t,u,v,k _ _ (.inl rfl) e⟩
 |frz ob u ih=>obtain⟨e,q⟩:=x;exact⟨k _ _ (.inl rfl) e,ih q⟩
 |tbl ps=>obtain⟨qs,e,z⟩:=x;exact⟨qs,k a _ (.inl rfl) e,z.mono hf⟩
 |met f y=>
  have e:h.get? a=some (W.methodObj (.ref f) (.ref y)):=x;show h'.get? a=some (W.methodObj (.ref f) (.ref y));exact k a _ (.inl rfl) e
 |ext φ=>obtain⟨p,⟨o,e⟩,st⟩:=x;exact⟨st _ _ p fun o q=>k _ _ (.inl rfl) q,⟨o,k _ _ (.inl rfl) e⟩,st⟩
theorem HOk.lt(x:HOk P w H h)(e:H a=some o):a<h.objs.size:=(x a o e).lt
theorem HOk.fresh(x:HOk P w H h)(e:h.objs.size<=a):H a=none:=by
 cases q:H a with
 |none=>rfl
 |some u=>exact absurd (Nat.lt_of_lt_of_le (x.lt q) e) (Nat.lt_irrefl _)
theorem HOk.kept(x:HOk P w H h)(k:∀b u,h.get? b=some u->h'.get? b=some u):HOk P w H h':=fun a o e=>
 (x a o e).stay (fun b u _ q=>k b u q) (fun _ q=>q) (fun _ _ q=>q) fun _ _ _ q=>q
theorem HOk.laid(x:HOk P w H h)(k:∀b u,h.get? b=some u->h'.get? b=some u)(hp:h.objs.size<=a)(new:cI P w (upd H a o) h' a o):HOk P w (upd H a o) h':=fun b u e=>by
 have hn:=x.fresh hp;by_cases hb:b=a
 ·subst hb;rw[di] at e;cases e;exact new
 ·rw[aS hb] at e
  exact(x b u e).stay (fun c v _ q=>k c v q) (fun c q=>by rw[aS (bj q hn)];exact q) (fun c xs q=>by rw[aS (bj q hn)];exact q) fun c o' u' q=>by rw[aS (bj q hn)];exact q
end
noncomputable def Rd(H:Hp)(a:Addr)(u:HO):Prop:=H a=some u\/∃o,H a=some (.frz o u)
theorem Rd.ok{P:Program}{w:World}{H:Hp}{h:Heap}{a:Addr}{u:HO}(r:Rd H a u)(x:HOk P w H h):cI P w H h a u:=by
 rcases r with r|⟨o,r⟩
 ·exact x a u r
 ·obtain⟨_,q⟩:=x a _ r
  exact q
noncomputable def Mut:Option HO->Prop
 |some (.lst _)=>True
 |some (.dK _)=>True
 |some (.dT _)=>True
 |some (.set _ _)=>True
 |some (.ins _ _ _)=>True
 |some (.ext _)=>True
 |_=>False
section
variable{P:Program}{w:World}{H:Hp}{h h':Heap}{x e:Addr}{o':HO}
theorem HOk.write(ok:HOk P w H h)(mu:Mut (H x))(he:e=x\/H e=some (.own x))(k:∀b u,b≠e->h.get? b=some u->h'.get? b=some u)(heo:∃u,h'.get? e=some u)(new:cI P w (upd H x o') h' x o'):HOk P w (upd H x o') h':=fun b u q=>by
 have nown:∀c y,H c=some (.own y)->c≠x:=fun c y r z=>by subst z;rw[r] at mu;exact mu
 have ntup:∀c xs,H c=some (.tup xs)->c≠x:=fun c xs r z=>by subst z;rw[r] at mu;exact mu
 by_cases hb:b=x
 ·subst hb;rw[di] at q;cases q;exact new
 ·rw[aS hb] at q
  by_cases hbe:b=e
  ·have q':H b=some (.own x):=by
    rcases he with z|z
    ·exact absurd (hbe.trans z) hb
    ·rw[hbe];exact z
   rw[q] at q';cases q';obtain⟨v,hv⟩:=heo;exact⟨v,by rw[hbe];exact hv⟩
  ·refine(ok b u q).stay (fun c v hc r=>k c v ?_ r) (fun c r=>by rw[aS (nown c b r)];exact r) (fun c xs r=>by rw[aS (ntup c xs r)];exact r) fun c o' u' r=>by rw[aS (fun z=>by subst z;rw[r] at mu;exact mu)];exact r
   rcases hc with rfl|hc
   ·exact hbe
   ·rintro rfl
    rcases he with z|z
    ·exact nown c b hc z
    ·rw[hc] at z;cases z;exact hb rfl
end
structure Un(fs ex:List Addr)(H H':Hp)(h h':Heap):Prop where
 keep:∀b o,h.get? b=some o->H b=none->b ∉ fs->b ∉ ex->h'.get? b=some o
 slot:∀b o,h.get? b=some o->H b=none->b∈fs->b ∉ ex->∃sl,h'.get? b=some { o with slots:=sl }
 free:∀b o,h.get? b=some o->H b=none->b ∉ ex->H' b=none
 there:∀b o,h.get? b=some o->b ∉ ex->∃o',h'.get? b=some o'
 tups:∀b xs,H b=some (.tup xs)->H' b=some (.tup xs)
 frzs:∀b o u,H b=some (.frz o u)->H' b=some (.frz o u)
 tbls:∀b ps,H b=some (.tbl ps)->∃more,H' b=some (.tbl (ps++more))
section
variable{fs fs' ex ex':List Addr}{H H1 H2:Hp}{h h1 h2 h':Heap}{a x e:Addr}{o:HO}
theorem Un.any(u:Un fs ex H H1 h h1){b:Addr}{ob:Obj}(q:h.get? b=some ob)(n:H b=none)(hx:b ∉ ex):∃sl,h1.get? b=some { ob with slots:=sl }:=by
 by_cases hb:b∈fs
 ·exact u.slot b ob q n hb hx
 ·exact⟨ob.slots,u.keep b ob q n hb hx⟩
theorem Un.kept(k:∀b u,h.get? b=some u->h'.get? b=some u):Un fs ex H H h h':=
 ⟨fun b ob q _ _ _=>k b ob q,fun b ob q _ _ _=>⟨ob.slots,k b ob q⟩,fun _ _ _ n _=>n,fun b ob q _=>⟨ob,k b ob q⟩,fun _ _ q=>q,fun _ _ _ q=>q,fun _ ps q=>⟨#[],by rw[q];simp⟩⟩
theorem Un.refl:Un fs ex H H h h:=Un.kept fun _ _ q=>q
theorem Un.laid(k:∀b u,h.get? b=some u->h'.get? b=some u)(hp:h.objs.size<=a)(hn:H a=none):Un fs ex H (upd H a o) h h' where
 keep:=fun b u q _ _ _=>k b u q
 slot:=fun b u q _ _ _=>⟨u.slots,k b u q⟩
 free:=fun b u q n _=>by rw[aS (Nat.ne_of_lt (Nat.lt_of_lt_of_le (Heap.lt_size q) hp))];exact n
 there:=fun b u q _=>⟨u,k b u q⟩
 tups:=fun b xs q=>by rw[aS (bj q hn)];exact q
 frzs:=fun b u xs q=>by rw[aS (bj q hn)];exact q
 tbls:=fun b ps q=>⟨#[],by rw[aS (bj q hn),q];simp⟩
theorem Un.write(mu:Mut (H x))(he:e=x\/H e=some (.own x))(k:∀b u,b≠e->h.get? b=some u->h'.get? b=some u)(heo:∃u,h'.get? e=some u):Un fs ex H (upd H x o) h h':=by
 have hx:∀b,H b=none->b≠x:=fun b n z=>by subst z;rw[n] at mu;exact mu
 have hb:∀b,H b=none->b≠e:=fun b n z=>by
  subst z;rcases he with r|r
  ·exact hx b n r
  ·rw[n] at r;cases r
 have hm:∀b u,H b=some u->¬ Mut (some u)->b≠x:=fun b u q nm z=>by subst z;rw[q] at mu;exact nm mu
 refine⟨fun b u q n _ _=>k b u (hb b n) q,fun b u q n _ _=>⟨u.slots,k b u (hb b n) q⟩,fun b u q n _=>by rw[aS (hx b n)];exact n,fun b u q _=>?_,
  fun b xs q=>by rw[aS (hm b _ q fun z=>z)];exact q,fun b u xs q=>by rw[aS (hm b _ q fun z=>z)];exact q,fun b ps q=>⟨#[],by rw[aS (hm b _ q fun z=>z),q];simp⟩⟩
 by_cases hbe:b=e
 ·subst hbe;exact heo
 ·exact⟨u,k b u hbe q⟩
end
noncomputable def trk(h:Heap)(H:Hp):List Addr:=(List.range h.objs.size).filter fun a=>(H a).isSome
noncomputable def pU(h:Heap)(H:Hp):Heap:=W.hideAll h (trk h H)
theorem wJ(h:Heap)(H:Hp):(pU h H).objs.size=h.objs.size:=W.hideAll_size _ _
theorem yI{h:Heap}{H:Hp}{b:Addr}{o:Obj}(e:h.get? b=some o)(n:H b=none):(pU h H).get? b=some o:=
 W.hideAll_get _ e fun hm=>by
  have q:(H b).isSome=true:=(List.mem_filter.mp hm).2;rw[n] at q;simp at q
theorem Bn{h:Heap}{H:Hp}{b:Addr}{o:Obj}(e:(pU h H).get? b=some o):h.get? b=some o/\H b=none:=by
 have e':h.get? b=some o:=W.of_hideAll (trk h H) e;refine⟨e',?_⟩
 cases q:H b with
 |none=>rfl
 |some x=>
  have hm:b∈trk h H:=List.mem_filter.mpr ⟨List.mem_range.mpr (Heap.lt_size e'),by simp[q]⟩
  have z:(pU h H).get? b=none:=W.hideAll_none (trk h H) hm;rw[z] at e;cases e
noncomputable def AK(g h:Heap)(L:Addr):List (Addr×Obj):=(List.range h.objs.size).filterMap fun a=>if a=L\/(g.get? a).isSome=true then none else (h.get? a).map fun o=>(a,o)
noncomputable def bi(g h:Heap)(L d:Addr):List (Addr×Obj):=(AK g h L).filter fun p=>decide (p.1≠d)
noncomputable def kX(K:W.Frag):List (Str×Addr×Addr):=match K.lookup mainGlobals with
 |some ⟨_,_,.dict es _,_⟩=>es.toList.filterMap fun e=>match e.key with
  |.str x _=>(W.tabIn K x).map fun q=>(x,q)
  |_=>none
 |_=>[]
noncomputable def wK(K:W.Frag)(H:Hp):Prop:=∀q∈kX K,∃ps,H q.2.2=some (.tbl ps)/\ps[0]?=some (.str (q.1 ++ ".<locals>." ++ "<lambda>") 0)
theorem wK.mono{K:W.Frag}{H H':Hp}(x:wK K H)(k:∀b ps,H b=some (.tbl ps)->∃more,H' b=some (.tbl (ps++more))):wK K H':=fun q hq=>by
 obtain⟨ps,e,z⟩:=x q hq;obtain⟨more,e'⟩:=k _ _ e;refine⟨_,e',?_⟩
 have hz:0<ps.size:=by
  rcases Nat.eq_zero_or_pos ps.size with h|h
  ·rw[Array.getElem?_eq_none (by omega)] at z;cases z
  ·exact h
 rw[Array.getElem?_append_left hz];exact z
structure Mod(K:W.Frag)(mg:Str->Option Value)(base:Heap):Prop where
 kin:K.In base
 glob:base.Ns mainGlobals mg
 blt:∃mb,base.Ns builtinsNs mb/\∀x:Str,x≠"__name__"->mb x=bootBuiltins x
 nolimit:base.NoLimit
 bm:∃bm ob,mg "__builtins__"=some (.ref bm)/\bm≠builtinsNs/\base.get? bm=some ob/\ob.cls=.type "module"/\ob.dict=some builtinsNs/\ob.data=.plain
structure Cx where
 prog:Program
 w:World
 K:W.Frag
 mg:Str->Option Value
 base:Heap
 A:Around
 N:List Str
 s₀:Shared
 H₀:Hp
 env:Env
 outer:List Env
 stack:List Env
 ex:List Addr
 fn:Str->Bool
 calm:Bool
 pn:List (Addr×Obj)
 xe:Value->Shared->Prop
noncomputable def frs(l:List Env):List Addr:=l.filterMap (·.frame)
noncomputable abbrev Cx.fs(X:Cx):List Addr:=frs X.outer
noncomputable def Vis(sc:Scope)(x:Str):Prop:=sc.names.lookup x=some .local\/sc.names.lookup x=some .cell\/sc.names.lookup x=some .free
noncomputable def Loc(sc:Scope)(x:Str):Prop:=sc.names.lookup x=some .local\/sc.names.lookup x=some .cell
noncomputable def Fp(env:Env)(h:Heap)(m:Str->Option Value)(x:Str)(u:Value):Prop:=
 (env.kindOf x=some .local/\m x=some u)\/((env.kindOf x=some .cell\/env.kindOf x=some .free)/\∃c,env.cells.lookup x=some c/\h.IsCell c (some u))
structure Cx.Ok(X:Cx):Prop where
 mod:Mod X.K X.mg X.base
 kind:X.env.scope.kind=.function
 glob:X.env.globals=mainGlobals
 blt:X.env.builtins=builtinsNs
 above:X.s₀.heap.objs.size<=X.env.locals
 inj:∀x y c,X.env.cells.lookup x=some c->X.env.cells.lookup y=some c->x=y
 has:∀x,(X.env.kindOf x=some .cell\/X.env.kindOf x=some .free)->∃c,X.env.cells.lookup x=some c
 cab:∀x c,X.fn x=true->X.env.cells.lookup x=some c->X.s₀.heap.objs.size<=c
 hd:X.calm=true->X.A.handled=none
 frames:X.A.frames=some X.stack
 stk:X.stack=X.outer\/(X.stack=X.env::X.outer/\X.env.frame=some X.env.locals)
 exf:∀b∈X.ex,b≠X.env.locals/\∀x c,X.env.cells.lookup x=some c->c≠b
 bs:∀b o,X.base.get? b=some o->X.s₀.heap.get? b=some o/\X.H₀ b=none
 bsz:X.base.objs.size<=X.s₀.heap.objs.size
 noex:∀b o,X.base.get? b=some o->b ∉ X.ex
 exfs:∀b∈X.ex,b ∉ X.fs
 funs:X.s₀.heap.FunFrames X.base X.outer
 frf:∀b∈X.fs,X.H₀ b=none
 tt:wK X.K X.H₀
structure Inv(X:Cx)(pins:List (Addr×Obj))(σ:List (Option V))(H:Hp)(s:Shared):Prop where
 ok:X.Ok
 os:s.os=X.s₀.os
 bare:AllBare s.gens
 base:Un X.fs X.ex X.H₀ H X.s₀.heap s.heap
 loc:∃m,s.heap.Ns X.env.locals m/\∀(i:Nat)(x:Str)(v:V),X.N[i]?=some x->σ[i]?=some (some v)->Vis X.env.scope x->∃u,br v u/\Fp X.env s.heap m x u
 cell:∀x c,X.env.cells.lookup x=some c->∃v,s.heap.IsCell c v
 free:H X.env.locals=none
 freeC:∀x c,X.env.cells.lookup x=some c->H c=none
 pin:∀p∈X.pn++pins,s.heap.get? p.1=some p.2/\H p.1=none/\p.1≠X.env.locals/\p.1 ∉ X.fs/\∀v,p.2.data≠.cell v
 hok:HOk X.prog X.w H s.heap
 len:σ.length=X.N.length
section
variable{X:Cx}{pins:List (Addr×Obj)}{σ:List (Option V)}{H H':Hp}{s:Shared}{h':Heap}
theorem Cx.Ok.nofr(ok:X.Ok){b:Addr}{o:Obj}(e:X.base.get? b=some o):b ∉ X.fs:=fun hb=>by
 have:=(ok.funs.mem hb).1;rw[e] at this;cases this
theorem Inv.bs(I:Inv X pins σ H s):∀b o,X.base.get? b=some o->s.heap.get? b=some o/\H b=none:=fun b o e=>
 ⟨I.base.keep b o (I.ok.bs b o e).1 (I.ok.bs b o e).2 (I.ok.nofr e) (I.ok.noex b o e),I.base.free b o (I.ok.bs b o e).1 (I.ok.bs b o e).2 (I.ok.noex b o e)⟩
theorem Inv.bk(I:Inv X pins σ H s):∀b o,X.base.get? b=some o->s.heap.get? b=some o:=fun b o e=>(I.bs b o e).1
theorem Inv.mod(I:Inv X pins σ H s):Mod X.K X.mg X.base:=I.ok.mod
theorem Inv.kIn(I:Inv X pins σ H s):X.K.In s.heap:=I.ok.mod.kin.keeps I.bk
theorem Inv.lt(I:Inv X pins σ H s):X.env.locals<s.heap.objs.size:=let ⟨_,hn,_⟩:=I.loc;hn.lt
theorem Inv.sz(I:Inv X pins σ H s):X.s₀.heap.objs.size<=s.heap.objs.size:=Nat.le_trans I.ok.above (Nat.le_of_lt I.lt)
theorem Inv.nofs(I:Inv X pins σ H s){a:Addr}(h:s.heap.objs.size<=a):a ∉ X.fs:=fun hb=>by
 obtain⟨_,o,ho,_⟩:=I.ok.funs.mem hb;exact absurd (Nat.lt_of_lt_of_le (Heap.lt_size ho) (Nat.le_trans I.sz h)) (Nat.lt_irrefl _)
theorem Inv.cne(I:Inv X pins σ H s):∀x c,X.env.cells.lookup x=some c->c≠X.env.locals:=fun x c e z=>by
 obtain⟨v,o,ho,hd⟩:=I.cell x c e;obtain⟨m,⟨o',es,ep,ho',hd',_⟩,_⟩:=I.loc;rw[z,ho'] at ho;cases ho;rw[hd'] at hd;cases hd
theorem Inv.funs(I:Inv X pins σ H s):s.heap.FunFrames X.base X.outer:=by
 have all:∀(l:List Env),(∀b∈frs l,b∈X.fs)->X.s₀.heap.FunFrames X.base l->s.heap.FunFrames X.base l:=by
  intro l
  induction l with
  |nil=>intro _ _;trivial
  |cons env r ih=>
   intro hs hl;obtain⟨hk,⟨L,o,hf,hn,ho,hd⟩,hr⟩:=hl;have hL:L∈X.fs:=hs L (by unfold frs;rw[List.filterMap_cons,hf];exact List.mem_cons_self)
   obtain⟨sl,e⟩:=I.base.slot L o ho (I.ok.frf L hL) hL fun z=>I.ok.exfs L z hL;exact⟨hk,⟨L,_,hf,hn,e,hd⟩,ih (fun b hb=>hs b (by unfold frs;rw[List.filterMap_cons,hf];exact List.mem_cons_of_mem _ hb)) hr⟩
 exact all X.outer (fun _ hb=>hb) I.ok.funs
theorem Inv.stack(I:Inv X pins σ H s):s.heap.FunFrames X.base X.stack:=by
 rcases I.ok.stk with e|⟨e,hf⟩
 ·rw[e];exact I.funs
 ·rw[e]
  obtain⟨m,hn,_⟩:=I.loc;refine .cons (by rw[I.ok.kind];decide) hf hn ?_ I.funs
  exact Heap.get?_none_of_le (Nat.le_trans I.ok.bsz I.ok.above)
theorem Inv.F0(I:Inv X pins σ H s):∀b∈frs X.stack,b∈X.env.locals::X.fs:=fun b hb=>by
 rcases I.ok.stk with e|⟨e,hf⟩
 ·rw[e] at hb;exact List.mem_cons_of_mem _ hb
 ·rw[e] at hb
  unfold frs at hb;rw[List.filterMap_cons,hf] at hb;exact hb
theorem Inv.F3(I:Inv X pins σ H s):∀b∈frs X.stack,H b=none:=fun b hb=>by
 rcases List.mem_cons.mp (I.F0 b hb) with e|hb
 ·rw[e];exact I.free
 ·obtain⟨_,o,ho,_⟩:=I.ok.funs.mem hb
  exact I.base.free b o ho (I.ok.frf b hb) fun z=>I.ok.exfs b z hb
theorem Inv.step{g':Array GenState}{t':Nat}{d':Drawn}{ch:List Addr}(I:Inv X pins σ H s)(hch:∀b∈ch,(b∈X.ex\/X.s₀.heap.objs.size<=b)/\b≠X.env.locals/\(∀x c,X.env.cells.lookup x=some c->c≠b)/\∀p∈X.pn++pins,p.1≠b)(keep:∀b o,b≠X.env.locals->b ∉ X.fs->b ∉ ch->s.heap.get? b=some o->H b=none->h'.get? b=some o)(slot:∀b o,b≠X.env.locals->b∈X.fs->b ∉ ch->s.heap.get? b=some o->H b=none->∃sl,h'.get? b=some { o with slots:=sl })(free:∀b o,b ∉ ch->s.heap.get? b=some o->H b=none->H' b=none)(there:∀b o,b ∉ ch->s.heap.get? b=some o->∃o',h'.get? b=some o')(tups:∀b xs,H b=some (.tup xs)->H' b=some (.tup xs))(frzs:∀b o u,H b=some (.frz o u)->H' b=some (.frz o u))(tbls:∀b ps,H b=some (.tbl ps)->∃more,H' b=some (.tbl (ps++more)))(ns:∀m,s.heap.Ns X.env.locals m->h'.Ns X.env.locals m)(hok:HOk X.prog X.w H' h')(hg:AllBare g'):
  Inv X pins σ H' { s with heap:=h',gens:=g',drawn:=d',toks:=t' }:=by
 have neL:∀b o,X.s₀.heap.get? b=some o->b≠X.env.locals:=fun b o e=>Nat.ne_of_lt (Nat.lt_of_lt_of_le (Heap.lt_size e) I.ok.above)
 have neC:∀b o,X.s₀.heap.get? b=some o->b ∉ X.ex->b ∉ ch:=fun b o e hx hb=>by
  rcases(hch b hb).1 with z|z
  ·exact hx z
  ·exact absurd (Nat.lt_of_lt_of_le (Heap.lt_size e) z) (Nat.lt_irrefl _)
 have cellK:∀x c,X.env.cells.lookup x=some c->∀v,s.heap.IsCell c v->h'.IsCell c v:=fun x c e v ⟨o,ho,hd⟩=>by
  have nch:c ∉ ch:=fun z=>(hch c z).2.2.1 x c e rfl;by_cases hc:c∈X.fs
  ·obtain⟨sl,q⟩:=slot c o (I.cne x c e) hc nch ho (I.freeC x c e)
   exact⟨_,q,hd⟩
  ·exact⟨o,keep c o (I.cne x c e) hc nch ho (I.freeC x c e),hd⟩
 refine⟨I.ok,I.os,hg,⟨fun b o e n hb hx=>?_,fun b o e n hb hx=>?_,fun b o e n hx=>?_,fun b o e hx=>?_,fun b xs e=>tups b xs (I.base.tups b xs e),fun b o xs e=>frzs b o xs (I.base.frzs b o xs e),fun b ps e=>?_⟩,?_,fun x c e=>?_,?_,fun x c e=>?_,fun p hp=>?_,hok,I.len⟩
 ·exact keep b o (neL b o e) hb (neC b o e hx) (I.base.keep b o e n hb hx) (I.base.free b o e n hx)
 ·obtain⟨sl,e1⟩:=I.base.slot b o e n hb hx
  obtain⟨sl',e2⟩:=slot b _ (neL b o e) hb (neC b o e hx) e1 (I.base.free b o e n hx);exact⟨sl',e2⟩
 ·obtain⟨o',e1⟩:=I.base.there b o e hx
  exact free b o' (neC b o e hx) e1 (I.base.free b o e n hx)
 ·obtain⟨o',e1⟩:=I.base.there b o e hx
  exact there b o' (neC b o e hx) e1
 ·obtain⟨m1,e1⟩:=I.base.tbls b ps e
  obtain⟨m2,e2⟩:=tbls b _ e1;exact⟨m1++m2,by rw[e2,Array.append_assoc]⟩
 ·obtain⟨m,hn,hl⟩:=I.loc
  refine⟨m,ns m hn,fun i x v e1 e2 e3=>?_⟩;obtain⟨u,r,l⟩:=hl i x v e1 e2 e3;refine⟨u,r,?_⟩;rcases l with l|⟨k,c,e,z⟩
  ·exact .inl l
  ·exact .inr ⟨k,c,e,cellK x c e _ z⟩
 ·obtain⟨v,z⟩:=I.cell x c e
  exact⟨v,cellK x c e v z⟩
 ·obtain⟨m,⟨o,_,_,ho,_⟩,_⟩:=I.loc
  exact free _ o (fun z=>(hch _ z).2.1 rfl) ho I.free
 ·obtain⟨v,o,ho,hd⟩:=I.cell x c e
  exact free c o (fun z=>(hch c z).2.2.1 x c e rfl) ho (I.freeC x c e)
 ·obtain⟨e,n,ne,nf,d⟩:=I.pin p hp
  have nch:p.1 ∉ ch:=fun z=>(hch p.1 z).2.2.2 p hp rfl;exact⟨keep p.1 p.2 ne nf nch e n,free p.1 p.2 nch e n,ne,nf,d⟩
theorem Inv.un{t':Nat}(I:Inv X pins σ H s)(u:Un X.fs [] H H' s.heap h')(hok:HOk X.prog X.w H' h'):Inv X pins σ H' { s with heap:=h',toks:=t' }:=by
 obtain⟨m,⟨o,es,ep,ho,r⟩,_⟩:=id I.loc;obtain⟨sl,hL⟩:=u.any ho I.free (by simp)
 exact I.step (g':=s.gens) (d':=s.drawn) (ch:=[]) (fun _ z=>nomatch z) (fun b o _ hb _ e n=>u.keep b o e n hb (by simp)) (fun b o _ hb _ e n=>u.slot b o e n hb (by simp)) (fun b o _ e n=>u.free b o e n (by simp)) (fun b o _ e=>u.there b o e (by simp)) u.tups u.frzs u.tbls (fun m' hm=>by
  obtain⟨o',es',ep',ho',r'⟩:=hm;rw[ho] at ho';cases ho'
  exact⟨_,es',ep',hL,r'⟩) hok I.bare
theorem Inv.call{g':Array GenState}{t':Nat}{d':Drawn}{ch:List Addr}(I:Inv X pins σ H s)(u:Un (frs X.stack) ch H H' s.heap h')(hok:HOk X.prog X.w H' h')(hg:AllBare g')(hch:∀b∈ch,(b∈X.ex\/X.s₀.heap.objs.size<=b)/\b≠X.env.locals/\(∀x c,X.env.cells.lookup x=some c->c≠b)/\∀p∈X.pn++pins,p.1≠b):
  Inv X pins σ H' { s with heap:=h',gens:=g',drawn:=d',toks:=t' }:=by
 obtain⟨m,⟨o,es,ep,ho,r⟩,_⟩:=id I.loc;obtain⟨sl,hL⟩:=u.any ho I.free fun z=>(hch _ z).2.1 rfl
 exact I.step (ch:=ch) hch (fun b o hL hb hc e n=>u.keep b o e n (fun z=>(List.mem_cons.mp (I.F0 b z)).elim hL hb) hc) (fun b o _ _ hc e n=>u.any e n hc) (fun b o hc e n=>u.free b o e n hc) (fun b o hc e=>u.there b o e hc) u.tups u.frzs u.tbls (fun m' hm=>by
  obtain⟨o',es',ep',ho',r'⟩:=hm;rw[ho] at ho';cases ho'
  exact⟨_,es',ep',hL,r'⟩) hok hg
theorem Inv.turned{t':Nat}{it:Addr}(I:Inv X pins σ H s)(k:∀b o,b≠it->s.heap.get? b=some o->h'.get? b=some o)(hn:H it=none)(hL:it≠X.env.locals)(h1:it∈X.ex\/X.s₀.heap.objs.size<=it)(h2:∀x c,X.env.cells.lookup x=some c->c≠it)(h3:∀p∈X.pn++pins,p.1≠it):Inv X pins σ H { s with heap:=h',toks:=t' }:=by
 have nit:∀b u,H b=some u->b≠it:=fun b u e z=>by rw[z,hn] at e;cases e
 refine I.step (g':=s.gens) (d':=s.drawn) (ch:=[it]) (fun b hb=>?_) (fun b o _ _ hc e _=>k b o (fun z=>hc (by simp[z])) e) (fun b o _ _ hc e _=>⟨o.slots,k b o (fun z=>hc (by simp[z])) e⟩) (fun _ _ _ _ n=>n)
  (fun b o hc e=>⟨o,k b o (fun z=>hc (by simp[z])) e⟩) (fun _ _ e=>e) (fun _ _ _ e=>e) (fun b ps e=>⟨#[],by rw[e];simp⟩) (fun m hm=>?_) (fun b u e=>?_) I.bare
 ·have e:b=it:=by simpa using hb
  subst e;exact⟨h1,hL,h2,h3⟩
 ·obtain⟨o,es,ep,ho,r⟩:=hm
  exact⟨o,es,ep,k _ o (Ne.symm hL) ho,r⟩
 ·refine(I.hok b u e).stay (fun c v hc q=>k c v ?_ q) (fun _ q=>q) (fun _ _ q=>q) fun _ _ _ q=>q
  rcases hc with z|z
  ·rw[z];exact nit b u e
  ·exact nit c _ z
theorem Inv.tok(I:Inv X pins σ H s)(t:Nat):Inv X pins σ H { s with toks:=t }:=I.un (h':=s.heap) (t':=t) Un.refl I.hok
theorem Inv.kept{t':Nat}(I:Inv X pins σ H s)(k:∀b u,s.heap.get? b=some u->h'.get? b=some u):Inv X pins σ H { s with heap:=h',toks:=t' }:=I.un (Un.kept k) (I.hok.kept k)
theorem Inv.laid{a:Addr}{o:HO}{t':Nat}(I:Inv X pins σ H s)(k:∀b u,s.heap.get? b=some u->h'.get? b=some u)(hp:s.heap.objs.size<=a)(new:cI X.prog X.w (upd H a o) h' a o):
  Inv X pins σ (upd H a o) { s with heap:=h',toks:=t' }:=I.un (Un.laid k hp (I.hok.fresh hp)) (I.hok.laid k hp new)
theorem Inv.write{x e:Addr}{o:HO}{t':Nat}(I:Inv X pins σ H s)(mu:Mut (H x))(he:e=x\/H e=some (.own x))(k:∀b u,b≠e->s.heap.get? b=some u->h'.get? b=some u)(heo:∃u,h'.get? e=some u)(new:cI X.prog X.w (upd H x o) h' x o):Inv X pins σ (upd H x o) { s with heap:=h',toks:=t' }:=I.un (Un.write mu he k heo) (I.hok.write mu he k heo new)
theorem Inv.F4{pins':List (Addr×Obj)}(I:Inv X pins σ H s)(h:∀p∈pins',s.heap.get? p.1=some p.2/\H p.1=none/\p.1≠X.env.locals/\p.1 ∉ X.fs/\∀v,p.2.data≠.cell v):Inv X pins' σ H s:=
 ⟨I.ok,I.os,I.bare,I.base,I.loc,I.cell,I.free,I.freeC,fun p hp=>(List.mem_append.mp hp).elim (fun z=>I.pin p (List.mem_append_left _ z)) (h p),I.hok,I.len⟩
theorem qH{N:List Str}(hN:N.Nodup){i j:Nat}{x:Str}(a:N[i]?=some x)(b:N[j]?=some x):i=j:=by
 obtain⟨h1,e1⟩:=List.getElem?_eq_some_iff.mp a;obtain⟨h2,e2⟩:=List.getElem?_eq_some_iff.mp b;exact(List.getElem_inj hN).mp (e1.trans e2.symm)
theorem wO{M:Model}{A:Around}{E:Value->Shared->Prop}{i:Nat}{x:Str}{v:V}{u:Value}{Q:Unit->Shared->Prop}(I:Inv X pins σ H s)(hN:X.N.Nodup)(hi:X.N[i]?=some x)(hx:Loc X.env.scope x)(r:br v u)(h:∀s',Inv X pins (σ.set i (some v)) H s'->(∃a,Heap.SameBut a s.heap s'.heap/\(a=X.env.locals\/X.env.cells.lookup x=some a))->Q () s')(hf:X.fn x=true\/X.env.scope.names.lookup x=some .local:=by first|exact .inl rfl|exact .inr rfl|assumption):wpAny M A (storeName X.env x u) Q E s:=by
 obtain⟨m,hn,hl⟩:=id I.loc;have hcls:(X.env.scope.kind == .class || (X.env.scope.kind == .module && X.env.locals != X.env.globals))=false:=by rw[I.ok.kind];rfl
 have hiσ:i<σ.length:=by rw[I.len];exact(List.getElem?_eq_some_iff.mp hi).1
 have cne:=I.cne
 have tracked:∀ {a:Addr} {h':Heap},(∃o,s.heap.get? a=some o/\H a=none)->Heap.SameBut a s.heap h'->HOk X.prog X.w H h':=fun {a h'} ha hs b ob e=>by
  obtain⟨_,_,hfree⟩:=ha;refine(I.hok b ob e).stay (fun c w' hc q=>(hs.2 c ?_).trans q) (fun _ q=>q) (fun _ _ q=>q) fun _ _ _ q=>q;rintro rfl;rcases hc with rfl|hc
  ·rw[hfree] at e;cases e
  ·rw[hfree] at hc;cases hc
 rcases hx with hk|hk
 ·refine wpAny_storeName_local hk hn (fun h' hn' hs=>?_) hcls
  obtain⟨oL,_,_,hoL,_⟩:=id hn;refine h _ ⟨I.ok,I.os,I.bare,⟨fun b o e n hb hx=>?_,fun b o e n hb hx=>?_,I.base.free,fun b o e hx=>?_,I.base.tups,I.base.frzs,I.base.tbls⟩,⟨_,hn',fun j y v' e1 e2 e3=>?_⟩,fun y c e=>?_,I.free,I.freeC,fun p hp=>?_,tracked ⟨oL,hoL,I.free⟩ hs,by simpa using I.len⟩ ⟨_,hs,.inl rfl⟩
  ·exact(hs.2 b (Nat.ne_of_lt (Nat.lt_of_lt_of_le (Heap.lt_size e) I.ok.above))).trans (I.base.keep b o e n hb hx)
  ·obtain⟨sl,e1⟩:=I.base.slot b o e n hb hx
   exact⟨sl,(hs.2 b (Nat.ne_of_lt (Nat.lt_of_lt_of_le (Heap.lt_size e) I.ok.above))).trans e1⟩
  ·obtain⟨o',e1⟩:=I.base.there b o e hx
   exact⟨o',(hs.2 b (Nat.ne_of_lt (Nat.lt_of_lt_of_le (Heap.lt_size e) I.ok.above))).trans e1⟩
  ·by_cases hj:j=i
   ·subst hj
    rw[hi] at e1;cases e1;rw[List.getElem?_set_self hiσ] at e2;cases e2;exact⟨u,r,.inl ⟨hk,by simp⟩⟩
   ·rw[List.getElem?_set_ne (Ne.symm hj)] at e2
    obtain⟨u',r',q⟩:=hl j y v' e1 e2 e3;refine⟨u',r',?_⟩;rcases q with⟨k,e⟩|⟨k,c,e,z⟩
    ·refine .inl ⟨k,?_⟩
     have:y≠x:=fun e=>hj (qH hN e1 (e ▸ hi));simp[this,e]
    ·exact .inr ⟨k,c,e,z.sameBut hs (cne y c e)⟩
  ·obtain⟨w',z⟩:=I.cell y c e
   exact⟨w',z.sameBut hs (cne y c e)⟩
  ·obtain⟨e,n,ne,nf,d⟩:=I.pin p hp
   exact⟨(hs.2 p.1 ne).trans e,n,ne,nf,d⟩
 ·have hfn:X.fn x=true:=by
   rcases hf with z|z
   ·exact z
   ·rw[z] at hk;cases hk
  obtain⟨c,hc⟩:=I.ok.has x (.inl hk);obtain⟨w',z⟩:=I.cell x c hc;refine wpAny_storeName_cell I.ok.kind hk hc z (fun h' hc' hs=>?_);obtain⟨oc,hoc,hocd⟩:=id z;refine h { s with heap:=h' } ⟨I.ok,I.os,I.bare,⟨fun b o e n hb hx=>?_,fun b o e n hb hx=>?_,I.base.free,fun b o e hx=>?_,I.base.tups,I.base.frzs,I.base.tbls⟩,⟨m,hn.sameBut hs (Ne.symm (cne x c hc)),fun j y v' e1 e2 e3=>?_⟩,fun y c' e=>?_,I.free,I.freeC,fun p hp=>?_,tracked ⟨oc,hoc,I.freeC x c hc⟩ hs,by simpa using I.len⟩ ⟨c,hs,.inr hc⟩
  ·exact(hs.2 b (Nat.ne_of_lt (Nat.lt_of_lt_of_le (Heap.lt_size e) (I.ok.cab x c hfn hc)))).trans (I.base.keep b o e n hb hx)
  ·obtain⟨sl,e1⟩:=I.base.slot b o e n hb hx
   exact⟨sl,(hs.2 b (Nat.ne_of_lt (Nat.lt_of_lt_of_le (Heap.lt_size e) (I.ok.cab x c hfn hc)))).trans e1⟩
  ·obtain⟨o',e1⟩:=I.base.there b o e hx
   exact⟨o',(hs.2 b (Nat.ne_of_lt (Nat.lt_of_lt_of_le (Heap.lt_size e) (I.ok.cab x c hfn hc)))).trans e1⟩
  ·by_cases hj:j=i
   ·subst hj
    rw[hi] at e1;cases e1;rw[List.getElem?_set_self hiσ] at e2;cases e2;exact⟨u,r,.inr ⟨.inl hk,c,hc,hc'⟩⟩
   ·rw[List.getElem?_set_ne (Ne.symm hj)] at e2
    obtain⟨u',r',q⟩:=hl j y v' e1 e2 e3;refine⟨u',r',?_⟩;rcases q with q|⟨k,c',e,z'⟩
    ·exact .inl q
    ·refine .inr ⟨k,c',e,z'.sameBut hs ?_⟩
     rintro rfl;exact hj (qH hN e1 (I.ok.inj _ _ _ e hc ▸ hi))
  ·by_cases hcc:c'=c
   ·subst hcc;exact⟨_,hc'⟩
   ·obtain⟨w2,z2⟩:=I.cell y c' e
    exact⟨w2,z2.sameBut hs hcc⟩
  ·obtain⟨e,n,ne,nf,d⟩:=I.pin p hp
   refine⟨(hs.2 p.1 ?_).trans e,n,ne,nf,d⟩;intro q;rw[q,hoc] at e;have q':oc=p.2:=Option.some.inj e;exact d w' (by rw[←q'];exact hocd)
theorem sf{M:Model}{A:Around}{E:Value->Shared->Prop}{i:Nat}{x:Str}{v:V}{u:Value}{Q:Unit->Shared->Prop}(I:Inv X pins σ H s)(hN:X.N.Nodup)(hi:X.N[i]?=some x)(hx:Loc X.env.scope x)(r:br v u)(h:∀s',Inv X pins (σ.set i (some v)) H s'->Q () s')(hf:X.fn x=true\/X.env.scope.names.lookup x=some .local:=by first|exact .inl rfl|exact .inr rfl|assumption):wpAny M A (storeName X.env x u) Q E s:=
 wO I hN hi hx r (fun s' I' _=>h s' I') hf
theorem Inv.call'{s':Shared}{ch:List Addr}(I:Inv X pins σ H s)(ho:s'.os=s.os)(u:Un (frs X.stack) ch H H' s.heap s'.heap)(hok:HOk X.prog X.w H' s'.heap)(hg:AllBare s'.gens)(hch:∀b∈ch,(b∈X.ex\/X.s₀.heap.objs.size<=b)/\b≠X.env.locals/\(∀x c,X.env.cells.lookup x=some c->c≠b)/\∀p∈X.pn++pins,p.1≠b):Inv X pins σ H' s':=by
 obtain⟨h',g',d',t',o'⟩:=s';have e:o'=s.os:=ho;subst e;exact I.call (g':=g') (t':=t') (d':=d') u hok hg hch
end
noncomputable abbrev XK:=Value->Option Addr->Hp->Prop
noncomputable abbrev St:=List (Option V)
noncomputable abbrev VK:=V->Hp->Prop
noncomputable abbrev TE:=St->Hp->VK->Prop
noncomputable abbrev TT:=St->Hp->(Bool->Hp->Prop)->Prop
noncomputable abbrev TA:=St->Hp->(List V->Hp->Prop)->Prop
structure ir where
 nx:St->Hp->Prop
 rt:VK
 bk:St->Hp->Prop:=fun _ _=>False
 ct:St->Hp->Prop:=fun _ _=>False
noncomputable abbrev TS:=ir->St->Hp->Prop
noncomputable def EP(X:Cx)(pins:List (Addr×Obj))(σ:St)(Q:VK)(u:Value)(s':Shared):Prop:=∃v H',Inv X pins σ H' s'/\br v u/\Q v H'
noncomputable def TP(X:Cx)(pins:List (Addr×Obj))(σ:St)(Q:Bool->Hp->Prop)(b:Bool)(s':Shared):Prop:=∃H',Inv X pins σ H' s'/\Q b H'
noncomputable def AP(X:Cx)(pins:List (Addr×Obj))(σ:St)(Q:List V->Hp->Prop)(us:List Value)(s':Shared):Prop:=∃vs H',Inv X pins σ H' s'/\aQ vs us/\Q vs H'
noncomputable def SP(X:Cx)(pins:List (Addr×Obj))(D:ir)(f:Flow)(s':Shared):Prop:=
 match f with
 |.next=>∃σ' H',Inv X pins σ' H' s'/\D.nx σ' H'
 |.brk=>∃σ' H',Inv X pins σ' H' s'/\D.bk σ' H'
 |.cont=>∃σ' H',Inv X pins σ' H' s'/\D.ct σ' H'
 |.ret u=>∃v σ' H',Inv X pins σ' H' s'/\br v u/\D.rt v H'
noncomputable def PEd(X:Cx)(e:Expr)(t:TE):Prop:=
 ∀(pins:List (Addr×Obj)) (s:Shared) (σ:St) (H:Hp) (Q:VK),Inv X pins σ H s->t σ H Q->wpAny (model X.prog X.w) X.A (eval e X.env) (EP X pins σ Q) X.xe s
structure PE(X:Cx)(e:Expr)(t:TE):Prop where
 run:PEd X e t
noncomputable instance {X:Cx} {e:Expr} {t:TE}:CoeFun (PE X e t) (fun _=>PEd X e t):=⟨PE.run⟩
noncomputable instance {X:Cx} {e:Expr} {t:TE}:Coe (PE X e t) (PEd X e t):=⟨PE.run⟩
noncomputable def PT(X:Cx)(e:Expr)(t:TT):Prop:=
 ∀(pins:List (Addr×Obj)) (s:Shared) (σ:St) (H:Hp) (Q:Bool->Hp->Prop),Inv X pins σ H s->t σ H Q->wpAny (model X.prog X.w) X.A (isTrue e X.env (eval e X.env)) (TP X pins σ Q) X.xe s
noncomputable def PW(X:Cx)(e:Expr)(t:TT):Prop:=
 ∀(whole:Sem Value) (pins:List (Addr×Obj)) (s:Shared) (σ:St) (H:Hp) (Q:Bool->Hp->Prop),Inv X pins σ H s->t σ H Q->wpAny (model X.prog X.w) X.A (isTrue e X.env whole) (TP X pins σ Q) X.xe s
theorem PW.pt{X:Cx}{e:Expr}{t:TT}(h:PW X e t):PT X e t:=h _
noncomputable def PAd(X:Cx)(es:List Expr)(t:TA):Prop:=
 ∀(pos:Pos) (pins:List (Addr×Obj)) (s:Shared) (σ:St) (H:Hp) (Q:List V->Hp->Prop),Inv X pins σ H s->t σ H Q->wpAny (model X.prog X.w) X.A (spliced (backTo pos (starEach es X.env))) (AP X pins σ Q) X.xe s
structure PA(X:Cx)(es:List Expr)(t:TA):Prop where
 run:PAd X es t
noncomputable instance {X:Cx} {es:List Expr} {t:TA}:CoeFun (PA X es t) (fun _=>PAd X es t):=⟨PA.run⟩
noncomputable instance {X:Cx} {es:List Expr} {t:TA}:Coe (PA X es t) (PAd X es t):=⟨PA.run⟩
noncomputable def PSd(X:Cx)(st:Stmt)(t:TS):Prop:=
 ∀(pins:List (Addr×Obj)) (s:Shared) (σ:St) (H:Hp) (D:ir),Inv X pins σ H s->t D σ H->wpAny (model X.prog X.w) X.A (exec st X.env) (SP X pins D) X.xe s
structure PS(X:Cx)(st:Stmt)(t:TS):Prop where
 run:PSd X st t
noncomputable instance {X:Cx} {st:Stmt} {t:TS}:CoeFun (PS X st t) (fun _=>PSd X st t):=⟨PS.run⟩
noncomputable instance {X:Cx} {st:Stmt} {t:TS}:Coe (PS X st t) (PSd X st t):=⟨PS.run⟩
noncomputable def CJ(X:Cx)(st:List Stmt)(t:TS):Prop:=
 ∀(pins:List (Addr×Obj)) (s:Shared) (σ:St) (H:Hp) (D:ir),Inv X pins σ H s->t D σ H->wpAny (model X.prog X.w) X.A (execs st X.env) (SP X pins D) X.xe s
structure PSs(X:Cx)(st:List Stmt)(t:TS):Prop where
 run:CJ X st t
noncomputable instance {X:Cx} {st:List Stmt} {t:TS}:CoeFun (PSs X st t) (fun _=>CJ X st t):=⟨PSs.run⟩
noncomputable instance {X:Cx} {st:List Stmt} {t:TS}:Coe (PSs X st t) (CJ X st t):=⟨PSs.run⟩
theorem thn{α:Type}{t:Sem α}{Q Q':α->Shared->Prop}{M:Model}{A:Around}{E:Value->Shared->Prop}{s:Shared}(h:wpAny M A t Q E s)(hQ:∀a s,Q a s->Q' a s):wpAny M A t Q' E s:=wpAny_mono h hQ fun _ _ x=>x
section
variable{X:Cx}
noncomputable def zJ(i:Nat):TE:=fun σ H Q=>∃v,σ[i]?=some (some v)/\Q v H
noncomputable def tC(v:V):TE:=fun _ H Q=>Q v H
theorem CZ{i:Nat}{x:Str}{pos:Pos}(hN:X.N[i]?=some x)(hv:Vis X.env.scope x)(hd:(x == ("__debug__":Str))=false:=by decide)(hcd:(x == ("__classdict__":Str))=false:=by decide):PE X (.Name x pos) (zJ i):=.mk <| by
 intro pins s σ H Q I h;obtain⟨v,e,h⟩:=h;obtain⟨m,hn,hl⟩:=I.loc;obtain⟨u,r,l⟩:=hl i x v hN e hv;have fin:EP X pins σ Q u s:=⟨v,H,I,r,h⟩;rcases l with⟨hk,hm⟩|⟨hk,c,hc,hcell⟩
 ·exact wpAny_Name (wpAny_loadName_local I.ok.kind hk hn hm fin) hd
 ·rcases hk with hk|hk
  ·exact wpAny_Name (wpAny_loadName_cell I.ok.kind hk hc hcell fin) hd
  ·exact wpAny_Name (wpAny_loadName_free I.ok.kind hk hc hcell fin hcd) hd
theorem ah{i j pos}:PE X (.Constant (.int i) j pos) (tC (.int i)):=.mk <| fun _ _ _ H _ I h=>wpAny_Constant_int ⟨.int i,H,I.tok _,⟨_,rfl⟩,h⟩
theorem bE{b j pos}:PE X (.Constant (.bool b) j pos) (tC (.bl b)):=.mk <| fun _ _ _ H _ I h=>Constant_bool ⟨.bl b,H,I,rfl,h⟩
theorem gT{j pos}:PE X (.Constant .none j pos) (tC .non):=.mk <| fun _ _ _ H _ I h=>Constant_none ⟨.non,H,I,rfl,h⟩
theorem aL{x j pos}:PE X (.Constant (.str x) j pos) (tC (.str x)):=.mk <| fun _ _ _ H _ I h=>Calls.Constant_str ⟨.str x,H,I.tok _,⟨_,rfl⟩,h⟩
noncomputable def Gl(X:Cx)(x:Str):Prop:=X.env.kindOf x=some .globalImplicit
theorem vh{E:Value->Shared->Prop}{pins:List (Addr×Obj)}{s:Shared}{σ:St}{H:Hp}{x:Str}{u:Value}{pos:Pos}{Q:Value->Shared->Prop}(I:Inv X pins σ H s)(hg:Gl X x)(hm:X.mg x=some u)(h:Q u s)(hd:(x == ("__debug__":Str))=false:=by decide):wpAny (model X.prog X.w) X.A (eval (.Name x pos) X.env) Q E s:=
 Calls.Name_function_global I.ok.kind hg (Calls.loadGlobal_global (by rw[I.ok.glob];exact I.mod.glob.keeps I.bk) hm h) hd
theorem jT{E:Value->Shared->Prop}{pins:List (Addr×Obj)}{s:Shared}{σ:St}{H:Hp}{x:Str}{u:Value}{pos:Pos}{Q:Value->Shared->Prop}(I:Inv X pins σ H s)(hg:Gl X x)(hm:X.mg x=none)(hv:bootBuiltins x=some u)(h:Q u s)(hn:x≠"__name__":=by decide)(hd:(x == ("__debug__":Str))=false:=by decide):wpAny (model X.prog X.w) X.A (eval (.Name x pos) X.env) Q E s:=by
 obtain⟨mb,h1,h2⟩:=I.mod.blt;exact Calls.Name_function_global I.ok.kind hg (Calls.loadGlobal_builtin (by rw[I.ok.glob];exact I.mod.glob.keeps I.bk) hm (by rw[I.ok.blt];exact h1.keeps I.bk) ((h2 x hn).trans hv) h) hd
theorem AF{x:Str}{v:V}{u:Value}{pos:Pos}(hg:Gl X x)(hm:X.mg x=some u)(r:br v u)(hd:(x == ("__debug__":Str))=false:=by decide):PE X (.Name x pos) (tC v):=.mk <|
 fun _ _ _ H _ I h=>vh I hg hm ⟨v,H,I,r,h⟩ hd
theorem cH{x:Str}{v:V}{u:Value}{pos:Pos}(hg:Gl X x)(hm:X.mg x=none)(hv:bootBuiltins x=some u)(r:br v u)(hn:x≠"__name__":=by decide)(hd:(x == ("__debug__":Str))=false:=by decide):PE X (.Name x pos) (tC v):=.mk <|
 fun _ _ _ H _ I h=>jT I hg hm hv ⟨v,H,I,r,h⟩ hn hd
variable{a b:Expr}{ta tb:TE}{pos:Pos}
noncomputable def tB(t:TE):TT:=fun σ H Q=>t σ H fun x H1=>∃c,x=.bl c/\Q c H1
variable{tA tB':TT}{bi:List Expr}
noncomputable def E6(t u:TT):TT:=fun σ H Q=>t σ H fun c H1=>if c=true then u σ H1 Q else Q false H1
noncomputable def tOr(t u:TT):TT:=fun σ H Q=>t σ H fun c H1=>if c=true then Q true H1 else u σ H1 Q
noncomputable def D7(t:TT):TT:=fun σ H Q=>t σ H fun c H1=>Q (!c) H1
theorem An(ha:PT X a tA):PW X (.BoolOp .And [a] pos) tA:=by
 intro wh pins s σ H Q I h;refine isTrue_and (thn (ha pins s σ H Q I h) fun c s1 e=>?_)
 cases c with
 |true=>exact isTrue_and_nil e
 |false=>exact e
theorem dN(ha:PT X a tA):PW X (.BoolOp .Or [a] pos) tA:=by
 intro wh pins s σ H Q I h;refine isTrue_or (thn (ha pins s σ H Q I h) fun c s1 e=>?_)
 cases c with
 |false=>exact isTrue_or_nil e
 |true=>exact e
theorem Dw(ha:PT X a tA)(hb:PW X (.BoolOp .And (b::bi) pos) tB'):PW X (.BoolOp .And (a::b::bi) pos) (E6 tA tB'):=by
 intro wh pins s σ H Q I h;refine isTrue_and (thn (ha pins s σ H _ I h) fun c s1 ⟨H1,I1,q1⟩=>?_)
 cases c with
 |true=>exact hb wh pins s1 σ H1 Q I1 q1
 |false=>exact⟨H1,I1,q1⟩
theorem ff(ha:PT X a tA)(hb:PW X (.BoolOp .Or (b::bi) pos) tB'):PW X (.BoolOp .Or (a::b::bi) pos) (tOr tA tB'):=by
 intro wh pins s σ H Q I h;refine isTrue_or (thn (ha pins s σ H _ I h) fun c s1 ⟨H1,I1,q1⟩=>?_)
 cases c with
 |true=>exact⟨H1,I1,q1⟩
 |false=>exact hb wh pins s1 σ H1 Q I1 q1
theorem cK(ha:PT X a tA):PT X (.UnaryOp .Not a pos) (D7 tA):=by
 intro pins s σ H Q I h;exact isTrue_not (ha pins s σ H (fun c H1=>Q (!c) H1) I h)
theorem ec{op}{t:TE}(h:PE X a t):PE X (.BoolOp op [a] pos) t:=.mk <| fun pins s σ H Q I hw=>BoolOp_one (h pins s σ H Q I hw)
end
noncomputable def SqL(K:W.Frag)(H:Hp)(a:Addr)(xs:List V):Prop:=
 Rd H a (.lst xs) \/
  ∃(o:Obj)(its:Array Value)(n:Nat),K.lookup a=some o/\o.cls=.type "list"/\o.dict=none/\o.data=.seq its n/\its.size<=sizeLine/\aQ xs its.toList
noncomputable def SqT(K:W.Frag)(H:Hp)(a:Addr)(xs:List V):Prop:=
 Rd H a (.tup xs) \/
  ∃(o:Obj)(its:Array Value)(n:Nat),K.lookup a=some o/\o.cls=.type "tuple"/\o.data=.seq its n/\its.size<=sizeLine/\aQ xs its.toList
noncomputable def Ft:Value->Option V
 |.none=>some .non
 |.bool b=>some (.bl b)
 |.int i _=>some (.int i)
 |.str x _=>some (.str x)
 |.bytes b _=>some (.byt b)
 |.float b _=>some (.flt b)
 |.ref a=>some (.ref a)
 |.type n=>some (.ty n)
 |_=>none
theorem br.abs{x:V}{u:Value}(r:br x u):Ft u=some x:=by
 cases x with
 |non=>cases r;rfl
 |bl _=>cases r;rfl
 |int _=>obtain⟨t,rfl⟩:=r;rfl
 |str _=>obtain⟨t,rfl⟩:=r;rfl
 |byt _=>obtain⟨t,rfl⟩:=r;rfl
 |flt _=>obtain⟨t,rfl⟩:=r;rfl
 |ref _=>cases r;rfl
 |ty _=>cases r;rfl
theorem br.inj{x y:V}{u:Value}(r:br x u)(q:br y u):x=y:=Option.some.inj (r.abs.symm.trans q.abs)
theorem aQ.inj:∀ {xs ys:List V} {us:List Value},aQ xs us->aQ ys us->xs=ys
 |_,_,_,.nil,.nil=>rfl
 |_,_,_,.cons r t,.cons r' t'=>by rw[r.inj r',aQ.inj t t']
section
variable{X:Cx}{pins:List (Addr×Obj)}{σ:St}{H:Hp}{s:Shared}{a:Addr}{xs ys:List V}
theorem SqL.of{K:W.Frag}(h:H a=some (.lst xs)):SqL K H a xs:=.inl (.inl h)
theorem SqT.of{K:W.Frag}(h:H a=some (.tup xs)):SqT K H a xs:=.inl (.inl h)
theorem Inv.list(I:Inv X pins σ H s)(h:SqL X.K H a xs):∃its:List Value,aQ xs its/\PlainL s.heap a its.toArray/\xs.length<=sizeLine:=by
 rcases h with h|⟨o,its,n,hk,hc,hd,hs,hz,r⟩
 ·obtain⟨z,its,n,r,e⟩:=h.ok I.hok
  exact⟨its,r,⟨_,n,e,rfl,rfl,rfl⟩,z⟩
 ·refine⟨its.toList,r,⟨o,n,I.kIn a o hk,hc,hd,by simpa using hs⟩,?_⟩
  have e:=r.length;simp only[Array.length_toList] at e;omega
theorem Inv.tuple(I:Inv X pins σ H s)(h:SqT X.K H a xs):∃its:List Value,aQ xs its/\IsTup s.heap a its.toArray/\xs.length<=sizeLine:=by
 rcases h with h|⟨o,its,n,hk,hc,hs,hz,r⟩
 ·obtain⟨z,its,r,p⟩:=h.ok I.hok
  exact⟨its,r,p.1,z⟩
 ·refine⟨its.toList,r,⟨o,I.kIn a o hk,hc,n,by simpa using hs⟩,?_⟩
  have e:=r.length;simp only[Array.length_toList] at e;omega
theorem Inv.F6(I:Inv X pins σ H s)(h:SqL X.K H a xs)(h':SqL X.K H a ys):xs=ys:=by
 obtain⟨its,r,⟨o,n,e,_,_,d⟩,_⟩:=I.list h;obtain⟨its',r',⟨o',n',e',_,_,d'⟩,_⟩:=I.list h';rw[e] at e';cases e';rw[d] at d';injection d' with d1 _;have:its=its':=by simpa using congrArg Array.toList d1
 subst this;exact r.inj r'
theorem Inv.F5(I:Inv X pins σ H s)(h:SqT X.K H a xs)(h':SqT X.K H a ys):xs=ys:=by
 obtain⟨its,r,⟨o,e,_,n,d⟩,_⟩:=I.tuple h;obtain⟨its',r',⟨o',e',_,n',d'⟩,_⟩:=I.tuple h';rw[e] at e';cases e';rw[d] at d';injection d' with d1 _;have:its=its':=by simpa using congrArg Array.toList d1
 subst this;exact r.inj r'
end
noncomputable abbrev Cx.wish(X:Cx)(E:Value->Shared->Prop):Cx:={ X with xe:=E }
noncomputable abbrev Cx.nox(X:Cx):Cx:=X.wish fun _ _=>False
theorem Cx.Ok.wish{X:Cx}(ok:X.Ok)(E:Value->Shared->Prop):(X.wish E).Ok:=
 ⟨ok.mod,ok.kind,ok.glob,ok.blt,ok.above,ok.inj,ok.has,ok.cab,ok.hd,ok.frames,ok.stk,ok.exf,ok.bs,ok.bsz,ok.noex,ok.exfs,ok.funs,ok.frf,ok.tt⟩
theorem Cx.Ok.unwish{X:Cx}{E:Value->Shared->Prop}(ok:(X.wish E).Ok):X.Ok:=
 ⟨ok.mod,ok.kind,ok.glob,ok.blt,ok.above,ok.inj,ok.has,ok.cab,ok.hd,ok.frames,ok.stk,ok.exf,ok.bs,ok.bsz,ok.noex,ok.exfs,ok.funs,ok.frf,ok.tt⟩
section
variable{X:Cx}{pins:List (Addr×Obj)}{σ:St}{H:Hp}{s:Shared}{E:Value->Shared->Prop}
theorem Inv.wish(I:Inv X pins σ H s)(E:Value->Shared->Prop):Inv (X.wish E) pins σ H s:=⟨I.ok.wish E,I.os,I.bare,I.base,I.loc,I.cell,I.free,I.freeC,I.pin,I.hok,I.len⟩
theorem Inv.unwish(I:Inv (X.wish E) pins σ H s):Inv X pins σ H s:=⟨I.ok.unwish,I.os,I.bare,I.base,I.loc,I.cell,I.free,I.freeC,I.pin,I.hok,I.len⟩
theorem SP.unwish{D:ir}{f:Flow}{s':Shared}(h:SP (X.wish E) pins D f s'):SP X pins D f s':=by
 cases f with
 |next=>obtain⟨σ',H',I,q⟩:=h;exact⟨σ',H',I.unwish,q⟩
 |brk=>obtain⟨σ',H',I,q⟩:=h;exact⟨σ',H',I.unwish,q⟩
 |cont=>obtain⟨σ',H',I,q⟩:=h;exact⟨σ',H',I.unwish,q⟩
 |ret u=>obtain⟨v,σ',H',I,r,q⟩:=h;exact⟨v,σ',H',I.unwish,r,q⟩
theorem PSs.nox{st:List Stmt}{t:TS}(h:PSs X.nox st t):PSs X st t:=.mk <| fun pins s σ H D I hw=>
 wpAny_mono (h pins s σ H D (I.wish _) hw) (fun _ _ q=>q.unwish) fun _ _ z=>False.elim z
end
section
variable{X:Cx}{st:Stmt}{bi:List Stmt}{t u:TS}{e:Expr}{te:TE}{pos:Pos}
noncomputable def Aa:TS:=fun D σ H=>D.nx σ H
noncomputable def DK(t u:TS):TS:=fun D σ H=>t { D with nx:=u D } σ H
theorem bc:PSs X [] Aa:=.mk <| fun _ _ σ H _ I h=>wpAny_execs_nil ⟨σ,H,I,h⟩
theorem ai(h1:PS X st t)(h2:PSs X bi u):PSs X (st::bi) (DK t u):=.mk <| by
 intro pins s σ H D I h;refine wpAny_execs_cons (thn (h1 pins s σ H { D with nx:=u D } I h) fun f s1 q=>?_)
 cases f with
 |next=>
  obtain⟨σ',H',I',q⟩:=q;exact h2 pins s1 σ' H' D I' q
 |ret v=>exact q
 |brk=>exact q
 |cont=>exact q
theorem ap(h1:PS X st t):PSs X [st] t:=.mk <| by
 intro pins s σ H D I h;refine wpAny_execs_cons (thn (h1 pins s σ H D I h) fun f s1 q=>?_)
 cases f with
 |next=>exact wpAny_execs_nil q
 |ret v=>exact q
 |brk=>exact q
 |cont=>exact q
theorem Inv.quiet{pins:List (Addr×Obj)}{σ:St}{H:Hp}{s:Shared}(I:Inv X pins σ H s):interactive X.env=false:=by simp[interactive,I.ok.kind]
noncomputable def BN(te:TE):TS:=fun D σ H=>te σ H fun _ H1=>D.nx σ H1
theorem ic(he:PE X e te)(hs:swapsWith e none pos.line X.env=pure false:=by rfl):PS X (.Expr e pos) (BN te):=.mk <| by
 intro pins s σ H D I h;exact wpAny_Expr_any (thn (he pins s σ H _ I h) fun v s1 ⟨x,H1,I1,r1,q1⟩=>⟨σ,H1,I1,q1⟩) I.quiet hs
noncomputable def C3(te:TE):TS:=fun D σ H=>te σ H D.rt
theorem aM(he:PE X e te):PS X (.Return (some e) pos) (C3 te):=.mk <| by
 intro pins s σ H D I h;exact wpAny_Return_some (thn (he pins s σ H _ I h) fun v s1 ⟨x,H1,I1,r1,q1⟩=>⟨x,σ,H1,I1,r1,q1⟩)
noncomputable def CY(c:TT)(t u:TS):TS:=fun D σ H=>c σ H fun b H1=>if b=true then t D σ H1 else u D σ H1
theorem bM{c:Expr}{a b:List Stmt}{tc:TT}(hc:PT X c tc)(ha:PSs X a t)(hb:PSs X b u):PS X (.If c a b pos) (CY tc t u):=.mk <| by
 intro pins s σ H D I h;refine wpAny_If (thn (hc pins s σ H _ I h) fun d s1 ⟨H1,I1,q1⟩=>?_)
 cases d with
 |true=>exact ha pins s1 σ H1 D I1 q1
 |false=>exact hb pins s1 σ H1 D I1 q1
end
noncomputable abbrev TG:=V->St->Hp->(St->Hp->Prop)->Prop
noncomputable abbrev TGs:=List V->St->Hp->(St->Hp->Prop)->Prop
noncomputable def PG(X:Cx)(target:Expr)(t:TG):Prop:=
 ∀(pins:List (Addr×Obj)) (s:Shared) (σ:St) (H:Hp) (v:V) (u:Value) (Q:St->Hp->Prop),Inv X pins σ H s->br v u->t v σ H Q ->
  wpAny (model X.prog X.w) X.A (assign target X.env u) (fun _ s'=>∃σ' H',Inv X pins σ' H' s'/\Q σ' H') X.xe s
noncomputable def PGs(X:Cx)(ts:List Expr)(t:TGs):Prop:=
 ∀(pins:List (Addr×Obj)) (s:Shared) (σ:St) (H:Hp) (vs:List V) (us:List Value) (Q:St->Hp->Prop),Inv X pins σ H s->aQ vs us->t vs σ H Q ->
  wpAny (model X.prog X.w) X.A (assignInOrder ((assignEach ts X.env).map (·.2)) us) (fun _ s'=>∃σ' H',Inv X pins σ' H' s'/\Q σ' H') X.xe s
noncomputable abbrev Dy:=V->V->V->Hp->(Hp->Prop)->Prop
noncomputable def D6(X:Cx)(t:Dy):Prop:=
 ∀(pins:List (Addr×Obj)) (s:Shared) (σ:St) (H:Hp) (o i v:V) (ov iv u:Value) (Q:Hp->Prop),Inv X pins σ H s->br o ov->br i iv->br v u->t o i v H Q ->
  wpAny (model X.prog X.w) X.A (setItem ov iv u) (fun _ s'=>∃H',Inv X pins σ H' s'/\Q H') X.xe s
section
variable{X:Cx}{pos:Pos}
noncomputable def u4(i:Nat):TG:=fun v σ H Q=>Q (σ.set i (some v)) H
theorem bg{i:Nat}{x:Str}(hN:X.N.Nodup)(hi:X.N[i]?=some x)(hx:Loc X.env.scope x)(hf:X.fn x=true\/X.env.scope.names.lookup x=some .local:=by first|exact .inl rfl|exact .inr rfl|assumption):PG X (.Name x pos) (u4 i):=by
 intro pins s σ H v u Q I r h;exact wpAny_assign_Name (sf I hN hi hx r (fun s' I'=>⟨_,H,I',h⟩) hf)
noncomputable def Eu:TGs:=fun vs σ H Q=>vs=[]/\Q σ H
noncomputable def B7(t:TG)(u:TGs):TGs:=fun vs σ H Q=>∃v r,vs=v::r/\t v σ H fun σ' H'=>u r σ' H' Q
theorem lC:PGs X [] Eu:=by
 intro pins s σ H vs us Q I r h;obtain⟨e,h⟩:=h;subst e;cases r;exact assignInOrder_nil ⟨σ,H,I,h⟩
theorem cg{e:Expr}{es:List Expr}{t:TG}{u:TGs}(h1:PG X e t)(h2:PGs X es u)(hs:(assignEach (e::es) X.env).map (·.2)=assign e X.env::(assignEach es X.env).map (·.2):=by rfl):PGs X (e::es) (B7 t u):=by
 intro pins s σ H vs us Q I r h;obtain⟨v,vr,e1,h⟩:=h;subst e1
 cases r with
 |cons r rr=>
  rw[hs];refine assignInOrder_cons (thn (h1 pins s σ H _ _ _ I r h) fun _ s1 ⟨σ1,H1,I1,q1⟩=>?_);exact h2 pins s1 σ1 H1 _ _ Q I1 rr q1
noncomputable def Cw(K:W.Frag)(n:Nat)(t:TGs):TG:=fun v σ H Q=>∃a xs,v=.ref a/\SqT K H a xs/\xs.length=n/\t xs σ H Q
theorem DI{es:List Expr}{k:Nat}{t:TGs}{n:Nat}(hc:X.calm=true)(h:PGs X es t)(hn:(assignEach es X.env).length=n:=by rfl)(hst:(assignEach es X.env).findIdx? (·.1)=none:=by rfl):PG X (.Tuple es k pos) (Cw X.K n t):=by
 intro pins s σ H v u Q I r hw;obtain⟨a,xs,e1,hq,hl,hw⟩:=hw;subst e1;cases r;obtain⟨its,rv,ht,hz⟩:=I.tuple hq;refine assign_Tuple_tuple (I.ok.hd hc) ht (by simp[hn,←hl,rv.length]) hst fun h' hx=>?_
 have I1:Inv X pins σ H { s with heap:=h' }:=I.kept (t':=s.toks) fun b o e=>hx b o (Nat.ne_of_lt (Heap.lt_size e)) e;exact h pins _ σ H xs _ Q I1 (by simpa using rv) hw
noncomputable def DR(to ti:TE)(t:Dy):TG:=fun v σ H Q=>to σ H fun o H1=>ti σ H1 fun i H2=>t o i v H2 fun H3=>Q σ H3
theorem pT{o i:Expr}{to ti:TE}{t:Dy}(ho:PE X o to)(hi:PE X i ti)(hs:D6 X t)
  (ha:∀v,assign (.Subscript o i pos) X.env v=(do
   let ov ← holding [v] (eval o X.env)
   let iv ← holding [v,ov] (eval i X.env)
   standAt pos
   holding [v,ov,iv] (setItem ov iv v)
   release [v,ov,iv] []):=by intro _;rfl):PG X (.Subscript o i pos) (DR to ti t):=by
 intro pins s σ H v u Q I r h;rw[ha];refine wpAny_bind (wpAny_holding (thn (ho pins s σ H _ I h) fun ov s1 ⟨x,H1,I1,r1,q1⟩=>?_));refine wpAny_bind (wpAny_holding (thn (hi pins s1 σ H1 _ I1 q1) fun iv s2 ⟨y,H2,I2,r2,q2⟩=>?_));refine wpAny_bind (wpAny_standAt (wpAny_bind (wpAny_holding (thn (hs pins s2 σ H2 x y v ov iv u _ I2 r1 r2 r q2) fun _ s3 ⟨H3,I3,q3⟩=>?_))));exact wpAny_release ⟨σ,H3,I3,q3⟩
noncomputable def Ai(te:TE)(g:TG):TS:=fun D σ H=>te σ H fun x H1=>g x σ H1 D.nx
theorem mF{tg e:Expr}{te:TE}{g:TG}(he:PE X e te)(hg:PG X tg g)(hs:swapsWithSole [tg] e pos.line X.env=pure false:=by rfl)(hw:swappedStores [tg] e X.env=pure none:=by rfl)(h1:(assignEach [tg] X.env).map (·.2)=[assign tg X.env]:=by rfl):PS X (.Assign [tg] e pos) (Ai te g):=.mk <| by
 intro pins s σ H D I h;refine wpAny_Assign_stores (thn (he pins s σ H _ I h) fun v s1 ⟨x,H1,I1,r1,q1⟩=>?_) hs hw;rw[h1];exact thn (hg pins s1 σ H1 x v _ I1 r1 q1) fun _ s2 q=>q
theorem aD{i:Nat}{x:Str}{e:Expr}{te:TE}{pos':Pos}(hN:X.N.Nodup)(hi:X.N[i]?=some x)(hx:Loc X.env.scope x)(he:PE X e te)(hs:swapsWith e (some (.Name x pos')) pos.line X.env=pure false:=by rfl)(hf:X.fn x=true\/X.env.scope.names.lookup x=some .local:=by first|exact .inl rfl|exact .inr rfl|assumption):
  PS X (.Assign [.Name x pos'] e pos) (Ai te (u4 i)):=.mk <| by
 intro pins s σ H D I h;refine wpAny_Assign_Name (thn (he pins s σ H _ I h) fun v s1 ⟨y,H1,I1,r1,q1⟩=>?_) hs;exact sf I1 hN hi hx r1 (fun s2 I2=>⟨_,H1,I2,q1⟩) hf
end
section
variable{X:Cx}{pos:Pos}
noncomputable def yT(c:TT)(tb:TS):TS:=fun D σ H=>∃W:Nat->St->Hp->Prop,(∃m,W m σ H)/\∀m σ H,W m σ H ->
 c σ H fun b H1=>if b=true then ∃N:St->Hp->Prop,(∀σ' H',N σ' H'->∃m',m'<m/\W m' σ' H')/\tb { D with nx:=N,ct:=N,bk:=D.nx } σ H1 else D.nx σ H1
theorem m9{c:Expr}{body:List Stmt}{tc:TT}{tb:TS}(hp:PassesOwn (model X.prog X.w) X.A X.env X.xe)(hc:PT X c tc)(hb:PSs X body tb):PS X (.While c body [] pos) (yT tc tb):=.mk <| by
 intro pins s σ H D I h;obtain⟨W,⟨m0,w0⟩,turn⟩:=h;refine wpAny_While (codeAny_whileLoop (fun n s'=>∃σ' H',Inv X pins σ' H' s'/\W n σ' H') ?_ m0 ⟨σ,H,I,w0⟩);rintro n s1 ⟨σ1,H1,I1,w1⟩;refine wpAny_passesOwn hp (thn (hc pins s1 σ1 H1 _ I1 (turn n σ1 H1 w1)) fun b s2 ⟨H2,I2,q2⟩=>?_)
 cases b with
 |true=>
  obtain⟨N,hN,q2⟩:=q2;rw[if_pos rfl];refine wpAny_passesOwn hp (thn (hb pins s2 σ1 H2 _ I2 q2) fun f s3 q3=>?_)
  cases f with
  |next=>
   obtain⟨σ3,H3,I3,n3⟩:=q3;obtain⟨m',hm,w3⟩:=hN σ3 H3 n3;exact⟨m',hm,σ3,H3,I3,w3⟩
  |cont=>
   obtain⟨σ3,H3,I3,n3⟩:=q3;obtain⟨m',hm,w3⟩:=hN σ3 H3 n3;exact⟨m',hm,σ3,H3,I3,w3⟩
  |brk=>exact q3
  |ret v=>exact q3
 |false=>
  rw[if_neg Bool.false_ne_true];exact wpAny_execs_nil ⟨σ1,H2,I2,q2⟩
end
structure It where
 go:Nat->Hp->Prop
 yld:Nat->Hp->V->Hp->Prop
 stop:Nat->Hp->Prop
noncomputable def kb(X:Cx)(pins:List (Addr×Obj))(H:Hp)(b:Addr):Prop:=
 H b=none/\b≠X.env.locals/\b ∉ X.fs/\(b∈X.ex\/X.s₀.heap.objs.size<=b)/\(∀x c,X.env.cells.lookup x=some c->c≠b)/\∀p∈X.pn++pins,p.1≠b
theorem Inv.F8{X:Cx}{pins:List (Addr×Obj)}{σ:St}{H H':Hp}{s:Shared}{b:Addr}(I:Inv X pins σ H s)(hb:s.heap.objs.size<=b)(hn:H' b=none):kb X pins H' b:=by
 refine⟨hn,Nat.ne_of_gt (Nat.lt_of_lt_of_le I.lt hb),I.nofs hb,.inr (Nat.le_trans I.sz hb),fun x c e z=>?_,fun p hp z=>?_⟩
 ·obtain⟨v,q⟩:=I.cell x c e
  exact absurd (Nat.lt_of_lt_of_le q.lt (by rw[z];exact hb)) (Nat.lt_irrefl _)
 ·exact absurd (Nat.lt_of_lt_of_le (Heap.lt_size (I.pin p hp).1) (by rw[z];exact hb)) (Nat.lt_irrefl _)
structure zK(P:Program)(w:World)(K:W.Frag)(tg:Expr)(J:It)(fp:List Addr)(it:Addr)(tn:Nat->Heap->Prop):Prop where
 mem:it∈fp
 obj:∀i h,tn i h->∀b∈fp,∃o,h.get? b=some o/\∀v,o.data≠.cell v
 keep:∀i h h',tn i h->(∀b∈fp,∀o,h.get? b=some o->h'.get? b=some o)->tn i h'
 item:∀(X:Cx),X.prog=P->X.w=w->X.K=K->X.calm=true->∀(i:Nat) (pins:List (Addr×Obj)) (s:Shared) (σ:St) (H:Hp) (E:Value->Shared->Prop),Inv X pins σ H s->(∀b∈fp,kb X pins H b)->tn i s.heap->J.go i H ->
  wpAny (model P w) X.A (pyNext (.ref it)) (fun r s1=>∃u,r=some u /\
   wpAny (model P w) X.A (letOwnedTupleGo tg (.ref it) u) (fun _ s2=>∃x H',Inv X pins σ H' s2/\br x u/\J.yld i H x H'/\tn (i+1) s2.heap/\∀b∈fp,H' b=none) E s1) E s
 done:∀(X:Cx),X.prog=P->X.w=w->X.K=K->X.calm=true->∀(i:Nat) (pins:List (Addr×Obj)) (s:Shared) (σ:St) (H:Hp) (E:Value->Shared->Prop),Inv X pins σ H s->(∀b∈fp,kb X pins H b)->tn i s.heap->J.stop i H ->
  wpAny (model P w) X.A (pyNext (.ref it)) (fun r s1=>r=none/\Inv X pins σ H s1) E s
 self:∀(A:Around)(i:Nat)(s:Shared)(Q:Value->Shared->Prop)(E:Value->Shared->Prop),tn i s.heap->Q (.ref it) s->wpAny (model P w) A (pyIter (.ref it)) Q E s
noncomputable abbrev TI:=St->Hp->(It->Hp->Prop)->Prop
noncomputable def PIE(X:Cx)(pins:List (Addr×Obj))(σ:St)(tg:Expr)(R:It->Hp->Prop)(itv:Value)(s2:Shared):Prop:=
 ∃(it:Addr)(fp:List Addr)(tn:Nat->Heap->Prop)(J:It)(H':Hp),itv=.ref it/\Inv X pins σ H' s2/\zK X.prog X.w X.K tg J fp it tn/\tn 0 s2.heap/\(∀b∈fp,kb X pins H' b)/\R J H'
noncomputable def PI(X:Cx)(tg iter:Expr)(wi:TI):Prop:=
 ∀(pins:List (Addr×Obj)) (s:Shared) (σ:St) (H:Hp) (R:It->Hp->Prop),Inv X pins σ H s->wi σ H R ->
  wpAny (model X.prog X.w) X.A (eval iter X.env) (fun v s1=>wpAny (model X.prog X.w) X.A (pyIter v) (PIE X pins σ tg R) X.xe s1) X.xe s
theorem zS{M:Model}{A:Around}{E:Value->Shared->Prop}{s:Shared}{tg:Expr}{it:Addr}{u:Value}{o:Obj}{n:String}{vs:Array Value}{Q:Unit->Shared->Prop}(ho:s.heap.get? it=some o)(hc:o.cls=.type n)(hd:o.data=.fields vs)(hn:["enumerate","zip","dict_itemiterator","dict_reverseitemiterator","odict_iterator","itertools.zip_longest","itertools.pairwise"].contains n=false)(hQ:Q () s):wpAny M A (letOwnedTupleGo tg (.ref it) u) Q E s:=by
  unfold letOwnedTupleGo
  cases tg<;>first
    |exact wpAny_pure hQ
    | (cases u<;>first
        |exact wpAny_pure hQ
        | (refine wpAny_bind (wpAny_load ho ?_)
           rw[hc,hd];show wpAny M A (if (["enumerate","zip","dict_itemiterator","dict_reverseitemiterator","odict_iterator","itertools.zip_longest","itertools.pairwise"].contains n && vs[0]? == some (rawInt _))=true then _ else _) Q E s
           rw[if_neg (by intro h;rw[hn,Bool.false_and] at h;cases h)]
           exact wpAny_pure hQ))
noncomputable def Itl(K:W.Frag)(a:Addr):It:=
 ⟨fun i H=>∃xs x,SqL K H a xs/\xs[i]?=some x,fun i H x H'=>H'=H/\∀xs,SqL K H a xs->xs[i]?=some x,fun i H=>∃xs,SqL K H a xs/\xs.length<=i⟩
noncomputable def Itt(K:W.Frag)(a:Addr):It:=
 ⟨fun i H=>∃xs x,SqT K H a xs/\xs[i]?=some x,fun i H x H'=>H'=H/\∀xs,SqT K H a xs->xs[i]?=some x,fun i H=>∃xs,SqT K H a xs/\xs.length<=i⟩
noncomputable def Itr(lo:Int)(n:Nat):It:=⟨fun i _=>i<n,fun i H x H'=>H'=H/\x=.int (lo+i),fun i _=>n<=i⟩
theorem w5{P:Program}{w:World}{K:W.Frag}{tg:Expr}(a it:Addr):zK P w K tg (Itl K a) [it] it (fun i h=>h.IsListIter it a i) where
 mem:=by simp
 obj:=fun i h st b hb=>by
  have e:b=it:=by simpa using hb
  subst e;obtain⟨o,e,c,d⟩:=st;exact⟨o,e,fun v z=>by rw[d] at z;cases z⟩
 keep:=fun i h h' st k=>st.at fun o e=>k it (by simp) o e
 item:=by
  intro X hP hw hK hc i pins s σ H E I hf st hg;subst hP hw hK;obtain⟨xs,x,hq,hx⟩:=hg;obtain⟨its,rv,p,hz⟩:=I.list hq;obtain⟨u,hu,ru⟩:=rv.get hx;obtain⟨f0,f1,f2,f3,f4,f5⟩:=hf it (by simp)
  refine wpAny_pyNext_list_item st p.isList (x:=u) (by simpa using hu) fun h' st' sb=>?_
  have I1:Inv X pins σ H { s with heap:=h' }:=I.turned (t':=s.toks) (fun b o hb e=>(sb.2 b hb).trans e) f0 f1 f3 f4 f5;obtain⟨o,e,c,d⟩:=id st';exact⟨u,rfl,zS (s:={ s with heap:=h' }) e c d (by decide) ⟨x,H,I1,ru,⟨rfl,fun ys hy=>by rw[I.F6 hy hq];exact hx⟩,st',fun b hb=>(hf b hb).1⟩⟩
 done:=by
  intro X hP hw hK hc i pins s σ H E I hf st hg;subst hP hw hK;obtain⟨xs,hq,hx⟩:=hg;obtain⟨its,rv,p,hz⟩:=I.list hq;obtain⟨f0,f1,f2,f3,f4,f5⟩:=hf it (by simp)
  have hl:=rv.length;exact wpAny_pyNext_list_end (I.ok.hd hc) st p.isList (by simp;omega) fun h' eb=>⟨rfl,I.turned (t':=s.toks) (fun b o hb e=>eb b o hb e) f0 f1 f3 f4 f5⟩
 self:=fun _ _ _ _ _ st h=>wpAny_pyIter_listiter st h
theorem sg{P:Program}{w:World}{K:W.Frag}{tg:Expr}(a it:Addr):zK P w K tg (Itt K a) [it] it (fun i h=>h.IsTupleIter it a i) where
 mem:=by simp
 obj:=fun i h st b hb=>by
  have e:b=it:=by simpa using hb
  subst e;obtain⟨o,e,c,d⟩:=st;exact⟨o,e,fun v z=>by rw[d] at z;cases z⟩
 keep:=fun i h h' st k=>st.at fun o e=>k it (by simp) o e
 item:=by
  intro X hP hw hK hc i pins s σ H E I hf st hg;subst hP hw hK;obtain⟨xs,x,hq,hx⟩:=hg;obtain⟨its,rv,p,hz⟩:=I.tuple hq;obtain⟨u,hu,ru⟩:=rv.get hx;obtain⟨f0,f1,f2,f3,f4,f5⟩:=hf it (by simp)
  refine wpAny_pyNext_tuple_item st (show s.heap.IsTuple a its.toArray from p) (x:=u) (by simpa using hu) fun h' st' sb=>?_
  have I1:Inv X pins σ H { s with heap:=h' }:=I.turned (t':=s.toks) (fun b o hb e=>(sb.2 b hb).trans e) f0 f1 f3 f4 f5;obtain⟨o,e,c,d⟩:=id st';exact⟨u,rfl,zS (s:={ s with heap:=h' }) e c d (by decide) ⟨x,H,I1,ru,⟨rfl,fun ys hy=>by rw[I.F5 hy hq];exact hx⟩,st',fun b hb=>(hf b hb).1⟩⟩
 done:=by
  intro X hP hw hK hc i pins s σ H E I hf st hg;subst hP hw hK;obtain⟨xs,hq,hx⟩:=hg;obtain⟨its,rv,p,hz⟩:=I.tuple hq;obtain⟨f0,f1,f2,f3,f4,f5⟩:=hf it (by simp)
  have hl:=rv.length;exact wpAny_pyNext_tuple_end (I.ok.hd hc) st (show s.heap.IsTuple a its.toArray from p) (by simp;omega) fun h' eb=>⟨rfl,I.turned (t':=s.toks) (fun b o hb e=>eb b o hb e) f0 f1 f3 f4 f5⟩
 self:=fun _ _ _ _ _ st h=>wpAny_pyIter_tupleiter st h
theorem si{P:Program}{w:World}{K:PySem.W.Frag}{tg:Expr}(it:Addr)(lo:Int)(n:Nat):zK P w K tg (Itr lo n) [it] it (fun i h=>IsRangeIter h it (lo+(i:Nat)*1) ((n:Int)-(i:Nat)) 1) where
 mem:=by simp
 obj:=fun i h st b hb=>by
  have e:b=it:=by simpa using hb
  subst e
  exact⟨_,st,fun v z=>by
   have z':Data.fields _=Data.cell v:=z
   cases z'⟩
 keep:=fun i h h' st k=>k it (by simp) _ st
 item:=by
  intro X hP hw hK hc i pins s σ H E I hf st hg;subst hP hw hK;obtain⟨f0,f1,f2,f3,f4,f5⟩:=hf it (by simp)
  have W:=Walks.range (prog:=X.prog) (w:=X.w) (I.ok.hd hc) it lo 1 n;refine W.item i s _ _ hg st fun v h' tk hv st' kk=>?_;obtain⟨t,rfl⟩:=hv;have I1:Inv X pins σ H { s with heap:=h',toks:=tk }:=I.turned (fun b o hb e=>kk b o (by simpa using hb) e) f0 f1 f3 f4 f5
  refine⟨_,rfl,zS (s:={ s with heap:=h',toks:=tk }) (n:="range_iterator") st' rfl rfl (by decide) ⟨.int (lo+i),H,I1,⟨t,?_⟩,⟨rfl,rfl⟩,st',fun b hb=>(hf b hb).1⟩⟩
  rw[Int.mul_one]
 done:=by
  intro X hP hw hK hc i pins s σ H E I hf st hg;subst hP hw hK;obtain⟨f0,f1,f2,f3,f4,f5⟩:=hf it (by simp)
  exact wpAny_pyNext_range_end (I.ok.hd hc) st (by have:n<=i:=hg;omega) fun h' eb=>⟨rfl,I.turned (t':=s.toks) (fun b o hb e=>eb b o hb e) f0 f1 f3 f4 f5⟩
 self:=fun _ _ _ _ _ st h=>wpAny_pyIter_rangeiter st h
section
variable{X:Cx}{tg:Expr}
theorem zt{pins:List (Addr×Obj)}{σ:St}{H:Hp}{s:Shared}{R:It->Hp->Prop}{E:Value->Shared->Prop}{lo hi:Int}{t u v:Tok}{tk:Nat}(I:Inv X pins σ H s)(h1:-(2^62)<=lo)(h2:lo<2^62)(h3:-(2^62)<=hi)(h4:hi<2^62)(q:R (Itr lo (hi-lo).toNat) H):wpAny (model X.prog X.w) X.A (pyIter (.ref s.heap.objs.size)) (PIE X pins σ tg R) E { s with heap:=s.heap.push { cls:=.type "range",data:=.fields #[.int lo t,.int hi u,.int 1 v] },toks:=tk }:=by
 refine wpAny_pyIter_range (IsRange.new ..) (small_one h1 h2 h3 h4) ?_;have I1:Inv X pins σ H { s with heap:=s.heap.push { cls:=.type "range",data:=.fields #[.int lo t,.int hi u,.int 1 v] },toks:=tk }:=I.kept fun b o e=>Heap.get?_push_of_some _ e
 refine⟨(s.heap.push { cls:=.type "range",data:=.fields #[.int lo t,.int hi u,.int 1 v] }).objs.size,[(s.heap.push { cls:=.type "range",data:=.fields #[.int lo t,.int hi u,.int 1 v] }).objs.size],_,_,H,rfl,
  I1.kept (t':=tk) fun b o e=>Heap.get?_push_of_some _ e,si _ lo (hi-lo).toNat,?_,fun b hb=>?_,q⟩
 ·have e1:lo+((0:Nat):Int)*1=lo:=by simp
  have e2:(((hi-lo).toNat:Nat):Int)-((0:Nat):Int)=Builtin.Range.rangeSize lo hi 1:=by rw[rangeSize_one];split<;>omega
  show IsRangeIter _ _ (lo+((0:Nat):Int)*1) ((((hi-lo).toNat:Nat):Int)-((0:Nat):Int)) 1;rw[e1,e2];exact Heap.get?_push_size _ rfl
 ·have e:b=(s.heap.push { cls:=.type "range",data:=.fields #[.int lo t,.int hi u,.int 1 v] }).objs.size:=by simpa using hb
  subst e;exact I1.F8 (Nat.le_refl _) (I1.hok.fresh (Nat.le_refl _))
noncomputable def Ck(ta:TA):TI:=fun σ H R=>ta σ H fun vs H1=>∃j:Int,vs=[.int j]/\-(2^62)<=j/\j<2^62/\R (Itr 0 j.toNat) H1
theorem fL{a:Expr}{ta:TA}{p pos:Pos}(hg:Gl X "range")(hm:X.mg "range"=none)(ha:PA X [a] ta)(hs:starEach [a] X.env=[(false,eval a X.env)]:=by rfl):PI X tg (.Call (.Name "range" p) [a] [] pos) (Ck ta):=by
 intro pins s σ H R I h;refine Call_ (jT I hg hm boot_range (PyProof.Rows.callWith_type1 (thn (ha pos pins s σ H _ I h) fun us s1 ⟨vs,H1,I1,r1,q1⟩=>?_) hs rfl));obtain⟨j,e,q1,q2,q⟩:=q1;subst e
 cases r1 with
 |cons r rr=>
  cases rr;obtain⟨t,rfl⟩:=r;exact call_range_1 (zt I1 (by omega) (by omega) q1 q2 (by simpa using q))
noncomputable def CG(wi:TI)(g:TG)(tb:TS):TS:=fun D σ H=>wi σ H fun J H1=>∃W:Nat->Nat->St->Hp->Prop,(∃m,W 0 m σ H1)/\∀i m σ H,W i m σ H ->
 (J.stop i H/\D.nx σ H)\/(J.go i H/\∃N:St->Hp->Prop,(∀σ' H',N σ' H'->∃m',m'<m/\W (i+1) m' σ' H')/\∀x H',J.yld i H x H'->g x σ H' fun σ2 H2=>tb { D with nx:=N,ct:=N,bk:=D.nx } σ2 H2)
noncomputable def mr(fp:List Addr)(h:Heap):List (Addr×Obj):=fp.filterMap fun b=>(h.get? b).map fun o=>(b,o)
theorem gm{fp:List Addr}{h:Heap}{b:Addr}{o:Obj}(hb:b∈fp)(e:h.get? b=some o):(b,o)∈mr fp h:=List.mem_filterMap.mpr ⟨b,hb,by rw[e];rfl⟩
theorem wQ{fp:List Addr}{h:Heap}{p:Addr×Obj}(hp:p∈mr fp h):p.1∈fp/\h.get? p.1=some p.2:=by
 obtain⟨b,hb,e⟩:=List.mem_filterMap.mp hp
 cases q:h.get? b with
 |none=>rw[q] at e;cases e
 |some o=>
  rw[q] at e;have e':(b,o)=p:=Option.some.inj e;subst e';exact⟨hb,q⟩
theorem Inv.pinned{pins:List (Addr×Obj)}{σ:St}{H:Hp}{s:Shared}{fp:List Addr}(I:Inv X pins σ H s)(hf:∀b∈fp,kb X pins H b)(ho:∀b∈fp,∃o,s.heap.get? b=some o/\∀v,o.data≠.cell v):Inv X (pins++mr fp s.heap) σ H s:=
 I.F4 fun p hp=>(List.mem_append.mp hp).elim (fun z=>I.pin p (List.mem_append_right _ z)) fun z=>by
  obtain⟨hb,e⟩:=wQ z;obtain⟨f0,f1,f2,_⟩:=hf p.1 hb;obtain⟨o,e',d⟩:=ho p.1 hb;rw[e] at e';cases e';exact⟨e,f0,f1,f2,d⟩
theorem Inv.unpinned{pins pl:List (Addr×Obj)}{σ:St}{H:Hp}{s:Shared}(I:Inv X (pins++pl) σ H s):Inv X pins σ H s:=I.F4 fun p hp=>I.pin p (List.mem_append_right _ (List.mem_append_left _ hp))
theorem i5{iter:Expr}{body:List Stmt}{wi:TI}{g:TG}{tb:TS}{pos:Pos}(hp:PassesOwn (model X.prog X.w) X.A X.env X.xe)(hc:X.calm=true)(hi:PI X tg iter wi)(hg:PG X tg g)(hb:PSs X body tb)(hs:∀x,foldedSetIterable iter X.env x=pure x:=by intro _;rfl):PS X (.For tg iter body [] pos) (CG wi g tb):=.mk <| by
 intro pins s σ H D I h;refine wpAny_For (thn (hi pins s σ H _ I h) fun v s1 h1=>thn h1 fun itv s2 h2=>?_) hs;obtain⟨it,fp,tn,J,H2,e,I2,T,st2,f2,W,⟨m0,w0⟩,turn⟩:=h2;subst e;have stat:∀ {H':Hp},(∀b∈fp,H' b=none)->∀b∈fp,kb X pins H' b:=fun hn b hb=>⟨hn b hb,(f2 b hb).2⟩;refine codeAny_forLoop_any (fun n s'=>∃i σ' H',Inv X pins σ' H' s'/\tn i s'.heap/\(∀b∈fp,H' b=none)/\W i n σ' H') ?_ m0 ⟨0,σ,H2,I2,st2,fun b hb=>(f2 b hb).1,w0⟩
 rintro n s3 ⟨i,σ3,H3,I3,st3,fr3,w3⟩;rcases turn i n σ3 H3 w3 with⟨stop,qn⟩|⟨go,N,hN,step⟩
 ·refine wpAny_passesOwn hp (thn (T.done X rfl rfl rfl hc i pins s3 σ3 H3 X.xe I3 (stat fr3) st3 stop) fun r s4 ⟨hr,I4⟩=>?_)
  subst hr;exact wpAny_execs_nil ⟨σ3,H3,I4,qn⟩
 ·refine wpAny_passesOwn hp (thn (T.item X rfl rfl rfl hc i pins s3 σ3 H3 X.xe I3 (stat fr3) st3 go) fun r s4 ⟨u,hr,h4⟩=>?_)
  subst hr;refine wpAny_passesOwn hp (thn h4 fun _ s5 ⟨x,H5,I5,r5,y5,st5,fr5⟩=>?_);have I5':=I5.pinned (stat fr5) (T.obj _ _ st5);refine wpAny_passesOwn hp (thn (hg _ s5 σ3 H5 x u _ I5' r5 (step x H5 y5)) fun _ s6 ⟨σ6,H6,I6,q6⟩=>?_);refine wpAny_passesOwn hp (thn (hb _ s6 σ6 H6 _ I6 q6) fun f s7 q7=>?_)
  have again:∀ {σ7:St} {H7:Hp},Inv X (pins++mr fp s5.heap) σ7 H7 s7->N σ7 H7->∃m,m<n/\∃i σ' H',Inv X pins σ' H' s7/\tn i s7.heap/\(∀b∈fp,H' b=none)/\W i m σ' H':=fun {σ7 H7} I7 n7=>by
   obtain⟨m',hm,w7⟩:=hN σ7 H7 n7;refine⟨m',hm,i+1,σ7,H7,I7.unpinned,T.keep _ _ _ st5 fun b hb o e=>(I7.pin (b,o) (List.mem_append_right _ (List.mem_append_right _ (gm hb e)))).1,fun b hb=>?_,w7⟩;obtain⟨o,e,d⟩:=T.obj _ _ st5 b hb;exact(I7.pin (b,o) (List.mem_append_right _ (List.mem_append_right _ (gm hb e)))).2.1
  cases f with
  |next=>obtain⟨σ7,H7,I7,n7⟩:=q7;exact again I7 n7
  |cont=>obtain⟨σ7,H7,I7,n7⟩:=q7;exact again I7 n7
  |brk=>obtain⟨σ7,H7,I7,q7⟩:=q7;exact⟨σ7,H7,I7.unpinned,q7⟩
  |ret v=>obtain⟨x7,σ7,H7,I7,r7,q7⟩:=q7;exact⟨x7,σ7,H7,I7.unpinned,r7,q7⟩
end
noncomputable abbrev R2:=V->V->Hp->VK->Prop
noncomputable def OpR(X:Cx)(f:Value->Value->Sem Value)(r:R2):Prop:=
 ∀(pins:List (Addr×Obj)) (s:Shared) (σ:St) (H:Hp) (x y:V) (v u:Value) (Q:VK),Inv X pins σ H s->br x v->br y u->r x y H Q ->
  wpAny (model X.prog X.w) X.A (f v u) (EP X pins σ Q) X.xe s
noncomputable def UnR(X:Cx)(f:Value->Sem Value)(r:V->Hp->VK->Prop):Prop:=
 ∀(pins:List (Addr×Obj)) (s:Shared) (σ:St) (H:Hp) (x:V) (v:Value) (Q:VK),Inv X pins σ H s->br x v->r x H Q ->
  wpAny (model X.prog X.w) X.A (f v) (EP X pins σ Q) X.xe s
noncomputable def de(X:Cx)(f:Value)(r:List V->Hp->VK->Prop):Prop:=
 ∀(pins:List (Addr×Obj)) (s:Shared) (σ:St) (H:Hp) (xs:List V) (us:List Value) (Q:VK),Inv X pins σ H s->aQ xs us->r xs H Q ->
  wpAny (model X.prog X.w) X.A (call f us) (EP X pins σ Q) X.xe s
noncomputable def Fu(X:Cx)(r:V->Hp->(Bool->Hp->Prop)->Prop):Prop:=
 ∀(pins:List (Addr×Obj)) (s:Shared) (σ:St) (H:Hp) (x:V) (v:Value) (Q:Bool->Hp->Prop),Inv X pins σ H s->br x v->r x H Q ->
  wpAny (model X.prog X.w) X.A (truthy v) (TP X pins σ Q) X.xe s
noncomputable def tOp(r:R2)(ta tb:TE):TE:=fun σ H Q=>ta σ H fun x H1=>tb σ H1 fun y H2=>r x y H2 Q
noncomputable def tUn(r:V->Hp->VK->Prop)(ta:TE):TE:=fun σ H Q=>ta σ H fun x H1=>r x H1 Q
noncomputable def rI(C:Int->Int->Prop)(g:Int->Int->V):R2:=fun x y H Q=>∃i j,x=.int i/\y=.int j/\C i j/\Q (g i j) H
noncomputable def rI0(g:Int->Int->V):R2:=fun x y H Q=>∃i j,x=.int i/\y=.int j/\Q (g i j) H
noncomputable def rU(g:Int->V):V->Hp->VK->Prop:=fun x H Q=>∃i,x=.int i/\Q (g i) H
section
variable{X:Cx}{a b c:Expr}{ta tb tc:TE}{pos:Pos}
theorem Cy(ha:PE X a ta)(hb:PE X b tb){pins:List (Addr×Obj)}{s:Shared}{σ:St}{H:Hp}{R:V->V->Hp->Prop}(I:Inv X pins σ H s)(h:ta σ H fun x H1=>tb σ H1 fun y H2=>R x y H2){Q:Value->Shared->Prop}{f:Value->Value->Sem Value}(hf:∀v u s2 x y H2,Inv X pins σ H2 s2->br x v->br y u->R x y H2->wpAny (model X.prog X.w) X.A (f v u) Q X.xe s2):
  wpAny (model X.prog X.w) X.A (eval a X.env) (fun v s₁=>wpAny (model X.prog X.w) X.A (eval b X.env) (fun u s₂=>wpAny (model X.prog X.w) X.A (f v u) Q X.xe s₂) X.xe s₁) X.xe s:=by
 refine thn (ha pins s σ H _ I h) fun v s1 ⟨x,H1,I1,r1,q1⟩=>?_;refine thn (hb pins s1 σ H1 _ I1 q1) fun u s2 ⟨y,H2,I2,r2,q2⟩=>?_;exact hf v u s2 x y H2 I2 r1 r2 q2
theorem aA{op:Operator}{r:R2}(ho:OpR X (binaryOp op) r)(ha:PE X a ta)(hb:PE X b tb):PE X (.BinOp a op b pos) (tOp r ta tb):=.mk <| by
 intro pins s σ H Q I h;exact wpAny_BinOp (Cy ha hb I h fun v u s2 x y H2 I2 rx ry q=>ho pins s2 σ H2 x y v u Q I2 rx ry q)
theorem se{op:UnaryOp}{r:V->Hp->VK->Prop}(ho:UnR X (unaryOp op) r)(ha:PE X a ta):PE X (.UnaryOp op a pos) (tUn r ta):=.mk <| by
 intro pins s σ H Q I h;exact UnaryOp_ (thn (ha pins s σ H _ I h) fun v s1 ⟨x,H1,I1,r1,q1⟩=>ho pins s1 σ H1 x v Q I1 r1 q1)
theorem opI{f:Value->Value->Sem Value}{C:Int->Int->Prop}{g:Int->Int->Int}(rule:∀(i j:Int)(t u:Tok)(s:Shared)(Q:Value->Shared->Prop)(E:Value->Shared->Prop),C i j->Q (.int (g i j) s.toks) { s with toks:=s.toks+1 }->wpAny (model X.prog X.w) X.A (f (.int i t) (.int j u)) Q E s):
  OpR X f (rI C fun i j=>.int (g i j)):=by
 intro pins s σ H x y v u Q I rx ry h;obtain⟨i,j,rfl,rfl,hc,q⟩:=h;obtain⟨t,rfl⟩:=rx;obtain⟨t',rfl⟩:=ry;exact rule i j t t' s _ _ hc ⟨.int (g i j),H,I.tok _,⟨_,rfl⟩,q⟩
theorem D3{f:Value->Value->Sem Value}{g:Int->Int->Int}(rule:∀(i j:Int)(t u:Tok)(s:Shared)(Q:Value->Shared->Prop)(E:Value->Shared->Prop),Q (.int (g i j) s.toks) { s with toks:=s.toks+1 }->wpAny (model X.prog X.w) X.A (f (.int i t) (.int j u)) Q E s):
  OpR X f (rI0 fun i j=>.int (g i j)):=by
 intro pins s σ H x y v u Q I rx ry h;obtain⟨i,j,rfl,rfl,q⟩:=h;obtain⟨t,rfl⟩:=rx;obtain⟨t',rfl⟩:=ry;exact rule i j t t' s _ _ ⟨.int (g i j),H,I.tok _,⟨_,rfl⟩,q⟩
theorem Bd{f:Value->Value->Sem Value}{g:Int->Int->Bool}(rule:∀(i j:Int)(t u:Tok)(s:Shared)(Q:Value->Shared->Prop)(E:Value->Shared->Prop),Q (.bool (g i j)) s->wpAny (model X.prog X.w) X.A (f (.int i t) (.int j u)) Q E s):
  OpR X f (rI0 fun i j=>.bl (g i j)):=by
 intro pins s σ H x y v u Q I rx ry h;obtain⟨i,j,rfl,rfl,q⟩:=h;obtain⟨t,rfl⟩:=rx;obtain⟨t',rfl⟩:=ry;exact rule i j t t' s _ _ ⟨.bl (g i j),H,I,rfl,q⟩
noncomputable def Fq(i j:Int):Prop:=0<j/\j<1073741824
noncomputable def Fm(i j:Int):Prop:=0<=j/\j<=1000000/\i.natAbs<2^64
noncomputable def ng(i j:Int):Prop:=(-(2^64)<i/\i<2^64)\/(-(2^64)<j/\j<2^64)
theorem ng.ok{i j:Int}(h:ng i j):IntMulOk i j:=by
 rcases h with⟨h1,h2⟩|⟨h1,h2⟩
 ·exact .of_left (intBits_le_64 h1 h2)
 ·exact .of_right (intBits_le_64 h1 h2)
theorem aH:OpR X (binaryOp .Add) (rI0 fun i j=>.int (i+j)):=D3 fun _ _ _ _ _ _ _ q=>add_int q
theorem kh:OpR X (binaryOp .Sub) (rI0 fun i j=>.int (i-j)):=D3 fun _ _ _ _ _ _ _ q=>sub_int q
theorem jW:OpR X (binaryOp .Mult) (rI ng fun i j=>.int (i*j)):=opI fun _ _ _ _ _ _ _ hc q=>mul_int q hc.ok
theorem js:OpR X (binaryOp .FloorDiv) (rI Fq fun i j=>.int (i / j)):=opI fun i j _ _ _ _ _ hc q=>by
 have h1:(0:Int)<j:=hc.1;have h2:j<1073741824:=hc.2;exact floordiv_int (by omega) (by rw[Int.fdiv_eq_ediv_of_nonneg i (by omega)];exact q) (.inl (PyProof.noPylong_small (by omega)))
theorem f8:OpR X (binaryOp .Mod) (rI (fun _ j=>0<j) fun i j=>.int (i%j)):=opI fun i j _ _ _ _ _ hc q=>by
 have h1:(0:Int)<j:=hc;exact mod_int' (by omega) (by rw[Int.fmod_eq_emod_of_nonneg i (by omega)];exact q)
theorem Dm:OpR X (binaryOp .Pow) (rI Fm fun i j=>.int (i^j.toNat)):=opI fun _ _ _ _ _ _ _ hc q=>pow_int_small hc.1 hc.2.1 hc.2.2 q
theorem unI{f:Value->Sem Value}{g:Int->Int}(rule:∀(i:Int)(t:Tok)(s:Shared)(Q:Value->Shared->Prop)(E:Value->Shared->Prop),Q (.int (g i) s.toks) { s with toks:=s.toks+1 }->wpAny (model X.prog X.w) X.A (f (.int i t)) Q E s):
  UnR X f (rU fun i=>.int (g i)):=by
 intro pins s σ H x v Q I rx h;obtain⟨i,rfl,q⟩:=h;obtain⟨t,rfl⟩:=rx;exact rule i t s _ _ ⟨.int (g i),H,I.tok _,⟨_,rfl⟩,q⟩
theorem mG:UnR X (unaryOp .USub) (rU fun i=>.int (-i)):=unI fun _ _ _ _ _ q=>neg_int q
end
section
variable{X:Cx}{a b c:Expr}{ta tb tc:TE}{pos:Pos}
theorem C1{pins:List (Addr×Obj)}{σ:St}{H:Hp}{s:Shared}{Q:VK}{k k':Bool}(I:Inv X pins σ H s)(q:Q (.bl k) H)(e:k=k'):EP X pins σ Q (.bool k') s:=by
 subst e;exact⟨.bl k,H,I,rfl,q⟩
theorem uO:OpR X (compareOp .Lt) (rI0 fun i j=>.bl (decide (i<j))):=Bd fun _ _ _ _ _ _ _ q=>lt_int q
theorem nP:OpR X (compareOp .LtE) (rI0 fun i j=>.bl (decide (i<=j))):=Bd fun _ _ _ _ _ _ _ q=>le_int q
theorem BS:OpR X (compareOp .Gt) (rI0 fun i j=>.bl (decide (j<i))):=Bd fun _ _ _ _ _ _ _ q=>gt_int q
theorem Ey:OpR X (compareOp .GtE) (rI0 fun i j=>.bl (decide (j<=i))):=Bd fun _ _ _ _ _ _ _ q=>ge_int q
theorem a8(b:Expr){op:CmpOp}(h:op≠.In:=by decide)(h2:op≠.NotIn:=by decide):behindInMarks op b=false:=by
 have e1:(op == CmpOp.In)=false:=by cases op<;>first|rfl|exact absurd rfl h
 have e2:(op == CmpOp.NotIn)=false:=by cases op<;>first|rfl|exact absurd rfl h2
 cases b<;>simp[behindInMarks,e1,e2]
theorem eA{op:CmpOp}{r:R2}(ho:OpR X (compareOp op) r)(ha:PE X a ta)(hb:PE X b tb)(hm:behindInMarks op b=false):PE X (.Compare a [op] [b] pos) (tOp r ta tb):=.mk <| by
 intro pins s σ H Q I h;exact wpAny_Compare1 (Cy ha hb I h fun v u s2 x y H2 I2 rx ry q=>ho pins s2 σ H2 x y v u Q I2 rx ry q) hm
noncomputable def xU(t:TE):TT:=fun σ H Q=>t σ H fun x H'=>∃k,x=.bl k/\Q k H'
theorem aX{op:CmpOp}{r:R2}(ho:OpR X (compareOp op) r)(ha:PE X a ta)(hb:PE X b tb)(hm:behindInMarks op b=false):PT X (.Compare a [op] [b] pos) (xU (tOp r ta tb)):=by
 intro pins s σ H Q I h
 refine wpAny_isTrue_Compare1 (thn (ha pins s σ H _ I h) fun v s1 ⟨x,H1,I1,r1,q1⟩=>thn (hb pins s1 σ H1 _ I1 q1) fun u s2 ⟨y,H2,I2,r2,q2⟩=>
  thn (ho pins s2 σ H2 x y v u _ I2 r1 r2 q2) fun c s3 ⟨z,H3,I3,r3,k,e,q3⟩=>?_) hm
 subst e;cases r3;exact wpAny_truthy_bool ⟨H3,I3,q3⟩
noncomputable def yY(r r':R2)(ta tb tc:TE):TE:=fun σ H Q=>ta σ H fun x H1=>tb σ H1 fun y H2=>r x y H2 fun z H3=>∃k,z=.bl k /\
 (if k=true then tc σ H3 fun w' H4=>r' y w' H4 Q else Q (.bl false) H3)
theorem jD{op op':CmpOp}{r r':R2}(ho:OpR X (compareOp op) r)(ho':OpR X (compareOp op') r')(ha:PE X a ta)(hb:PE X b tb)(hc:PE X c tc)(hm:lastMarks [op,op'] [b,c]=false:=by with_unfolding_all rfl):PE X (.Compare a [op,op'] [b,c] pos) (yY r r' ta tb tc):=.mk <| by
 intro pins s σ H Q I h
 refine Compare_chain (thn (ha pins s σ H _ I h) fun v s1 ⟨x,H1,I1,r1,q1⟩=>chain_link (thn (hb pins s1 σ H1 _ I1 q1) fun u s2 ⟨y,H2,I2,r2,q2⟩=>
  thn (ho pins s2 σ H2 x y v u _ I2 r1 r2 q2) fun d s3 ⟨z,H3,I3,r3,k,e,q3⟩=>?_)) hm
 subst e;cases r3;refine wpAny_truthy_bool ?_
 cases k with
 |false=>exact ite_ff ⟨.bl false,H3,I3,rfl,q3⟩
 |true=>exact ite_tt (chain_last (thn (hc pins s3 σ H3 _ I3 q3) fun w' s4 ⟨z',H4,I4,r4,q4⟩=>ho' pins s4 σ H4 y z' u w' Q I4 r2 r4 q4))
noncomputable def oY(K:W.Frag)(x:V)(H:Hp)(k:Bool):Prop:=
 match x with
 |.non=>k=false
 |.bl b=>k=b
 |.int i=>k=(i != 0)
 |.str y=>y.length<=sizeLine/\k=((y.length:Int) != 0)
 |.byt y=>y.size<=sizeLine/\k=((y.size:Int) != 0)
 |.ref p=>(∃xs,SqL K H p xs/\k=!xs.isEmpty)\/(∃xs,SqT K H p xs/\k=!xs.isEmpty)\/∃kvs,H p=some (.dK kvs)/\k=!kvs.isEmpty
 |_=>False
theorem uh{κ:Type}{kvs:List (κ×V)}{vs:List (κ×Value)}(r:KV kvs vs):(!vs.isEmpty)=!kvs.isEmpty:=by
 cases r<;>rfl
theorem mq{xs:List V}{its:List Value}(r:aQ xs its):(!its.toArray.isEmpty)=!xs.isEmpty:=by
 cases r<;>simp
theorem ke:(sizeLine:Nat)<2^63:=by rw[sizeLine_eq];decide
theorem oH:Fu X (fun x H Q=>∃k,oY X.K x H k/\Q k H):=by
 intro pins s σ H x v Q I rx h;obtain⟨k,e,q⟩:=h;have hl:=ke;have hs:sizeLine=16777216:=sizeLine_eq
 cases x with
 |non=>
  cases rx;have e':k=false:=e;subst e';exact truthy_none ⟨H,I,q⟩
 |bl b=>
  cases rx;have e':k=b:=e;subst e';exact wpAny_truthy_bool ⟨H,I,q⟩
 |int i=>
  obtain⟨t,rfl⟩:=rx;have e':k=(i != 0):=e;subst e';exact PySem.P.truthy_int ⟨H,I,q⟩
 |str y=>
  obtain⟨t,rfl⟩:=rx;obtain⟨hy,e'⟩:y.length<=sizeLine/\k=((y.length:Int) != 0):=e;subst e';exact PySem.P.truthy_str (by omega) ⟨H,I.tok _,q⟩
 |byt y=>
  obtain⟨t,rfl⟩:=rx;obtain⟨hy,e'⟩:y.size<=sizeLine/\k=((y.size:Int) != 0):=e;subst e';exact W.truthy_bytes (by omega) ⟨H,I.tok _,q⟩
 |ref p=>
  cases rx;have e':(∃xs,SqL X.K H p xs/\k=!xs.isEmpty)\/(∃xs,SqT X.K H p xs/\k=!xs.isEmpty)\/∃kvs,H p=some (.dK kvs)/\k=!kvs.isEmpty:=e;rcases e' with⟨xs,hx,e'⟩|⟨xs,hx,e'⟩|⟨kvs,hx,e'⟩
  ·subst e'
   obtain⟨its,r,pl,hz⟩:=I.list hx;have hlen:=r.length;exact wpAny_truthy_list pl.isList (by simp only[List.size_toArray];omega) ⟨H,I.tok _,by rw[mq r];exact q⟩
  ·subst e'
   obtain⟨its,r,pl,hz⟩:=I.tuple hx;have hlen:=r.length;exact truthy_tuple pl (by simp only[List.size_toArray];omega) ⟨H,I.tok _,by rw[mq r];exact q⟩
  ·subst e'
   obtain⟨hz,hS,vs,r,m⟩:kvs.length<=sizeLine/\(p == sysModules)=false/\∃vs,KV kvs vs/\s.heap.DictOf (hX X.prog X.w) p vs:=I.hok p _ hx;have hlen:kvs.length=vs.length:=Paired.length r;exact wpAny_truthy_dict hS m (by omega) ⟨H,I.tok _,by rw[uh r];exact q⟩
 |_=>exact(show False from e).elim
theorem xl(ha:PE X a ta)(he:∀whole,isTrue a X.env whole=(do let v ← whole;standAt a.pos;holding [v] (truthy v))):
  PT X a (fun σ H Q=>ta σ H fun x H'=>∃k,oY X.K x H' k/\Q k H'):=by
 intro pins s σ H Q I h;exact isTrue_plain (thn (ha pins s σ H _ I h) fun v s1 ⟨x,H1,I1,r1,q1⟩=>oH pins s1 σ H1 x v Q I1 r1 q1) (he _)
theorem gE{x:V}{us:List Value}(r:aQ [x] us):∃u,us=[u]/\br x u:=by
 cases r with
 |cons r1 r2=>cases r2;exact⟨_,rfl,r1⟩
theorem Ct{x y:V}{us:List Value}(r:aQ [x,y] us):∃u w',us=[u,w']/\br x u/\br y w':=by
 cases r with
 |cons r1 r2=>
  cases r2 with
  |cons r3 r4=>cases r4;exact⟨_,_,rfl,r1,r3⟩
theorem qh:de X (.builtin "abs") (fun xs H Q=>∃i,xs=[.int i]/\Q (.int (if i<0 then -i else i)) H):=by
 intro pins s σ H xs us Q I r h;obtain⟨i,rfl,q⟩:=h;obtain⟨u,rfl,t,rfl⟩:=gE r;exact call_abs_int fun u tk=>⟨.int (if i<0 then -i else i),H,I.tok _,⟨_,rfl⟩,q⟩
theorem wR(hc:X.calm=true):de X (.builtin "max") (fun xs H Q=>∃i j,xs=[.int i,.int j]/\Q (.int (if j>i then j else i)) H):=by
 intro pins s σ H xs us Q I r h;obtain⟨i,j,rfl,q⟩:=h;obtain⟨u,w',rfl,⟨t,rfl⟩,⟨t',rfl⟩⟩:=Ct r;refine max_two_ints (I.ok.hd hc) fun h' tk k=>⟨_,H,I.kept k,?_,q⟩;by_cases hj:j>i
 ·rw[if_pos hj,if_pos hj];exact⟨_,rfl⟩
 ·rw[if_neg hj,if_neg hj];exact⟨_,rfl⟩
theorem wN:de X (.type "int") (fun xs H Q=>(∃i,xs=[.int i]/\Q (.int i) H)\/∃k,xs=[.bl k]/\Q (.int (if k then 1 else 0)) H):=by
 intro pins s σ H xs us Q I r h;rcases h with⟨i,rfl,q⟩|⟨k,rfl,q⟩
 ·obtain⟨u,rfl,t,rfl⟩:=gE r
  exact call_int_int ⟨.int i,H,I,⟨_,rfl⟩,q⟩
 ·obtain⟨u,rfl,r1⟩:=gE r
  cases r1;exact call_int_bool ⟨.int (if k then 1 else 0),H,I.tok _,⟨_,rfl⟩,q⟩
noncomputable def Bw(K:W.Frag)(x:V)(H:Hp)(n:Nat):Prop:=
 match x with
 |.str y=>y.length<=sizeLine/\n=y.length
 |.byt y=>y.size<=sizeLine/\n=y.size
 |.ref p=>(∃xs,SqL K H p xs/\n=xs.length)\/∃xs,SqT K H p xs/\n=xs.length
 |_=>False
theorem gN:de X (.builtin "len") (fun xs H Q=>∃x n,xs=[x]/\Bw X.K x H n/\Q (.int n) H):=by
 intro pins s σ H xs us Q I r h;obtain⟨x,n,rfl,e,q⟩:=h;obtain⟨u,rfl,rx⟩:=gE r;have hl:=ke;have hs:sizeLine=16777216:=sizeLine_eq
 cases x with
 |str y=>
  obtain⟨t,rfl⟩:=rx;obtain⟨hy,e'⟩:y.length<=sizeLine/\n=y.length:=e;subst e';exact len_str (by omega) ⟨.int _,H,I.tok _,⟨_,rfl⟩,q⟩
 |byt y=>
  obtain⟨t,rfl⟩:=rx;obtain⟨hy,e'⟩:y.size<=sizeLine/\n=y.size:=e;subst e';exact W.len_bytes (by omega) ⟨.int _,H,I.tok _,⟨_,rfl⟩,q⟩
 |ref p=>
  cases rx;have e':(∃xs,SqL X.K H p xs/\n=xs.length)\/∃xs,SqT X.K H p xs/\n=xs.length:=e;rcases e' with⟨xs,hx,e'⟩|⟨xs,hx,e'⟩
  ·subst e'
   obtain⟨its,r',pl,hz⟩:=I.list hx;have hlen:=r'.length;exact Calls.call_len_list pl.isList (by simp only[List.size_toArray];omega) ⟨.int xs.length,H,I.tok _,⟨_,by simp only[List.size_toArray];rw[hlen]⟩,q⟩
  ·subst e'
   obtain⟨its,r',pl,hz⟩:=I.tuple hx;have hlen:=r'.length;exact len_tuple pl (by simp only[List.size_toArray];omega) ⟨.int xs.length,H,I.tok _,⟨_,by simp only[List.size_toArray];rw[hlen]⟩,q⟩
 |_=>exact(show False from e).elim
end
structure CQ(h:Heap)(x dx C:Addr)(mA:Str->Option Value):Prop where
 obj:h.get? x=some (W.instObj C dx)
 ns:h.Ns1 dx mA
 ne:dx≠x
theorem wF{h:Heap}{dx:Addr}{mA:Str->Option Value}(n:h.Ns1 dx mA):∃od,h.get? dx=some od/\∀name,W.lookIn name od=some (mA name):=by
 obtain⟨o,es,ep,ho,hd,hk,_,hm⟩:=n;refine⟨o,ho,fun name=>?_⟩;have e:=hm name;unfold nsFind findBy at e;rw[←Array.find?_toList] at e
 unfold W.lookIn;rw[hd];dsimp only;split
 ·rename_i y q
  rw[q] at e;exact congrArg some e
 ·rename_i q
  rw[q] at e
  have a:es.toList.any (·.refKey)=false:=by
   rw[List.any_eq_false];intro y hy;obtain⟨z,t,hkey⟩:=hk y (Array.mem_toList_iff.mp hy);simp[DictEntry.refKey,hkey]
  have a':¬ es.toList.any (·.refKey)=true:=by rw[a];exact Bool.false_ne_true
  rw[if_neg a'];exact congrArg some e
theorem CQ.look{h:Heap}{x dx C:Addr}{mA:Str->Option Value}(I:CQ h x dx C mA):∃od,W.InstAt h x (W.instObj C dx) C (some od)/\∀name,W.lookIn name od=some (mA name):=
 let ⟨od,ho,hl⟩:=wF I.ns
 ⟨od,⟨I.obj,rfl,rfl,ho⟩,hl⟩
section
variable{P:Program}{w:World}{H H':Hp}{h h':Heap}{a C dx:Addr}{fs fs':List (Str×V)}
theorem Bv(hok:HOk P w H h)(e:H a=some (.ins C dx fs)):∃mA,CQ h a dx C mA/\(∀f,DH (fs.lookup f) (mA f))/\PySem.Within mA (fs.map (·.1))/\fs.length<=1000/\H dx=some (.own a):=by
 obtain⟨d,z,ne,ob,mA,n,r,q⟩:=(show cI P w H h a (.ins C dx fs) from hok a _ e)
 exact⟨mA,⟨ob,n,ne⟩,r,q,z,d⟩
end
structure Cls(K:W.Frag)(C:Addr):Prop where
 pg:W.plainGet K C Str.empty=true
 hd:W.hasDictIn K C=true
 po:W.plainOver K C=true
 sa:W.findIn K (.ref C) "__setattr__"=some (some (.builtin "object.__setattr__"))
theorem Cls.get{K:W.Frag}{C:Addr}(c:Cls K C)(f:Str):W.plainGet K C f=true:=c.pg
structure Con(K:W.Frag)(C:Addr)(f:Str)(v:V)(u:Value):Prop where
 at_:W.findIn K (.ref C) f=some (some u)
 rel:br v u
 get:W.specialIn K u "__get__"=some none
 cp:W.copiedNames.contains f=false
structure FO(K:W.Frag)(C:Addr)(m:Str)(f:Addr):Prop where
 at_:W.findIn K (.ref C) m=some (some (.ref f))
 fn:W.isFn K (.ref f)=true
 kp:W.keepIn K (.ref f)=true
section
variable{X:Cx}{pins:List (Addr×Obj)}{σ:St}{H:Hp}{s:Shared}{A:Around}{E:Value->Shared->Prop}{Q:Value->Shared->Prop}{c:Value}{b:Bool}
inductive ky (K:PySem.W.Frag) (H:Hp):V->Value->Prop where
 |non:ky K H .non (.type "NoneType")
 |bl (x:Bool):ky K H (.bl x) (.type "bool")
 |int (i:Int):ky K H (.int i) (.type "int")
 |str (x:Str):ky K H (.str x) (.type "str")
 |flt (x:UInt64):ky K H (.flt x) (.type "float")
 |lst {a:Addr} {xs:List V} (e:H a=some (.lst xs)):ky K H (.ref a) (.type "list")
 |frz {a:Addr} {o:Obj} {xs:List V} (e:H a=some (.frz o (.lst xs))):ky K H (.ref a) (.type "list")
 |tup {a:Addr} {xs:List V} (e:H a=some (.tup xs)):ky K H (.ref a) (.type "tuple")
 |dK {a:Addr} {kvs:List (Key×V)} (e:H a=some (.dK kvs)):ky K H (.ref a) (.type "dict")
 |dT {a:Addr} {kvs:List (List Key×V)} (e:H a=some (.dT kvs)):ky K H (.ref a) (.type "dict")
 |ins {a C dx:Addr} {fs:List (Str×V)} (e:H a=some (.ins C dx fs)) (cl:Cls K C) (ha:PySem.W.findIn K (.ref C) "__class__"=some (some (.builtin "object.__class__")))
   (hn:PySem.W.specialIn K (.builtin "object.__class__") "__get__"=some (some (.builtin "getset_descriptor.__get__"))) (htk:PySem.W.takesIn K (.builtin "object.__class__")=some true)
   (hm:PySem.W.mroIn K C (.type "object")=some true):ky K H (.ref a) (.ref C)
theorem wG{x:V}{u t:Value}(I:Inv X pins σ H s)(rx:br x u)(ty:ky X.K H x t)(e:W.kitOne X.K t c=some b)(h:∀tk,Q (.bool b) { s with toks:=tk }):
  wpAny (model X.prog X.w) A (call (.builtin "isinstance") [u,c]) Q E s:=by
 cases ty with
 |non=>cases (show u=Value.none from rx);exact W.kia_one W.kitx_none I.kIn True.intro e (fun z=>nomatch z) h
 |bl y=>cases (show u=Value.bool y from rx);exact W.kia_one W.kitx_bool I.kIn True.intro e (fun z=>nomatch z) h
 |int i=>obtain⟨t,q⟩:=(show ∃t,u=Value.int i t from rx);cases q;exact W.kia_one W.kitx_int I.kIn True.intro e (fun z=>nomatch z) h
 |str y=>obtain⟨t,q⟩:=(show ∃t,u=Value.str y t from rx);cases q;exact W.kia_one W.kitx_str I.kIn True.intro e (fun z=>nomatch z) h
 |flt y=>obtain⟨t,q⟩:=(show ∃t,u=Value.float y t from rx);cases q;exact W.kia_one W.kitx_float I.kIn True.intro e (fun z=>nomatch z) h
 | @lst a xs ea=>
  cases (show u=Value.ref a from rx)
  obtain⟨_,_,n,_,h1⟩:=(show cI X.prog X.w H s.heap a (.lst xs) from I.hok a _ ea)
  exact W.kia_one W.kitx_list I.kIn ⟨_,h1,rfl⟩ e (fun z=>nomatch z) h
 | @frz a ob xs ea=>
  cases (show u=Value.ref a from rx)
  obtain⟨_,_,_,n,_,h1⟩:=(show cI X.prog X.w H s.heap a (.frz ob (.lst xs)) from I.hok a _ ea)
  exact W.kia_one W.kitx_list I.kIn ⟨_,h1,rfl⟩ e (fun z=>nomatch z) h
 | @tup a xs ea=>
  cases (show u=Value.ref a from rx)
  obtain⟨_,_,_,p⟩:=(show cI X.prog X.w H s.heap a (.tup xs) from I.hok a _ ea)
  obtain⟨o,h1,h2,_⟩:=p.1;exact W.kia_one W.kitx_tuple I.kIn ⟨o,h1,h2⟩ e (fun z=>nomatch z) h
 | @dK a kvs ea=>
  cases (show u=Value.ref a from rx)
  obtain⟨_,_,vs,_,p⟩:=(show cI X.prog X.w H s.heap a (.dK kvs) from I.hok a _ ea)
  obtain⟨o,es,ep,h1,h2,_⟩:=p;exact W.kia_one W.kitx_dict I.kIn ⟨o,h1,h2.1⟩ e (fun z=>nomatch z) h
 | @dT a kvs ea=>
  cases (show u=Value.ref a from rx)
  obtain⟨_,_,xs,_,o,es,ep,h1,h2,_⟩:=(show cI X.prog X.w H s.heap a (.dT kvs) from I.hok a _ ea)
  exact W.kia_one W.kitx_dict I.kIn ⟨o,h1,h2.1⟩ e (fun z=>nomatch z) h
 | @ins a C dx fs ea cl ha hn htk hm=>
  cases (show u=Value.ref a from rx)
  obtain⟨mA,O,_⟩:=Bv I.hok ea;obtain⟨od,J,_⟩:=O.look;exact W.kia_one (W.kitx_own (cl.get _) cl.hd ha hn htk hm) I.kIn J e (fun z=>nomatch z) h
end
structure eB(k:Nat)(A:Around):Prop where
 hd:A.handled=none
 dp:A.depth+3*k+5<recursionLimit
 un:A.units+16*k+200<cLine
 gd:A.guards=some []
theorem eB.mono{j k:Nat}{A:Around}(r:eB k A)(h:j<=k):eB j A:=⟨r.hd,by have:=r.dp;omega,by have:=r.un;omega,r.gd⟩
theorem eB.deeper{k:Nat}{A:Around}(r:eB (k+1) A)(env:Env):eB k (A.deeper env):=
 ⟨r.hd,by have:=r.dp;show A.depth+1+3*k+5<_;omega,by have:=r.un;show A.units+3+16*k+200<_;omega,r.gd⟩
theorem eB.depth{k:Nat}{A:Around}(r:eB k A):A.depth<recursionLimit:=by have:=r.dp;omega
noncomputable def C8:TA:=fun _ H Q=>Q [] H
noncomputable def om(ta:TE)(tr:TA):TA:=fun σ H Q=>ta σ H fun x H1=>tr σ H1 fun xs H2=>Q (x::xs) H2
section
variable{X:Cx}{e:Expr}{es:List Expr}{te:TE}{t:TA}{pos:Pos}
theorem ae:PA X [] C8:=.mk <| fun _ _ _ _ H Q I h=>Calls.spliced_nil ⟨[],H,I,.nil,h⟩
theorem ab(ha:PE X e te)(hr:PA X es t)(hs:starEach (e::es) X.env=(false,eval e X.env)::starEach es X.env:=by rfl):PA X (e::es) (om te t):=.mk <| by
 intro pos pins s σ H Q I h;rw[hs];show wpAny _ _ (spliced ((false,eval e X.env)::backTo pos (starEach es X.env))) _ _ s;refine Calls.spliced_cons (thn (ha pins s σ H _ I h) fun u s1 ⟨x,H1,I1,r1,q1⟩=>?_);exact thn (hr pos pins s1 σ H1 _ I1 q1) fun us s2 ⟨xs,H2,I2,r2,q2⟩=>⟨x::xs,H2,I2,.cons r1 r2,q2⟩
noncomputable def EB(t:TA):TE:=fun σ H Q=>t σ H fun xs H1=>xs.length<=sizeLine/\∀p,H1 p=none->Q (.ref p) (upd H1 p (.tup xs))
noncomputable def Ab(t:TA):TE:=fun σ H Q=>t σ H fun xs H1=>xs.length<=sizeLine/\∀p,H1 p=none->Q (.ref p) (upd H1 p (.lst xs))
theorem ao{x1}(h:PA X es t):PE X (.Tuple es x1 pos) (EB t):=.mk <| by
 intro pins s σ H Q I hq;refine wpAny_Tuple_spliced (thn (h pos pins s σ H _ I hq) fun us s1 ⟨xs,H1,I1,r,z,q⟩=>⟨by rw[←r.length];exact z,?_⟩)
 have hf:H1 s1.heap.objs.size=none:=I1.hok.fresh (Nat.le_refl _);refine⟨.ref s1.heap.objs.size,upd H1 s1.heap.objs.size (.tup xs),I1.laid (t':=s1.toks) (fun b u e=>Heap.get?_push_of_some _ e) (Nat.le_refl _) ?_,rfl,q _ hf⟩;exact⟨z,us,r,⟨_,Heap.get?_push_size _ rfl,rfl,_,rfl⟩,_,Heap.get?_push_size _ rfl,rfl⟩
theorem aP(h:PA X es t):PE X (.List es pos) (Ab t):=.mk <| by
 intro pins s σ H Q I hq;refine wpAny_List_spliced (thn (h pos pins s σ H _ I hq) fun us s1 ⟨xs,H1,I1,r,z,q⟩=>⟨by rw[←r.length];exact z,?_⟩)
 have hf:H1 s1.heap.objs.size=none:=I1.hok.fresh (Nat.le_refl _);refine⟨.ref s1.heap.objs.size,upd H1 s1.heap.objs.size (.lst xs),I1.laid (t':=s1.toks) (fun b u e=>Heap.get?_push_of_some _ e) (Nat.le_refl _) ?_,rfl,q _ hf⟩;exact⟨z,us,0,r,Heap.get?_push_size _ rfl⟩
end
noncomputable abbrev Sp:=List V->Hp->VK->XK->Prop
noncomputable abbrev CXT:=List Env->Hp->Shared->XK->Value->Shared->Prop
structure tX(P:Program)(w:World)(K:W.Frag)(mg:Str->Option Value)(base:Heap)(A:Around)(outer:List Env)(s:Shared)(H:Hp):Prop where
 frames:A.frames=some outer
 mod:Mod K mg base
 bs:∀b o,base.get? b=some o->s.heap.get? b=some o/\H b=none
 bsz:base.objs.size<=s.heap.objs.size
 funs:s.heap.FunFrames base outer
 frf:∀b∈frs outer,H b=none
 tt:wK K H
 hok:HOk P w H s.heap
 bare:AllBare s.gens
noncomputable def CE(outer:List Env)(P:Program)(w:World)(H:Hp)(s:Shared)(Q:VK)(u:Value)(s':Shared):Prop:=
 ∃v H',s'.os=s.os/\AllBare s'.gens/\Un (frs outer) [] H H' s.heap s'.heap/\HOk P w H' s'.heap/\br v u/\Q v H'
noncomputable def CR(CX:CXT)(outer:List Env)(P:Program)(w:World)(H:Hp)(s:Shared)(Q:VK)(E:XK)(r:Result)(s':Shared):Prop:=
 match r with
 |.ok (.ret u)=>CE outer P w H s Q u s'
 |.ok _=>False
 |.error e=>CX outer H s E e s'
structure aO(P:Program)(w:World)(K:W.Frag)(mg:Str->Option Value)(base:Heap)(CX:CXT)(k:Nat)(f:Addr)(fd:FuncData)(ps:List Str)(sp:Sp):Prop where
 len:∀vs H Q E,sp vs H Q E->vs.length=ps.length
 run:∀(A:Around)(outer:List Env)(s:Shared)(H:Hp)(args:Args)(us:List Value)(vs:List V)(Q:VK)(E:XK),eB k A->tX P w K mg base A outer s H->BindsTo s fd args (ps.zip us)->aQ vs us->sp vs H Q E ->
  codeAny (model P w) A (.call (.ref f) args) (CR CX outer P w H s Q E) s
theorem aO.mono{P:Program}{w:World}{K:W.Frag}{mg:Str->Option Value}{base:Heap}{CX:CXT}{j k:Nat}{f:Addr}{fd:FuncData}{ps:List Str}{sp:Sp}(F:aO P w K mg base CX j f fd ps sp)(h:j<=k):
  aO P w K mg base CX k f fd ps sp:=⟨F.len,fun A outer s H args us vs Q E hr=>F.run A outer s H args us vs Q E (hr.mono h)⟩
theorem aO.imp{P:Program}{w:World}{K:W.Frag}{mg:Str->Option Value}{base:Heap}{CX:CXT}{k:Nat}{f:Addr}{fd:FuncData}{ps:List Str}{sp sp':Sp}(F:aO P w K mg base CX k f fd ps sp)(h:∀vs H Q E,sp' vs H Q E->sp vs H Q E):aO P w K mg base CX k f fd ps sp':=
 ⟨fun vs H Q E q=>F.len vs H Q E (h _ _ _ _ q),fun A outer s H args us vs Q E hr he hb hv hs=>F.run A outer s H args us vs Q E hr he hb hv (h _ _ _ _ hs)⟩
section
variable{X:Cx}{pins:List (Addr×Obj)}{σ:St}{H:Hp}{s s':Shared}
theorem Inv.env0(I:Inv X pins σ H s):tX X.prog X.w X.K X.mg X.base X.A X.stack s H:=
 ⟨I.ok.frames,I.ok.mod,I.bs,Nat.le_trans I.ok.bsz I.sz,I.stack,I.F3,I.ok.tt.mono I.base.tbls,I.hok,I.bare⟩
theorem Inv.after{Q:VK}{u:Value}(I:Inv X pins σ H s)(h:CE X.stack X.prog X.w H s Q u s'):EP X pins σ Q u s':=by
 obtain⟨v,H',os,bare,un,hok,r,q⟩:=h;obtain⟨hh,g,d,t,os'⟩:=s';obtain rfl:os'=s.os:=os;exact⟨v,H',I.call (h':=hh) (g':=g) (d':=d) (t':=t) (ch:=[]) un hok bare (fun b z=>absurd z (by simp)),r,q⟩
end
noncomputable def Cr(sp:Sp)(dvs:List V)(E:XK)(t:TA):TE:=fun σ H Q=>t σ H fun vs H1=>sp (vs++dvs) H1 Q E
noncomputable def bx(K:W.Frag)(fd:FuncData)(ps:List Str)(ds:List Value):Prop:=
 ∀(s:Shared)(us:List Value),K.In s.heap->(us++ds).length=ps.length->BindsTo s fd ⟨us,[]⟩ (ps.zip (us++ds))
theorem bx.all{K:W.Frag}{fd:FuncData}{ps:List Str}(h:∀us:List Value,us.length=ps.length->bindArgs fd ⟨us,[]⟩=pure (ps.zip us)):bx K fd ps []:=fun s us _ hl=>by
 rw[List.append_nil] at hl ⊢;exact .of_eq (h us hl)
noncomputable def sO(CX:CXT)(X:Cx)(E:XK):Prop:=∀(pins:List (Addr×Obj)) (σ:St) (H:Hp) (s:Shared) (e:Value) (s':Shared),Inv X pins σ H s->CX X.stack H s E e s'->X.xe e s'
section
variable{X:Cx}{CX:CXT}{k:Nat}{f C:Addr}{fd:FuncData}{ps:List Str}{sp:Sp}{dvs:List V}{ds:List Value}{E:XK}{x m:Str}{p pos apos:Pos}{e o:Expr}{es:List Expr}{ta:TE}{t:TA}
theorem Dk{pins:List (Addr×Obj)}{σ:St}{H:Hp}{s:Shared}{Q:VK}{us:List Value}{vs:List V}(F:aO X.prog X.w X.K X.mg X.base CX k f fd ps sp)(hr:eB k X.A)(hb:bx X.K fd ps ds)(hd:aQ dvs ds)(hx:sO CX X E)(I:Inv X pins σ H s)(r:aQ vs us)(h:sp (vs++dvs) H Q E):wpAny (model X.prog X.w) X.A (call (.ref f) us) (EP X pins σ Q) X.xe s:=by
 have r2:aQ (vs++dvs) (us++ds):=r.append hd;have hl:(us++ds).length=ps.length:=by rw[←r2.length];exact F.len _ _ _ _ h
 refine wpAny_call (codeAny_mono (F.run X.A X.stack s H ⟨us,[]⟩ (us++ds) (vs++dvs) Q E hr I.env0 (hb s us I.kIn hl) r2 h) fun r s' hq=>?_)
 cases r with
 |error e=>exact hx pins σ H s e s' I hq
 |ok fl=>
  cases fl with
  |ret u=>exact I.after hq
  |next=>exact False.elim hq
  |brk=>exact False.elim hq
  |cont=>exact False.elim hq
theorem am(F:aO X.prog X.w X.K X.mg X.base CX k f fd ps sp)(hr:eB k X.A)(hg:Gl X x)(hm:X.mg x=some (.ref f))(hk:W.keepIn X.K (.ref f)=true)(hb:bx X.K fd ps ds)(hd:aQ dvs ds)(hx:sO CX X E)(ha:PA X (e::es) t)(hdb:(x == ("__debug__":Str))=false:=by decide)(he:starEach (e::es) X.env=(false,eval e X.env)::starEach es X.env:=by rfl)(hpl:(backTo pos (starEach es X.env)).any (·.1)=false:=by rfl):
  PE X (.Call (.Name x p) (e::es) [] pos) (Cr sp dvs E t):=.mk <| by
 intro pins s σ H Q I h;refine wpAny_Call_Name_kw (vh I hg hm ?_ hdb);refine W.callWith_K (h₀:=X.base) I.ok.mod.kin hk (thn (ha pos pins s σ H _ I h) fun us s1 ⟨vs,H1,I1,r,q⟩=>⟨I1.kIn,?_⟩) he hpl;exact Dk F hr hb hd hx I1 r q
structure Mk(K:W.Frag)(C f:Addr):Prop where
 makes:W.makesIn K C=true
 init:W.findIn K (.ref C) "__init__"=some (some (.ref f))
 fn:W.isFn K (.ref f)=true
 kp:W.keepIn K (.ref C)=true
end
section
variable{X:Cx}{CX:CXT}{k:Nat}{f C:Addr}{fd:FuncData}{ps ks:List Str}{sp:Sp}{E:XK}{x m:Str}{p pos apos kpos:Pos}{e o:Expr}{es:List Expr}{kws:List Keyword}{te ta:TE}{t tk:TA}{nm:Option Str}
structure Fi(K:W.Frag)(fd:FuncData)(ps ks:List Str)(g:List Value->List Value->List Value)(gV:List V->List V->List V):Prop where
 to:∀(s:Shared)(us ws:List Value),K.In s.heap->(g us ws).length=ps.length->BindsTo s fd ⟨us,ks.zip ws⟩ (ps.zip (g us ws))
 rel:∀ {vs:List V} {us:List Value} {zs:List V} {ws:List Value},aQ vs us->aQ zs ws->aQ (gV vs zs) (g us ws)
variable{g:List Value->List Value->List Value}{gV:List V->List V->List V}
end
structure aV(N P:List Str)(sc:Scope):Prop where
 kind:sc.kind=.function
 co:sc.isCoroutine=false
 gen:sc.isGenerator=false
 nd:N.Nodup
 pre:N.take P.length=P
 par:∀x∈P,sc.names.lookup x=some .local\/sc.names.lookup x=some .cell
 nofree:∀y∈sc.names,y.2≠.free
theorem ox{kindOf:Str->Option NameKind}{x:Str}:∀ {binds:List (Str×Value)} {m:Str->Option Value},(∀v,(x,v) ∉ binds)->bindL kindOf binds m x=m x
 | [],_,_=>rfl
 |(n,v)::r,m,h=>by
  unfold bindL;rw[ox fun w hw=>h w (List.mem_cons_of_mem _ hw)];split
  ·have:x≠n:=by rintro rfl;exact h v List.mem_cons_self
   simp[this]
  ·rfl
theorem nE{kindOf:Str->Option NameKind}{x:Str}:∀ {binds:List (Str×Value)} {m:Str->Option Value},(∀v,(x,v) ∉ binds)->bindC kindOf binds m x=m x
 | [],_,_=>rfl
 |(n,v)::r,m,h=>by
  unfold bindC;rw[nE fun w hw=>h w (List.mem_cons_of_mem _ hw)];split
  ·rfl
  ·have:x≠n:=by rintro rfl;exact h v List.mem_cons_self
   simp[this]
theorem on{kindOf:Str->Option NameKind}{x:Str}{v:Value}:∀ {P:List Str} {vs:List Value} {i:Nat} {m:Str->Option Value},P.Nodup->P[i]?=some x->vs[i]?=some v->kindOf x=some .local ->
  bindL kindOf (P.zip vs) m x=some v
 | [],_,_,_,_,h,_,_=>by simp at h
 |_::_,[],_,_,_,_,h,_=>by simp at h
 |p::P,w::vs,0,m,nd,h1,h2,hk=>by
  simp at h1 h2;subst h1;subst h2;show bindL kindOf ((p,w)::P.zip vs) m p=_;unfold bindL;rw[ox fun v hv=>(List.nodup_cons.mp nd).1 (List.of_mem_zip hv).1,if_pos hk];simp
 |p::P,w::vs,i+1,m,nd,h1,h2,hk=>by
  show bindL kindOf ((p,w)::P.zip vs) m x=_;unfold bindL;exact on (i:=i) (List.nodup_cons.mp nd).2 (by simpa using h1) (by simpa using h2) hk
theorem oo{kindOf:Str->Option NameKind}{x:Str}{v:Value}:∀ {P:List Str} {vs:List Value} {i:Nat} {m:Str->Option Value},P.Nodup->P[i]?=some x->vs[i]?=some v->kindOf x≠some .local ->
  bindC kindOf (P.zip vs) m x=some v
 | [],_,_,_,_,h,_,_=>by simp at h
 |_::_,[],_,_,_,_,h,_=>by simp at h
 |p::P,w::vs,0,m,nd,h1,h2,hk=>by
  simp at h1 h2;subst h1;subst h2;show bindC kindOf ((p,w)::P.zip vs) m p=_;unfold bindC;rw[nE fun v hv=>(List.nodup_cons.mp nd).1 (List.of_mem_zip hv).1,if_neg hk];simp
 |p::P,w::vs,i+1,m,nd,h1,h2,hk=>by
  show bindC kindOf ((p,w)::P.zip vs) m x=_;unfold bindC;exact oo (i:=i) (List.nodup_cons.mp nd).2 (by simpa using h1) (by simpa using h2) hk
noncomputable def start(N:List Str)(vs:List V):St:=vs.map some++List.replicate (N.length-vs.length) none
noncomputable def oR(CX:CXT)(P:Program)(w:World)(K:W.Frag)(mg:Str->Option Value)(base:Heap)(N:List Str)(qual:Str)(scope:Scope)(f:Addr)(cd:Value)(A:Around)(outer:List Env)(s:Shared)(H:Hp)(E:XK):Cx where
 prog:=P
 w:=w
 K:=K
 mg:=mg
 base:=base
 A:=A.deeper (envOfC qual scope s.heap.objs.size f cd)
 N:=N
 s₀:=s
 H₀:=H
 env:=envOfC qual scope s.heap.objs.size f cd
 outer:=outer
 stack:=envOfC qual scope s.heap.objs.size f cd::outer
 ex:=[]
 calm:=true
 fn:=fun _=>true
 pn:=[]
 xe:=fun e s'=>wpAny (model P w) (A.deeper (envOfC qual scope s.heap.objs.size f cd)) (leaving (envOfC qual scope s.heap.objs.size f cd) e) (fun _ s''=>CX outer H s E e s'') (fun e' s''=>CX outer H s E e' s'') s'
theorem qD{sc:Scope}{n:Nat}{x:Str}(h:sc.names.lookup x=some .cell):∃c,(cellsFrom n sc.names []).lookup x=some c:=by
 have q:=W.cellsFrom_some sc.names n [] (.inl h);exact Option.isSome_iff_exists.mp q
theorem wc{CX:CXT}{P:Program}{w:World}{K:W.Frag}{mg:Str->Option Value}{base:Heap}{N ps:List Str}{qual:Str}{scope:Scope}{f:Addr}{cd:Value}{A:Around}{outer:List Env}{s s1:Shared}{H:Hp}{E:XK}{us:List Value}{vs:List V}(S:aV N ps scope)(hd:A.handled=none)(e0:tX P w K mg base A outer s H)(hl:vs.length=ps.length)(r:aQ vs us)(x:InCallC s s.heap.objs.size (bindL (envOfC qual scope s.heap.objs.size f cd).kindOf (ps.zip us) fun _=>none) (cellsFrom (s.heap.objs.size+1) scope.names []) (bindC (envOfC qual scope s.heap.objs.size f cd).kindOf (ps.zip us) fun _=>none) s1):
  Inv (oR CX P w K mg base N qual scope f cd A outer s H E) [] (start N vs) H s1:=by
 have hpl:ps.length<=N.length:=by have:=congrArg List.length S.pre;rw[List.length_take] at this;omega
 obtain⟨h1,tk,rfl,hk⟩:=x.done;have noA:∀b:Addr,b ∉ (oR CX P w K mg base N qual scope f cd A outer s H E).ex:=fun b z=>absurd (show b∈([]:List Addr) from z) (by simp)
 refine⟨⟨e0.mod,S.kind,rfl,rfl,Nat.le_refl _,fun y z c h1 h2=>?_,fun y hy=>?_,fun y c _ h=>?_,fun _=>hd,Around.frames_deeper e0.frames,.inr ⟨rfl,rfl⟩,fun b z=>absurd z (noA b),e0.bs,e0.bsz,fun b _ _=>noA b,fun b z=>absurd z (noA b),e0.funs,e0.frf,e0.tt⟩,
  rfl,e0.bare,Un.kept hk,⟨_,x.toInCall.ns,fun i y v h1 h2 h3=>?_⟩,fun y c h=>⟨_,x.cell y c h⟩,e0.hok.fresh (Nat.le_refl _),fun y c h=>?_,fun p hp=>absurd (show p∈([]:List (Addr×Obj)) from hp) (by simp),e0.hok.kept hk,?_⟩
 ·exact name_of_addr x.apart (PySem.mem_of_lookup h1) (PySem.mem_of_lookup h2)
 ·have hy:scope.names.lookup y=some .cell\/scope.names.lookup y=some .free:=hy
  rcases hy with hy|hy
  ·exact qD hy
  ·exact absurd rfl (S.nofree _ (PySem.mem_of_lookup hy))
 ·exact Nat.le_of_lt (x.above y c (PySem.mem_of_lookup h))
 ·have hi:i<vs.length:=by
   unfold start at h2;by_cases hi:i<vs.length
   ·exact hi
   ·rw[List.getElem?_append_right (by simpa using hi)] at h2
    rw[List.getElem?_replicate] at h2;split at h2<;>cases h2
  have ha:vs[i]?=some v:=by
   unfold start at h2;rw[List.getElem?_append_left (by simpa using hi),List.getElem?_map] at h2
   cases e:vs[i]? with
   |none=>rw[e] at h2;cases h2
   |some a=>rw[e] at h2;cases h2;rfl
  obtain⟨u,hu,rv⟩:=r.get ha
  have hp:ps[i]?=some y:=by
   rw[←S.pre,List.getElem?_take_of_lt (by omega)];exact h1
  have ndP:ps.Nodup:=by rw[←S.pre];exact S.nd.sublist (List.take_sublist _ _)
  refine⟨u,rv,?_⟩;rcases S.par y (List.mem_of_getElem? hp) with k|k
  ·exact .inl ⟨k,on ndP hp hu k⟩
  ·obtain⟨c,e⟩:=qD (n:=s.heap.objs.size+1) k
   refine .inr ⟨.inl k,c,e,?_⟩;have q:=x.cell y c e;rw[oo ndP hp hu (by show scope.names.lookup y≠_;rw[k];decide)] at q
   exact q
 ·exact e0.hok.fresh (Nat.le_of_lt (x.above y c (PySem.mem_of_lookup h)))
 ·unfold start
  show _=N.length;rw[List.length_append,List.length_map,List.length_replicate];omega
theorem E7{CX:CXT}{P:Program}{w:World}{K:W.Frag}{mg:Str->Option Value}{base:Heap}{k:Nat}{f:Addr}{name qual:Str}{params:Arguments}{body:List Stmt}{scope:Scope}{dV kV doc pm cdv ct oc:Value}{an od:Option Addr}{osl:Array (Option Value)}{N ps:List Str}{sp:Sp}(lk:K.lookup f=some ⟨oc,od,.func (W.fnOf name qual params body scope dV kV doc pm an cdv ct),osl⟩)(hcd:W.codeIn K cdv qual=true)(S:aV N ps scope)(len:∀vs H Q E,sp vs H Q E->vs.length=ps.length)
  (hbody:∀(A:Around)(outer:List Env)(s:Shared)(H:Hp)(vs:List V)(Q:VK)(E:XK),eB k (A.deeper (envOfC qual scope s.heap.objs.size f cdv))->sp vs H Q E ->
   ∃t,PSs (oR CX P w K mg base N qual scope f cdv A outer s H E) body t/\t { nx:=fun _ H'=>Q .non H',rt:=Q } (start N vs) H) :
  aO P w K mg base CX (k+1) f (W.fnOf name qual params body scope dV kV doc pm an cdv ct) ps sp:=by
 refine⟨len,fun A outer s H args us vs Q E hr e0 hb r hsp=>?_⟩;have hl:=len _ _ _ _ hsp;have KX:K.In s.heap:=e0.mod.kin.keeps fun b o e=>(e0.bs b o e).1;have lim:s.heap.NoLimit:=e0.mod.nolimit.keeps fun b o e=>(e0.bs b o e).1
 have hkind:∀y∈ps.zip us,scope.names.lookup y.1=some .local\/(scope.names.lookup y.1=some .cell/\((cellsFrom (s.heap.objs.size+1) scope.names []).lookup y.1).isSome=true):=fun⟨n,v⟩ hy=>by
  rcases S.par n (List.of_mem_zip hy).1 with q|q
  ·exact .inl q
  ·exact .inr ⟨q,W.cellsFrom_some _ _ _ (.inl q)⟩
 refine codeAny_call_function hr.depth (KX _ _ lk) rfl S.co S.gen rfl (W.codeRec_of KX hcd) (hb _ _ _ _ ?_);refine wpAny_newFunctionEnv_cells S.kind hkind fun env he s1 x=>?_;subst he;refine⟨lim.keeps x.toInCall.keep,codeAny_func ?_⟩;obtain⟨t,ht,hq⟩:=hbody A outer s H vs Q E (hr.deeper _) hsp;have I:Inv (oR CX P w K mg base N qual scope f cdv A outer s H E) [] (start N vs) H s1:=wc S hr.hd e0 hl r x
 refine wpAny_mono (ht [] s1 (start N vs) H _ I hq) (fun fl s' hs=>?_) fun e s' hs=>hs
 have fin:∀ {σ':St} {H':Hp} {v:V} {u:Value},Inv (oR CX P w K mg base N qual scope f cdv A outer s H E) [] σ' H' s'->br v u->Q v H'->CE outer P w H s Q u s':=
  fun {σ' H' v u} J rv q=>⟨v,H',J.os,J.bare,J.base,J.hok,rv,q⟩
 cases fl with
 |ret u=>
  obtain⟨v,σ',H',J,rv,q⟩:=hs;exact fin J rv q
 |next=>
  obtain⟨σ',H',J,q⟩:=hs;exact fin (v:=V.non) (u:=Value.none) J rfl q
 |brk=>
  obtain⟨_,_,_,q⟩:=hs;exact False.elim q
 |cont=>
  obtain⟨_,_,_,q⟩:=hs;exact False.elim q
section
variable{X:Cx}{x:Str}{p pos:Pos}{e:Expr}{es:List Expr}{t:TA}{id T:String}{r:List V->Hp->VK->Prop}
noncomputable def tCB(r:List V->Hp->VK->Prop)(t:TA):TE:=fun σ H Q=>t σ H fun vs H1=>r vs H1 Q
theorem aF(hc:de X (.builtin id) r)(hg:Gl X x)(hm:X.mg x=none)(hv:bootBuiltins x=some (.builtin id))(ha:PA X (e::es) t)(hn:x≠"__name__":=by decide)(hdb:(x == ("__debug__":Str))=false:=by decide)(he:starEach (e::es) X.env=(false,eval e X.env)::starEach es X.env:=by rfl)(hpl:(backTo pos (starEach es X.env)).any (·.1)=false:=by rfl):PE X (.Call (.Name x p) (e::es) [] pos) (tCB r t):=.mk <| by
 intro pins s σ H Q I h;refine wpAny_Call_Name_kw (jT I hg hm hv ?_ hn hdb);exact PyProof.Rows.callWith_builtin1 (thn (ha pos pins s σ H _ I h) fun us s1 ⟨vs,H1,I1,r1,q1⟩=>hc pins s1 σ H1 vs us Q I1 r1 q1) he hpl
theorem bR(hc:de X (.type T) r)(hg:Gl X x)(hm:X.mg x=none)(hv:bootBuiltins x=some (.type T))(ha:PA X (e::es) t)(hn:x≠"__name__":=by decide)(hdb:(x == ("__debug__":Str))=false:=by decide)(he:starEach (e::es) X.env=(false,eval e X.env)::starEach es X.env:=by rfl)(hpl:(backTo pos (starEach es X.env)).any (·.1)=false:=by rfl):PE X (.Call (.Name x p) (e::es) [] pos) (tCB r t):=.mk <| by
 intro pins s σ H Q I h;refine wpAny_Call_Name_kw (jT I hg hm hv ?_ hn hdb);exact PyProof.Rows.callWith_type1 (thn (ha pos pins s σ H _ I h) fun us s1 ⟨vs,H1,I1,r1,q1⟩=>hc pins s1 σ H1 vs us Q I1 r1 q1) he hpl
end
end L2
namespace HT
open PySem PyProof.Rows
section
open PySem.SeqAt
open PySem.AutoSeq1 (wpAny_loadPart')
open PySem.MeetsSeq PySem.MeetsSeq2 PySem.MeetsSeq3
end
section
variable{prog:Program}{w:World}{A:Around}{E:Value->Shared->Prop}{s:Shared}
theorem cat_tup{t b:Addr}{vs ws:List Value}{Q:Value->Shared->Prop}(ht:IsTup s.heap t vs.toArray)(hb:IsTup s.heap b ws.toArray)(hv:vs≠[])(h1:ws=[]->Q (.ref t) s)(h2:ws≠[]->Q (.ref s.heap.objs.size) { s with heap:=s.heap.push { cls:=.type "tuple",data:=.seq (vs++ws).toArray } })(hsz:vs.length+ws.length<=sizeLine):wpAny (model prog w) A (binaryOp .Add (.ref t) (.ref b)) Q E s:=by
 obtain⟨⟨cls,dd,data,sl⟩,ho,hc,n,hd⟩:=id ht;obtain⟨⟨cls2,dd2,data2,sl2⟩,ho2,hc2,n2,hd2⟩:=id hb;simp only at hc hd hc2 hd2;subst hc hd hc2 hd2;have e:vs.toArray++ws.toArray=(vs++ws).toArray:=by simp
 by_cases hw:ws=[]
 ·exact concat_meets ⟨_,ho,rfl⟩ ⟨_,ho2,rfl⟩ noFill_tuple_add seq_tuple_add PySem.F.slot_tuple_add PySem.F.entry_tuple_add (PySem.F.args_tuple_add_2 _ _)
   (tuple_addW1 t b vs.toArray ws.toArray n n2 dd dd2 sl sl2 (by simpa using hv) (by simp[hw])) ⟨ho,ho2,h1 hw⟩
 ·refine concat_meets ⟨_,ho,rfl⟩ ⟨_,ho2,rfl⟩ noFill_tuple_add seq_tuple_add PySem.F.slot_tuple_add PySem.F.entry_tuple_add (PySem.F.args_tuple_add_2 _ _)
   (tuple_addW2 t b vs.toArray ws.toArray n n2 dd dd2 sl sl2 (by simpa using hv) (by simpa using hw) (by rw[List.size_toArray,List.size_toArray];exact hsz)) ⟨ho,ho2,?_⟩
  rw[e];exact h2 hw
noncomputable def sIx(n d:Nat):Option Int->Nat
 |none=>d
 |some v=>if v<0 then (v+(n:Int)).toNat else min v.toNat n
theorem Dp(n d:Nat)(hd:d<=n)(o:Option Int):sIx n d o<=n:=by
 cases o with
 |none=>exact hd
 |some v=>
  show (if v<0 then (v+(n:Int)).toNat else min v.toNat n)<=n
  by_cases hv:v<0
  ·rw[if_pos hv];omega
  ·rw[if_neg hv];exact Nat.min_le_right _ _
theorem vI(v:Int)(n d:Nat):(if v<0 then max (v+(n:Int)) 0 else min v (n:Int))=((sIx n d (some v):Nat):Int):=by
 show (if v<0 then max (v+(n:Int)) 0 else min v (n:Int))=(((if v<0 then (v+(n:Int)).toNat else min v.toNat n):Nat):Int)
 by_cases hv:v<0
 ·simp only[if_pos hv];omega
 ·simp only[if_neg hv];omega
theorem sj(lo hi:Option Int)(n:Nat):Builtin.Slice.sliceAdjust lo hi 1 (n:Int)=(((sIx n 0 lo:Nat):Int),((sIx n n hi:Nat):Int)):=by
 have h1:¬ ((1:Int)<0):=by omega
 unfold Builtin.Slice.sliceAdjust;simp only[h1,if_false];refine Prod.ext ?_ ?_
 ·cases lo with
  |none=>rfl
  |some v=>exact vI v n 0
 ·cases hi with
  |none=>rfl
  |some v=>exact vI v n n
theorem ut(i j:Nat):Builtin.Slice.slicePlaces (i:Int) (j:Int) 1=j-i:=by
 unfold Builtin.Slice.slicePlaces;have h1:(1:Int)>0:=by omega
 simp only[h1,if_true,Int.ediv_one];split<;>omega
theorem mH{v:Value}{o:Option Int}{Q:Option Int->Shared->Prop}(p:IsPart v o)(h:Q o s):wpAny (model prog w) A (Builtin.Slice.slicePartIndex v) Q E s:=by
 cases p with
 |none=>exact slicePart_none h
 |int i t=>exact slicePart_int h
theorem sliceApplied_gen{sl:Addr}{vl vu:Value}{lo hi:Option Int}{n:Nat}{Q:Int×Int×Nat->Shared->Prop}(hs:s.heap.IsSliceOf sl vl vu .none)(pl:IsPart vl lo)(pu:IsPart vu hi)(h:Q (((sIx n 0 lo:Nat):Int),1,sIx n n hi-sIx n 0 lo) s):wpAny (model prog w) A (Builtin.Slice.sliceApplied (.ref sl) (pure (n:Int))) Q E s:=by
 obtain⟨os,hos,hcs,hds⟩:=id hs;unfold Builtin.Slice.sliceApplied Builtin.Slice.sliceFields;refine wpAny_bind (wpAny_bind (wpAny_field hos hds (x:=vl) rfl (wpAny_bind (wpAny_field hos hds (x:=vu) rfl (wpAny_bind (wpAny_field hos hds (x:=.none) rfl (wpAny_pure ?_)))))));refine wpAny_bind (slicePart_none ?_);show wpAny _ _ (if ((1:Int) == 0)=true then _ else _) _ _ s
 rw[if_neg (by decide)]
 refine wpAny_bind (mH pl (wpAny_bind (mH pu (wpAny_bind (wpAny_pure ?_)))));show wpAny _ _ (match Builtin.Slice.sliceAdjust lo hi 1 (n:Int) with|(lo,hi)=>pure (lo,(1:Int),Builtin.Slice.slicePlaces lo hi 1)) _ _ s
 rw[sj lo hi n];show wpAny _ _ (pure (((sIx n 0 lo:Nat):Int),(1:Int),Builtin.Slice.slicePlaces ((sIx n 0 lo:Nat):Int) ((sIx n n hi:Nat):Int) 1)) _ _ s;rw[ut];exact wpAny_pure h
theorem yu(xs:Array Value)(i k:Nat):((List.range k).filterMap fun(m:Nat)=>xs[((i:Int)+(m:Int)*1).toNat]?).toArray=((xs.toList.drop i).take k).toArray:=by
 have e:(fun(m:Nat)=>xs[((i:Int)+(m:Int)*1).toNat]?)=fun m=>xs[i+m]?:=by
  funext m
  have:((i:Int)+(m:Int)*1).toNat=i+m:=by omega
  rw[this]
 rw[e];have:=pick_run xs i k;rw[List.filterMap_map] at this;have e2:((fun x=>xs[x]?) ∘ fun x=>i+x)=fun m=>xs[i+m]?:=rfl;rw[e2] at this;rw[this]
theorem getItem_tuple_cut{t sl:Addr}{items:Array Value}{vl vu:Value}{lo hi:Option Int}{Q:Value->Shared->Prop}(ht:IsTup s.heap t items)(hs:s.heap.IsSliceOf sl vl vu .none)(pl:IsPart vl lo)(pu:IsPart vu hi)(hw:¬ (sIx items.size 0 lo=0/\sIx items.size items.size hi=items.size))(h:Q (.ref s.heap.objs.size) { s with heap:=s.heap.push { cls:=.type "tuple",data:=.seq ((items.toList.drop (sIx items.size 0 lo)).take (sIx items.size items.size hi-sIx items.size 0 lo)).toArray } })(hsz:items.size<=sizeLine):wpAny (model prog w) A (getItem (.ref t) (.ref sl)) Q E s:=by
 have htake:sizeOk (.seq ((items.toList.drop (sIx items.size 0 lo)).take (sIx items.size items.size hi-sIx items.size 0 lo)).toArray):=by
  show ((items.toList.drop (sIx items.size 0 lo)).take (sIx items.size items.size hi-sIx items.size 0 lo)).toArray.size<=sizeLine;rw[List.size_toArray,List.length_take,List.length_drop,Array.length_toList];omega
 have hj:sIx items.size items.size hi<=items.size:=Dp _ _ (Nat.le_refl _) hi;obtain⟨os,hos,hcs,hds⟩:=id hs;have hTs:s.TypeIs (.ref sl) "slice":=⟨os,hos,hcs⟩;unfold getItem
 try with_reducible refine wpAny_holding ?_
 first|refine wpAny_bind (wpAny_pure ?_)|skip
 refine wpAny_bind (wpAny_sequenceKey ht.typeIs (by decide) ?_)
 refine wpAny_bind (wpAny_callSpecial?_slot (name:=Str.ofString "__getitem__") ht.typeIs PyProof.Rows.slot_tuple_getitem
  (wpAny_call_entry PyProof.Rows.slot_tuple_getitem ht.typeIs entry_tuple_getitem ?_ (args_tuple_getitem _ _)))
 show wpAny _ _ (Builtin.Tuple.tupleItemsOf (.ref t) >>= _) _ _ s;refine wpAny_bind (tupleItemsOf_ ht ?_);refine wpAny_bind (wpAny_typeOf hTs ?_);rw[if_pos (by decide)]
 refine wpAny_bind (sliceApplied_gen hs pl pu ?_)
 have hno:¬ ((((sIx items.size 0 lo:Nat):Int) == 0 && (1:Int) == 1 && (sIx items.size items.size hi-sIx items.size 0 lo) == items.size)=true):=by
  intro q;rw[Bool.and_eq_true,Bool.and_eq_true] at q;have q1:((sIx items.size 0 lo:Nat):Int)=0:=eq_of_beq q.1.1;have q2:sIx items.size items.size hi-sIx items.size 0 lo=items.size:=eq_of_beq q.2;exact hw ⟨by omega,by omega⟩
 show wpAny _ _ (if (((sIx items.size 0 lo:Nat):Int) == 0 && (1:Int) == 1 && (sIx items.size items.size hi-sIx items.size 0 lo) == items.size)=true then _ else _) _ _ s
 rw[if_neg hno,yu]
 first
  |exact wpAny_bind (m:=Builtin.Tuple.tupleExact _) (wpAny_newObj_type (wpAny_pure ⟨_,rfl,wpAny_pure h⟩) htake)
  |exact wpAny_bind (m:=Builtin.Tuple.tupleExact _) (wpAny_newObj_type (wpAny_bind (wpAny_pure (wpAny_pure ⟨_,rfl,wpAny_pure h⟩))) htake)
  |exact wpAny_bind (wpAny_bind (m:=Builtin.Tuple.tupleExact _) (wpAny_newObj_type (wpAny_pure (wpAny_pure ⟨_,rfl,wpAny_pure h⟩)) htake))
  |exact wpAny_bind (wpAny_bind (m:=Builtin.Tuple.tupleExact _) (wpAny_newObj_type (wpAny_pure ⟨_,rfl,wpAny_pure h⟩) htake))
end
end HT
namespace L2
open PySem PySem.Spec PyProof.Rows
noncomputable abbrev TO:=St->Hp->(Option Int->Hp->Prop)->Prop
noncomputable def PO(X:Cx)(e:Option Expr)(t:TO):Prop:=
 ∀(pins:List (Addr×Obj)) (s:Shared) (σ:St) (H:Hp) (Q:Option Int->Hp->Prop),Inv X pins σ H s->t σ H Q ->
  wpAny (model X.prog X.w) X.A (evalPart e X.env) (fun u s'=>∃o H',Inv X pins σ H' s'/\IsPart u o/\Q o H') X.xe s
noncomputable def vH:TO:=fun _ H Q=>Q none H
noncomputable def B9(t:TE):TO:=fun σ H Q=>t σ H fun x H1=>∃i,x=.int i/\Q (some i) H1
section
variable{X:Cx}{e:Expr}{te:TE}{lo hi:Option Expr}{tl th:TO}{pos p2:Pos}
theorem bo:PO X none vH:=by
 intro pins s σ H Q I h;rw[evalPart_none];exact wpAny_pure ⟨none,H,I,.none,h⟩
theorem bp(h:PE X e te):PO X (some e) (B9 te):=by
 intro pins s σ H Q I hw;rw[evalPart_some];refine thn (h pins s σ H _ I hw) fun u s1 ⟨x,H1,I1,r1,q1⟩=>?_;obtain⟨i,rfl,q⟩:=q1;obtain⟨t,rfl⟩:=r1;exact⟨some i,H1,I1,.int i t,q⟩
noncomputable def SlR(X:Cx)(r:V->Option Int->Option Int->Hp->VK->Prop):Prop:=
 ∀(pins:List (Addr×Obj)) (s:Shared) (σ:St) (H:Hp) (x:V) (v vl vu:Value) (lo hi:Option Int) (sl:Addr) (Q:VK),Inv X pins σ H s->br x v->s.heap.IsSliceOf sl vl vu .none->IsPart vl lo->IsPart vu hi->r x lo hi H Q ->
  ∃T id,typeLookup (.type T) "__getitem__"=pure (some (.builtin id))/\s.TypeIs v T/\wpAny (model X.prog X.w) X.A (getItem v (.ref sl)) (EP X pins σ Q) X.xe s
noncomputable def tSl(r:V->Option Int->Option Int->Hp->VK->Prop)(te:TE)(tl th:TO):TE:=fun σ H Q=>te σ H fun x H1=>tl σ H1 fun l H2=>th σ H2 fun u H3=>r x l u H3 Q
theorem bb{r:V->Option Int->Option Int->Hp->VK->Prop}(hr:SlR X r)(he:PE X e te)(hl:PO X lo tl)(hu:PO X hi th):PE X (.Subscript e (.Slice lo hi none p2) pos) (tSl r te tl th):=.mk <| by
 intro pins s σ H Q I h;refine Subscript_ (thn (he pins s σ H _ I h) fun v s1 ⟨x,H1,I1,r1,q1⟩=>?_);refine wpAny_Slice (thn (hl pins s1 σ H1 _ I1 q1) fun vl s2 ⟨l,H2,I2,pl,q2⟩=>thn (hu pins s2 σ H2 _ I2 q2) fun vu s3 ⟨u,H3,I3,pu,q3⟩=>?_);rw[evalPart_none];refine wpAny_pure ?_;have I4:Inv X pins σ H3 { s3 with heap:=s3.heap.push { cls:=.type "slice",data:=.fields #[vl,vu,.none] } }:=I3.kept (t':=s3.toks) fun b ob q=>Heap.get?_push_of_some _ q
 obtain⟨T,id,hT,ht,hg⟩:=hr pins { s3 with heap:=s3.heap.push { cls:=.type "slice",data:=.fields #[vl,vu,.none] } } σ H3 x v vl vu l u s3.heap.objs.size Q I4 r1 (Heap.IsSliceOf.new ..) pl pu q3;show wpAny (model X.prog X.w) X.A (subscriptTail e (.Slice lo hi none p2) v (.ref s3.heap.objs.size)) (EP X pins σ Q) X.xe { s3 with heap:=s3.heap.push { cls:=.type "slice",data:=.fields #[vl,vu,.none] } };exact tail_any (ops:=[.ref s3.heap.objs.size,v]) ht hT hg (by with_unfolding_all rfl)
noncomputable def p4(xs:List V)(lo hi:Option Int):List V:=(xs.drop (HT.sIx xs.length 0 lo)).take (HT.sIx xs.length xs.length hi-HT.sIx xs.length 0 lo)
theorem kU(xs:List V)(lo hi:Option Int):(p4 xs lo hi).length<=xs.length:=by
 unfold p4;rw[List.length_take,List.length_drop];omega
noncomputable def FC(K:W.Frag):V->Option Int->Option Int->Hp->VK->Prop:=fun x lo hi H Q=>∃a xs,x=.ref a/\SqT K H a xs /\
 ¬ (HT.sIx xs.length 0 lo=0/\HT.sIx xs.length xs.length hi=xs.length)/\∀p,H p=none->Q (.ref p) (upd H p (.tup (p4 xs lo hi)))
theorem C5:SlR X (FC X.K):=by
 intro pins s σ H x v vl vu lo hi sl Q I rx hs pl pu h;obtain⟨a,xs,rfl,hx,hw,q⟩:=h;cases rx;obtain⟨its,r,ht,hz⟩:=I.tuple hx;have hlen:its.toArray.size=xs.length:=by rw[List.size_toArray];exact r.length.symm
 refine⟨"tuple",_,PyProof.Rows.slot_tuple_getitem.lookup,ht.typeIs,?_⟩;refine HT.getItem_tuple_cut ht hs pl pu (by rw[hlen];exact hw) ?_ (by rw[hlen];exact hz)
 rw[hlen];refine⟨.ref s.heap.objs.size,_,I.laid (t':=s.toks) (o:=.tup (p4 xs lo hi)) (fun b ob q=>Heap.get?_push_of_some _ q) (Nat.le_refl _) ?_,rfl,q _ (I.hok.fresh (Nat.le_refl _))⟩;exact⟨Nat.le_trans (kU xs lo hi) hz,_,(r.drop (HT.sIx xs.length 0 lo)).take (HT.sIx xs.length xs.length hi-HT.sIx xs.length 0 lo),pC.new _ _⟩
noncomputable def EU(K:W.Frag):R2:=fun x y H Q=>∃a b xs ys,x=.ref a/\y=.ref b/\SqT K H a xs/\SqT K H b ys/\xs≠[]/\xs.length+ys.length<=sizeLine /\
 (ys=[]->Q (.ref a) H)/\(ys≠[]->∀p,H p=none->Q (.ref p) (upd H p (.tup (xs++ys))))
theorem aQ.F1{xs:List V}{us:List Value}(r:aQ xs us):us=[]↔xs=[]:=by
 cases r with
 |nil=>simp
 |cons _ _=>simp
theorem Ah:OpR X (binaryOp .Add) (EU X.K):=by
 intro pins s σ H x y v u Q I rx ry h;obtain⟨a,b,xs,ys,rfl,rfl,ha,hb,hx,hz,q1,q2⟩:=h;cases rx;cases ry;obtain⟨its,r1,p1,_⟩:=I.tuple ha;obtain⟨its2,r2,p2,_⟩:=I.tuple hb;refine HT.cat_tup p1 p2 (fun z=>hx (r1.F1.mp z)) (fun z=>⟨.ref a,H,I,rfl,q1 (r2.F1.mp z)⟩) (fun z=>?_) (by rw[←r1.length,←r2.length];exact hz)
 refine⟨.ref s.heap.objs.size,_,I.laid (t':=s.toks) (o:=.tup (xs++ys)) (fun b ob q=>Heap.get?_push_of_some _ q) (Nat.le_refl _) ?_,rfl,q2 (fun w=>z (r2.F1.mpr w)) _ (I.hok.fresh (Nat.le_refl _))⟩;exact⟨by rw[List.length_append];exact hz,_,r1.append r2,pC.new _ _⟩
end
noncomputable def ixN(n:Nat)(i:Int):Option Nat:=if 0<=i then (if i<n then some i.toNat else none) else if -(n:Int)<=i then some (i+n).toNat else none
noncomputable def atI{α:Type}(xs:List α)(i:Int):Option α:=(ixN xs.length i).bind fun j=>xs[j]?
theorem va{n:Nat}{i:Int}{j:Nat}(h:ixN n i=some j):seqIndex? i n=some j/\j<n/\-(n:Int)<=i/\i<n:=by
 unfold ixN at h;by_cases h0:0<=i
 ·rw[if_pos h0] at h
  by_cases h1:i<n
  ·rw[if_pos h1] at h
   have e:i.toNat=j:=Option.some.inj h;exact⟨by rw[seqIndex_of h0 h1,e],by omega,by omega,h1⟩
  ·rw[if_neg h1] at h;cases h
 ·rw[if_neg h0] at h
  by_cases h1:-(n:Int)<=i
  ·rw[if_pos h1] at h
   have e:(i+n).toNat=j:=Option.some.inj h;exact⟨by rw[seqIndex_neg (by omega) h1,e],by omega,h1,by omega⟩
  ·rw[if_neg h1] at h;cases h
theorem oW{α:Type}{xs:List α}{i:Int}{v:α}(h:atI xs i=some v):∃j,seqIndex? i xs.length=some j/\xs[j]?=some v/\j<xs.length/\-(xs.length:Int)<=i/\i<xs.length:=by
 unfold atI at h
 cases e:ixN xs.length i with
 |none=>rw[e] at h;cases h
 |some j=>
  rw[e] at h;obtain⟨h1,h2,h3,h4⟩:=va e;exact⟨j,h1,h,h2,h3,h4⟩
theorem Ag{α:Type}{xs:List α}{j:Nat}{v:α}(h:xs[j]?=some v):atI xs (j:Int)=some v:=by
 have hj:j<xs.length:=(List.getElem?_eq_some_iff.mp h).1
 have e:ixN xs.length (j:Int)=some j:=by
  unfold ixN;rw[if_pos (by omega),if_pos (by omega)];simp
 unfold atI;rw[e];exact h
noncomputable def Bj(b:Expr):Prop:=∀o i,subscripted b false o i=operate [o,i] (getItem o i)
noncomputable def IxR(X:Cx)(r:R2):Prop:=
 ∀(value slice:Expr) (pins:List (Addr×Obj)) (s:Shared) (σ:St) (H:Hp) (x y:V) (v u:Value) (Q:VK),Inv X pins σ H s->br x v->br y u->r x y H Q ->
  subscripted slice false v u=operate [v,u] (getItem v u)->wpAny (model X.prog X.w) X.A (subscriptTail value slice v u) (EP X pins σ Q) X.xe s
noncomputable def MtR(X:Cx)(id:String)(r:V->List V->Hp->VK->Prop):Prop:=
 ∀(pins:List (Addr×Obj)) (s:Shared) (σ:St) (H:Hp) (x:V) (xs:List V) (v:Value) (us:List Value) (Q:VK),Inv X pins σ H s->br x v->aQ xs us->r x xs H Q ->
  wpAny (model X.prog X.w) X.A (call (.builtin id) (v::us)) (EP X pins σ Q) X.xe s
section
variable{X:Cx}{a b:Expr}{ta tb:TE}{pos:Pos}
theorem IxR.or{r r':R2}(h:IxR X r)(h':IxR X r'):IxR X (fun x y H Q=>r x y H Q\/r' x y H Q):=by
 intro value slice pins s σ H x y v u Q I rx ry q hs;rcases q with q|q
 ·exact h value slice pins s σ H x y v u Q I rx ry q hs
 ·exact h' value slice pins s σ H x y v u Q I rx ry q hs
theorem bd{r:R2}(hr:IxR X r)(ha:PE X a ta)(hb:PE X b tb)(hs:Bj b):PE X (.Subscript a b pos) (tOp r ta tb):=.mk <| by
 intro pins s σ H Q I h;exact Subscript_ (Cy ha hb I h fun v u s2 x y H2 I2 rx ry q=>hr a b pins s2 σ H2 x y v u Q I2 rx ry q (hs _ _))
noncomputable def A7(K:W.Frag):R2:=fun x y H Q=>∃p xs i v,x=.ref p/\y=.int i/\SqL K H p xs/\atI xs i=some v/\Q v H
noncomputable def DD(K:W.Frag):R2:=fun x y H Q=>∃p xs i v,x=.ref p/\y=.int i/\SqT K H p xs/\atI xs i=some v/\Q v H
noncomputable def DW:R2:=fun x y H Q=>∃z i c,x=.str z/\y=.int i/\z.length<=sizeLine/\atI z.cps.toList i=some c/\Q (.str ⟨#[c]⟩) H
theorem vo:IxR X (A7 X.K):=by
 intro value slice pins s σ H x y v u Q I rx ry h hs;obtain⟨p,xs,i,z,rfl,rfl,hq,he,q⟩:=h;cases rx;obtain⟨t,rfl⟩:=ry;obtain⟨its,r,pl,hz⟩:=I.list hq;obtain⟨j,h1,h2,h3,h4,h5⟩:=oW he;obtain⟨w,ew,rw'⟩:=r.get h2;have hl:=r.length;have hn:=ke;have fin:EP X pins σ Q w s:=⟨z,H,I,rw',q⟩;by_cases h0:0<=i
 ·have hj:i.toNat=j:=by
   rw[seqIndex_of h0 h5] at h1;exact Option.some.inj h1
  exact item_listR pl.isList h0 (by omega) (by rw[hj];simpa using ew) fin hs
 ·have hj:(i+(its.toArray.size:Int)).toNat=j:=by
   rw[seqIndex_neg (by omega) h4] at h1
   rw[List.size_toArray,←hl]
   exact Option.some.inj h1
  exact subscriptTail_builtinR (x:=w) pl.isList.typeIs slot_list_getitem.lookup
   (wpAny_getItem_list_neg (Q:=fun r s'=>r=w/\EP X pins σ Q r s') pl.isList (by omega) (by rw[List.size_toArray]<;>omega) (by omega) (by rw[hj];simpa using ew) ⟨rfl,fin⟩) hs
theorem Dl:IxR X (DD X.K):=by
 intro value slice pins s σ H x y v u Q I rx ry h hs;obtain⟨p,xs,i,z,rfl,rfl,hq,he,q⟩:=h;cases rx;obtain⟨t,rfl⟩:=ry;obtain⟨its,r,pl,hz⟩:=I.tuple hq;obtain⟨j,h1,h2,h3,h4,h5⟩:=oW he;obtain⟨w,ew,rw'⟩:=r.get h2;have hl:=r.length;have hn:=ke;have fin:EP X pins σ Q w s:=⟨z,H,I,rw',q⟩
 exact subscriptTail_builtinR (x:=w) pl.typeIs slot_tuple_getitem.lookup
  (getItem_tuple (j:=j) (Q:=fun r s'=>r=w/\EP X pins σ Q r s') pl (by omega) (by omega) (by rw[List.size_toArray,←hl];exact h1) (by simpa using ew) ⟨rfl,fin⟩) hs
theorem C4:IxR X DW:=by
 intro value slice pins s σ H x y v u Q I rx ry h hs;obtain⟨z,i,c,rfl,rfl,hz,he,q⟩:=h;obtain⟨t,rfl⟩:=rx;obtain⟨t',rfl⟩:=ry;obtain⟨j,h1,h2,h3,h4,h5⟩:=oW he;have hl:z.cps.toList.length=z.length:=by simp[Str.length]
 rw[hl] at h1 h4 h5;have hn:=ke
 exact tail_any (typeIs_str s z t) slot_str_getitem.lookup (getItem_str (c:=c) (by
  have e1:decide (i < -(2^63:Int))=false:=decide_eq_false (by omega)
  have e2:decide (i ≥ 2^63)=false:=decide_eq_false (by omega)
  rw[e1,e2,Bool.or_false]) (by rw[h1];simpa using h2) ⟨.str ⟨#[c]⟩,H,I.tok _,⟨_,rfl⟩,q⟩) hs
noncomputable def rIx(K:W.Frag):R2:=fun x y H Q=>A7 K x y H Q\/DD K x y H Q\/DW x y H Q
theorem CL:IxR X (rIx X.K):=vo.or (Dl.or C4)
theorem tS(its:List Value)(n j:Nat)(u:Value):Obj.mapSeq (·.setIfInBounds j u) { cls:=.type "list",data:=.seq its.toArray n }={ cls:=.type "list",data:=.seq (its.set j u).toArray n }:=by
 simp[Obj.mapSeq]
theorem Inv.lst{pins:List (Addr×Obj)}{σ:St}{H:Hp}{s:Shared}{p:Addr}{xs:List V}(I:Inv X pins σ H s)(h:H p=some (.lst xs)):
  ∃(its:List Value)(n:Nat),aQ xs its/\s.heap.get? p=some { cls:=.type "list",data:=.seq its.toArray n }/\xs.length<=sizeLine:=by
 obtain⟨z,its,n,r,e⟩:=I.hok p _ h;exact⟨its,n,r,e,z⟩
theorem Inv.F9{pins:List (Addr×Obj)}{σ:St}{H:Hp}{s:Shared}{p:Addr}{xs ys:List V}{its its':List Value}{n n':Nat}{f:Obj->Obj}(I:Inv X pins σ H s)(h:H p=some (.lst xs))(ho:s.heap.get? p=some { cls:=.type "list",data:=.seq its.toArray n })(hf:f { cls:=.type "list",data:=.seq its.toArray n }={ cls:=.type "list",data:=.seq its'.toArray n' })(r:aQ ys its')(hz:ys.length<=sizeLine)(t:Nat):
  Inv X pins σ (upd H p (.lst ys)) { s with heap:=s.heap.update p f,toks:=t }:=by
 have e:(s.heap.update p f).get? p=some { cls:=.type "list",data:=.seq its'.toArray n' }:=by
  rw[Heap.get?_update_self f ho (by rw[hf]<;>rfl),hf]
 refine I.write (x:=p) (e:=p) (by rw[h];trivial) (.inl rfl) (fun b u hb q=>(Heap.get?_update_other _ _ (Ne.symm hb)).trans q) ⟨_,e⟩ ?_
 exact⟨hz,its',n',r,e⟩
noncomputable def BK:V->V->V->Hp->(Hp->Prop)->Prop:=fun o i v H Q=>∃p xs k j,o=.ref p/\i=.int k/\H p=some (.lst xs)/\ixN xs.length k=some j/\Q (upd H p (.lst (xs.set j v)))
theorem jo:D6 X BK:=by
 intro pins s σ H o i v ov iv u Q I ro ri rv h;obtain⟨p,xs,k,j,rfl,rfl,hp,hj,q⟩:=h;cases ro;obtain⟨t,rfl⟩:=ri;obtain⟨its,n,r,ho,hz⟩:=I.lst hp;obtain⟨h1,h2,h3,h4⟩:=va hj;have hl:=r.length;have hn:=ke
 have I':Inv X pins σ (upd H p (.lst (xs.set j v))) { s with heap:=s.heap.update p (Obj.mapSeq (·.setIfInBounds j u)) }:=
  I.F9 hp ho (tS its n j u) (r.set rv j) (by rw[List.length_set];exact hz) s.toks
 by_cases h0:0<=k
 ·have hk:k.toNat=j:=by
   rw[seqIndex_of h0 h4] at h1;exact Option.some.inj h1
  exact W.ki_setAt ho h0 (by omega) (by rw[List.size_toArray,←hl];exact h4) (by rw[hk];exact⟨_,I',q⟩)
 ·have hk:(k+(its.toArray.size:Int)).toNat=j:=by
   rw[seqIndex_neg (by omega) h3] at h1
   rw[List.size_toArray,←hl]
   exact Option.some.inj h1
  exact W.ki_setBack ho (by omega) (by rw[List.size_toArray,←hl];exact h3) (by omega) (by rw[hk];exact⟨_,I',q⟩)
theorem oJ(lo hi:Option Int)(n:Nat):(sliceBounds lo hi none n).1=((HT.sIx n 0 lo:Nat):Int)/\(sliceBounds lo hi none n).2.1=((HT.sIx n n hi:Nat):Int)/\(sliceBounds lo hi none n).2.2=1:=by
 refine⟨?_,?_,rfl⟩
 ·cases lo with
  |none=>simp[sliceBounds,HT.sIx]
  |some i=>
   simp only[sliceBounds,HT.sIx,Option.getD_none,show (1:Int)>0 by decide,if_true]
   by_cases h:i<0
   ·simp only[h,if_true]<;>omega
   ·simp only[h,if_false]<;>omega
 ·cases hi with
  |none=>simp[sliceBounds,HT.sIx]
  |some i=>
   simp only[sliceBounds,HT.sIx,Option.getD_none,show (1:Int)>0 by decide,if_true]
   by_cases h:i<0
   ·simp only[h,if_true]<;>omega
   ·simp only[h,if_false]<;>omega
theorem nv(its:List Value)(lo hi:Option Int):slicePick its.toArray lo hi none=((its.drop (HT.sIx its.length 0 lo)).take (HT.sIx its.length its.length hi-HT.sIx its.length 0 lo)).toArray:=by
 obtain⟨h1,h2,h3⟩:=oJ lo hi its.toArray.size;unfold slicePick;rw[h1,h2,h3];simp only[sliceRange_one,pick_run,List.size_toArray]<;>rfl
noncomputable def Ee(K:W.Frag):V->Option Int->Option Int->Hp->VK->Prop:=fun x lo hi H Q=>∃a xs,x=.ref a/\SqL K H a xs/\∀p,H p=none->Q (.ref p) (upd H p (.lst (p4 xs lo hi)))
theorem Ar:SlR X (Ee X.K):=by
 intro pins s σ H x v vl vu lo hi sl Q I rx hs pl pu h;obtain⟨a,xs,rfl,hx,q⟩:=h;cases rx;obtain⟨its,r,ht,hz⟩:=I.list hx;have hlen:=r.length;refine⟨"list",_,slot_list_getitem.lookup,ht.isList.typeIs,?_⟩;refine wpAny_getItem_list_slice ht.isList hs pl pu .none (by simp) ?_ (by rw[List.size_toArray]<;>omega)
 rw[nv,←hlen]
 refine⟨.ref s.heap.objs.size,_,I.laid (t':=s.toks) (o:=.lst (p4 xs lo hi)) (fun b ob q=>Heap.get?_push_of_some _ q) (Nat.le_refl _) ?_,rfl,q _ (I.hok.fresh (Nat.le_refl _))⟩;exact⟨Nat.le_trans (kU xs lo hi) hz,_,0,(r.drop (HT.sIx xs.length 0 lo)).take (HT.sIx xs.length xs.length hi-HT.sIx xs.length 0 lo),Heap.get?_push_size _ rfl⟩
theorem pH:de X (.type "list") (fun xs H Q=>∃p ys,xs=[.ref p]/\(SqL X.K H p ys\/SqT X.K H p ys)/\∀l,H l=none->Q (.ref l) (upd H l (.lst ys))):=by
 intro pins s σ H xs us Q I r h;obtain⟨p,ys,rfl,hq,q⟩:=h;obtain⟨u,rfl,rx⟩:=gE r;cases rx
 have fin:∀(its:List Value),aQ ys its->ys.length<=sizeLine->∀(h':Heap)(c':Nat),(∀b o',s.heap.get? b=some o'->h'.get? b=some o') ->
   h'.get? s.heap.objs.size=some { cls:=.type "list",dict:=none,data:=.seq its.toArray c',slots:=#[] }->EP X pins σ Q (.ref s.heap.objs.size) { s with heap:=h' }:=fun its r' hz h' c' kp e=>
  ⟨.ref s.heap.objs.size,_,I.laid (t':=s.toks) kp (Nat.le_refl _) (show cI X.prog X.w _ h' _ (.lst ys) from ⟨hz,its,c',r',e⟩),rfl,q _ (I.hok.fresh (Nat.le_refl _))⟩
 rcases hq with hq|hq
 ·obtain⟨its,r',pl,hz⟩:=I.list hq
  have hlen:=r'.length;obtain⟨o,ho,hc,n,hd⟩:=pl.isList;exact call_list_seq p (.inl rfl) ho hc hd (fun h' c' kp e=>fin its r' hz h' c' kp e) (by simp only[List.size_toArray]<;>omega)
 ·obtain⟨its,r',pl,hz⟩:=I.tuple hq
  have hlen:=r'.length;obtain⟨o,ho,hc,n,hd⟩:=pl;exact call_list_seq p (.inr rfl) ho hc hd (fun h' c' kp e=>fin its r' hz h' c' kp e) (by simp only[List.size_toArray]<;>omega)
theorem nk:de X (.type "tuple") (fun xs H Q=>∃p ys,xs=[.ref p]/\((SqL X.K H p ys/\∀l,H l=none->Q (.ref l) (upd H l (.tup ys)))\/(SqT X.K H p ys/\Q (.ref p) H))):=by
 intro pins s σ H xs us Q I r h;obtain⟨p,ys,rfl,h⟩:=h;obtain⟨u,rfl,rx⟩:=gE r;cases rx;rcases h with⟨hq,q⟩|⟨hq,q⟩
 ·obtain⟨its,r',pl,hz⟩:=I.list hq
  have hlen:=r'.length;refine call_tuple_list pl.isList (fun h' kp=>?_) (by simp only[List.size_toArray]<;>omega)
  have I1:Inv X pins σ H { s with heap:=h' }:=I.kept (t':=s.toks) kp
  have I2:Inv X pins σ (upd H h'.objs.size (.tup ys)) { s with heap:=h'.push { cls:=.type "tuple",data:=.seq its.toArray } }:=
   I1.laid (t':=s.toks) (fun b o e=>Heap.get?_push_of_some _ e) (Nat.le_refl _) (show cI X.prog X.w _ _ _ (.tup ys) from ⟨hz,its,r',pC.new _ _⟩)
  exact⟨.ref h'.objs.size,_,I2,rfl,q _ (I1.hok.fresh (Nat.le_refl _))⟩
 ·obtain⟨its,r',pl,hz⟩:=I.tuple hq
  exact call_tuple_same pl ⟨.ref p,H,I,rfl,q⟩
noncomputable def tyV(K:W.Frag)(T:String)(x:V)(H:Hp):Prop:=match x with
 |.str _=>T="str"
 |.int _=>T="int"
 |.ref p=>(T="list"/\∃xs,SqL K H p xs)\/(T="tuple"/\∃o,K.lookup p=some o/\o.cls=.type "tuple"/\o.dict=none) \/
   (T="dict"/\((∃kvs,H p=some (.dK kvs))\/∃kvs,H p=some (.dT kvs)))\/(T="set"/\∃S n,H p=some (.set S n))
 |_=>False
theorem zh{pins:List (Addr×Obj)}{σ:St}{H:Hp}{s:Shared}{T:String}{x:V}{v:Value}(I:Inv X pins σ H s)(r:br x v)(ty:tyV X.K T x H):
  s.TypeIs v T/\∀a,v=.ref a->∃ob,s.heap.get? a=some ob/\ob.dict=none:=by
 cases x with
 |str z=>
  obtain⟨t,rfl⟩:=r;cases (show T="str" from ty)
  exact⟨typeIs_str s z t,fun _ e=>nomatch e⟩
 |int i=>
  obtain⟨t,rfl⟩:=r;cases (show T="int" from ty)
  exact⟨typeIs_int s i t,fun _ e=>nomatch e⟩
 |ref p=>
  cases r;rcases ty with⟨rfl,xs,hq⟩|⟨rfl,o,hk,hc,hd⟩|⟨rfl,hk⟩|⟨rfl,S,n,hk⟩
  ·obtain⟨its,_,pl,_⟩:=I.list hq
   refine⟨pl.isList.typeIs,fun a e=>?_⟩;cases e;obtain⟨o,n,e,c,hd,_⟩:=pl;exact⟨o,e,hd⟩
  ·refine⟨⟨o,I.kIn p o hk,hc⟩,fun a e=>?_⟩
   cases e;exact⟨o,I.kIn _ o hk,hd⟩
  ·have z:∃o,s.heap.get? p=some o/\o.ExactDict:=by
    rcases hk with⟨kvs,hk⟩|⟨kvs,hk⟩
    ·obtain⟨_,_,_,_,o,_,_,e,ex,_⟩:=I.hok p _ hk
     exact⟨o,e,ex⟩
    ·obtain⟨_,_,_,_,o,_,_,e,ex,_⟩:=I.hok p _ hk
     exact⟨o,e,ex⟩
   obtain⟨o,e,ex⟩:=z;refine⟨⟨o,e,ex.1⟩,fun a e2=>?_⟩;cases e2;exact⟨o,e,ex.2.1⟩
  ·obtain⟨o,_,_,_,e,ex,_⟩:=I.hok p _ hk
   refine⟨⟨o,e,ex.1⟩,fun a e2=>?_⟩;cases e2;exact⟨o,e,ex.2.1⟩
 |_=>exact False.elim ty
noncomputable def EM(K:W.Frag)(T:String)(r:V->List V->Hp->VK->Prop)(to:TE):TE:=fun σ H Q=>to σ H fun x H1=>tyV K T x H1/\r x [] H1 Q
noncomputable def tBM(K:W.Frag)(T:String)(r:V->List V->Hp->VK->Prop)(to:TE)(t:TA):TE:=fun σ H Q=>to σ H fun x H1=>tyV K T x H1/\t σ H1 fun xs H2=>r x xs H2 Q
variable{o e:Expr}{es:List Expr}{to:TE}{t:TA}{name:Str}{apos cpos:Pos}{T id:String}{r:V->List V->Hp->VK->Prop}
theorem x3(pa:PlainAttrs T)(slot:Slot T name id)(hty:typeOf (.builtin id)=pure (.type "method_descriptor"))(hm:MtR X id r)(ho:PE X o to)(hbase:attributeBase o name X.env (eval o X.env)=eval o X.env:=by rfl)(hline:(apos.endLine == cpos.line)=true:=by rfl):PE X (.Call (.Attribute o name apos) [] [] cpos) (EM X.K T r to):=.mk <| by
 intro pins s σ H Q I h;refine wpAny_Call_method0_late hbase hline (thn (ho pins s σ H _ I h) fun v s1 ⟨x,H1,I1,r1,ty,q1⟩=>?_);obtain⟨h1,h2⟩:=zh I1 r1 ty;exact⟨T,id,pa,slot,hty,h1,h2,Calls.callWith_builtin rfl (PySem.evalArgs_none (hm pins s1 σ H1 x [] v [] Q I1 r1 .nil q1))⟩
theorem oa(pa:PlainAttrs T)(slot:Slot T name id)(hty:typeOf (.builtin id)=pure (.type "method_descriptor"))(hm:MtR X id r)(ho:PE X o to)(ha:PA X (e::es) t)(hbase:attributeBase o name X.env (eval o X.env)=eval o X.env:=by rfl)
  (hfew:((backTo cpos (starEach (e::es) X.env)).all (fun x=>!x.1) && (backToKw cpos (keywordEach [] X.env)).all (fun x=>x.1.isSome)
   && decide ((e::es).length+([]:List Keyword).length+(if ([]:List Keyword).isEmpty then 0 else 1)<30))=true:=by rfl)
  (hline:(apos.endLine == cpos.line)=true:=by rfl) (hs:starEach (e::es) X.env=(false,eval e X.env)::starEach es X.env:=by rfl) (hplain:(backTo cpos (starEach es X.env)).any (·.1)=false:=by rfl) :
  PE X (.Call (.Attribute o name apos) (e::es) [] cpos) (tBM X.K T r to t):=.mk <| by
 intro pins s σ H Q I h;refine wpAny_Call_method_late hbase hfew hline rfl (thn (ho pins s σ H _ I h) fun v s1 ⟨x,H1,I1,r1,ty,q1⟩=>?_);obtain⟨h1,h2⟩:=zh I1 r1 ty;refine⟨T,id,pa,slot,hty,h1,h2,?_⟩;have hA:=ha cpos pins s1 σ H1 _ I1 q1;rw[hs] at hA ⊢;refine Calls.callWith_builtin (by show (false || (backTo cpos (starEach es X.env)).any (·.1))=false;rw[hplain]<;>rfl) (Calls.evalArgs_plain ?_)
 exact thn hA fun us s2 ⟨vs,H2,I2,r2,q2⟩=>hm pins s2 σ H2 x vs v us Q I2 r1 r2 q2
end
noncomputable def MtM(X:Cx)(id:String)(r:V->List V->Hp->VK->Prop):Prop:=
 ∀(pins:List (Addr×Obj)) (s:Shared) (σ:St) (H:Hp) (x:V) (xs:List V) (v:Value) (us:List Value) (Q:VK),Inv X pins σ H s->br x v->aQ xs us->r x xs H Q ->
  wpAny (model X.prog X.w) X.A (call (.builtin id) (v::us)) (EP X pins σ Q) X.xe s
theorem aQ.one:∀ {x:V} {us:List Value},aQ [x] us->∃u,us=[u]/\br x u
 |_,_,.cons r .nil=>⟨_,rfl,r⟩
theorem aQ.zero:∀ {us:List Value},aQ [] us->us=[]
 |_,.nil=>rfl
theorem aQ.dropLast{xs:List V}{us:List Value}(h:aQ xs us):aQ xs.dropLast us.dropLast:=by
 induction h with
 |nil=>exact .nil
 |cons r t ih=>
  cases t with
  |nil=>exact .nil
  |cons q t'=>exact .cons r ih
theorem aQ.reverse{xs:List V}{us:List Value}(h:aQ xs us):aQ xs.reverse us.reverse:=by
 induction h with
 |nil=>exact .nil
 |cons r t ih=>rw[List.reverse_cons,List.reverse_cons];exact aQ.append ih (.cons r .nil)
theorem aQ.rep{xs:List V}{us:List Value}(h:aQ xs us):∀k:Nat,aQ (List.replicate k xs).flatten (List.replicate k us).flatten
 |0=>.nil
 |k+1=>by
  rw[List.replicate_succ,List.replicate_succ,List.flatten_cons,List.flatten_cons];exact aQ.append h (aQ.rep h k)
theorem tu{α:Type}(l:List α):l.eraseIdx (l.length-1)=l.dropLast:=by
 induction l with
 |nil=>rfl
 |cons a r ih=>
  cases r with
  |nil=>rfl
  |cons b r=>
   have e:(a::b::r).length-1=((b::r).length-1)+1:=by
    have h1:(a::b::r).length=r.length+2:=rfl;have h2:(b::r).length=r.length+1:=rfl;omega
   rw[e,List.eraseIdx_cons_succ,ih]
   all_goals rfl
theorem nK(its:List Value):∀(k:Nat)(acc:List Value),
  List.foldl (fun x1 x2=>x1++x2) acc.toArray (List.replicate k its.toArray)=(acc++(List.replicate k its).flatten).toArray
 |0,acc=>by simp
 |k+1,acc=>by
  have e:acc.toArray++its.toArray=(acc++its).toArray:=by simp
  have e2:(acc++its)++(List.replicate k its).flatten=acc++(List.replicate (k+1) its).flatten:=by
   rw[List.replicate_succ,List.flatten_cons,List.append_assoc]
  rw[←e2,←nK its k (acc++its),←e,List.replicate_succ,List.foldl_cons]
section
variable{X:Cx}{pins:List (Addr×Obj)}{σ:St}{H:Hp}{s:Shared}{l b:Addr}{xs ys zs:List V}
theorem Inv.lset{its its':List Value}{n:Nat}{f:Array Value->Array Value}{t':Nat}(I:Inv X pins σ H s)(hH:H l=some (.lst xs))(e:s.heap.get? l=some { cls:=.type "list",data:=.seq its.toArray n })(hf:f its.toArray=its'.toArray)(hv:aQ ys its')(hz:ys.length<=sizeLine):
  Inv X pins σ (upd H l (.lst ys)) { s with heap:=s.heap.update l (Obj.mapSeq f),toks:=t' }:=by
 have q:=PySem.IsL.update e f;rw[hf] at q;refine I.write (x:=l) (e:=l) (by rw[hH];exact trivial) (.inl rfl) (fun b' u hb hu=>(Heap.get?_update_other s.heap (Obj.mapSeq f) (Ne.symm hb)).trans hu) ⟨_,q⟩ ?_
 exact⟨hz,its',_,hv,q⟩
theorem Inv.lnew{its:List Value}{t':Nat}(I:Inv X pins σ H s)(hv:aQ ys its)(hz:ys.length<=sizeLine):
  Inv X pins σ (upd H s.heap.objs.size (.lst ys)) { s with heap:=s.heap.push { cls:=.type "list",data:=.seq its.toArray },toks:=t' }:=
 I.laid (fun _ _ q=>Heap.get?_push_of_some _ q) (Nat.le_refl _) ⟨hz,its,0,hv,Heap.get?_push_size _ rfl⟩
theorem Inv.fresh(I:Inv X pins σ H s):H s.heap.objs.size=none:=I.hok.fresh (Nat.le_refl _)
theorem Inv.F2(I:Inv X pins σ H s)(hH:H l=some (.lst xs)):xs.length<=sizeLine/\∃(its:List Value)(n:Nat),aQ xs its/\xs.length=its.length/\s.heap.get? l=some { cls:=.type "list",data:=.seq its.toArray n }:=by
 obtain⟨z,its,n,r,e⟩:=I.hok l _ hH;exact⟨z,its,n,r,r.length,e⟩
theorem qm{n:Nat}(h:n<=sizeLine):Builtin.List.listTooLong n=false:=by
 unfold Builtin.List.listTooLong;exact decide_eq_false (by omega)
end
section
variable{X:Cx}
noncomputable def vO:V->List V->Hp->VK->Prop:=fun x vs H Q=>∃l xs y,x=.ref l/\vs=[y]/\H l=some (.lst xs)/\xs.length<sizeLine/\Q .non (upd H l (.lst (xs++[y])))
theorem fP:MtM X "list.append" vO:=by
 intro pins s σ H x vs v us Q I rx rv h;obtain⟨l,xs,y,rfl,rfl,hH,hz,q⟩:=h;cases rx;obtain⟨u,rfl,ru⟩:=rv.one;obtain⟨z,its,n,r,hl,e⟩:=I.F2 hH;refine call_meets F.slot_list_append ⟨_,e,rfl⟩ F.entry_list_append (F.args_list_append_2 _ _) (PySem.list_append l its.toArray n u (by rw[List.size_toArray];omega)) ⟨e,?_⟩
 refine⟨.non,_,I.lset (its':=its++[u]) hH e (by simp) (r.append (.cons ru .nil)) ?_,rfl,q⟩
 rw[List.length_append,List.length_singleton];omega
noncomputable def uQ:V->List V->Hp->VK->Prop:=fun x vs H Q=>∃l b xs zs,x=.ref l/\vs=[.ref b]/\H l=some (.lst xs)/\H b=some (.lst zs)/\xs.length+zs.length<=sizeLine/\Q .non (upd H l (.lst (xs++zs)))
theorem n6:MtM X "list.extend" uQ:=by
 intro pins s σ H x vs v us Q I rx rv h;obtain⟨l,b,xs,zs,rfl,rfl,hH,hB,hz,q⟩:=h;cases rx;obtain⟨u,rfl,ru⟩:=rv.one;cases ru;obtain⟨z,its,n,r,hl,e⟩:=I.F2 hH;obtain⟨z2,its2,n2,r2,hl2,e2⟩:=I.F2 hB;have hsz:its.toArray.size+its2.toArray.size<=sizeLine:=by rw[List.size_toArray,List.size_toArray];omega
 have hlong:¬ (!its.toArray.isEmpty && Builtin.List.listTooLong (its.toArray.size+its2.toArray.size))=true:=by
  rw[qm hsz,Bool.and_false];exact Bool.false_ne_true
 refine call_meets F.slot_list_extend ⟨_,e,rfl⟩ F.entry_list_extend (F.args_list_extend_2 _ _)
  (AutoSeq1.list_extend_list_list_0 l its.toArray n b its2.toArray n2 hlong (by rw[List.size_toArray];omega) (by omega)) ⟨e,e2,?_⟩
 refine⟨.non,_,I.lset (its':=its++its2) hH e (by simp) (r.append r2) ?_,rfl,q⟩
 rw[List.length_append];omega
noncomputable def E1:V->List V->Hp->VK->Prop:=fun x vs H Q=>∃l xs y,x=.ref l/\vs=[]/\H l=some (.lst xs)/\xs[xs.length-1]?=some y/\Q y (upd H l (.lst xs.dropLast))
theorem zd:MtM X "list.pop" E1:=by
 intro pins s σ H x vs v us Q I rx rv h;obtain⟨l,xs,y,rfl,rfl,hH,hy,q⟩:=h;cases rx;have hus:=rv.zero;subst hus;obtain⟨z,its,n,r,hl,e⟩:=I.F2 hH;obtain⟨u,hu,ru⟩:=r.get hy
 have hy':its.toArray[its.toArray.size-1]?=some u:=by
  show its.toArray[its.length-1]?=some u;rw[←Array.getElem?_toList,←hl]
  exact hu
 refine call_meets F.slot_list_pop ⟨_,e,rfl⟩ F.entry_list_pop (F.args_list_pop_1 _) (MeetsSeq.list_pop_last l its.toArray n u hy' (by rw[List.size_toArray];omega)) ⟨e,?_⟩
 refine⟨y,_,I.lset (its':=its.dropLast) hH e ?_ r.dropLast ?_,ru,q⟩
 ·show its.toArray.eraseIdxIfInBounds (its.toArray.size-1)=its.dropLast.toArray
  rw[List.size_toArray,List.eraseIdxIfInBounds_toArray,tu]
 ·rw[List.length_dropLast]
  omega
noncomputable def tV:R2:=fun x y H Q=>∃l b xs zs,x=.ref l/\y=.ref b/\H l=some (.lst xs)/\H b=some (.lst zs)/\xs.length+zs.length<=sizeLine/\∀p,H p=none->Q (.ref p) (upd H p (.lst (xs++zs)))
theorem aN:OpR X (binaryOp .Add) tV:=by
 intro pins s σ H x y v u Q I rx ry h;obtain⟨l,b,xs,zs,rfl,rfl,hH,hB,hz,q⟩:=h;cases rx;cases ry;obtain⟨z,its,n,r,hl,e⟩:=I.F2 hH;obtain⟨z2,its2,n2,r2,hl2,e2⟩:=I.F2 hB;refine PySem.P.add_list e e2 ?_ (by rw[List.size_toArray,List.size_toArray];omega)
 have ea:its.toArray++its2.toArray=(its++its2).toArray:=by simp
 rw[ea];exact⟨.ref _,_,I.lnew (t':=s.toks) (r.append r2) (by rw[List.length_append];omega),rfl,q _ I.fresh⟩
noncomputable def A1:R2:=fun x y H Q=>∃l k xs,x=.ref l/\y=.int k/\H l=some (.lst xs)/\-(2^63)<=k/\k<2^63/\xs.length*k.toNat<=sizeLine /\
 ∀p,H p=none->Q (.ref p) (upd H p (.lst (List.replicate k.toNat xs).flatten))
theorem pL{α:Type}(xs:List α)(k:Nat):(List.replicate k xs).flatten.length=k*xs.length:=by
 induction k with
 |zero=>simp
 |succ k ih=>rw[List.replicate_succ,List.flatten_cons,List.length_append,ih,Nat.succ_mul,Nat.add_comm]
theorem t8:OpR X (binaryOp .Mult) A1:=by
 intro pins s σ H x y v u Q I rx ry h;obtain⟨l,k,xs,rfl,rfl,hH,h1,h2,hz,q⟩:=h;cases rx;obtain⟨t,rfl⟩:=ry;obtain⟨z,its,n,r,hl,e⟩:=I.F2 hH;have hlen:its.toArray.size*k.toNat<=sizeLine:=by rw[List.size_toArray,←hl];exact hz
 have hcap:¬ its.toArray.size*k.toNat>(2^63-1) / 8:=by
  have:(sizeLine:Nat)<=(2^63-1) / 8:=by decide
  omega
 have hfit:¬ (!Builtin.List.listFitsIndex k)=true:=by
  rw[fitsIndex_both h1 h2];exact Bool.false_ne_true
 have hlong:¬ Builtin.List.listTooLong (its.toArray.size*k.toNat)=true:=by
  rw[qm hlen];exact Bool.false_ne_true
 have hnew:List.foldl (fun x1 x2=>x1++x2) #[] (List.replicate (if its.toArray.isEmpty=true then 0 else k.toNat) its.toArray)=(List.replicate k.toNat its).flatten.toArray:=by
  have f0:∀m:Nat,List.foldl (fun x1 x2=>x1++x2) #[] (List.replicate m its.toArray)=(List.replicate m its).flatten.toArray:=fun m=>by
   have:=nK its m [];rw[List.nil_append] at this;exact this
  rw[f0]
  cases its with
  |nil=>simp
  |cons a r'=>rw[if_neg (by simp)]
 refine wpAny_binaryOp_repeat_ref (T:="list") (U:="int") (by decide) ⟨_,e,rfl⟩ (fun s'=>typeIs_int s' k t) noFill_list_mul F.fills_int_mul F.slot_int_rmul repeat_list F.slot_int_index.lookup
  (call_meets F.slot_int_rmul (typeIs_int s k t) F.entry_int_rmul (F.args_int_rmul_2 _ _) (int___rmul___int_list k t l its.toArray n)
   ⟨e,rfl,⟨_,e,rfl⟩,call_meets F.slot_list_mul ⟨_,e,rfl⟩ F.entry_list_mul (F.args_list_mul_2 _ _) (AutoListH.list___mul___list_int_3 l its.toArray n k t hfit hcap hlong) ⟨e,?_⟩⟩)
 rw[hnew];exact⟨.ref _,_,I.lnew (t':=s.toks) (r.rep k.toNat) (by rw[pL,Nat.mul_comm];exact hz),rfl,q _ I.fresh⟩
end
section
variable{prog:Program}{w:World}{A:Around}{E:Value->Shared->Prop}{s:Shared}
set_option maxRecDepth 100000 in
end
section
variable{X:Cx}{pins:List (Addr×Obj)}{σ:St}{H:Hp}{s:Shared}{a:Addr}{y v:V}{u r:Value}{o:Option V}{A:Around}{E:Value->Shared->Prop}
theorem Inv.big(I:Inv X pins σ H s):sysModules<s.heap.objs.size:=by
 have h:mainGlobals<s.heap.objs.size:=(I.mod.glob.keeps I.bk).lt;exact Nat.lt_trans (by decide) h
end
theorem xC{P:Program}{w:World}{H:Hp}(h:Heap)(hb:sysModules<h.objs.size):cI P w H (h.push { cls:=.type "dict",data:=.dict #[] }) h.objs.size (.dK []):=
 ⟨Nat.zero_le _,beq_eq_false_iff_ne.mpr (Ne.symm (Nat.ne_of_lt hb)),[],.nil,Heap.DictOf.new h⟩
noncomputable def yR:TE:=fun _ H Q=>∀p,H p=none->Q (.ref p) (upd H p (.dK []))
section
variable{X:Cx}{pos:Pos}
theorem d6:PE X (.Dict [] [] pos) yR:=.mk <| fun pins s σ H Q I h=>
 wpAny_Dict_empty ⟨.ref s.heap.objs.size,_,I.laid (a:=s.heap.objs.size) (o:=.dK []) (t':=s.toks) (fun _ _ q=>Heap.get?_push_of_some _ q) (Nat.le_refl _) (xC s.heap I.big),rfl,h _ (I.hok.fresh (Nat.le_refl _))⟩
end
structure M1(X:Cx)(o:Expr)(m:Str)(apos:Pos)(e:Expr)(cpos:Pos):Prop where
 base:attributeBase o m X.env (eval o X.env)=eval o X.env
 few:((backTo cpos (starEach [e] X.env)).all (fun x=>!x.1) && (backToKw cpos (keywordEach [] X.env)).all (fun x=>x.1.isSome)
  && decide (([e]:List Expr).length+([]:List Keyword).length+(if ([]:List Keyword).isEmpty then 0 else 1)<30))=true
 line:(apos.endLine == cpos.line)=true
 trees:backTo cpos (starEach [e] X.env)=[(false,eval e X.env)]
structure M2(X:Cx)(o:Expr)(m:Str)(apos:Pos)(e f:Expr)(cpos:Pos):Prop where
 base:attributeBase o m X.env (eval o X.env)=eval o X.env
 few:((backTo cpos (starEach [e,f] X.env)).all (fun x=>!x.1) && (backToKw cpos (keywordEach [] X.env)).all (fun x=>x.1.isSome)
  && decide (([e,f]:List Expr).length+([]:List Keyword).length+(if ([]:List Keyword).isEmpty then 0 else 1)<30))=true
 line:(apos.endLine == cpos.line)=true
 trees:backTo cpos (starEach [e,f] X.env)=[(false,eval e X.env),(false,eval f X.env)]
end L2
namespace Att
open PySem PySem.W PySem.Calls PyProof.Rows
theorem k8{P:Params}{h:Heap}:∀(ns:List Int)(vs:List Value),WellAll P h vs (ns.map WData.int)->IntsAre vs ns:=by
 intro ns
 induction ns with
 |nil=>
  intro vs w;rw[List.map_nil] at w;cases w;exact .nil
 |cons n ns ih=>
  intro vs w;rw[List.map_cons] at w
  cases w with
  |cons a b=>
   cases a;exact .cons _ _ (ih _ b)
theorem wm{l:OpenLaw}{n:Nat}(hn:l.most=some n){P:Params}{h:Heap}{args:List WData}{vals:List Value}(hpre:l.row.toRowW.claim.pre args=true)(hwl:WellAll P h vals args):
  ∃a vs ns,vals=[Value.ref a]/\args=[WData.list (ns.map WData.int)]/\h.get? a=some { cls:=.type "list",data:=.seq vs.toArray }/\IntsAre vs ns/\ns.length<=n:=by
 have hsh:WShape.hasAll [] args [.list .int]=true:=(pre_splitW hpre).1;have hc:l.pre.holds [] { args:=args }=true:=(pre_splitW hpre).2;obtain⟨d,r,rfl,h1,h2⟩:=hasAllW_cons hsh;obtain rfl:=hasAllW_nil h2;obtain⟨xs,rfl,h3⟩:=hasW_list h1;obtain⟨ns,rfl⟩:=items_int h3
 have hlen:ns.length<=n:=by
  unfold OpenLaw.pre at hc
  have h4:(WTm.not (.lt (.lit (.int (n:Int))) (.len (.arg 0)))).holds [] { args:=[.list (ns.map .int)] }=true:=by
   have h4:=(holds_andW hc).1;rw[hn] at h4;exact h4
  have h5:=condW_of h4 (w_not (w_lt w_lit (w_len_list (w_arg rfl))));rw[List.length_map] at h5;refine Nat.le_of_not_lt fun q=>?_;have q':(n:Int)<((ns.length:Nat):Int):=by omega
  first
   |(rw[decide_eq_true q'] at h5;exact absurd h5 (by decide))
   |(simp at h5;omega)
 cases hwl with
 |cons w1 w2=>
  cases w2
  cases w1 with
  |list ho hall=>exact⟨_,_,ns,rfl,rfl,ho,k8 ns _ hall,hlen⟩
theorem wV(l:OpenLaw)(args:List WData):l.row.toRowW.claim.post args (.bool true) args=true:=
 postW_of (r:=l.row.toRowW) (X:=(true == true))
  (show WShape.has [] (.bool true) .bool=true by first|rfl|decide|simp[WShape.has,WShape.arms,WShape.armsAll])
  (show (WTm.eq .res (.lit (.bool true))).value [] { args:=args,res:=some (.bool true),after:=args }=some (.bool (true == true)) from w_eq_bool (w_res rfl) w_lit) rfl
theorem qV{l:OpenLaw}{n:Nat}{q:Program}{loose:List Str}{XP:(Str->Option Value)->Heap->Prop}{YP:World->Heap->Prop}{d:DefRec}(hn:l.most=some n)(hdf:d.params.defaults=[])
  (call:∀(w:World)(s₀ s₁:Shared)(mg mb:Str->Option Value)(fa:Addr)(o:Obj)(pm cd doc:Value)(a:Addr)(vs:List Value)(ns:List Int),
   Ground q loose [] XP w s₀ mg mb s₁.heap->YP w s₁.heap ->
   s₁.heap.get? fa=some o->o.data=.func (docDef d.name d.params d.body d.scope pm cd doc)->s₁.heap.CodeRec cd d.name->mg d.name=some (.ref fa) ->
   s₁.heap.get? a=some { cls:=.type "list",data:=.seq vs.toArray }->IntsAre vs ns->ns.length<=n->s₁.gens=#[] ->
   codeAny (model l.prog w) callerA (.call (.ref fa) ⟨[.ref a],[]⟩) (fun r s'=>r=.ok (.ret (.bool true))/\OldK s₁.heap s'.heap/\s'.os=s₁.os/\AllBare s'.gens) s₁) :
  WalkO q loose XP YP l.row.toRowW d [] (fun f vs=>PySem.call f vs):=by
 intro w s₀ s₁ mg mb G Y fa o pm cd doc dV kV ho hd hcd hD hmg hg args vals as hpre hlay hrd hwl hlo;obtain rfl:dV=.none:=Dflts.none hD hdf;obtain rfl:kV=.none:=Dflts.noKw hD;obtain⟨a,vs,ns,rfl,rfl,hobj,hints,hlen⟩:=wm hn hpre hwl;refine enter_call (codeAny_mono (call w s₀ s₁ mg mb fa o pm cd doc a vs ns G Y ho (fd_plain hd) hcd hmg hobj hints hlen hg) fun r s' hq=>?_);obtain⟨rfl,h2,h3,h4⟩:=hq
 exact⟨.inl ⟨.bool true,.bool true,[],rfl,fun _=>rfl,.bool true,wV l _,fun _=>⟨List.Pairwise.nil,fun _ hm=>(nomatch hm)⟩⟩,h2,h3,h4⟩
end Att
namespace L2
open PySem PySem.Spec PyProof.Rows
theorem nJ:∀ {vs:List Value} {ns:List Int},IntsAre vs ns->aQ (ns.map V.int) vs
 |_,_,.nil=>.nil
 |_,_,.cons n t h=>.cons ⟨t,rfl⟩ (nJ h)
noncomputable def DL(_:Hp):Prop:=True
noncomputable abbrev KOf{K:W.Frag}{h:Heap}(_:K.In h):W.Frag:=K
noncomputable def defArgs(s:Stmt):Arguments:=match s with
 |.FunctionDef _ a _ _ _ _ _ _ _ _=>a
 |_=>{ posonlyargs:=[],args:=[],vararg:=none,kwonlyargs:=[],kw_defaults:=[],kwarg:=none,defaults:=[] }
noncomputable def defBody(s:Stmt):List Stmt:=match s with
 |.FunctionDef _ _ b _ _ _ _ _ _ _=>b
 |_=>[]
noncomputable def defScope(s:Stmt):Scope:=match s with
 |.FunctionDef _ _ _ _ _ _ sc _ _ _=>sc
 |_=>{ kind:=.function,names:=[],isGenerator:=false,isCoroutine:=false }
noncomputable abbrev CX0:CXT:=fun _ _ _ _ _ _=>False
noncomputable abbrev E0:XK:=fun _ _ _=>False
theorem aB{X:Cx}:sO CX0 X E0:=fun _ _ _ _ _ _ _ h=>h.elim
structure Fun(K:W.Frag)(x qual:Str)(st:Stmt)(f:Addr)(fd:FuncData):Prop where
 ex:∃(oc:Value)(od:Option Addr)(kV doc pm:Value)(an:Option Addr)(cdv ct:Value) (osl:Array (Option Value)),
  fd=W.fnOf x qual (defArgs st) (defBody st) (defScope st) .none kV doc pm an cdv ct/\K.lookup f=some ⟨oc,od,.func fd,osl⟩/\W.codeIn K cdv qual=true
 kp:W.keepIn K (.ref f)=true
section
variable{P:Program}{w:World}{K:W.Frag}{mg:Str->Option Value}{base:Heap}
theorem Fun.ok{x qual:Str}{st:Stmt}{f:Addr}{fd:FuncData}{N ps:List Str}{k:Nat}{sp:Sp}(F:Fun K x qual st f fd)(S:aV N ps (defScope st))(len:∀vs H Q E,sp vs H Q E->vs.length=ps.length)
  (hbody:∀(cdv:Value)(A:Around)(outer:List Env)(s:Shared)(H:Hp)(vs:List V)(Q:VK)(E:XK),eB k (A.deeper (envOfC qual (defScope st) s.heap.objs.size f cdv))->sp vs H Q E ->
   ∃t,PSs (oR CX0 P w K mg base N qual (defScope st) f cdv A outer s H E).nox (defBody st) t/\t { nx:=fun _ H'=>Q .non H',rt:=Q } (start N vs) H):aO P w K mg base CX0 (k+1) f fd ps sp:=by
 obtain⟨oc,od,kV,doc,pm,an,cdv,ct,osl,rfl,lk,hcd⟩:=F.ex;refine E7 lk hcd S len fun A outer s H vs Q E hr hsp=>?_;obtain⟨t,h,q⟩:=hbody cdv A outer s H vs Q E hr hsp;exact⟨t,h.nox,q⟩
theorem Fun.binds{x qual:Str}{st:Stmt}{f:Addr}{fd:FuncData}{ps:List Str}(F:Fun K x qual st f fd)(h:∀(kV doc pm:Value)(an:Option Addr)(cdv ct:Value)(us:List Value),us.length=ps.length->bindArgs (W.fnOf x qual (defArgs st) (defBody st) (defScope st) .none kV doc pm an cdv ct) ⟨us,[]⟩=pure (ps.zip us)):bx K fd ps []:=by
 obtain⟨oc,od,kV,doc,pm,an,cdv,ct,osl,rfl,lk,hcd⟩:=F.ex;exact .all (h kV doc pm an cdv ct)
theorem yo{x qual:Str}{st:Stmt}{f:Addr}{oc:Value}{od an:Option Addr}{osl:Array (Option Value)}{kV doc pm cdv ct:Value}(l:K.lookup f=some ⟨oc,od,.func (W.fnOf x qual (defArgs st) (defBody st) (defScope st) .none kV doc pm an cdv ct),osl⟩)(c:W.codeIn K cdv qual=true)(k:W.keepIn K (.ref f)=true):Fun K x qual st f (W.fnOf x qual (defArgs st) (defBody st) (defScope st) .none kV doc pm an cdv ct):=⟨⟨oc,od,kV,doc,pm,an,cdv,ct,osl,rfl,l,c⟩,k⟩
end
theorem aT{n:Nat}(h:n<=1000):n<sizeLine:=Nat.lt_of_le_of_lt h (by decide)
section
variable{X:Cx}
theorem pv(i:Nat){x:Str}{pos:Pos}(hN:X.N[i]?=some x:=by rfl)(hv:Vis X.env.scope x:=by first|exact Or.inl rfl|exact Or.inr (Or.inl rfl)|exact Or.inr (Or.inr rfl))(hd:(x == ("__debug__":Str))=false:=by decide)(hcd:(x == ("__classdict__":Str))=false:=by decide):PE X (.Name x pos) (zJ i):=CZ hN hv hd hcd
end
theorem i9{c A B:Prop}[Decidable c](h1:c->A)(h2:¬ c->B):if c then A else B:=by
 by_cases h:c
 ·rw[if_pos h]
  exact h1 h
 ·rw[if_neg h]
  exact h2 h
noncomputable def dj(H H':Hp):Prop:=∀b o,H b=some o->H' b=some o
theorem dj.refl(H:Hp):dj H H:=fun _ _ h=>h
theorem dj.trans{H H1 H2:Hp}(a:dj H H1)(b:dj H1 H2):dj H H2:=fun c o h=>b c o (a c o h)
end L2
set_option maxHeartbeats 1000000
namespace L2
open PySem PySem.Spec PyProof.Rows
section
variable{prog:Program}{w:World}{A:Around}{E:Value->Shared->Prop}{R:Result->Shared->Prop}{s:Shared}
noncomputable def gZ(elt:Expr)(gens:List Comprehension)(scope:Scope)(pos:Pos)(d:Nat)(acc:Value)(env:Env):Sem Unit:=
 match gens[d+1]? with
 |some g'=>do
  let x ← eval g'.iter env
  standAt g'.iter.pos
  let x ← if g'.is_async != 0 then foldedIterable g'.iter x else foldedSetIterable g'.iter env x
  let _ ← runOwn (.compStart (.ListComp elt gens scope pos) (d+1) (← holding [x] (if g'.is_async != 0 then asyncIter x else pyIter x)) acc env) env
 |none=>do let _ ← call (.builtin "list.append") [acc,←eval elt env]
theorem pq{elt target iter:Expr}{gens:List Comprehension}{ifs:List Expr}{scope:Scope}{pos:Pos}{d:Nat}{it acc:Value}{env:Env}(I:Nat->Shared->Prop)(hg:gens[d]?=some ⟨target,iter,ifs,0⟩)(ha:∀g',gens[d+1]?=some g'->g'.is_async=0)
  (turn:∀n s,I n s->wpAny (model prog w) A (pyNext it) (fun r s₁=>match r with
   |none=>R (.ok .next) s₁
   | some v=>wpAny (model prog w) A (letOwnedTupleGo target it v) (fun _ s₁'=>wpAny (model prog w) A (assign target env v) (fun _ s₂ =>
     wpAny (model prog w) A (forIn ifs true fun c r=>if r=true then do let ok ← isTrue c env (eval c env);pure (ForInStep.yield ok) else pure (ForInStep.yield r)) (fun ok s₃=>
      if ok=true then wpAny (model prog w) A (gZ elt gens scope pos d acc env) (fun _ s₅=>∃m,m<n/\I m s₅) (fun _ _=>False) s₃
      else ∃m,m<n/\I m s₃) (fun _ _=>False) s₂) (fun _ _=>False) s₁') (fun _ _=>False) s₁) (fun _ _=>False) s)
  (n:Nat) (h:I n s) :
  codeAny (model prog w) A (.compLoop (.ListComp elt gens scope pos) d it acc env) R s:=by
 refine codeAny_loop rfl I (fun n s hI=>?_) n h;show wpAny _ A ((compTurn (.ListComp elt gens scope pos) d it acc env).onRaise (fun x=>do noteFrame x env;theTreesLotGoes x)) _ _ s
 refine wpAny_noted ?_;unfold compTurn;simp only[hg];refine wpAny_bind (wpAny_standAt (wpAny_bind (wpAny_mono (turn n s hI) (fun r s₁ h₁=>?_) fun _ _ x=>x.elim)))
 cases r with
 |none=>exact wpAny_pure h₁
 |some v=>
  refine wpAny_bind (wpAny_mono h₁ (fun _ s₁' h₁'=>?_) fun _ _ x=>x.elim);refine wpAny_bind (wpAny_mono h₁' (fun _ s₂ h₂=>wpAny_bind (wpAny_mono h₂ (fun ok s₃ h₃=>?_) fun _ _ x=>x.elim)) fun _ _ x=>x.elim)
  cases ok with
  |false=>exact wpAny_pure ⟨rfl,h₃⟩
  |true=>
   have h₃':wpAny (model prog w) A (gZ elt gens scope pos d acc env) (fun _ s₅=>∃m,m<n/\I m s₅) (fun _ _=>False) s₃:=h₃;unfold gZ at h₃';rw[if_pos rfl]
   cases hd:gens[d+1]? with
   |none=>
    rw[hd] at h₃';exact wpAny_bind (wpAny_mono h₃' (fun _ s₅ h₅=>wpAny_pure ⟨rfl,h₅⟩) fun _ _ x=>x.elim)
   |some g'=>
    rw[hd] at h₃';have h0:=ha g' hd;have e0:(g'.is_async != 0)=false:=by rw[h0];rfl
    dsimp only at h₃' ⊢;simp only[e0,Bool.false_eq_true,if_false] at h₃' ⊢;intro Γ p hΓ;have q:=h₃' Γ p hΓ;simp only[Sem.wp_bind'] at q ⊢;refine Sem.wp_mono _ Γ _ (fun x p₁ s₄ q₁=>?_) (fun _ _ _ z=>z.elim) _ _ q;refine Sem.wp_mono _ Γ _ (fun _ p₂ s₄ q₂=>?_) (fun _ _ _ z=>z.elim) _ _ q₁;refine Sem.wp_mono _ Γ _ (fun x p₂ s₄ q₂=>?_) (fun _ _ _ z=>z.elim) _ _ q₂;refine Sem.wp_mono _ Γ _ (fun x p₂ s₄ q₂=>?_) (fun _ _ _ z=>z.elim) _ _ q₂
    refine Sem.wp_mono _ Γ _ (fun x p₂ s₄ q₂=>?_) (fun _ _ _ z=>z.elim) _ _ q₂;exact⟨rfl,q₂⟩
end
section
variable{prog:Program}{w:World}{A:Around}{E:Value->Shared->Prop}{R:Result->Shared->Prop}{s:Shared}
theorem ni{elt target iter:Expr}{gens:List Comprehension}{ifs:List Expr}{scope:Scope}{pos:Pos}{d:Nat}{it acc:Value}{env:Env}(hg:gens[d]?=some ⟨target,iter,ifs,0⟩)(h0:codeAny (model prog w) A (.compLoop (.ListComp elt gens scope pos) d it acc env) R s)(h:wpAny (model prog w) A (pyIter it) (fun it' s'=>codeAny (model prog w) A (.compLoop (.ListComp elt gens scope pos) d it' acc env) R s') (fun _ _=>False) s):
  codeAny (model prog w) A (.compStart (.ListComp elt gens scope pos) d it acc env) R s:=by
 refine codeAny_of_tree ?_;show wpAny _ _ ((compStart (.ListComp elt gens scope pos) d it acc env).onRaise (fun x=>do noteFrame x env;standAt theWindowsPlace)) _ _ s
 refine wpAny_notedAt ?_;unfold compStart;have hcl:clausesOf (.ListComp elt gens scope pos)=gens:=rfl;simp only[hcl,hg,Option.elim];refine wpAny_ite ?_;rw[if_neg (by decide)]
 refine wpAny_bind (wpAny_askSetting (wpAny_ite ?_));split
 ·first
   |exact wpAny_bind (wpAny_pure (wpAny_pure (And.intro rfl h0)))
   |exact wpAny_pure (And.intro rfl h0)
 ·exact wpAny_bind (wpAny_rule (wpAny_bind (wpAny_standAt (wpAny_bind (wpAny_mono h (fun it' s' h'=>wpAny_pure (And.intro rfl h')) fun _ _ x=>x.elim)))))
end
noncomputable abbrev TL:=Addr->St->Hp->(St->Hp->Prop)->Prop
noncomputable def PL(X:Cx)(elt:Expr)(gens:List Comprehension)(scope:Scope)(pos:Pos)(d:Nat)(t:TL):Prop:=
 ∀(pins:List (Addr×Obj)) (s:Shared) (σ:St) (H:Hp) (acc:Addr) (K:St->Hp->Prop),Inv X pins σ H s->t acc σ H K ->
  wpAny (model X.prog X.w) X.A (gZ elt gens scope pos d (.ref acc) X.env) (fun _ s'=>∃σ' H',Inv X pins σ' H' s'/\K σ' H') (fun _ _=>False) s
noncomputable def PTs(X:Cx)(ifs:List Expr)(t:TT):Prop:=
 ∀(pins:List (Addr×Obj)) (s:Shared) (σ:St) (H:Hp) (Q:Bool->Hp->Prop),Inv X pins σ H s->t σ H Q ->
  wpAny (model X.prog X.w) X.A (forIn ifs true fun c r=>if r=true then do let ok ← isTrue c X.env (eval c X.env);pure (ForInStep.yield ok) else pure (ForInStep.yield r)) (TP X pins σ Q) X.xe s
noncomputable def uM:TT:=fun _ H Q=>Q true H
noncomputable def Cd(te:TE):TL:=fun acc σ H K=>te σ H fun y H1=>∃xs,H1 acc=some (.lst xs)/\xs.length<sizeLine/\K σ (upd H1 acc (.lst (xs++[y])))
noncomputable def yp(J:It)(g:TG)(tc:TT)(l:TL):TL:=fun acc σ H K=>∃W:Nat->Nat->St->Hp->Prop,(∃m,W 0 m σ H)/\∀i m σ H,W i m σ H ->
 (J.stop i H/\K σ H)\/(J.go i H/\∀x H',J.yld i H x H'->g x σ H' fun σ2 H2=>tc σ2 H2 fun b H3=>
  if b=true then l acc σ2 H3 (fun σ3 H4=>∃m',m'<m/\W (i+1) m' σ3 H4) else ∃m',m'<m/\W (i+1) m' σ2 H3)
section
variable{X:Cx}{elt:Expr}{gens:List Comprehension}{scope:Scope}{pos:Pos}{d:Nat}{te:TE}{l:TL}{tg iter:Expr}{ifs:List Expr}{wi:TI}{g:TG}{tc:TT}
theorem ga:PTs X [] uM:=fun pins s σ H Q I h=>wpAny_tests_nil ⟨H,I,h⟩
theorem pe{c:Expr}(hc:PT X c tc):PTs X [c] tc:=fun pins s σ H Q I h=>wpAny_tests_one (hc pins s σ H Q I h)
theorem dY(hx:X.xe=fun _ _=>False)(hd:gens[d+1]?=none)(he:PE X elt te):PL X elt gens scope pos d (Cd te):=by
 intro pins s σ H acc K I h;unfold gZ;rw[hd];have he':=he pins s σ H _ I h;rw[hx] at he';refine wpAny_bind (thn he' fun u s1 ⟨y,H1,I1,r1,xs,e1,z1,k1⟩=>?_);have ha:=fP pins s1 σ H1 (.ref acc) [y] (.ref acc) [u] (fun v H2=>v=.non/\H2=upd H1 acc (.lst (xs++[y]))) I1 rfl (.cons r1 .nil) ⟨acc,xs,y,rfl,rfl,e1,z1,rfl,rfl⟩;rw[hx] at ha;refine wpAny_bind (thn ha fun v s2 ⟨v',H2,I2,r2,e2,e3⟩=>wpAny_pure ⟨σ,H2,I2,by rw[e3];exact k1⟩)
theorem xg(hx:X.xe=fun _ _=>False)(hc:X.calm=true)(hd:gens[d]?=some ⟨tg,iter,ifs,0⟩)(ha:∀g',gens[d+1]?=some g'->g'.is_async=0)(hg:PG X tg g)(ht:PTs X ifs tc)(hl:PL X elt gens scope pos d l){pins:List (Addr×Obj)}{s:Shared}{σ:St}{H:Hp}{acc it:Addr}{fp:List Addr}{tn:Nat->Heap->Prop}{J:It}{K:St->Hp->Prop}{R:Result->Shared->Prop}(I:Inv X pins σ H s)(T:zK X.prog X.w X.K tg J fp it tn)(st:tn 0 s.heap)(f2:∀b∈fp,kb X pins H b)(h:yp J g tc l acc σ H K)(hR:∀σ' H' s',Inv X pins σ' H' s'->K σ' H'->R (.ok .next) s'):
  codeAny (model X.prog X.w) X.A (.compLoop (.ListComp elt gens scope pos) d (.ref it) (.ref acc) X.env) R s:=by
 obtain⟨W,⟨m0,w0⟩,turn⟩:=h;have stat:∀ {H':Hp},(∀b∈fp,H' b=none)->∀b∈fp,kb X pins H' b:=fun hn b hb=>⟨hn b hb,(f2 b hb).2⟩;refine pq (fun n s'=>∃i σ' H',Inv X pins σ' H' s'/\tn i s'.heap/\(∀b∈fp,H' b=none)/\W i n σ' H') hd ha ?_ m0 ⟨0,σ,H,I,st,fun b hb=>(f2 b hb).1,w0⟩;rintro n s3 ⟨i,σ3,H3,I3,st3,fr3,w3⟩;rcases turn i n σ3 H3 w3 with⟨stop,qn⟩|⟨go,step⟩
 ·refine thn (T.done X rfl rfl rfl hc i pins s3 σ3 H3 _ I3 (stat fr3) st3 stop) fun r s4 ⟨hr,I4⟩=>?_
  subst hr;exact hR σ3 H3 s4 I4 qn
 ·refine thn (T.item X rfl rfl rfl hc i pins s3 σ3 H3 _ I3 (stat fr3) st3 go) fun r s4 ⟨u,hr,h4⟩=>?_
  subst hr;refine thn h4 fun _ s5 ⟨x,H5,I5,r5,y5,st5,fr5⟩=>?_;have I5':=I5.pinned (stat fr5) (T.obj _ _ st5)
  have again:∀ {σ7:St} {H7:Hp} {s7:Shared} {m':Nat},Inv X (pins++mr fp s5.heap) σ7 H7 s7->m'<n->W (i+1) m' σ7 H7->∃m,m<n/\∃i σ' H',Inv X pins σ' H' s7/\tn i s7.heap/\(∀b∈fp,H' b=none)/\W i m σ' H':=fun {σ7 H7 s7 m'} I7 hm w7=>by
   refine⟨m',hm,i+1,σ7,H7,I7.unpinned,T.keep _ _ _ st5 fun b hb o e=>(I7.pin (b,o) (List.mem_append_right _ (List.mem_append_right _ (gm hb e)))).1,fun b hb=>?_,w7⟩;obtain⟨o,e,d⟩:=T.obj _ _ st5 b hb;exact(I7.pin (b,o) (List.mem_append_right _ (List.mem_append_right _ (gm hb e)))).2.1
  have hg':=hg _ s5 σ3 H5 x u _ I5' r5 (step x H5 y5);rw[hx] at hg';refine thn hg' fun _ s6 ⟨σ6,H6,I6,q6⟩=>?_;have ht':=ht _ s6 σ6 H6 _ I6 q6;rw[hx] at ht';refine thn ht' fun ok s7 ⟨H7,I7,q7⟩=>?_
  cases ok with
  |false=>
   rw[if_neg Bool.false_ne_true] at q7 ⊢;obtain⟨m',hm,w7⟩:=q7;exact again I7 hm w7
  |true=>
   rw[if_pos rfl] at q7 ⊢;refine thn (hl _ s7 σ6 H7 acc _ I7 q7) fun _ s8 ⟨σ8,H8,I8,m',hm,w8⟩=>?_;exact again I8 hm w8
end
noncomputable def gH(env:Env):List (Str×NameKind)->List (Str×Addr)->List (Str×Addr)
 | [],acc=>acc
 |(n,k)::r,acc=>if k == .free then gH env r ((n,(env.cells.lookup n).getD 0)::acc) else gH env r acc
theorem tE{scope:Scope}{env:Env}(h:∀y∈scope.names,y.2=.free->∃c,env.cells.lookup y.1=some c):closureFor scope env=pure (gH env scope.names []):=by
 have gen:∀(names:List (Str×NameKind)) (acc:List (Str×Addr)),(∀y∈names,y.2=.free->∃c,env.cells.lookup y.1=some c) ->
   (forIn names acc fun(x:Str×NameKind) (r:List (Str×Addr))=>(if (x.2 == NameKind.free)=true then do let a ← cellOf env x.1;pure (ForInStep.yield ((x.1,a)::r)) else pure (ForInStep.yield r):Sem _))=pure (gH env names acc):=by
  intro names
  induction names with
  |nil=>intro acc _;rfl
  |cons y r ih=>
   intro acc hy;obtain⟨n,k⟩:=y;rw[List.forIn_cons];unfold gH
   cases hk:k == NameKind.free with
   |true=>
    obtain⟨c,hc⟩:=hy (n,k) (List.mem_cons_self ..) (by simpa using hk)
    simp only[hk,if_true,cellOf,hc,Option.getD_some];exact ih _ fun y hy'=>hy y (List.mem_cons_of_mem _ hy')
   |false=>
    simp only[hk,Bool.false_eq_true,if_false];exact ih _ fun y hy'=>hy y (List.mem_cons_of_mem _ hy')
 have:=gen scope.names [] h;unfold closureFor;show ((forIn scope.names ([]:List (Str×Addr)) fun(x:Str×NameKind) (r:List (Str×Addr))=>(if (x.2 == NameKind.free)=true then do let a ← cellOf env x.1;pure (ForInStep.yield ((x.1,a)::r)) else pure (ForInStep.yield r):Sem _)) >>= fun z=>pure z)=_
 rw[this];rfl
theorem fJ{env:Env}:∀ {names:List (Str×NameKind)} {acc:List (Str×Addr)} {n:Str} {c:Addr},(n,c)∈gH env names acc->(n,c)∈acc\/((n,NameKind.free)∈names/\c=(env.cells.lookup n).getD 0)
 | [],_,_,_,h=>.inl h
 |(m,k)::r,acc,n,c,h=>by
  unfold gH at h;split at h
  ·rename_i hk
   rcases fJ h with h|⟨h1,h2⟩
   ·rcases List.mem_cons.mp h with e|e
    ·cases e
     have:k=.free:=by simpa using hk
     subst this;exact .inr ⟨List.mem_cons_self ..,rfl⟩
    ·exact .inl e
   ·exact .inr ⟨List.mem_cons_of_mem _ h1,h2⟩
  ·rcases fJ h with h|⟨h1,h2⟩
   ·exact .inl h
   ·exact .inr ⟨List.mem_cons_of_mem _ h1,h2⟩
theorem jq{env:Env}:∀ {names:List (Str×NameKind)} {acc:List (Str×Addr)} {n:Str},((n,NameKind.free)∈names\/∃c,(n,c)∈acc)->∃c,(n,c)∈gH env names acc
 | [],_,_,h=>by
  rcases h with h|h
  ·cases h
  ·exact h
 |(m,k)::r,acc,n,h=>by
  unfold gH;split
  ·rename_i hk
   apply jq;rcases h with h|⟨c,h⟩
   ·rcases List.mem_cons.mp h with e|e
    ·cases e;exact .inr ⟨_,List.mem_cons_self ..⟩
    ·exact .inl e
   ·exact .inr ⟨c,List.mem_cons_of_mem _ h⟩
  ·rename_i hk
   apply jq;rcases h with h|h
   ·rcases List.mem_cons.mp h with e|e
    ·cases e;simp at hk
    ·exact .inl e
   ·exact .inr h
theorem fq:∀ {names:List (Str×NameKind)} {h:Heap} {acc:List (Str×Addr)} {n:Str} {c:Addr},(n,c)∈cellsFrom h.objs.size names acc ->
  (n,c)∈acc\/((n,NameKind.cell)∈names/\h.objs.size<=c/\(pushCells h names).IsCell c none)
 | [],_,_,_,_,m=>.inl m
 |(x,k)::r,h,acc,n,c,m=>by
  unfold cellsFrom at m;unfold pushCells;split at m
  ·rename_i hk
   rw[if_pos hk];have sz:(h.push { cls:=.type "cell",data:=.cell none }).objs.size=h.objs.size+1:=Heap.size_push ..;rw[←sz] at m
   rcases fq m with m|⟨m1,m2,m3⟩
   ·rcases List.mem_cons.mp m with e|e
    ·cases e
     have:k=.cell:=by simpa using hk
     subst this;exact .inr ⟨List.mem_cons_self ..,Nat.le_refl _,⟨_,pushCells_keeps _ _ _ _ (Heap.get?_push_size _ rfl),rfl⟩⟩
    ·exact .inl e
   ·exact .inr ⟨List.mem_cons_of_mem _ m1,by omega,m3⟩
  ·rename_i hk
   rw[if_neg hk];rcases fq m with m|⟨m1,m2,m3⟩
   ·exact .inl m
   ·exact .inr ⟨List.mem_cons_of_mem _ m1,m2,m3⟩
theorem cM:∀ {names:List (Str×NameKind)} {k:Nat} {acc:List (Str×Addr)} {n:Str},((n,NameKind.cell)∈names\/∃c,(n,c)∈acc)->∃c,(n,c)∈cellsFrom k names acc
 | [],_,_,_,h=>by
  rcases h with h|h
  ·cases h
  ·exact h
 |(m,k)::r,j,acc,n,h=>by
  unfold cellsFrom;split
  ·rename_i hk
   apply cM;rcases h with h|⟨c,h⟩
   ·rcases List.mem_cons.mp h with e|e
    ·cases e;exact .inr ⟨_,List.mem_cons_self ..⟩
    ·exact .inl e
   ·exact .inr ⟨c,List.mem_cons_of_mem _ h⟩
  ·rename_i hk
   apply cM;rcases h with h|h
   ·rcases List.mem_cons.mp h with e|e
    ·cases e;simp at hk
    ·exact .inl e
   ·exact .inr h
theorem fx:∀ {names:List (Str×NameKind)} {k:Nat} {acc:List (Str×Addr)},(∀n c,(n,c)∈acc->c<k)->(∀n m c,(n,c)∈acc->(m,c)∈acc->n=m) ->
  ∀n m c,(n,c)∈cellsFrom k names acc->(m,c)∈cellsFrom k names acc->n=m
 | [],_,_,_,h2,n,m,c,a,b=>h2 n m c a b
 |(x,kd)::r,k,acc,h1,h2,n,m,c,a,b=>by
  unfold cellsFrom at a b;split at a
  ·rename_i hk
   rw[if_pos hk] at b;refine fx (k:=k+1) ?_ ?_ n m c a b
   ·intro n c h
    rcases List.mem_cons.mp h with e|e
    ·cases e;exact Nat.lt_succ_self _
    ·exact Nat.lt_succ_of_lt (h1 n c e)
   ·intro n m c h h'
    rcases List.mem_cons.mp h with e|e<;>rcases List.mem_cons.mp h' with e'|e'
    ·cases e;cases e';rfl
    ·cases e;exact absurd (h1 _ _ e') (Nat.lt_irrefl _)
    ·cases e';exact absurd (h1 _ _ e) (Nat.lt_irrefl _)
    ·exact h2 n m c e e'
  ·rename_i hk
   rw[if_neg hk] at b;exact fx h1 h2 n m c a b
theorem cU{α:Type}:∀ {l:List (Str×α)} {n:Str},(∃c,(n,c)∈l)->∃c,l.lookup n=some c
 | [],_,⟨_,h⟩=>by cases h
 |(k,v)::r,n,⟨c,h⟩=>by
  rw[List.lookup_cons]
  cases hb:n == k with
  |true=>exact⟨v,rfl⟩
  |false=>
   rcases List.mem_cons.mp h with e|e
   ·cases e;simp at hb
   ·exact cU ⟨c,e⟩
noncomputable def eW(scope osc:Scope)(N:List Str)(src:List (Option Nat))(ON:List Str):Bool:=
 (scope.kind == .function) && (osc.kind == .function) && decide (src.length=N.length) &&
 (scope.names.all fun y=>(scope.names.lookup y.1 == some y.2) && (if y.2 == .free then osc.names.lookup y.1 == some .cell else true)) &&
 ((N.zip src).all fun p=>match p.2 with|none=>true|some j=>(ON[j]? == some p.1) && (scope.names.lookup p.1 == some .free))
noncomputable def nD(src:List (Option Nat))(σ:St):St:=src.map fun o=>match o with|none=>none|some j=>(σ[j]?).join
noncomputable def Cx.blk(X:Cx)(scope:Scope)(N:List Str)(cs:List (Str×Addr))(C:Addr)(s:Shared)(H:Hp)(ex:List Addr)(pn:List (Addr×Obj)):Cx:=
 { X with N:=N,s₀:=s,H₀:=H,env:=compEnvC scope cs C X.env,outer:=X.stack,stack:=X.stack,ex:=ex,fn:=fun x=>decide (scope.names.lookup x=some .cell),pn:=pn,xe:=fun _ _=>False }
section
variable{X:Cx}{pins:List (Addr×Obj)}{σ:St}{H:Hp}{s:Shared}{scope:Scope}{N:List Str}{src:List (Option Nat)}
theorem oD{osc:Scope}{ON:List Str}(h:eW scope osc N src ON=true):scope.kind=.function/\osc.kind=.function/\src.length=N.length /\
  (∀y∈scope.names,scope.names.lookup y.1=some y.2)/\(∀y∈scope.names,y.2=.free->osc.names.lookup y.1=some .cell) /\
  (∀(i:Nat)(x:Str)(j:Nat),N[i]?=some x->src[i]?=some (some j)->ON[j]?=some x/\scope.names.lookup x=some .free):=by
 unfold eW at h;simp only[Bool.and_eq_true,decide_eq_true_eq,beq_iff_eq,List.all_eq_true] at h;obtain⟨⟨⟨⟨h1,h2⟩,h3⟩,h4⟩,h5⟩:=h;refine⟨h1,h2,h3,fun y hy=>(h4 y hy).1,fun y hy e=>?_,fun i x j e1 e2=>?_⟩
 ·have:=(h4 y hy).2
  rw[e] at this;simpa using this
 ·have hm:(x,some j)∈N.zip src:=by
   apply List.mem_of_getElem? (i:=i);rw[List.getElem?_zip_eq_some];exact⟨e1,e2⟩
  have:=h5 _ hm;simpa using this
theorem gO{env:Env}(hk:env.scope.kind=.function):∀ {names:List (Str×NameKind)} {x:Str} {k:NameKind},names.lookup x=some k->(k=.free->env.kindOf x=some .cell) ->
  (names.map fun(n,k)=>if (k == NameKind.free && env.scope.kind == .function && env.kindOf n == some .cell) then (n,NameKind.cell) else (n,k)).lookup x=some (if k=.free then .cell else k)
 | [],_,_,h,_=>by simp at h
 |(n,k')::r,x,k,h,hf=>by
  have ih:=@gO env hk r x k;show List.lookup x ((if (k' == NameKind.free && env.scope.kind == .function && env.kindOf n == some .cell)=true then (n,NameKind.cell) else (n,k'))::_)=_
  cases hx:x == n with
  |true=>
   simp only[List.lookup_cons,hx] at h;have e:x=n:=by simpa using hx
   subst e;cases h;by_cases hfr:k'=.free
   ·have:=hf hfr
    subst hfr;rw[if_pos (by rw[this,hk];rfl)]
    simp[List.lookup_cons]
   ·have hfr':(k' == NameKind.free)=false:=by simpa using hfr
    rw[if_neg (by rw[hfr'];simp),if_neg hfr]
    simp[List.lookup_cons]
  |false=>
   simp only[List.lookup_cons,hx] at h;by_cases hc:(k' == NameKind.free && env.scope.kind == .function && env.kindOf n == some .cell)=true
   ·rw[if_pos hc];simp only[List.lookup_cons,hx];exact ih h hf
   ·rw[if_neg hc];simp only[List.lookup_cons,hx];exact ih h hf
theorem r6{env:Env}{names:List (Str×NameKind)}{x:Str}(h:(names.map fun(n,k)=>if (k == NameKind.free && env.scope.kind == .function && env.kindOf n == some .cell) then (n,NameKind.cell) else (n,k)).lookup x=some .cell):
  (x,NameKind.cell)∈names\/(x,NameKind.free)∈names:=by
 have hm:=mem_of_lookup h;obtain⟨⟨n,k⟩,hy,e⟩:=List.mem_map.mp hm;dsimp only at e;split at e
 ·rename_i hc
  cases e;simp only[Bool.and_eq_true,beq_iff_eq] at hc;rw[hc.1.1] at hy;exact .inr hy
 ·cases e;exact .inl hy
theorem pz{env:Env}{names:List (Str×NameKind)}{x:Str}(hk:env.scope.kind=.function)(hfr:∀y∈names,y.2=.free->env.kindOf y.1=some .cell)(h:(names.map fun(n,k)=>if (k == NameKind.free && env.scope.kind == .function && env.kindOf n == some .cell) then (n,NameKind.cell) else (n,k)).lookup x=some .free):False:=by
 have hm:=mem_of_lookup h;obtain⟨⟨n,k⟩,hy,e⟩:=List.mem_map.mp hm;dsimp only at e;split at e
 ·cases e
 ·rename_i hc
  cases e;have:=hfr _ hy rfl;exact hc (by rw[this,hk];rfl)
theorem vX{fp:List Addr}(I:Inv X pins σ H s)(hb:eW scope X.env.scope N src X.N=true)(f2:∀b∈fp,kb X pins H b)(fo:∀b∈fp,∃o,s.heap.get? b=some o){t:Nat}:
  Inv (X.blk scope N (cellsFrom (s.heap.objs.size+1) scope.names (gH X.env scope.names [])) s.heap.objs.size s H fp (X.pn++pins)) [] (nD src σ) H { s with heap:=pushCells (s.heap.push { cls:=.type "dict",data:=.dict #[] }) scope.names,toks:=t }:=by
 obtain⟨hk,hok,hlen,hnd,hfr,hsrc⟩:=oD hb;have keep:∀b o,s.heap.get? b=some o->(pushCells (s.heap.push { cls:=.type "dict",data:=.dict #[] }) scope.names).get? b=some o:=fun b o e=>pushCells_keeps _ _ b o (Heap.get?_push_of_some _ e);have hfr':∀y∈scope.names,y.2=.free->X.env.kindOf y.1=some .cell:=hfr;have sz:(s.heap.push { cls:=.type "dict",data:=.dict #[] }).objs.size=s.heap.objs.size+1:=Heap.size_push ..
 have cell:∀n c,(n,c)∈cellsFrom (s.heap.objs.size+1) scope.names (gH X.env scope.names []) ->
   (X.env.cells.lookup n=some c/\(n,NameKind.free)∈scope.names)\/((n,NameKind.cell)∈scope.names/\s.heap.objs.size<c/\(pushCells (s.heap.push { cls:=.type "dict",data:=.dict #[] }) scope.names).IsCell c none):=by
  intro n c h;rw[←sz] at h
  rcases fq h with h|⟨h1,h2,h3⟩
  ·rcases fJ h with h|⟨h1,h2⟩
   ·cases h
   ·obtain⟨c',hc'⟩:=I.ok.has n (.inl (hfr' _ h1 rfl))
    rw[hc'] at h2;exact .inl ⟨by rw[hc',h2];rfl,h1⟩
  ·exact .inr ⟨h1,by rw[sz] at h2;exact h2,h3⟩
 have oldc:∀n c,X.env.cells.lookup n=some c->c<s.heap.objs.size:=fun n c e=>by
  obtain⟨v,o,ho,_⟩:=I.cell n c e;exact Heap.lt_size ho
 have hH:H s.heap.objs.size=none:=I.hok.fresh (Nat.le_refl _)
 have ok:(X.blk scope N (cellsFrom (s.heap.objs.size+1) scope.names (gH X.env scope.names [])) s.heap.objs.size s H fp (X.pn++pins)).Ok:={
  mod:=I.ok.mod
  kind:=hk
  glob:=I.ok.glob
  blt:=I.ok.blt
  above:=Nat.le_refl _
  inj:=fun x y c a b=>by
   refine fx (k:=s.heap.objs.size+1) (acc:=gH X.env scope.names []) ?_ ?_ x y c (mem_of_lookup a) (mem_of_lookup b)
   ·intro n c h
    rcases fJ h with h|⟨h1,h2⟩
    ·cases h
    ·obtain⟨c',hc'⟩:=I.ok.has n (.inl (hfr' _ h1 rfl))
     rw[hc'] at h2;rw[h2];exact Nat.lt_succ_of_lt (oldc n c' hc')
   ·intro n m c h h'
    rcases fJ h with h|⟨h1,h2⟩
    ·cases h
    ·rcases fJ h' with h'|⟨h1',h2'⟩
     ·cases h'
     ·obtain⟨c1,hc1⟩:=I.ok.has n (.inl (hfr' _ h1 rfl))
      obtain⟨c2,hc2⟩:=I.ok.has m (.inl (hfr' _ h1' rfl));rw[hc1] at h2;rw[hc2] at h2';have e1:c=c1:=h2;have e2:c=c2:=h2';exact I.ok.inj n m c (by rw[e1];exact hc1) (by rw[e2];exact hc2)
  has:=fun x h=>by
   have hm:(x,NameKind.cell)∈scope.names\/(x,NameKind.free)∈scope.names:=by
    rcases h with h|h
    ·exact r6 (env:=X.env) h
    ·exact(pz (env:=X.env) hok hfr' h).elim
   have:∃c,(x,c)∈cellsFrom (s.heap.objs.size+1) scope.names (gH X.env scope.names []):=by
    rcases hm with hm|hm
    ·exact cM (.inl hm)
    ·exact cM (.inr (jq (.inl hm)))
   exact cU this
  cab:=fun x c hf e=>by
   have hf':scope.names.lookup x=some .cell:=of_decide_eq_true hf;rcases cell x c (mem_of_lookup e) with⟨_,h⟩|⟨_,h,_⟩
   ·have:=hnd _ h
    rw[hf'] at this;cases this
   ·exact Nat.le_of_lt h
  hd:=I.ok.hd
  frames:=I.ok.frames
  stk:=.inl rfl
  exf:=fun b hb=>by
   obtain⟨o,ho⟩:=fo b hb;have hlt:=Heap.lt_size ho;refine⟨Nat.ne_of_lt hlt,fun x c e=>?_⟩;rcases cell x c (mem_of_lookup e) with⟨h,_⟩|⟨_,h,_⟩
   ·exact(f2 b hb).2.2.2.2.1 x c h
   ·exact Nat.ne_of_gt (Nat.lt_trans hlt h)
  bs:=I.bs
  bsz:=Nat.le_trans I.ok.bsz I.sz
  noex:=fun b o e hb=>by
   rcases(f2 b hb).2.2.2.1 with h|h
   ·exact I.ok.noex b o e h
   ·exact absurd (Nat.lt_of_lt_of_le (Heap.lt_size e) (Nat.le_trans I.ok.bsz h)) (Nat.lt_irrefl _)
  exfs:=fun b hb hm=>by
   rcases List.mem_cons.mp (I.F0 b hm) with h|h
   ·exact(f2 b hb).2.1 h
   ·exact(f2 b hb).2.2.1 h
  funs:=I.stack
  frf:=I.F3
  tt:=I.ok.tt.mono I.base.tbls }
 refine⟨ok,rfl,I.bare,Un.kept keep,⟨fun _=>none,(Heap.Ns.new s.heap (.type "dict")).keeps (pushCells_keeps _ _),fun i x v e1 e2 e3=>?_⟩,fun x c e=>?_,hH,fun x c e=>?_,fun p hp=>?_,I.hok.kept keep,?_⟩
 ·-- a captured name
  have e2':(src.map fun o=>match o with|none=>none|some j=>(σ[j]?).join)[i]?=some (some v):=e2
  rw[List.getElem?_map] at e2'
  cases hs:src[i]? with
  |none=>rw[hs] at e2';cases e2'
  |some o=>
   rw[hs] at e2'
   cases o with
   |none=>cases e2'
   |some j=>
    have ej:(σ[j]?).join=some v:=by simpa using e2'
    have ej':σ[j]?=some (some v):=by
     cases hq:σ[j]? with
     |none=>rw[hq] at ej;cases ej
     |some z=>rw[hq] at ej;simpa using ej
    obtain⟨n1,n2⟩:=hsrc i x j e1 hs;have hfree:X.env.kindOf x=some .cell:=hfr' (x,.free) (mem_of_lookup n2) rfl;obtain⟨m,hn,hl⟩:=I.loc;obtain⟨u,r,l⟩:=hl j x v n1 ej' (.inr (.inl hfree));refine⟨u,r,.inr ⟨.inl ?_,?_⟩⟩
    ·have:=gO (env:=X.env) hok n2 (fun _=>hfree)
     exact this
    ·rcases l with⟨h,_⟩|⟨_,c,hc,hcell⟩
     ·rw[hfree] at h;cases h
     ·have:∃c',(x,c')∈cellsFrom (s.heap.objs.size+1) scope.names (gH X.env scope.names []):=cM (.inr (jq (.inl (mem_of_lookup n2))))
      obtain⟨c',hc'⟩:=cU this;refine⟨c',hc',?_⟩;rcases cell x c' (mem_of_lookup hc') with⟨h,_⟩|⟨h,_,_⟩
      ·rw[hc] at h
       cases h;obtain⟨oc,ho,hd⟩:=hcell;exact⟨oc,keep _ _ ho,hd⟩
      ·have:=hnd _ h
       rw[n2] at this;cases this
 ·rcases cell x c (mem_of_lookup e) with⟨h,_⟩|⟨_,_,h⟩
  ·obtain⟨v,o,ho,hd⟩:=I.cell x c h
   exact⟨v,o,keep _ _ ho,hd⟩
  ·exact⟨_,h⟩
 ·rcases cell x c (mem_of_lookup e) with⟨h,_⟩|⟨_,h,_⟩
  ·exact I.freeC x c h
  ·exact I.hok.fresh (Nat.le_of_lt h)
 ·rw[List.append_nil] at hp
  obtain⟨e,n,ne,nf,d⟩:=I.pin p hp;refine⟨keep _ _ e,n,Nat.ne_of_lt (Heap.lt_size e),fun hm=>?_,d⟩;rcases List.mem_cons.mp (I.F0 _ hm) with h|h
  ·exact ne h
  ·exact nf h
 ·show (src.map _).length=N.length
  rw[List.length_map];exact hlen
theorem Az{fp:List Addr}{cs:List (Str×Addr)}{C:Addr}{σ':St}{H':Hp}{s':Shared}{pins':List (Addr×Obj)}(I:Inv X pins σ H s)(f2:∀b∈fp,kb X pins H b)(I':Inv (X.blk scope N cs C s H fp (X.pn++pins)) pins' σ' H' s'):Inv X pins σ H' s':=
 I.call' (ch:=fp) I'.os I'.base I'.hok I'.bare fun b hb=>⟨(f2 b hb).2.2.2.1,(f2 b hb).2.1,(f2 b hb).2.2.2.2.1,(f2 b hb).2.2.2.2.2⟩
theorem zT{C:Addr}{h':Heap}(I:Inv X pins σ H s)(hC:H C=none)(hL:C≠X.env.locals)(h1:X.s₀.heap.objs.size<=C)(h2:∀x c,X.env.cells.lookup x=some c->c≠C)(h3:∀p∈X.pn++pins,p.1≠C)(hs:Heap.SameBut C s.heap h'):Inv X pins σ H { s with heap:=h' }:=
 I.turned (t':=s.toks) (fun b o hb e=>(hs.2 b hb).trans e) hC hL (.inr h1) h2 h3
end
section
variable{M:Model}{A:Around}{E:Value->Shared->Prop}{s:Shared}
theorem rF{scope:Scope}{globals:Addr}{cl:List (Str×Addr)}{qual:Str}{env:Env}{Q:Env->Shared->Prop}(hQ:Q (newEnv scope s.heap.objs.size globals (cellsFrom (s.heap.objs.size+1) scope.names cl) qual none .none (some env) builtinsNs) { s with heap:=pushCells (s.heap.push { cls:=.type "dict",data:=.dict #[] }) scope.names }):
  wpAny M A (newFunctionEnv scope globals cl [] qual none .none (some env)) Q E s:=by
 simp only[newFunctionEnv,Option.isSome_some,if_true];refine wpAny_bind (wpAny_alloc ?_);refine wpAny_bind (wpAny_layCells _ (fun name kind cells=>by cases hkc:kind == NameKind.cell<;>simp[hkc]) _ _ _ _ ?_)
 rw[show ({ s with heap:=s.heap.push { cls:=.type "dict",data:=.dict #[] } }:Shared).heap.objs.size=s.heap.objs.size+1 from Heap.size_push ..]
 simp only[List.forIn_nil];exact wpAny_bind (wpAny_pure (wpAny_pure hQ))
end
section
variable{X:Cx}{elt tg iter:Expr}{ifs:List Expr}{bi:List Comprehension}{scope:Scope}{pos:Pos}{N:List Str}{src:List (Option Nat)}{wi:TI}{g:TG}{tc:TT}{l:TL}
noncomputable def uD(src:List (Option Nat))(wi:TI)(g:TG)(tc:TT)(l:TL):TE:=fun σ H Q=>wi σ H fun J H1=>∀acc,H1 acc=none->yp J g tc l acc (nD src σ) (upd H1 acc (.lst [])) fun _ H'=>Q (.ref acc) H'
theorem zj{use:Option (Value->Sem Unit)}{pins:List (Addr×Obj)}{s:Shared}{σ:St}{H:Hp}{Q:Value->Shared->Prop}{Q':VK}(hc:X.calm=true)(hb:eW scope X.env.scope N src X.N=true)(ha:∀g',bi[0]?=some g'->g'.is_async=0)(hi:PI X tg iter wi)(hg:∀cs C s H ex pn,PG (X.blk scope N cs C s H ex pn) tg g)(ht:∀cs C s H ex pn,PTs (X.blk scope N cs C s H ex pn) ifs tc)(hl:∀cs C s H ex pn,PL (X.blk scope N cs C s H ex pn) elt (⟨tg,iter,ifs,0⟩::bi) scope pos 0 l)(hs:∀x,foldedSetIterable iter X.env x=pure x)(I:Inv X pins σ H s)(h:uD src wi g tc l σ H Q')
  (hQ:∀(acc C:Addr)(H':Hp)(s':Shared)(m:Str->Option Value),Inv X pins σ H' s'->Q' (.ref acc) H'->s'.heap.Ns C m->H' C=none->C≠X.env.locals->X.s₀.heap.objs.size<=C->(∀x c,X.env.cells.lookup x=some c->c≠C)->(∀p∈X.pn++pins,p.1≠C) ->
   compPost (model X.prog X.w) X.A X.xe use Q (.ref acc) C (.ok .next) s') :
  wpAny (model X.prog X.w) X.A (comprehension (.ListComp elt (⟨tg,iter,ifs,0⟩::bi) scope pos) scope X.env (firstIterPos (⟨tg,iter,ifs,0⟩::bi) pos) (newList []) false (firstIter (⟨tg,iter,ifs,0⟩::bi) X.env) use) Q X.xe s:=by
 obtain⟨hk,hok,hlen,hnd,hfr,hsrc⟩:=oD hb;refine wpAny_comprehension_free (g:=⟨tg,iter,ifs,0⟩) (gs:=bi) rfl hs (tE fun y hy e=>I.ok.has y.1 (.inl (hfr y hy e))) hk (fun y hy e=>by have:=hnd y hy;rw[e] at this;exact this) ?_
 refine thn (hi pins s σ H _ I h) fun v s1 h1=>thn h1 fun itv s2 h2=>?_;obtain⟨it,fp,tn,J,H2,e,I2,T,st2,f2,q⟩:=h2;subst e;have hfresh:H2 s2.heap.objs.size=none:=I2.hok.fresh (Nat.le_refl _);refine wpAny_newObj_type (rF ?_);dsimp only;have old:∀b o,s2.heap.get? b=some o->(s2.heap.push { cls:=.type "list",dict:=none,data:=.seq ([]:List Value).toArray }).get? b=some o:=fun b o e=>Heap.get?_push_of_some _ e
 have I3:Inv X pins σ (upd H2 s2.heap.objs.size (.lst [])) { s2 with heap:=s2.heap.push { cls:=.type "list",dict:=none,data:=.seq ([]:List Value).toArray } }:=
  I2.lnew (its:=[]) (t':=s2.toks) .nil (by decide)
 have f3:∀b∈fp,kb X pins (upd H2 s2.heap.objs.size (.lst [])) b:=fun b hb=>by
  obtain⟨o,ho,_⟩:=T.obj _ _ st2 b hb;exact⟨by rw[aS (Nat.ne_of_lt (Heap.lt_size ho))];exact(f2 b hb).1,(f2 b hb).2⟩
 have fo3:∀b∈fp,∃o,({ s2 with heap:=s2.heap.push { cls:=.type "list",dict:=none,data:=.seq ([]:List Value).toArray } }:Shared).heap.get? b=some o:=fun b hb=>by
  obtain⟨o,ho,_⟩:=T.obj _ _ st2 b hb;exact⟨o,old b o ho⟩
 generalize hs3:({ s2 with heap:=s2.heap.push { cls:=.type "list",dict:=none,data:=.seq ([]:List Value).toArray } }:Shared)=s3 at I3 fo3 ⊢
 have st3:tn 0 s3.heap:=by
  rw[←hs3]
  exact T.keep _ _ _ st2 fun b _ o e=>old b o e
 have IB:=vX (t:=s3.toks) I3 hb f3 fo3;have stB:tn 0 (pushCells (s3.heap.push { cls:=.type "dict",data:=.dict #[] }) scope.names):=T.keep _ _ _ st3 fun b _ o e=>pushCells_keeps _ _ b o (Heap.get?_push_of_some _ e)
 have fB:∀b∈fp,kb (X.blk scope N (cellsFrom (s3.heap.objs.size+1) scope.names (gH X.env scope.names [])) s3.heap.objs.size s3 (upd H2 s2.heap.objs.size (.lst [])) fp (X.pn++pins)) [] (upd H2 s2.heap.objs.size (.lst [])) b:=fun b hb=>by
  obtain⟨n0,n1,n2,n3,n4,n5⟩:=f3 b hb;refine⟨n0,(IB.ok.exf b hb).1,IB.ok.exfs b hb,.inl hb,(IB.ok.exf b hb).2,fun p hp=>?_⟩;rw[List.append_nil] at hp;exact n5 p hp
 have loop:codeAny (model X.prog X.w) X.A (.compLoop (.ListComp elt (⟨tg,iter,ifs,0⟩::bi) scope pos) 0 (.ref it) (.ref s2.heap.objs.size) (compEnvC scope (cellsFrom (s3.heap.objs.size+1) scope.names (gH X.env scope.names [])) s3.heap.objs.size X.env))
   (compPost (model X.prog X.w) X.A X.xe use Q (.ref s2.heap.objs.size) s3.heap.objs.size) { s3 with heap:=pushCells (s3.heap.push { cls:=.type "dict",data:=.dict #[] }) scope.names }:=by
  refine xg (X:=X.blk scope N (cellsFrom (s3.heap.objs.size+1) scope.names (gH X.env scope.names [])) s3.heap.objs.size s3 (upd H2 s2.heap.objs.size (.lst [])) fp (X.pn++pins)) rfl hc rfl (by simpa using ha) (hg _ _ _ _ _ _) (ht _ _ _ _ _ _) (hl _ _ _ _ _ _) IB T stB fB (q _ hfresh) fun σ' H' s' I' k'=>?_
  obtain⟨m,hn,_⟩:=I'.loc;refine hQ _ _ H' s' m (Az I3 f3 I') k' hn I'.free ?_ I3.sz ?_ ?_
  ·exact Nat.ne_of_gt I3.lt
  ·intro x c e
   obtain⟨v,o,ho,_⟩:=I3.cell x c e;exact Nat.ne_of_lt (Heap.lt_size ho)
  ·intro p hp
   exact Nat.ne_of_lt (Heap.lt_size (I3.pin p hp).1)
 subst hs3;exact ni (d:=0) rfl loop (T.self X.A 0 _ _ _ stB loop)
theorem dU(hc:X.calm=true)(hb:eW scope X.env.scope N src X.N=true)(ha:∀g',bi[0]?=some g'->g'.is_async=0)(hi:PI X tg iter wi)(hg:∀cs C s H ex pn,PG (X.blk scope N cs C s H ex pn) tg g)(ht:∀cs C s H ex pn,PTs (X.blk scope N cs C s H ex pn) ifs tc)(hl:∀cs C s H ex pn,PL (X.blk scope N cs C s H ex pn) elt (⟨tg,iter,ifs,0⟩::bi) scope pos 0 l)(hs:∀x,foldedSetIterable iter X.env x=pure x:=by intro _;rfl):PE X (.ListComp elt (⟨tg,iter,ifs,0⟩::bi) scope pos) (uD src wi g tc l):=.mk <| by
 intro pins s σ H Q I h;rw[eval_ListComp];refine zj (use:=none) hc hb ha hi hg ht hl hs I h fun acc C H' s' m I' q' hn hC hL h1 h2 h3=>?_;exact⟨m,hn,fun h' hs'=>⟨.ref acc,H',zT I' hC hL h1 h2 h3 hs',rfl,q'⟩⟩
end
section
variable{X:Cx}
noncomputable def gz(H:Hp):V->Option String
 |.non=>some "NoneType"
 |.bl _=>some "bool"
 |.int _=>some "int"
 |.str _=>some "str"
 |.ref a=>match H a with
  |some (.lst _)=>some "list"
  |some (.tup _)=>some "tuple"
  |some (.dK _)=>some "dict"
  |some (.dT _)=>some "dict"
  |some (.frz _ (.lst _))=>some "list"
  |_=>none
 |_=>none
noncomputable def isA(H:Hp)(x:V)(T:String):Bool:=match gz H x with
 |some t=>t == T || (t == "bool" && T == "int")
 |none=>false
theorem wU{K:W.Frag}{H:Hp}{x:V}{t:String}(h:gz H x=some t):ky K H x (.type t):=by
 cases x with
 |non=>cases h;exact .non
 |bl b=>cases h;exact .bl b
 |int i=>cases h;exact .int i
 |str z=>cases h;exact .str z
 |byt b=>cases h
 |flt b=>cases h
 |ty n=>cases h
 |ref a=>
  unfold gz at h;dsimp only at h;split at h
  ·rename_i e;cases h;exact .lst e
  ·rename_i e;cases h;exact .tup e
  ·rename_i e;cases h;exact .dK e
  ·rename_i e;cases h;exact .dT e
  ·rename_i e;cases h;exact .frz e
  ·cases h
noncomputable def kL:List String:=["NoneType","bool","int","str","list","tuple","dict"]
theorem p9{H:Hp}{x:V}{t:String}(h:gz H x=some t):t∈kL:=by
 cases x with
 |non=>cases h;decide
 |bl b=>cases h;decide
 |int i=>cases h;decide
 |str z=>cases h;decide
 |byt b=>cases h
 |flt b=>cases h
 |ty n=>cases h
 |ref a=>
  unfold gz at h;dsimp only at h;split at h<;>first|(cases h;decide)|cases h
theorem Dh(K:W.Frag){t T:String}(ht:t∈kL)(hT:T∈kL):W.kitOne K (.type t) (.type T)=some (t == T || (t == "bool" && T == "int")):=by
 simp only[kL,List.mem_cons,List.not_mem_nil,or_false] at ht hT;rcases ht with rfl|rfl|rfl|rfl|rfl|rfl|rfl<;>rcases hT with rfl|rfl|rfl|rfl|rfl|rfl|rfl<;>with_unfolding_all rfl
theorem bX:de X (.builtin "isinstance") (fun xs H Q=>∃x T,xs=[x,.ty T]/\T∈kL/\(gz H x).isSome=true/\Q (.bl (isA H x T)) H):=by
 intro pins s σ H xs us Q I r h;obtain⟨x,T,rfl,hT,hs,q⟩:=h;obtain⟨u,w',rfl,rx,rT⟩:=Ct r;cases (show w'=Value.type T from rT)
 obtain⟨t,ht⟩:=Option.isSome_iff_exists.mp hs;refine wG I rx (wU ht) (Dh X.K (p9 ht) hT) fun tk=>⟨.bl (isA H x T),H,I.tok tk,?_,q⟩;show _=Value.bool (isA H x T);unfold isA;rw[ht]
theorem uJ:∀ {bs:List Bool} {its:List Value},aQ (bs.map V.bl) its->its=bs.map Value.bool
 | [],_,.nil=>rfl
 |_::_,_,.cons r t=>by
  have e:_=Value.bool _:=r;rw[e,uJ t];rfl
theorem wj(bs:List Bool):(List.range bs.length).all (fun i=>bs.getD i false)=bs.all id:=by
 rw[Bool.eq_iff_iff];simp only[List.all_eq_true,List.mem_range,id];constructor
 ·intro h b hb
  obtain⟨i,hi,e⟩:=List.getElem_of_mem hb;have:=h i hi;rw[List.getD_eq_getElem?_getD,List.getElem?_eq_getElem hi] at this;rw[←e];exact this
 ·intro h i hi
  rw[List.getD_eq_getElem?_getD,List.getElem?_eq_getElem hi];exact h _ (List.getElem_mem hi)
theorem zU(hc:X.calm=true):de X (.builtin "all") (fun xs H Q=>∃(a:Addr)(bs:List Bool),xs=[.ref a]/\SqL X.K H a (bs.map V.bl)/\Q (.bl (bs.all id)) H):=by
 intro pins s σ H xs us Q I r h;obtain⟨a,bs,rfl,hq,q⟩:=h;obtain⟨u,rfl,rx⟩:=gE r;cases rx;obtain⟨its,rv,p,hz⟩:=I.list hq;have e:=uJ rv;subst e
 have hlt:a<s.heap.objs.size:=by
  obtain⟨o,ho,_⟩:=p.isList;exact Heap.lt_size ho
 refine call_all_walk (wpAny_pyIter_list p.isList ?_);refine⟨s.heap.objs.size,_,_,_,_,_,fun i=>bs.getD i false,rfl,Walks.list (A:=X.A.in1) (I.ok.hd hc) _ a (Nat.ne_of_lt hlt) _,⟨⟨_,Heap.get?_push_size _ rfl,rfl,rfl⟩,p.isList.push _⟩,?_,fun h' tk hk=>?_⟩
 ·intro i v s' Q' E' hP hQ'
  have:(bs.map Value.bool)[i]?=some v:=by simpa using hP
  rw[List.getElem?_map] at this
  cases e:bs[i]? with
  |none=>rw[e] at this;cases this
  |some b=>
   rw[e] at this;cases this;refine wpAny_truthy_bool ?_;dsimp only at hQ';rw[List.getD_eq_getElem?_getD,e] at hQ';exact hQ'
 ·refine⟨.bl (bs.all id),H,I.kept (t':=tk) fun b o e=>hk b o (fun hm=>?_) (Heap.get?_push_of_some _ e),?_,q⟩
  ·have:b=s.heap.objs.size:=by simpa using hm
   exact absurd (this ▸ Heap.lt_size e) (Nat.lt_irrefl _)
  ·show _=Value.bool _
   rw[←wj]
   simp
end
end L2
set_option autoImplicit false
namespace L2
open PySem PySem.Spec PyProof.Rows
inductive D where
 |non|bl (b:Bool)|int (i:Int)|str (x:Str)|tup (ds:List D)|lst (ds:List D)
 |dk (ks:List Int)|dt (ks:List (List Int))
noncomputable def dkO(ks:List Int):List (Key×V):=ks.map fun k=>(Sum.inl k,V.int 1)
noncomputable def dtO(ks:List (List Int)):List (List Key×V):=ks.map fun k=>(k.map Sum.inl,V.int 1)
theorem vf:∀ {a b:List Int},dkO a=dkO b->a=b
 | [],[],_=>rfl
 |x::a,y::b,h=>by
  simp only[dkO,List.map_cons,List.cons.injEq,Prod.mk.injEq,Sum.inl.injEq,and_true] at h;rw[h.1,vf h.2]
 | [],_::_,h=>by simp[dkO] at h
 |_::_,[],h=>by simp[dkO] at h
theorem uK:∀ {a b:List Int},(a.map Sum.inl:List Key)=b.map Sum.inl->a=b
 | [],[],_=>rfl
 |x::a,y::b,h=>by
  simp only[List.map_cons,List.cons.injEq,Sum.inl.injEq] at h;rw[h.1,uK h.2]
 | [],_::_,h=>by simp at h
 |_::_,[],h=>by simp at h
theorem uE:∀ {a b:List (List Int)},dtO a=dtO b->a=b
 | [],[],_=>rfl
 |x::a,y::b,h=>by
  simp only[dtO,List.map_cons,List.cons.injEq,Prod.mk.injEq,and_true] at h;rw[uK h.1,uE h.2]
 | [],_::_,h=>by simp[dtO] at h
 |_::_,[],h=>by simp[dtO] at h
mutual
noncomputable def Dat(H:Hp):D->V->Prop
 |.non,v=>v=.non
 |.bl b,v=>v=.bl b
 |.int i,v=>v=.int i
 |.str x,v=>v=.str x
 |.tup ds,v=>∃a xs,v=.ref a/\H a=some (.tup xs)/\aG H ds xs
 |.lst ds,v=>∃a xs,v=.ref a/\H a=some (.lst xs)/\aG H ds xs
 |.dk ks,v=>∃a xs,v=.ref a/\H a=some (.dK (dkO xs))/\xs=ks
 |.dt ks,v=>∃a xs,v=.ref a/\H a=some (.dT (dtO xs))/\xs=ks
noncomputable def aG(H:Hp):List D->List V->Prop
 | [],xs=>xs=[]
 |d::ds,xs=>∃x r,xs=x::r/\Dat H d x/\aG H ds r
end
mutual
noncomputable def dep:D->Nat
 |.tup ds=>dA ds+1
 |.lst ds=>dA ds+1
 |.dk _=>1000000
 |.dt _=>1000000
 |_=>0
noncomputable def dA:List D->Nat
 | []=>0
 |d::ds=>max (dep d) (dA ds)
end
mutual
noncomputable def eqD:D->D->Bool
 |.non,.non=>true
 |.bl a,.bl b=>a == b
 |.bl a,.int b=>(if a then 1 else 0) == b
 |.int a,.bl b=>a == (if b then 1 else 0)
 |.int a,.int b=>a == b
 |.str a,.str b=>a == b
 |.tup a,.tup b=>d7 a b
 |.lst a,.lst b=>d7 a b
 |.dk a,.dk b=>a == b
 |.dt a,.dt b=>a == b
 |_,_=>false
noncomputable def d7:List D->List D->Bool
 | [],[]=>true
 |x::xs,y::ys=>eqD x y && d7 xs ys
 |_,_=>false
end
theorem lY:∀ {ds:List D} {d:D},d∈ds->dep d<=dA ds
 |d::ds,e,h=>by
  unfold dA;rcases List.mem_cons.mp h with rfl|h
  ·exact Nat.le_max_left _ _
  ·exact Nat.le_trans (lY h) (Nat.le_max_right _ _)
theorem aG.length:∀ {H:Hp} {ds:List D} {xs:List V},aG H ds xs->xs.length=ds.length
 |H,[],xs,h=>by
  have e:xs=[]:=by simpa[aG] using h
  rw[e];rfl
 |H,d::ds,xs,h=>by
  obtain⟨x,r,rfl,_,t⟩:∃x r,xs=x::r/\Dat H d x/\aG H ds r:=by simpa only[aG] using h
  rw[List.length_cons,List.length_cons,aG.length t]
theorem aG.get:∀ {H:Hp} {ds:List D} {xs:List V} {i:Nat} {d:D},aG H ds xs->ds[i]?=some d->∃x,xs[i]?=some x/\Dat H d x
 |H,[],xs,i,d,h,e=>by simp at e
 |H,d'::ds,xs,i,d,h,e=>by
  obtain⟨x,r,rfl,hx,t⟩:∃x r,xs=x::r/\Dat H d' x/\aG H ds r:=by simpa only[aG] using h
  cases i with
  |zero=>simp at e;subst e;exact⟨x,rfl,hx⟩
  |succ i=>simpa using aG.get t (i:=i) (by simpa using e)
theorem aG.of_get:∀ {H:Hp} {ds:List D} {xs:List V},xs.length=ds.length->(∀(i:Nat)(d:D)(x:V),ds[i]?=some d->xs[i]?=some x->Dat H d x)->aG H ds xs
 |H,[],[],_,_=>by simp[aG]
 |H,d::ds,x::xs,hl,h=>by
  simp only[aG];exact⟨x,xs,rfl,h 0 d x rfl rfl,aG.of_get (by simpa using hl) fun i d x e1 e2=>h (i+1) d x (by simpa using e1) (by simpa using e2)⟩
 |H,[],_::_,hl,_=>by simp at hl
 |H,_::_,[],hl,_=>by simp at hl
theorem aG.append:∀ {H:Hp} {ds es:List D} {xs ys:List V},aG H ds xs->aG H es ys->aG H (ds++es) (xs++ys)
 |H,[],es,xs,ys,h,h'=>by
  have e:xs=[]:=by simpa[aG] using h
  rw[e];exact h'
 |H,d::ds,es,xs,ys,h,h'=>by
  obtain⟨x,r,rfl,hx,t⟩:∃x r,xs=x::r/\Dat H d x/\aG H ds r:=by simpa only[aG] using h
  show aG H (d::(ds++es)) (x::(r++ys));simp only[aG];exact⟨x,r++ys,rfl,hx,aG.append t h'⟩
theorem aG.one{H:Hp}{d:D}{x:V}(h:Dat H d x):aG H [d] [x]:=by
 simp only[aG];exact⟨x,[],rfl,h,rfl⟩
mutual
theorem Dat.same{H H':Hp}(e:dj H H'):∀ {d:D} {v:V},Dat H d v->Dat H' d v
 |.non,v,h=>by simpa only[Dat] using h
 |.bl b,v,h=>by simpa only[Dat] using h
 |.int i,v,h=>by simpa only[Dat] using h
 |.str x,v,h=>by simpa only[Dat] using h
 |.tup ds,v,h=>by
  simp only[Dat] at h ⊢;obtain⟨a,xs,rfl,h1,h2⟩:=h;exact⟨a,xs,rfl,e a _ h1,aG.same e h2⟩
 |.lst ds,v,h=>by
  simp only[Dat] at h ⊢;obtain⟨a,xs,rfl,h1,h2⟩:=h;exact⟨a,xs,rfl,e a _ h1,aG.same e h2⟩
 |.dk ks,v,h=>by
  simp only[Dat] at h ⊢;obtain⟨a,xs,rfl,h1,h2⟩:=h;exact⟨a,xs,rfl,e a _ h1,h2⟩
 |.dt ks,v,h=>by
  simp only[Dat] at h ⊢;obtain⟨a,xs,rfl,h1,h2⟩:=h;exact⟨a,xs,rfl,e a _ h1,h2⟩
theorem aG.same{H H':Hp}(e:dj H H'):∀ {ds:List D} {xs:List V},aG H ds xs->aG H' ds xs
 | [],xs,h=>by simpa only[aG] using h
 |d::ds,xs,h=>by
  simp only[aG] at h ⊢;obtain⟨x,r,rfl,h1,h2⟩:=h;exact⟨x,r,rfl,Dat.same e h1,aG.same e h2⟩
end
mutual
theorem Dat.inj{H:Hp}:∀ {d e:D} {v:V},Dat H d v->Dat H e v->d=e
 |.non,e,v,h,h'=>by
  simp only[Dat] at h;subst h;cases e<;>simp only[Dat] at h'<;>first|rfl|(obtain⟨_,_,h',_⟩:=h';cases h';done)|(cases h';done)
 |.bl b,e,v,h,h'=>by
  simp only[Dat] at h;subst h;cases e<;>simp only[Dat] at h'<;>first|(obtain⟨_,_,h',_⟩:=h';cases h';done)|(cases h';rfl)|(cases h';done)
 |.int i,e,v,h,h'=>by
  simp only[Dat] at h;subst h;cases e<;>simp only[Dat] at h'<;>first|(obtain⟨_,_,h',_⟩:=h';cases h';done)|(cases h';rfl)|(cases h';done)
 |.str x,e,v,h,h'=>by
  simp only[Dat] at h;subst h;cases e<;>simp only[Dat] at h'<;>first|(obtain⟨_,_,h',_⟩:=h';cases h';done)|(cases h';rfl)|(cases h';done)
 |.tup ds,e,v,h,h'=>by
  simp only[Dat] at h;obtain⟨a,xs,rfl,h1,h2⟩:=h
  cases e with
  |tup es=>
   simp only[Dat] at h';obtain⟨b,ys,e1,h3,h4⟩:=h';cases e1;rw[h1] at h3;cases h3;rw[aG.inj h2 h4]
  |lst es=>
   simp only[Dat] at h';obtain⟨b,ys,e1,h3,h4⟩:=h';cases e1;rw[h1] at h3;cases h3
  |dk es=>
   simp only[Dat] at h';obtain⟨b,ys,e1,h3,h4⟩:=h';cases e1;rw[h1] at h3;cases h3
  |dt es=>
   simp only[Dat] at h';obtain⟨b,ys,e1,h3,h4⟩:=h';cases e1;rw[h1] at h3;cases h3
  |_=>simp only[Dat] at h';cases h'
 |.lst ds,e,v,h,h'=>by
  simp only[Dat] at h;obtain⟨a,xs,rfl,h1,h2⟩:=h
  cases e with
  |lst es=>
   simp only[Dat] at h';obtain⟨b,ys,e1,h3,h4⟩:=h';cases e1;rw[h1] at h3;cases h3;rw[aG.inj h2 h4]
  |tup es=>
   simp only[Dat] at h';obtain⟨b,ys,e1,h3,h4⟩:=h';cases e1;rw[h1] at h3;cases h3
  |dk es=>
   simp only[Dat] at h';obtain⟨b,ys,e1,h3,h4⟩:=h';cases e1;rw[h1] at h3;cases h3
  |dt es=>
   simp only[Dat] at h';obtain⟨b,ys,e1,h3,h4⟩:=h';cases e1;rw[h1] at h3;cases h3
  |_=>simp only[Dat] at h';cases h'
 |.dk ds,e,v,h,h'=>by
  simp only[Dat] at h;obtain⟨a,xs,rfl,h1,rfl⟩:=h
  cases e with
  |tup es=>
   simp only[Dat] at h';obtain⟨b,ys,e1,h3,h4⟩:=h';cases e1;rw[h1] at h3;cases h3
  |lst es=>
   simp only[Dat] at h';obtain⟨b,ys,e1,h3,h4⟩:=h';cases e1;rw[h1] at h3;cases h3
  |dk es=>
   simp only[Dat] at h';obtain⟨b,ys,e1,h3,h4⟩:=h';cases e1;rw[h1] at h3;rw[←h4,vf (a:=xs) (b:=ys)]
   simpa using h3
  |dt es=>
   simp only[Dat] at h';obtain⟨b,ys,e1,h3,h4⟩:=h';cases e1;rw[h1] at h3;cases h3
  |_=>simp only[Dat] at h';cases h'
 |.dt ds,e,v,h,h'=>by
  simp only[Dat] at h;obtain⟨a,xs,rfl,h1,rfl⟩:=h
  cases e with
  |tup es=>
   simp only[Dat] at h';obtain⟨b,ys,e1,h3,h4⟩:=h';cases e1;rw[h1] at h3;cases h3
  |lst es=>
   simp only[Dat] at h';obtain⟨b,ys,e1,h3,h4⟩:=h';cases e1;rw[h1] at h3;cases h3
  |dk es=>
   simp only[Dat] at h';obtain⟨b,ys,e1,h3,h4⟩:=h';cases e1;rw[h1] at h3;cases h3
  |dt es=>
   simp only[Dat] at h';obtain⟨b,ys,e1,h3,h4⟩:=h';cases e1;rw[h1] at h3;rw[←h4,uE (a:=xs) (b:=ys)]
   simpa using h3
  |_=>simp only[Dat] at h';cases h'
theorem aG.inj{H:Hp}:∀ {ds es:List D} {xs:List V},aG H ds xs->aG H es xs->ds=es
 | [],[],_,_,_=>rfl
 | [],e::es,xs,h,h'=>by
  simp only[aG] at h h';obtain⟨x,r,rfl,_⟩:=h';cases h
 |d::ds,[],xs,h,h'=>by
  simp only[aG] at h h';obtain⟨x,r,rfl,_⟩:=h;cases h'
 |d::ds,e::es,xs,h,h'=>by
  simp only[aG] at h h';obtain⟨x,r,rfl,h1,h2⟩:=h;obtain⟨x',r',e1,h3,h4⟩:=h';cases e1;rw[Dat.inj h1 h3,aG.inj h2 h4]
end
mutual
theorem zo:∀d:D,eqD d d=true
 |.non=>by simp[eqD]
 |.bl b=>by simp[eqD]
 |.int i=>by simp[eqD]
 |.str x=>by simp[eqD]
 |.tup ds=>by simp only[eqD];exact fO ds
 |.lst ds=>by simp only[eqD];exact fO ds
 |.dk ks=>by simp[eqD]
 |.dt ks=>by simp[eqD]
theorem fO:∀ds:List D,d7 ds ds=true
 | []=>by simp[d7]
 |d::ds=>by simp only[d7,zo d,fO ds,Bool.and_self]
end
theorem mV:∀ {ds es:List D},ds.length≠es.length->d7 ds es=false
 | [],[],h=>absurd rfl h
 | [],_::_,_=>by simp[d7]
 |_::_,[],_=>by simp[d7]
 |d::ds,e::es,h=>by
  simp only[d7,mV (ds:=ds) (es:=es) (by simpa using h),Bool.and_false]
theorem iO:∀ {ds es:List D},ds.length=es.length->(List.range ds.length).all (fun j=>eqD (ds.getD j .non) (es.getD j .non))=d7 ds es
 | [],[],_=>by simp[d7]
 | [],_::_,h=>by simp at h
 |_::_,[],h=>by simp at h
 |d::ds,e::es,h=>by
  have ih:=iO (ds:=ds) (es:=es) (by simpa using h)
  rw[List.length_cons,List.range_succ_eq_map,List.all_cons,List.all_map];simp only[d7,←ih]
  rfl
end L2
namespace L2
open PySem PySem.Spec PyProof.Rows AutoSeq1
noncomputable def ql(h:Heap)(l:Addr):Prop:=∃es ep,h.get? l=some { cls:=.type "dict",data:=.dict es ep }
theorem jm:isSubtype (.type "NoneType") (.type "dict")=pure false:=by rw[isSubtype_type];kernel_rfl
theorem kW:isSubtype (.type "bool") (.type "dict")=pure false:=by rw[isSubtype_type];kernel_rfl
theorem kJ:isSubtype (.type "int") (.type "dict")=pure false:=by rw[isSubtype_type];kernel_rfl
theorem kF:isSubtype (.type "str") (.type "dict")=pure false:=by rw[isSubtype_type];kernel_rfl
theorem kI:isSubtype (.type "tuple") (.type "dict")=pure false:=by rw[isSubtype_type];kernel_rfl
theorem kK:isSubtype (.type "list") (.type "dict")=pure false:=by rw[isSubtype_type];kernel_rfl
theorem qX:isSubtype (.type "dict") (.type "NoneType")=pure false:=by rw[isSubtype_type];kernel_rfl
theorem vN:isSubtype (.type "dict") (.type "bool")=pure false:=by rw[isSubtype_type];kernel_rfl
theorem ie:isSubtype (.type "dict") (.type "int")=pure false:=by rw[isSubtype_type];kernel_rfl
theorem ln:isSubtype (.type "dict") (.type "str")=pure false:=by rw[isSubtype_type];kernel_rfl
theorem lr:isSubtype (.type "dict") (.type "tuple")=pure false:=by rw[isSubtype_type];kernel_rfl
theorem lj:isSubtype (.type "dict") (.type "list")=pure false:=by rw[isSubtype_type];kernel_rfl
section
variable(l b:Addr)(es:Array DictEntry)(ep:Nat)
noncomputable abbrev DO(es:Array DictEntry)(ep:Nat):Obj:={ cls:=.type "dict",data:=.dict es ep }
theorem CK:Meets (Builtin.«dict.__eq__» ⟨[.ref l,.none],[]⟩) (fun _ R s=>s.heap.get? l=some (DO es ep)/\R (.ok (.ret .notImplemented)) s):=
 .of_wp fun prog w A R s h=>by obtain⟨hp,g,d,tk,os⟩:=s;obtain⟨hl,h⟩:=h;have f1:=jm;wp_walk using wpAny_loadPart' hl,wpAny_load hl;exact⟨_,rfl,h⟩
theorem DG:Meets (Builtin.«dict.__ne__» ⟨[.ref l,.none],[]⟩) (fun _ R s=>s.heap.get? l=some (DO es ep)/\R (.ok (.ret .notImplemented)) s):=
 .of_wp fun prog w A R s h=>by obtain⟨hp,g,d,tk,os⟩:=s;obtain⟨hl,h⟩:=h;have f1:=jm;wp_walk using wpAny_loadPart' hl,wpAny_load hl;exact⟨_,rfl,h⟩
theorem DX(c:Bool):Meets (Builtin.«dict.__eq__» ⟨[.ref l,.bool c],[]⟩) (fun _ R s=>s.heap.get? l=some (DO es ep)/\R (.ok (.ret .notImplemented)) s):=
 .of_wp fun prog w A R s h=>by obtain⟨hp,g,d,tk,os⟩:=s;obtain⟨hl,h⟩:=h;have f1:=kW;wp_walk using wpAny_loadPart' hl,wpAny_load hl;exact⟨_,rfl,h⟩
theorem E5(c:Bool):Meets (Builtin.«dict.__ne__» ⟨[.ref l,.bool c],[]⟩) (fun _ R s=>s.heap.get? l=some (DO es ep)/\R (.ok (.ret .notImplemented)) s):=
 .of_wp fun prog w A R s h=>by obtain⟨hp,g,d,tk,os⟩:=s;obtain⟨hl,h⟩:=h;have f1:=kW;wp_walk using wpAny_loadPart' hl,wpAny_load hl;exact⟨_,rfl,h⟩
theorem DS(c:Int)(u:Tok):Meets (Builtin.«dict.__eq__» ⟨[.ref l,.int c u],[]⟩) (fun _ R s=>s.heap.get? l=some (DO es ep)/\R (.ok (.ret .notImplemented)) s):=
 .of_wp fun prog w A R s h=>by obtain⟨hp,g,d,tk,os⟩:=s;obtain⟨hl,h⟩:=h;have f1:=kJ;wp_walk using wpAny_loadPart' hl,wpAny_load hl;exact⟨_,rfl,h⟩
theorem DU(c:Int)(u:Tok):Meets (Builtin.«dict.__ne__» ⟨[.ref l,.int c u],[]⟩) (fun _ R s=>s.heap.get? l=some (DO es ep)/\R (.ok (.ret .notImplemented)) s):=
 .of_wp fun prog w A R s h=>by obtain⟨hp,g,d,tk,os⟩:=s;obtain⟨hl,h⟩:=h;have f1:=kJ;wp_walk using wpAny_loadPart' hl,wpAny_load hl;exact⟨_,rfl,h⟩
theorem Ed(c:Str)(u:Tok):Meets (Builtin.«dict.__eq__» ⟨[.ref l,.str c u],[]⟩) (fun _ R s=>s.heap.get? l=some (DO es ep)/\R (.ok (.ret .notImplemented)) s):=
 .of_wp fun prog w A R s h=>by obtain⟨hp,g,d,tk,os⟩:=s;obtain⟨hl,h⟩:=h;have f1:=kF;wp_walk using wpAny_loadPart' hl,wpAny_load hl;exact⟨_,rfl,h⟩
theorem D2(c:Str)(u:Tok):Meets (Builtin.«dict.__ne__» ⟨[.ref l,.str c u],[]⟩) (fun _ R s=>s.heap.get? l=some (DO es ep)/\R (.ok (.ret .notImplemented)) s):=
 .of_wp fun prog w A R s h=>by obtain⟨hp,g,d,tk,os⟩:=s;obtain⟨hl,h⟩:=h;have f1:=kF;wp_walk using wpAny_loadPart' hl,wpAny_load hl;exact⟨_,rfl,h⟩
theorem Fd(its:Array Value)(n:Nat)(dd:Option Addr)(sl:Array (Option Value)):Meets (Builtin.«dict.__eq__» ⟨[.ref l,.ref b],[]⟩) (fun _ R s=>s.heap.get? l=some (DO es ep)/\s.heap.get? b=some ⟨.type "tuple",dd,.seq its n,sl⟩/\R (.ok (.ret .notImplemented)) s):=
 .of_wp fun prog w A R s h=>by obtain⟨hp,g,d,tk,os⟩:=s;obtain⟨hl,hb,h⟩:=h;have f1:=kI;wp_walk using wpAny_loadPart' hl,wpAny_load hl,wpAny_loadPart' hb,wpAny_load hb;exact⟨_,rfl,h⟩
theorem D5(its:Array Value)(n:Nat)(dd:Option Addr)(sl:Array (Option Value)):Meets (Builtin.«dict.__ne__» ⟨[.ref l,.ref b],[]⟩) (fun _ R s=>s.heap.get? l=some (DO es ep)/\s.heap.get? b=some ⟨.type "tuple",dd,.seq its n,sl⟩/\R (.ok (.ret .notImplemented)) s):=
 .of_wp fun prog w A R s h=>by obtain⟨hp,g,d,tk,os⟩:=s;obtain⟨hl,hb,h⟩:=h;have f1:=kI;wp_walk using wpAny_loadPart' hl,wpAny_load hl,wpAny_loadPart' hb,wpAny_load hb;exact⟨_,rfl,h⟩
theorem DY(its:Array Value)(n:Nat)(dd:Option Addr)(sl:Array (Option Value)):Meets (Builtin.«dict.__eq__» ⟨[.ref l,.ref b],[]⟩) (fun _ R s=>s.heap.get? l=some (DO es ep)/\s.heap.get? b=some ⟨.type "list",dd,.seq its n,sl⟩/\R (.ok (.ret .notImplemented)) s):=
 .of_wp fun prog w A R s h=>by obtain⟨hp,g,d,tk,os⟩:=s;obtain⟨hl,hb,h⟩:=h;have f1:=kK;wp_walk using wpAny_loadPart' hl,wpAny_load hl,wpAny_loadPart' hb,wpAny_load hb;exact⟨_,rfl,h⟩
theorem EJ(its:Array Value)(n:Nat)(dd:Option Addr)(sl:Array (Option Value)):Meets (Builtin.«dict.__ne__» ⟨[.ref l,.ref b],[]⟩) (fun _ R s=>s.heap.get? l=some (DO es ep)/\s.heap.get? b=some ⟨.type "list",dd,.seq its n,sl⟩/\R (.ok (.ret .notImplemented)) s):=
 .of_wp fun prog w A R s h=>by obtain⟨hp,g,d,tk,os⟩:=s;obtain⟨hl,hb,h⟩:=h;have f1:=kK;wp_walk using wpAny_loadPart' hl,wpAny_load hl,wpAny_loadPart' hb,wpAny_load hb;exact⟨_,rfl,h⟩
theorem Et(c:Bool):Meets (Builtin.«int.__eq__» ⟨[.bool c,.ref l],[]⟩) (fun _ R s=>s.heap.get? l=some (DO es ep)/\R (.ok (.ret .notImplemented)) s):=
 .of_wp fun prog w A R s h=>by obtain⟨hp,g,d,tk,os⟩:=s;obtain⟨hl,h⟩:=h;have f1:=ie;wp_walk using wpAny_loadPart' hl,wpAny_load hl;exact⟨_,rfl,h⟩
theorem EO(c:Bool):Meets (Builtin.«int.__ne__» ⟨[.bool c,.ref l],[]⟩) (fun _ R s=>s.heap.get? l=some (DO es ep)/\R (.ok (.ret .notImplemented)) s):=
 .of_wp fun prog w A R s h=>by obtain⟨hp,g,d,tk,os⟩:=s;obtain⟨hl,h⟩:=h;have f1:=ie;wp_walk using wpAny_loadPart' hl,wpAny_load hl;exact⟨_,rfl,h⟩
theorem Es(c:Int)(u:Tok):Meets (Builtin.«int.__eq__» ⟨[.int c u,.ref l],[]⟩) (fun _ R s=>s.heap.get? l=some (DO es ep)/\R (.ok (.ret .notImplemented)) s):=
 .of_wp fun prog w A R s h=>by obtain⟨hp,g,d,tk,os⟩:=s;obtain⟨hl,h⟩:=h;have f1:=ie;wp_walk using wpAny_loadPart' hl,wpAny_load hl;exact⟨_,rfl,h⟩
theorem Eb(c:Int)(u:Tok):Meets (Builtin.«int.__ne__» ⟨[.int c u,.ref l],[]⟩) (fun _ R s=>s.heap.get? l=some (DO es ep)/\R (.ok (.ret .notImplemented)) s):=
 .of_wp fun prog w A R s h=>by obtain⟨hp,g,d,tk,os⟩:=s;obtain⟨hl,h⟩:=h;have f1:=ie;wp_walk using wpAny_loadPart' hl,wpAny_load hl;exact⟨_,rfl,h⟩
theorem Fx(c:Str)(u:Tok):Meets (Builtin.«str.__eq__» ⟨[.str c u,.ref l],[]⟩) (fun _ R s=>s.heap.get? l=some (DO es ep)/\R (.ok (.ret .notImplemented)) s):=
 .of_wp fun prog w A R s h=>by obtain⟨hp,g,d,tk,os⟩:=s;obtain⟨hl,h⟩:=h;have f1:=ln;wp_walk using wpAny_loadPart' hl,wpAny_load hl;exact⟨_,rfl,h⟩
theorem Fn(c:Str)(u:Tok):Meets (Builtin.«str.__ne__» ⟨[.str c u,.ref l],[]⟩) (fun _ R s=>s.heap.get? l=some (DO es ep)/\R (.ok (.ret .notImplemented)) s):=
 .of_wp fun prog w A R s h=>by obtain⟨hp,g,d,tk,os⟩:=s;obtain⟨hl,h⟩:=h;have f1:=ln;wp_walk using wpAny_loadPart' hl,wpAny_load hl;exact⟨_,rfl,h⟩
theorem FA(its:Array Value)(n:Nat)(dd:Option Addr)(sl:Array (Option Value)):Meets (Builtin.«tuple.__eq__» ⟨[.ref b,.ref l],[]⟩) (fun _ R s=>s.heap.get? l=some (DO es ep)/\s.heap.get? b=some ⟨.type "tuple",dd,.seq its n,sl⟩/\R (.ok (.ret .notImplemented)) s):=
 .of_wp fun prog w A R s h=>by obtain⟨hp,g,d,tk,os⟩:=s;obtain⟨hl,hb,h⟩:=h;have f1:=lr;wp_walk using wpAny_loadPart' hl,wpAny_load hl,wpAny_loadPart' hb,wpAny_load hb;exact⟨_,rfl,h⟩
theorem Fk(its:Array Value)(n:Nat)(dd:Option Addr)(sl:Array (Option Value)):Meets (Builtin.«tuple.__ne__» ⟨[.ref b,.ref l],[]⟩) (fun _ R s=>s.heap.get? l=some (DO es ep)/\s.heap.get? b=some ⟨.type "tuple",dd,.seq its n,sl⟩/\R (.ok (.ret .notImplemented)) s):=
 .of_wp fun prog w A R s h=>by obtain⟨hp,g,d,tk,os⟩:=s;obtain⟨hl,hb,h⟩:=h;have f1:=lr;wp_walk using wpAny_loadPart' hl,wpAny_load hl,wpAny_loadPart' hb,wpAny_load hb;exact⟨_,rfl,h⟩
theorem Fy(its:Array Value)(n:Nat)(dd:Option Addr)(sl:Array (Option Value)):Meets (Builtin.«list.__eq__» ⟨[.ref b,.ref l],[]⟩) (fun _ R s=>s.heap.get? l=some (DO es ep)/\s.heap.get? b=some ⟨.type "list",dd,.seq its n,sl⟩/\R (.ok (.ret .notImplemented)) s):=
 .of_wp fun prog w A R s h=>by obtain⟨hp,g,d,tk,os⟩:=s;obtain⟨hl,hb,h⟩:=h;have f1:=lj;wp_walk using wpAny_loadPart' hl,wpAny_load hl,wpAny_loadPart' hb,wpAny_load hb;exact⟨_,rfl,h⟩
theorem Fg(its:Array Value)(n:Nat)(dd:Option Addr)(sl:Array (Option Value)):Meets (Builtin.«list.__ne__» ⟨[.ref b,.ref l],[]⟩) (fun _ R s=>s.heap.get? l=some (DO es ep)/\s.heap.get? b=some ⟨.type "list",dd,.seq its n,sl⟩/\R (.ok (.ret .notImplemented)) s):=
 .of_wp fun prog w A R s h=>by obtain⟨hp,g,d,tk,os⟩:=s;obtain⟨hl,hb,h⟩:=h;have f1:=lj;wp_walk using wpAny_loadPart' hl,wpAny_load hl,wpAny_loadPart' hb,wpAny_load hb;exact⟨_,rfl,h⟩
end
noncomputable def Eq3(A:Around)(s:Shared)(v u:Value)(b:Bool):Prop:=SeqAt.RcAt A s v u b/\SeqAt.EqAt A s v u b/\SeqAt.RcNeAt A s v u (!b)
section
variable{A:Around}{s:Shared}{l:Addr}
theorem fH{v:Value}(hne:v≠.ref l)(h:SeqAt.RcAt A s v (.ref l) false):SeqAt.EqAt A s v (.ref l) false:=fun prog w E Q q=>by
 unfold eqBool;refine wpAny_holding ?_;refine wpAny_ite_split (fun hab=>absurd (eq_of_beq hab) hne) (fun _=>?_);cases v<;>exact wpAny_bind (h prog w E _ (wpAny_truthy_bool q))
theorem yl(d:ql s.heap l)(hu:A.units<cLine):Eq3 A s .none (.ref l) false:=by
 obtain⟨es,ep,ho⟩:=d
 have a:SeqAt.RcAt A s .none (.ref l) false:=fun prog w E Q h=>SeqAt.rc_eq_decline_or (k:=false) rfl ⟨_,ho,rfl⟩ (by decide) qX F.slot_NoneType_eq F.slot_dict_eq_refl
  (fun _ hq=>call_gives F.slot_NoneType_eq rfl F.entry_NoneType_eq (F.args_NoneType_eq_2 _ _) (SeqAt.NoneType___eq___none_ref_0 l) hq)
  (fun _ hq=>call_meets F.slot_dict_eq_refl ⟨_,ho,rfl⟩ F.entry_dict_eq (F.args_dict_eq_2 _ _) (CK l es ep) ⟨ho,hq⟩)
  (fun _ hq=>wpAny_of_eq (rfl:isSame .none (.ref l)=pure false) hq) (.inr hu) h
 exact⟨a,fH nofun a,fun prog w E Q h=>SeqAt.rc_ne_decline_or (k:=false) rfl ⟨_,ho,rfl⟩ (by decide) qX F.slot_NoneType_ne F.slot_dict_ne_refl
  (fun _ hq=>call_gives F.slot_NoneType_ne rfl F.entry_NoneType_ne (F.args_NoneType_ne_2 _ _) (SeqAt.NoneType___ne___none_ref_0 l) hq)
  (fun _ hq=>call_meets F.slot_dict_ne_refl ⟨_,ho,rfl⟩ F.entry_dict_ne (F.args_dict_ne_2 _ _) (DG l es ep) ⟨ho,hq⟩)
  (fun _ hq=>wpAny_of_eq (rfl:isSame .none (.ref l)=pure false) hq) (.inr hu) h⟩
theorem Ce(c:Bool)(d:ql s.heap l)(hu:A.units<cLine):Eq3 A s (.bool c) (.ref l) false:=by
 obtain⟨es,ep,ho⟩:=d
 have a:SeqAt.RcAt A s (.bool c) (.ref l) false:=fun prog w E Q h=>SeqAt.rc_eq_decline_or (k:=false) rfl ⟨_,ho,rfl⟩ (by decide) vN F.slot_bool_eq F.slot_dict_eq_refl
  (fun _ hq=>call_meets F.slot_bool_eq rfl F.entry_int_eq (F.args_int_eq_2 _ _) (Et l es ep c) ⟨ho,hq⟩)
  (fun _ hq=>call_meets F.slot_dict_eq_refl ⟨_,ho,rfl⟩ F.entry_dict_eq (F.args_dict_eq_2 _ _) (DX l es ep c) ⟨ho,hq⟩)
  (fun _ hq=>wpAny_of_eq (rfl:isSame (.bool c) (.ref l)=pure false) hq) (.inr hu) h
 exact⟨a,fH nofun a,fun prog w E Q h=>SeqAt.rc_ne_decline_or (k:=false) rfl ⟨_,ho,rfl⟩ (by decide) vN F.slot_bool_ne F.slot_dict_ne_refl
  (fun _ hq=>call_meets F.slot_bool_ne rfl F.entry_int_ne (F.args_int_ne_2 _ _) (EO l es ep c) ⟨ho,hq⟩)
  (fun _ hq=>call_meets F.slot_dict_ne_refl ⟨_,ho,rfl⟩ F.entry_dict_ne (F.args_dict_ne_2 _ _) (E5 l es ep c) ⟨ho,hq⟩)
  (fun _ hq=>wpAny_of_eq (rfl:isSame (.bool c) (.ref l)=pure false) hq) (.inr hu) h⟩
theorem B4(c:Int)(u:Tok)(d:ql s.heap l)(hu:A.units<cLine):Eq3 A s (.int c u) (.ref l) false:=by
 obtain⟨es,ep,ho⟩:=d
 have a:SeqAt.RcAt A s (.int c u) (.ref l) false:=fun prog w E Q h=>SeqAt.rc_eq_decline_or (k:=false) (typeIs_int s c u) ⟨_,ho,rfl⟩ (by decide) ie F.slot_int_eq F.slot_dict_eq_refl
  (fun _ hq=>call_meets F.slot_int_eq (typeIs_int s c u) F.entry_int_eq (F.args_int_eq_2 _ _) (Es l es ep c u) ⟨ho,hq⟩)
  (fun _ hq=>call_meets F.slot_dict_eq_refl ⟨_,ho,rfl⟩ F.entry_dict_eq (F.args_dict_eq_2 _ _) (DS l es ep c u) ⟨ho,hq⟩)
  (fun _ hq=>wpAny_of_eq (rfl:isSame (.int c u) (.ref l)=pure false) hq) (.inr hu) h
 exact⟨a,fH nofun a,fun prog w E Q h=>SeqAt.rc_ne_decline_or (k:=false) (typeIs_int s c u) ⟨_,ho,rfl⟩ (by decide) ie F.slot_int_ne F.slot_dict_ne_refl
  (fun _ hq=>call_meets F.slot_int_ne (typeIs_int s c u) F.entry_int_ne (F.args_int_ne_2 _ _) (Eb l es ep c u) ⟨ho,hq⟩)
  (fun _ hq=>call_meets F.slot_dict_ne_refl ⟨_,ho,rfl⟩ F.entry_dict_ne (F.args_dict_ne_2 _ _) (DU l es ep c u) ⟨ho,hq⟩)
  (fun _ hq=>wpAny_of_eq (rfl:isSame (.int c u) (.ref l)=pure false) hq) (.inr hu) h⟩
theorem Co(c:Str)(u:Tok)(d:ql s.heap l)(hu:A.units<cLine):Eq3 A s (.str c u) (.ref l) false:=by
 obtain⟨es,ep,ho⟩:=d
 have a:SeqAt.RcAt A s (.str c u) (.ref l) false:=fun prog w E Q h=>SeqAt.rc_eq_decline_or (k:=false) (typeIs_str s c u) ⟨_,ho,rfl⟩ (by decide) ln F.slot_str_eq F.slot_dict_eq_refl
  (fun _ hq=>call_meets F.slot_str_eq (typeIs_str s c u) F.entry_str_eq (F.args_str_eq_2 _ _) (Fx l es ep c u) ⟨ho,hq⟩)
  (fun _ hq=>call_meets F.slot_dict_eq_refl ⟨_,ho,rfl⟩ F.entry_dict_eq (F.args_dict_eq_2 _ _) (Ed l es ep c u) ⟨ho,hq⟩)
  (fun _ hq=>wpAny_of_eq (rfl:isSame (.str c u) (.ref l)=pure false) hq) (.inr hu) h
 exact⟨a,fH nofun a,fun prog w E Q h=>SeqAt.rc_ne_decline_or (k:=false) (typeIs_str s c u) ⟨_,ho,rfl⟩ (by decide) ln F.slot_str_ne F.slot_dict_ne_refl
  (fun _ hq=>call_meets F.slot_str_ne (typeIs_str s c u) F.entry_str_ne (F.args_str_ne_2 _ _) (Fn l es ep c u) ⟨ho,hq⟩)
  (fun _ hq=>call_meets F.slot_dict_ne_refl ⟨_,ho,rfl⟩ F.entry_dict_ne (F.args_dict_ne_2 _ _) (D2 l es ep c u) ⟨ho,hq⟩)
  (fun _ hq=>wpAny_of_eq (rfl:isSame (.str c u) (.ref l)=pure false) hq) (.inr hu) h⟩
theorem lI{b:Addr}{ob ol:Obj}{Q:Bool->Shared->Prop}{M:Model}{E:Value->Shared->Prop}(h1:s.heap.get? b=some ob)(h2:s.heap.get? l=some ol)(hb:ob.cls≠ol.cls)(hl:ol.cls≠.type "tuple")(q:Q false s):wpAny M A (isSame (.ref b) (.ref l)) Q E s:=
 SeqAt.wpAny_isSame_ref_other' (fun e=>by subst e;rw[h1] at h2;cases h2;exact hb rfl) h1 h2 hl q
theorem B1{b:Addr}{its:Array Value}(hb:s.heap.IsTuple b its)(d:ql s.heap l)(hu:A.units<cLine):Eq3 A s (.ref b) (.ref l) false:=by
 obtain⟨es,ep,ho⟩:=d;obtain⟨⟨cls,dd,data,sl⟩,hp,hc,n,hd⟩:=id hb;simp only at hc hd;subst hc hd;have ne:Value.ref b≠Value.ref l:=fun e=>by cases e;exact absurd (congrArg (fun o:Obj=>o.cls) (Option.some.inj (hp.symm.trans ho))) (by simp)
 have a:SeqAt.RcAt A s (.ref b) (.ref l) false:=fun prog w E Q h=>SeqAt.rc_eq_decline_or (k:=false) ⟨_,hp,rfl⟩ ⟨_,ho,rfl⟩ (by decide) lr F.slot_tuple_eq F.slot_dict_eq_refl
  (fun _ hq=>call_meets F.slot_tuple_eq ⟨_,hp,rfl⟩ F.entry_tuple_eq (F.args_tuple_eq_2 _ _) (FA l b es ep _ _ _ _) ⟨ho,hp,hq⟩)
  (fun _ hq=>call_meets F.slot_dict_eq_refl ⟨_,ho,rfl⟩ F.entry_dict_eq (F.args_dict_eq_2 _ _) (Fd l b es ep _ _ _ _) ⟨ho,hp,hq⟩)
  (fun _ hq=>lI hp ho (by simp) (by simp) hq) (.inr hu) h
 exact⟨a,fH ne a,fun prog w E Q h=>SeqAt.rc_ne_decline_or (k:=false) ⟨_,hp,rfl⟩ ⟨_,ho,rfl⟩ (by decide) lr F.slot_tuple_ne F.slot_dict_ne_refl
  (fun _ hq=>call_meets F.slot_tuple_ne ⟨_,hp,rfl⟩ F.entry_tuple_ne (F.args_tuple_ne_2 _ _) (Fk l b es ep _ _ _ _) ⟨ho,hp,hq⟩)
  (fun _ hq=>call_meets F.slot_dict_ne_refl ⟨_,ho,rfl⟩ F.entry_dict_ne (F.args_dict_ne_2 _ _) (D5 l b es ep _ _ _ _) ⟨ho,hp,hq⟩)
  (fun _ hq=>lI hp ho (by simp) (by simp) hq) (.inr hu) h⟩
theorem BQ{b:Addr}{its:Array Value}(hb:s.heap.IsList b its)(d:ql s.heap l)(hu:A.units<cLine):Eq3 A s (.ref b) (.ref l) false:=by
 obtain⟨es,ep,ho⟩:=d;obtain⟨⟨cls,dd,data,sl⟩,hp,hc,n,hd⟩:=id hb;simp only at hc hd;subst hc hd;have ne:Value.ref b≠Value.ref l:=fun e=>by cases e;exact absurd (congrArg (fun o:Obj=>o.cls) (Option.some.inj (hp.symm.trans ho))) (by simp)
 have a:SeqAt.RcAt A s (.ref b) (.ref l) false:=fun prog w E Q h=>SeqAt.rc_eq_decline_or (k:=false) ⟨_,hp,rfl⟩ ⟨_,ho,rfl⟩ (by decide) lj F.slot_list_eq F.slot_dict_eq_refl
  (fun _ hq=>call_meets F.slot_list_eq ⟨_,hp,rfl⟩ F.entry_list_eq (F.args_list_eq_2 _ _) (Fy l b es ep _ _ _ _) ⟨ho,hp,hq⟩)
  (fun _ hq=>call_meets F.slot_dict_eq_refl ⟨_,ho,rfl⟩ F.entry_dict_eq (F.args_dict_eq_2 _ _) (DY l b es ep _ _ _ _) ⟨ho,hp,hq⟩)
  (fun _ hq=>lI hp ho (by simp) (by simp) hq) (.inr hu) h
 exact⟨a,fH ne a,fun prog w E Q h=>SeqAt.rc_ne_decline_or (k:=false) ⟨_,hp,rfl⟩ ⟨_,ho,rfl⟩ (by decide) lj F.slot_list_ne F.slot_dict_ne_refl
  (fun _ hq=>call_meets F.slot_list_ne ⟨_,hp,rfl⟩ F.entry_list_ne (F.args_list_ne_2 _ _) (Fg l b es ep _ _ _ _) ⟨ho,hp,hq⟩)
  (fun _ hq=>call_meets F.slot_dict_ne_refl ⟨_,ho,rfl⟩ F.entry_dict_ne (F.args_dict_ne_2 _ _) (EJ l b es ep _ _ _ _) ⟨ho,hp,hq⟩)
  (fun _ hq=>lI hp ho (by simp) (by simp) hq) (.inr hu) h⟩
end
end L2
namespace L2
open PySem PySem.Spec PyProof.Rows
section
variable{X:Cx}{pins:List (Addr×Obj)}{σ:St}{H:Hp}{s:Shared}
theorem vQ:∀ {xs:List V} {us:List Value} {j:Nat} {x:V},aQ xs us->xs[j]?=some x->∀(h:j<us.toArray.size),br x us.toArray[j]:=fun {xs us j x} r e h=>by
 obtain⟨u,h1,h2⟩:=r.get e
 have:us[j]?=some us.toArray[j]:=by
  rw[List.getElem?_eq_getElem (by simpa using h)]
  simp
 rw[h1] at this;cases this;exact h2
theorem d8(I:Inv X pins σ H s){a:Addr}{xs:List V}(h:H a=some (.tup xs)):∃its:List Value,aQ xs its/\s.heap.IsTuple a its.toArray:=by
 obtain⟨its,r,p,_⟩:=I.tuple (SqT.of (K:=X.K) h);exact⟨its,r,p⟩
theorem g8(I:Inv X pins σ H s){a:Addr}{xs:List V}(h:H a=some (.lst xs)):∃its:List Value,aQ xs its/\s.heap.IsList a its.toArray:=by
 obtain⟨its,r,p,_⟩:=I.list (SqL.of (K:=X.K) h);exact⟨its,r,p.isList⟩
theorem nT(I:Inv X pins σ H s){a:Addr}{kvs:List (Key×V)}(h:H a=some (.dK kvs)):ql s.heap a:=by
 obtain⟨_,_,vs,_,o,es,ep,e1,⟨c1,c2,c3⟩,e2,_⟩:=I.hok _ _ h;obtain⟨cls,dd,data,sl⟩:=o;simp only at c1 c2 c3 e2;subst c1 c2 c3 e2;exact⟨_,_,e1⟩
theorem md(I:Inv X pins σ H s){a:Addr}{kvs:List (List Key×V)}(h:H a=some (.dT kvs)):ql s.heap a:=by
 obtain⟨_,_,vs,_,o,es,ep,e1,⟨c1,c2,c3⟩,e2,_⟩:=I.hok _ _ h;obtain⟨cls,dd,data,sl⟩:=o;simp only at c1 c2 c3 e2;subst c1 c2 c3 e2;exact⟨_,_,e1⟩
theorem y7{ds es:List D}:((List.range (min ds.length es.length)).all (fun j=>eqD (ds.getD j .non) (es.getD j .non)) && ds.length == es.length)=d7 ds es:=by
 by_cases h:ds.length=es.length
 ·rw[←iO h]
  have:min ds.length es.length=ds.length:=by omega
  rw[this];simp[h]
 ·rw[mV h]
  have:(ds.length == es.length)=false:=by simpa using h
  rw[this,Bool.and_false]
theorem oN(I:Inv X pins σ H s)(n:Nat):∀(d e:D)(x y:V)(v u:Value)(A:Around),dep d<=n->A.units+n<cLine->Dat H d x->Dat H e y->br x v->br y u ->
  SeqAt.RcAt A s v u (eqD d e)/\SeqAt.EqAt A s v u (eqD d e)/\SeqAt.RcNeAt A s v u (!eqD d e):=by
 induction n with
 |zero=>
  intro d e x y v u A hd hu hx hy rx ry;have hu':A.units<cLine:=by omega
  cases d with
  |tup ds=>simp only[dep] at hd;omega
  |lst ds=>simp only[dep] at hd;omega
  |dk ds=>simp only[dep] at hd;omega
  |dt ds=>simp only[dep] at hd;omega
  |non=>
   simp only[Dat] at hx;subst hx;cases rx
   cases e with
   |non=>simp only[Dat] at hy;subst hy;cases ry;exact⟨SeqAt.RcAt.none_none,SeqAt.EqAt.same _,SeqAt.RcNeAt.none_none⟩
   |bl b=>simp only[Dat] at hy;subst hy;cases ry;exact⟨SeqAt.RcAt.none_bool b,SeqAt.EqAt.none_bool b,SeqAt.RcNeAt.none_bool b⟩
   |int b=>simp only[Dat] at hy;subst hy;obtain⟨t,rfl⟩:=ry;exact⟨SeqAt.RcAt.none_int b t,SeqAt.EqAt.none_int b t,SeqAt.RcNeAt.none_int b t⟩
   |str b=>simp only[Dat] at hy;subst hy;obtain⟨t,rfl⟩:=ry;exact⟨SeqAt.RcAt.none_str b t,SeqAt.EqAt.none_str b t,SeqAt.RcNeAt.none_str b t⟩
   |tup es=>
    simp only[Dat] at hy;obtain⟨b,ys,rfl,hb,_⟩:=hy;cases ry;obtain⟨its,_,p⟩:=d8 I hb;exact⟨SeqAt.RcAt.none_tuple p hu',SeqAt.EqAt.none_tuple p hu',SeqAt.RcNeAt.none_tuple p hu'⟩
   |lst es=>
    simp only[Dat] at hy;obtain⟨b,ys,rfl,hb,_⟩:=hy;cases ry;obtain⟨its,_,p⟩:=g8 I hb;exact⟨SeqAt.RcAt.none_list p hu',SeqAt.EqAt.none_list p hu',SeqAt.RcNeAt.none_list p hu'⟩
   |dk es=>
    simp only[Dat] at hy;obtain⟨b,ys,rfl,hb,_⟩:=hy;cases ry;exact yl (nT I hb) hu'
   |dt es=>
    simp only[Dat] at hy;obtain⟨b,ys,rfl,hb,_⟩:=hy;cases ry;exact yl (md I hb) hu'
  |bl a=>
   simp only[Dat] at hx;subst hx;cases rx
   cases e with
   |non=>simp only[Dat] at hy;subst hy;cases ry;exact⟨SeqAt.RcAt.bool_none a,SeqAt.EqAt.bool_none a,SeqAt.RcNeAt.bool_none a⟩
   |bl b=>simp only[Dat] at hy;subst hy;cases ry;exact⟨SeqAt.RcAt.bool_bool a b,SeqAt.EqAt.bool_bool a b,SeqAt.RcNeAt.bool_bool a b⟩
   |int b=>simp only[Dat] at hy;subst hy;obtain⟨t,rfl⟩:=ry;exact⟨SeqAt.RcAt.bool_int a b t,SeqAt.EqAt.bool_int a b t,SeqAt.RcNeAt.bool_int a b t⟩
   |str b=>simp only[Dat] at hy;subst hy;obtain⟨t,rfl⟩:=ry;exact⟨SeqAt.RcAt.bool_str a b t,SeqAt.EqAt.bool_str a b t,SeqAt.RcNeAt.bool_str a b t⟩
   |tup es=>
    simp only[Dat] at hy;obtain⟨b,ys,rfl,hb,_⟩:=hy;cases ry;obtain⟨its,_,p⟩:=d8 I hb;exact⟨SeqAt.RcAt.bool_tuple a p hu',SeqAt.EqAt.bool_tuple a p hu',SeqAt.RcNeAt.bool_tuple a p hu'⟩
   |lst es=>
    simp only[Dat] at hy;obtain⟨b,ys,rfl,hb,_⟩:=hy;cases ry;obtain⟨its,_,p⟩:=g8 I hb;exact⟨SeqAt.RcAt.bool_list a p hu',SeqAt.EqAt.bool_list a p hu',SeqAt.RcNeAt.bool_list a p hu'⟩
   |dk es=>
    simp only[Dat] at hy;obtain⟨b,ys,rfl,hb,_⟩:=hy;cases ry;exact Ce a (nT I hb) hu'
   |dt es=>
    simp only[Dat] at hy;obtain⟨b,ys,rfl,hb,_⟩:=hy;cases ry;exact Ce a (md I hb) hu'
  |int a=>
   simp only[Dat] at hx;subst hx;obtain⟨t',rfl⟩:=rx
   cases e with
   |non=>simp only[Dat] at hy;subst hy;cases ry;exact⟨SeqAt.RcAt.int_none a t',SeqAt.EqAt.int_none a t',SeqAt.RcNeAt.int_none a t'⟩
   |bl b=>simp only[Dat] at hy;subst hy;cases ry;exact⟨SeqAt.RcAt.int_bool a t' b,SeqAt.EqAt.int_bool a t' b,SeqAt.RcNeAt.int_bool a t' b⟩
   |int b=>simp only[Dat] at hy;subst hy;obtain⟨t,rfl⟩:=ry;exact⟨SeqAt.RcAt.int_int a t' b t,SeqAt.EqAt.int_int a t' b t,SeqAt.RcNeAt.int_int a t' b t⟩
   |str b=>simp only[Dat] at hy;subst hy;obtain⟨t,rfl⟩:=ry;exact⟨SeqAt.RcAt.int_str a t' b t,SeqAt.EqAt.int_str a t' b t,SeqAt.RcNeAt.int_str a t' b t⟩
   |tup es=>
    simp only[Dat] at hy;obtain⟨b,ys,rfl,hb,_⟩:=hy;cases ry;obtain⟨its,_,p⟩:=d8 I hb;exact⟨SeqAt.RcAt.int_tuple a t' p hu',SeqAt.EqAt.int_tuple a t' p hu',SeqAt.RcNeAt.int_tuple a t' p hu'⟩
   |lst es=>
    simp only[Dat] at hy;obtain⟨b,ys,rfl,hb,_⟩:=hy;cases ry;obtain⟨its,_,p⟩:=g8 I hb;exact⟨SeqAt.RcAt.int_list a t' p hu',SeqAt.EqAt.int_list a t' p hu',SeqAt.RcNeAt.int_list a t' p hu'⟩
   |dk es=>
    simp only[Dat] at hy;obtain⟨b,ys,rfl,hb,_⟩:=hy;cases ry;exact B4 a t' (nT I hb) hu'
   |dt es=>
    simp only[Dat] at hy;obtain⟨b,ys,rfl,hb,_⟩:=hy;cases ry;exact B4 a t' (md I hb) hu'
  |str a=>
   simp only[Dat] at hx;subst hx;obtain⟨t',rfl⟩:=rx
   cases e with
   |non=>simp only[Dat] at hy;subst hy;cases ry;exact⟨SeqAt.RcAt.str_none a t',SeqAt.EqAt.str_none a t',SeqAt.RcNeAt.str_none a t'⟩
   |bl b=>simp only[Dat] at hy;subst hy;cases ry;exact⟨SeqAt.RcAt.str_bool a t' b,SeqAt.EqAt.str_bool a t' b,SeqAt.RcNeAt.str_bool a t' b⟩
   |int b=>simp only[Dat] at hy;subst hy;obtain⟨t,rfl⟩:=ry;exact⟨SeqAt.RcAt.str_int a t' b t,SeqAt.EqAt.str_int a t' b t,SeqAt.RcNeAt.str_int a t' b t⟩
   |str b=>simp only[Dat] at hy;subst hy;obtain⟨t,rfl⟩:=ry;exact⟨SeqAt.RcAt.str_str a t' b t,SeqAt.EqAt.str_str a t' b t,SeqAt.RcNeAt.str_str a t' b t⟩
   |tup es=>
    simp only[Dat] at hy;obtain⟨b,ys,rfl,hb,_⟩:=hy;cases ry;obtain⟨its,_,p⟩:=d8 I hb;exact⟨SeqAt.RcAt.str_tuple a t' p hu',SeqAt.EqAt.str_tuple a t' p hu',SeqAt.RcNeAt.str_tuple a t' p hu'⟩
   |lst es=>
    simp only[Dat] at hy;obtain⟨b,ys,rfl,hb,_⟩:=hy;cases ry;obtain⟨its,_,p⟩:=g8 I hb;exact⟨SeqAt.RcAt.str_list a t' p hu',SeqAt.EqAt.str_list a t' p hu',SeqAt.RcNeAt.str_list a t' p hu'⟩
   |dk es=>
    simp only[Dat] at hy;obtain⟨b,ys,rfl,hb,_⟩:=hy;cases ry;exact Co a t' (nT I hb) hu'
   |dt es=>
    simp only[Dat] at hy;obtain⟨b,ys,rfl,hb,_⟩:=hy;cases ry;exact Co a t' (md I hb) hu'
 |succ n ih=>
  intro d e x y v u A hd hu hx hy rx ry;have hu':A.units<cLine:=by omega
  by_cases h0:dep d<=n
  ·exact ih d e x y v u A h0 (by omega) hx hy rx ry
  have hin:A.in1.units+n<cLine:=by show A.units+1+n<cLine;omega
  have items:∀(ds es:List D)(xs ys:List V)(its its2:List Value),dA ds<=n->aG H ds xs->aG H es ys->aQ xs its->aQ ys its2 ->
    ∀j (h1:j<its.toArray.size) (h2:j<its2.toArray.size),SeqAt.EqAt A.in1 s its.toArray[j] its2.toArray[j] (eqD (ds.getD j .non) (es.getD j .non)):=by
   intro ds es xs ys its its2 hdp hxs hys r1 r2 j h1 h2;have l1:j<ds.length:=by rw[←hxs.length,r1.length];simpa using h1
   have l2:j<es.length:=by rw[←hys.length,r2.length];simpa using h2
   obtain⟨x',ex,hx'⟩:=hxs.get (List.getElem?_eq_getElem l1);obtain⟨y',ey,hy'⟩:=hys.get (List.getElem?_eq_getElem l2);have g1:ds.getD j .non=ds[j]:=by rw[List.getD_eq_getElem?_getD,List.getElem?_eq_getElem l1];rfl
   have g2:es.getD j .non=es[j]:=by rw[List.getD_eq_getElem?_getD,List.getElem?_eq_getElem l2];rfl
   rw[g1,g2];exact(ih ds[j] es[j] x' y' _ _ A.in1 (Nat.le_trans (lY (List.getElem_mem l1)) hdp) hin hx' hy' (vQ r1 ex h1) (vQ r2 ey h2)).2.1
  cases d with
  |non=>simp only[dep] at h0;omega
  |bl a=>simp only[dep] at h0;omega
  |int a=>simp only[dep] at h0;omega
  |str a=>simp only[dep] at h0;omega
  |dk ds=>simp only[dep] at hd;have:cLine=9900:=rfl;omega
  |dt ds=>simp only[dep] at hd;have:cLine=9900:=rfl;omega
  |tup ds=>
   simp only[dep] at hd;have hx0:=hx;simp only[Dat] at hx;obtain⟨a,xs,rfl,ha,hxs⟩:=hx;cases rx;obtain⟨its,r1,p⟩:=d8 I ha
   cases e with
   |non=>simp only[Dat] at hy;subst hy;cases ry;exact⟨SeqAt.RcAt.tuple_none p hu',SeqAt.EqAt.tuple_none p hu',SeqAt.RcNeAt.tuple_none p hu'⟩
   |bl b=>simp only[Dat] at hy;subst hy;cases ry;exact⟨SeqAt.RcAt.tuple_bool b p hu',SeqAt.EqAt.tuple_bool b p hu',SeqAt.RcNeAt.tuple_bool b p hu'⟩
   |int b=>simp only[Dat] at hy;subst hy;obtain⟨t,rfl⟩:=ry;exact⟨SeqAt.RcAt.tuple_int b t p hu',SeqAt.EqAt.tuple_int b t p hu',SeqAt.RcNeAt.tuple_int b t p hu'⟩
   |str b=>simp only[Dat] at hy;subst hy;obtain⟨t,rfl⟩:=ry;exact⟨SeqAt.RcAt.tuple_str b t p hu',SeqAt.EqAt.tuple_str b t p hu',SeqAt.RcNeAt.tuple_str b t p hu'⟩
   |lst es=>
    simp only[Dat] at hy;obtain⟨b,ys,rfl,hb,_⟩:=hy;cases ry;obtain⟨its2,_,p2⟩:=g8 I hb;exact⟨SeqAt.RcAt.tuple_list p p2 hu',SeqAt.EqAt.tuple_list p p2 hu',SeqAt.RcNeAt.tuple_list p p2 hu'⟩
   |dk es=>
    simp only[Dat] at hy;obtain⟨b,ys,rfl,hb,_⟩:=hy;cases ry;exact B1 p (nT I hb) hu'
   |dt es=>
    simp only[Dat] at hy;obtain⟨b,ys,rfl,hb,_⟩:=hy;cases ry;exact B1 p (md I hb) hu'
   |tup es=>
    have hy0:=hy;simp only[Dat] at hy;obtain⟨b,ys,rfl,hb,hys⟩:=hy;cases ry;obtain⟨its2,r2,p2⟩:=d8 I hb;have it:=items ds es xs ys its its2 (by omega) hxs hys r1 r2
    have z1:its.toArray.size=ds.length:=by rw[←hxs.length,r1.length];simp
    have z2:its2.toArray.size=es.length:=by rw[←hys.length,r2.length];simp
    have e0:=y7 (ds:=ds) (es:=es)
    have rc:SeqAt.RcAt A s (.ref a) (.ref b) (d7 ds es):=by
     have:=SeqAt.RcAt.tuples p p2 hu' it;rw[z1,z2,e0] at this;exact this
    have rn:SeqAt.RcNeAt A s (.ref a) (.ref b) (!d7 ds es):=by
     have:=SeqAt.RcNeAt.tuples p p2 hu' it;rw[z1,z2,e0] at this;exact this
    simp only[eqD];refine⟨rc,?_,rn⟩;by_cases hab:a=b
    ·subst hab
     have:D.tup ds=D.tup es:=hx0.inj hy0;cases this;rw[fO];exact SeqAt.EqAt.same _
    ·exact .of_refs hab rc
  |lst ds=>
   simp only[dep] at hd;have hx0:=hx;simp only[Dat] at hx;obtain⟨a,xs,rfl,ha,hxs⟩:=hx;cases rx;obtain⟨its,r1,p⟩:=g8 I ha
   cases e with
   |non=>simp only[Dat] at hy;subst hy;cases ry;exact⟨SeqAt.RcAt.list_none p hu',SeqAt.EqAt.list_none p hu',SeqAt.RcNeAt.list_none p hu'⟩
   |bl b=>simp only[Dat] at hy;subst hy;cases ry;exact⟨SeqAt.RcAt.list_bool b p hu',SeqAt.EqAt.list_bool b p hu',SeqAt.RcNeAt.list_bool b p hu'⟩
   |int b=>simp only[Dat] at hy;subst hy;obtain⟨t,rfl⟩:=ry;exact⟨SeqAt.RcAt.list_int b t p hu',SeqAt.EqAt.list_int b t p hu',SeqAt.RcNeAt.list_int b t p hu'⟩
   |str b=>simp only[Dat] at hy;subst hy;obtain⟨t,rfl⟩:=ry;exact⟨SeqAt.RcAt.list_str b t p hu',SeqAt.EqAt.list_str b t p hu',SeqAt.RcNeAt.list_str b t p hu'⟩
   |tup es=>
    simp only[Dat] at hy;obtain⟨b,ys,rfl,hb,_⟩:=hy;cases ry;obtain⟨its2,_,p2⟩:=d8 I hb;exact⟨SeqAt.RcAt.list_tuple p p2 hu',SeqAt.EqAt.list_tuple p p2 hu',SeqAt.RcNeAt.list_tuple p p2 hu'⟩
   |dk es=>
    simp only[Dat] at hy;obtain⟨b,ys,rfl,hb,_⟩:=hy;cases ry;exact BQ p (nT I hb) hu'
   |dt es=>
    simp only[Dat] at hy;obtain⟨b,ys,rfl,hb,_⟩:=hy;cases ry;exact BQ p (md I hb) hu'
   |lst es=>
    have hy0:=hy;simp only[Dat] at hy;obtain⟨b,ys,rfl,hb,hys⟩:=hy;cases ry;obtain⟨its2,r2,p2⟩:=g8 I hb;have it:=items ds es xs ys its its2 (by omega) hxs hys r1 r2
    have z1:its.toArray.size=ds.length:=by rw[←hxs.length,r1.length];simp
    have z2:its2.toArray.size=es.length:=by rw[←hys.length,r2.length];simp
    have both:SeqAt.RcAt A s (.ref a) (.ref b) (d7 ds es)/\SeqAt.RcNeAt A s (.ref a) (.ref b) (!d7 ds es):=by
     by_cases hl:ds.length=es.length
     ·have r:=SeqAt.RcAt.lists p p2 (by rw[z1,z2];exact hl) hu' it
      have q:=SeqAt.RcNeAt.lists p p2 (by rw[z1,z2];exact hl) hu' it
      rw[z1,iO hl] at r q;exact⟨r,q⟩
     ·have hne:(its.toArray.size != its2.toArray.size)=true:=by rw[z1,z2];simpa using hl
      rw[mV hl];exact⟨SeqAt.RcAt.lists_lengths p p2 hne hu',SeqAt.RcNeAt.lists_lengths p p2 hne hu'⟩
    simp only[eqD];refine⟨both.1,?_,both.2⟩;by_cases hab:a=b
    ·subst hab
     have:D.lst ds=D.lst es:=hx0.inj hy0;cases this;rw[fO];exact SeqAt.EqAt.same _
    ·exact .of_refs hab both.1
noncomputable def Dq(neg:Bool):R2:=fun x y H Q=>∃d e,Dat H d x/\Dat H e y/\dep d<=100/\Q (.bl (if neg then !eqD d e else eqD d e)) H
theorem cq(hu:X.A.units+100<cLine):OpR X (compareOp .Eq) (Dq false):=by
 intro pins s σ H x y v u Q I rx ry h;obtain⟨d,e,hx,hy,hd,q⟩:=h;exact(oN I 100 d e x y v u X.A hd hu hx hy rx ry).1 X.prog X.w _ _ ⟨.bl _,H,I,rfl,q⟩
theorem kr(hu:X.A.units+100<cLine):OpR X (compareOp .NotEq) (Dq true):=by
 intro pins s σ H x y v u Q I rx ry h;obtain⟨d,e,hx,hy,hd,q⟩:=h;exact(oN I 100 d e x y v u X.A hd hu hx hy rx ry).2.2 X.prog X.w _ _ ⟨.bl _,H,I,rfl,q⟩
end
theorem xE{H:Hp}{p:Addr}{o:HO}(h:H p=none):dj H (upd H p o):=fun b u e=>by
 rw[aS (bj e h)];exact e
theorem zC{e k y:Int}(h:0<k)(h2:k<=2^64):ng (e%k) y:=by
 have h1:=Int.emod_nonneg e (Int.ne_of_gt h);have h3:=Int.emod_lt_of_pos e h;exact .inl ⟨by omega,by omega⟩
theorem mI{x y:Int}(h:-(2^64)<x/\x<2^64):ng x y:=.inl h
theorem sC{x y:Int}(h:-(2^64)<y/\y<2^64):ng x y:=.inr h
theorem jr{K:W.Frag}{H:Hp}{a:Addr}{xs:List V}(h:SqL K H a xs):Bw K (.ref a) H xs.length:=.inl ⟨xs,h,rfl⟩
theorem y4{ns:List Int}{i:Int}(h0:0<=i)(h1:i<(ns.length:Int)):∃n,atI (ns.map V.int) i=some (.int n):=by
 obtain⟨j,rfl⟩:=Int.eq_ofNat_of_zero_le h0;have hj:j<ns.length:=by omega
 exact⟨ns[j],Ag (by rw[List.getElem?_map,List.getElem?_eq_getElem hj];rfl)⟩
section
variable{X:Cx}{tg a b l:Expr}{ta tb tl:TE}{pos:Pos}
theorem aE(K:W.Frag)(h:X.K=K):IxR X (rIx K):=h ▸ CL
theorem bS(K:W.Frag)(h:X.K=K):de X (.builtin "len") (fun xs H Q=>∃x n,xs=[x]/\Bw K x H n/\Q (.int n) H):=h ▸ gN
theorem fC(K:W.Frag)(h:X.K=K)(hc:X.calm=true):de X (.builtin "all") (fun xs H Q=>∃(a:Addr)(bs:List Bool),xs=[.ref a]/\SqL K H a (bs.map V.bl)/\Q (.bl (bs.all id)) H):=h ▸ zU hc
theorem bh(K:W.Frag)(h:X.K=K)(ha:PE X a ta)(he:∀whole,isTrue a X.env whole=(do let v ← whole;standAt a.pos;holding [v] (truthy v))):
  PT X a (fun σ H Q=>ta σ H fun x H'=>∃k,oY K x H' k/\Q k H'):=h ▸ xl ha he
theorem ci(K:W.Frag)(h:X.K=K):de X (.type "list") (fun xs H Q=>∃p ys,xs=[.ref p]/\(SqL K H p ys\/SqT K H p ys)/\∀l,H l=none->Q (.ref l) (upd H l (.lst ys))):=h ▸ pH
theorem cz(K:W.Frag)(h:X.K=K):de X (.type "tuple") (fun xs H Q=>∃p ys,xs=[.ref p]/\((SqL K H p ys/\∀l,H l=none->Q (.ref l) (upd H l (.tup ys)))\/(SqT K H p ys/\Q (.ref p) H))):=h ▸ nk
end
noncomputable def FB(J:It)(g:TG)(tb:TS)(D:ir)(σ:St)(H:Hp):Prop:=∃W:Nat->Nat->St->Hp->Prop,(∃m,W 0 m σ H)/\∀i m σ H,W i m σ H ->
 (J.stop i H/\D.nx σ H)\/(J.go i H/\∃N:St->Hp->Prop,(∀σ' H',N σ' H'->∃m',m'<m/\W (i+1) m' σ' H')/\∀x H',J.yld i H x H'->g x σ H' fun σ2 H2=>tb { D with nx:=N,ct:=N,bk:=D.nx } σ2 H2)
theorem Bg(wi:TI)(g:TG)(tb:TS)(D:ir)(σ:St)(H:Hp):CG wi g tb D σ H=wi σ H fun J H1=>FB J g tb D σ H1:=rfl
mutual
noncomputable def noL:D->Bool
 |.lst _=>false
 |.dk _=>false
 |.dt _=>false
 |.tup ds=>FW ds
 |_=>true
noncomputable def FW:List D->Bool
 | []=>true
 |d::ds=>noL d && FW ds
end
theorem qC:∀ {ds:List D},(∀d∈ds,noL d=true)->FW ds=true
 | [],_=>by simp[FW]
 |d::ds,h=>by
  simp only[FW,Bool.and_eq_true];exact⟨h d (List.mem_cons_self ..),qC fun e he=>h e (List.mem_cons_of_mem _ he)⟩
end L2
namespace L2
end L2
namespace L2
open PySem
theorem eB.FU{k:Nat}{A:Around}(r:eB k A):A.units+100<cLine:=by have:=r.un;omega
theorem oI:∀ {ds:List D} {n:Nat},(∀d∈ds,dep d<=n)->dA ds<=n
 | [],n,_=>by simp[dA]
 |d::ds,n,h=>by
  simp only[dA];exact Nat.max_le.mpr ⟨h d (List.mem_cons_self ..),oI fun e he=>h e (List.mem_cons_of_mem _ he)⟩
theorem wW(ns:List Int):dA (ns.map D.int)=0:=by
 have:dA (ns.map D.int)<=0:=oI fun d hd=>by
  obtain⟨n,_,rfl⟩:=List.mem_map.mp hd;simp[dep]
 omega
end L2
namespace L2
open PySem PySem.Spec PyProof.Rows
section
variable{X:Cx}
theorem yq(hu:X.A.units+100<cLine):OpR X (compareOp .NotEq) (fun x y H Q=>∃a b xs,x=.ref a/\y=.ref b/\SqL X.K H a xs/\SqL X.K H b []/\Q (.bl (!xs.isEmpty)) H):=by
 intro pins s σ H x y v u Q I rx ry h;obtain⟨a,b,xs,rfl,rfl,ha,hb,q⟩:=h;cases rx;cases ry;obtain⟨its,r1,p1,_⟩:=I.list ha;obtain⟨its2,r2,p2,_⟩:=I.list hb;cases r2;have hu':X.A.units<cLine:=by omega
 cases xs with
 |nil=>
  cases r1;have:=SeqAt.RcNeAt.lists (e:=fun _=>true) p1.isList p2.isList rfl hu' (fun j h1 _=>absurd h1 (by simp))
  exact this X.prog X.w _ _ ⟨.bl _,H,I,rfl,q⟩
 |cons x xs=>
  have hne:(its.toArray.size != ([]:List Value).toArray.size)=true:=by
   have:=r1.length;rw[List.size_toArray,←this]
   simp
  exact SeqAt.RcNeAt.lists_lengths p1.isList p2.isList hne hu' X.prog X.w _ _ ⟨.bl _,H,I,rfl,q⟩
end
end L2
namespace L2
open PySem
theorem aG.take{H:Hp}:∀ {ds:List D} {xs:List V} (n:Nat),aG H ds xs->aG H (ds.take n) (xs.take n):=fun {ds xs} n h=>by
 refine aG.of_get (by rw[List.length_take,List.length_take,h.length]) fun i d x e1 e2=>?_
 rw[List.getElem?_take] at e1 e2;split at e1
 ·rename_i hi
  rw[if_pos hi] at e2;obtain⟨x',h1,h2⟩:=h.get e1;rw[e2] at h1;cases h1;exact h2
 ·cases e1
theorem aG.drop{H:Hp}:∀ {ds:List D} {xs:List V} (n:Nat),aG H ds xs->aG H (ds.drop n) (xs.drop n):=fun {ds xs} n h=>by
 refine aG.of_get (by rw[List.length_drop,List.length_drop,h.length]) fun i d x e1 e2=>?_
 rw[List.getElem?_drop] at e1 e2;obtain⟨x',h1,h2⟩:=h.get e1;rw[e2] at h1;cases h1;exact h2
end L2
namespace L2
open PySem PySem.Spec PyProof.Rows
section
variable{X:Cx}{e st:Expr}{te ts:TE}{pos p2:Pos}
noncomputable def E2(K:W.Frag)(te ts:TE):TE:=fun σ H Q=>te σ H fun x H1=>ts σ H1 fun k H2=>k=.int (-1)/\∃a xs,x=.ref a/\SqL K H2 a xs/\∀p,H2 p=none->Q (.ref p) (upd H2 p (.lst xs.reverse))
theorem CW(K:W.Frag)(hK:X.K=K)(he:PE X e te)(hs:PE X st ts):PE X (.Subscript e (.Slice none none (some st) p2) pos) (E2 K te ts):=.mk <| by
 subst hK;intro pins s σ H Q I h;refine Subscript_ (thn (he pins s σ H _ I h) fun v s1 ⟨x,H1,I1,r1,q1⟩=>?_);refine wpAny_Slice ?_;rw[evalPart_none];refine wpAny_pure (wpAny_pure ?_);rw[evalPart_some];refine thn (hs pins s1 σ H1 _ I1 q1) fun u s2 ⟨k,H2,I2,r2,q2⟩=>?_;obtain⟨rfl,a,xs,rfl,hx,q⟩:=q2;obtain⟨t,rfl⟩:=r2;cases r1;have I4:Inv X pins σ H2 { s2 with heap:=s2.heap.push { cls:=.type "slice",data:=.fields #[.none,.none,.int (-1) t] } }:=I2.kept (t':=s2.toks) fun b ob q=>Heap.get?_push_of_some _ q
 obtain⟨its,r,ht,hz⟩:=I4.list hx;have hlen:=r.length;refine tail_any (ops:=[.ref a,.ref s2.heap.objs.size]) (ht.isList.typeIs) slot_list_getitem.lookup ?_ (by with_unfolding_all rfl)
 refine wpAny_getItem_list_slice ht.isList (Heap.IsSliceOf.new ..) .none .none (.int (-1) t) (by simp) ?_ (by rw[List.size_toArray]<;>omega)
 rw[W.krv_pick];refine⟨.ref _,_,I4.laid (t':=s2.toks) (o:=.lst xs.reverse) (fun b ob q=>Heap.get?_push_of_some _ q) (Nat.le_refl _) ?_,rfl,q _ (I4.hok.fresh (Nat.le_refl _))⟩;refine⟨by rw[List.length_reverse];exact hz,its.reverse,0,?_,Heap.get?_push_size _ rfl⟩
 exact r.reverse
end
noncomputable def LD(H:Hp)(l:Addr)(ds:List D):Prop:=FW ds=true/\∃xs,H l=some (.lst xs)/\aG H ds xs
theorem rG{ds es:List D}:FW (ds++es)=(FW ds && FW es):=by
 induction ds with
 |nil=>simp[FW]
 |cons d ds ih=>simp[FW,ih,Bool.and_assoc]
inductive Tr where
 |lf (x:List D)
 |nd (x:List D) (l r:Tr)
namespace Tr
noncomputable def d:Tr->D
 |.lf x=>.tup x
 |.nd x l r=>.tup (x++[l.d,r.d])
noncomputable def size:Tr->Nat
 |.lf _=>1
 |.nd _ l r=>l.size+r.size+1
noncomputable def lvs:Tr->Nat
 |.lf _=>1
 |.nd _ l r=>l.lvs+r.lvs
noncomputable def dp:Tr->Nat
 |.lf _=>0
 |.nd _ l r=>1+max l.dp r.dp
noncomputable def post:Tr->List Tr
 |.lf x=>[.lf x]
 |.nd x l r=>l.post++r.post++[.nd x l r]
noncomputable def pre:Tr->List Tr
 |.lf x=>[.lf x]
 |.nd x l r=>.nd x l r::(r.pre++l.pre)
noncomputable def ok(lw:Str):Tr->Prop
 |.lf x=>x[0]?=some (.str lw)/\FW x=true
 |.nd x l r=>(∃w,x[0]?=some (.str w)/\w≠lw)/\FW x=true/\l.ok lw/\r.ok lw
theorem eV:∀t:Tr,t.size+1=2*t.lvs
 |.lf x=>rfl
 |.nd x l r=>by
  have:=eV l;have:=eV r;simp only[size,lvs];omega
theorem ok.noL{lw:Str}:∀ {t:Tr},t.ok lw->noL t.d=true
 |.lf x,h=>by simp only[d,L2.noL];exact h.2
 |.nd x l r,h=>by
  obtain⟨_,h1,h2,h3⟩:=h;simp only[d,L2.noL,rG,Bool.and_eq_true];exact⟨h1,by simp[FW,ok.noL h2,ok.noL h3]⟩
theorem ok.post{lw:Str}:∀ {t:Tr},t.ok lw->∀u∈t.post,u.ok lw
 |.lf x,h,u,hu=>by simp only[Tr.post,List.mem_singleton] at hu;subst hu;exact h
 |.nd x l r,h,u,hu=>by
  simp only[Tr.post,List.mem_append,List.mem_singleton] at hu;rcases hu with(hu|hu)|hu
  ·exact ok.post h.2.2.1 u hu
  ·exact ok.post h.2.2.2 u hu
  ·subst hu;exact h
theorem ok.FW{lw:Str}{ts:List Tr}(h:∀t∈ts,t.ok lw):FW (ts.map d)=true:=qC fun e he=>by
 obtain⟨t,ht,rfl⟩:=List.mem_map.mp he;exact(h t ht).noL
end Tr
section
variable{X:Cx}
theorem hE:OpR X (compareOp .IsNot) (fun x y H Q=>∃c d,x=.bl c/\y=.bl d/\Q (.bl (c != d)) H):=by
 intro pins s σ H x y v u Q I rx ry h;obtain⟨c,d,rfl,rfl,q⟩:=h;cases rx;cases ry;exact isnot_bool (C1 I q rfl)
theorem ip{prog:Program}{w:World}{A:Around}{E:Value->Shared->Prop}{s:Shared}{t sl:Addr}{items:Array Value}{vl vu:Value}{lo hi:Option Int}{Q:Value->Shared->Prop}(ht:IsTup s.heap t items)(hs:s.heap.IsSliceOf sl vl vu .none)(pl:IsPart vl lo)(pu:IsPart vu hi)(hw:HT.sIx items.size 0 lo=0/\HT.sIx items.size items.size hi=items.size)(h:Q (.ref t) s):wpAny (model prog w) A (getItem (.ref t) (.ref sl)) Q E s:=by
 obtain⟨os,hos,hcs,hds⟩:=id hs;have hTs:s.TypeIs (.ref sl) "slice":=⟨os,hos,hcs⟩;unfold getItem
 try with_reducible refine wpAny_holding ?_
 first|refine wpAny_bind (wpAny_pure ?_)|skip
 refine wpAny_bind (wpAny_sequenceKey ht.typeIs (by decide) ?_)
 refine wpAny_bind (wpAny_callSpecial?_slot (name:=Str.ofString "__getitem__") ht.typeIs PyProof.Rows.slot_tuple_getitem
  (wpAny_call_entry PyProof.Rows.slot_tuple_getitem ht.typeIs PyProof.Rows.entry_tuple_getitem ?_ (PyProof.Rows.args_tuple_getitem _ _)))
 show wpAny _ _ (Builtin.Tuple.tupleItemsOf (.ref t) >>= _) _ _ s;refine wpAny_bind (tupleItemsOf_ ht ?_);refine wpAny_bind (wpAny_typeOf hTs ?_);rw[if_pos (by decide)]
 refine wpAny_bind (HT.sliceApplied_gen hs pl pu ?_)
 have hyes:(((HT.sIx items.size 0 lo:Nat):Int) == 0 && (1:Int) == 1 && (HT.sIx items.size items.size hi-HT.sIx items.size 0 lo) == items.size)=true:=by
  rw[hw.1,hw.2];simp
 show wpAny _ _ (if (((HT.sIx items.size 0 lo:Nat):Int) == 0 && (1:Int) == 1 && (HT.sIx items.size items.size hi-HT.sIx items.size 0 lo) == items.size)=true then _ else _) _ _ s
 rw[if_pos hyes];unfold Builtin.Tuple.tupleIsExact;refine wpAny_bind (wpAny_bind (wpAny_typeOf ht.typeIs (wpAny_pure ?_)));rw[if_pos (by decide)]
 exact wpAny_bind (wpAny_rule (wpAny_pure ⟨_,rfl,wpAny_pure h⟩))
noncomputable def Cp(K:W.Frag):V->Option Int->Option Int->Hp->VK->Prop:=fun x lo hi H Q=>∃a xs,x=.ref a/\SqT K H a xs /\
 if HT.sIx xs.length 0 lo=0/\HT.sIx xs.length xs.length hi=xs.length then Q (.ref a) H else ∀p,H p=none->Q (.ref p) (upd H p (.tup (p4 xs lo hi)))
theorem A0:SlR X (Cp X.K):=by
 intro pins s σ H x v vl vu lo hi sl Q I rx hs pl pu h;obtain⟨a,xs,rfl,hx,h⟩:=h;by_cases hw:HT.sIx xs.length 0 lo=0/\HT.sIx xs.length xs.length hi=xs.length
 ·rw[if_pos hw] at h
  cases rx;obtain⟨its,r,ht,hz⟩:=I.tuple hx;have hlen:its.toArray.size=xs.length:=by rw[List.size_toArray];exact r.length.symm
  exact⟨"tuple",_,PyProof.Rows.slot_tuple_getitem.lookup,ht.typeIs,ip ht hs pl pu (by rw[hlen];exact hw) ⟨.ref a,H,I,rfl,h⟩⟩
 ·rw[if_neg hw] at h
  exact C5 pins s σ H (.ref a) v vl vu lo hi sl Q I rx hs pl pu ⟨a,xs,rfl,hx,hw,h⟩
end
noncomputable def wdD(w:List Int):D:=.tup (w.map D.int)
structure SN(n:Nat)(H:Hp)(S:Addr)(ad:Nat->Addr)(fs:Nat->List D):Prop where
 s:H S=some (.lst ((List.range n).map fun i=>.ref (ad i)))
 l:∀i,i<n->LD H (ad i) (fs i)
open Classical in
noncomputable def eqF(H:Hp)(dx:D)(u:Value):Bool:=if h:∃d,∃x,br x u/\Dat H d x then eqD (Classical.choose h) dx else false
theorem xx{H:Hp}{dx d:D}{x:V}{u:Value}(r:br x u)(h:Dat H d x):eqF H dx u=eqD d dx:=by
 have hex:∃d,∃x,br x u/\Dat H d x:=⟨d,x,r,h⟩;unfold eqF;rw[dif_pos hex];obtain⟨x',r',h'⟩:=Classical.choose_spec hex;have:x'=x:=r'.inj r;subst this;rw[Dat.inj h' h]
theorem o4{H:Hp}{dx:D}:∀ {ds:List D} {xs:List V} {its:List Value},aG H ds xs->aQ xs its->its.any (eqF H dx)=ds.any fun d=>eqD d dx
 | [],xs,its,h,r=>by
  simp only[aG] at h;subst h;cases r;rfl
 |d::ds,xs,its,h,r=>by
  simp only[aG] at h;obtain⟨x,xr,rfl,h1,h2⟩:=h
  cases r with
  |cons r1 r2=>rw[List.any_cons,List.any_cons,xx r1 h1,o4 h2 r2]
theorem rM{H:Hp}:∀ {ds:List D} {xs:List V} {its:List Value},aG H ds xs->aQ xs its->∀u∈its,∃d x,d∈ds/\br x u/\Dat H d x
 | [],xs,its,h,r,u,hu=>by simp only[aG] at h;subst h;cases r;cases hu
 |d::ds,xs,its,h,r,u,hu=>by
  simp only[aG] at h;obtain⟨x,xr,rfl,h1,h2⟩:=h
  cases r with
  |cons r1 r2=>
   rcases List.mem_cons.mp hu with rfl|hu
   ·exact⟨d,x,List.mem_cons_self ..,r1,h1⟩
   ·obtain⟨d',x',m,q⟩:=rM h2 r2 u hu
    exact⟨d',x',List.mem_cons_of_mem _ m,q⟩
theorem vb:∀ {ds:List D} {d:D},d∈ds->dep d<=dA ds
 |e::ds,d,h=>by
  simp only[dA];rcases List.mem_cons.mp h with rfl|h
  ·omega
  ·have:=vb h;omega
noncomputable def inD(dx:D)(ds:List D):Bool:=ds.any fun d=>eqD d dx
noncomputable def Em(neg:Bool):R2:=fun x y H Q=>∃dx ds,Dat H dx x/\(Dat H (.lst ds) y\/Dat H (.tup ds) y)/\dA ds<=90/\Q (.bl (if neg then !inD dx ds else inD dx ds)) H
section
variable{X:Cx}
theorem ou(hu:X.A.units+100<cLine):OpR X (compareOp .NotIn) (Em true):=by
 intro pins s σ H x y v u Q I rx ry h;obtain⟨dx,ds,hx,hy,hdp,q⟩:=h
 have he:∀ {xs:List V} {its:List Value},aG H ds xs->aQ xs its->∀w,w∈its.toArray->SeqAt.EqAt X.A.in1 s w v (eqF H dx w):=fun hd r w hw=>by
  obtain⟨d,z,hm,rz,hz⟩:=rM hd r w (by simpa using hw)
  rw[xx rz hz];exact(oN I 90 d dx z x w v X.A.in1 (Nat.le_trans (vb hm) hdp) (by show X.A.units+1+90<cLine;omega) hz hx rz rx).2.1
 rcases hy with hy|hy
 ·simp only[Dat] at hy
  obtain⟨a,xs,rfl,ha,hd⟩:=hy;cases ry;obtain⟨its,r,pl,_⟩:=I.list (SqL.of ha);refine SeqAt.notIn_listAt (eqF H dx) pl.isList (he hd r) ⟨.bl _,H,I,rfl,?_⟩;rw[show its.toArray.any (eqF H dx)=its.any (eqF H dx) by simp,o4 hd r]
  exact q
 ·simp only[Dat] at hy
  obtain⟨a,xs,rfl,ha,hd⟩:=hy;cases ry;obtain⟨its,r,pl,_⟩:=I.tuple (SqT.of ha);refine SeqAt.notIn_tupleAt (eqF H dx) pl (he hd r) ⟨.bl _,H,I,rfl,?_⟩;rw[show its.toArray.any (eqF H dx)=its.any (eqF H dx) by simp,o4 hd r]
  exact q
end
end L2
namespace L2
open PySem PySem.Spec PyProof.Rows
mutual
noncomputable def pyD:D->PyData
 |.non=>.none
 |.bl b=>.bool b
 |.int i=>.int i
 |.str x=>.str x
 |.tup ds=>.tuple (ei ds)
 |.lst ds=>.list (ei ds)
 |.dk ks=>.dict (ks.map fun k=>(.int k,.int 1))
 |.dt ks=>.dict (ks.map fun k=>(.tuple (k.map .int),.int 1))
noncomputable def ei:List D->List PyData
 | []=>[]
 |d::ds=>pyD d::ei ds
end
noncomputable def io(d:D):Str:=(pyD d).shown
theorem qd{P:Program}{w:World}{h:Heap}:∀ {ks:List Int} {vs:List (Key×Value)} {es:List DictEntry},KV (dkO ks) vs->Pairs (hX P w) es vs ->
  ReadsAll h (es.map (·.key)) (ks.map PyData.int) []/\ReadsAll h (es.map (·.val)) (ks.map fun _=>PyData.int 1) []
 | [],vs,es,r,p=>by
  cases r;cases p;exact⟨.nil,.nil⟩
 |k::ks,vs,es,r,p=>by
  cases r with
  |cons r1 r2=>
   cases p with
   |cons hk hv p2=>
    obtain⟨e1,e2⟩:=r1;obtain⟨q1,q2⟩:=qd r2 p2;dsimp only at e1 e2;rw[←e1] at hk
    rcases bK (k:=Sum.inl k) hk with⟨i,t,e3,e4⟩|⟨x,t,e3,e4⟩
    ·cases e3
     obtain⟨u,e2⟩:=e2;refine⟨?_,?_⟩
     ·show ReadsAll h (_::_) (_::_) ([]++[])
      refine .cons ?_ q1;dsimp only;rw[e4];exact .int k t
     ·show ReadsAll h (_::_) (_::_) ([]++[])
      refine .cons ?_ q2;dsimp only;rw[hv,e2];exact .int 1 u
    ·cases e3
theorem mM{h:Heap}:∀ {k:List Int} {its:List Value},aQ ((k.map Sum.inl).map kV) its->ReadsAll h its (k.map PyData.int) []
 | [],its,r=>by cases r;exact .nil
 |i::k,its,r=>by
  cases r with
  |cons r1 r2=>
   obtain⟨u,rfl⟩:=r1;exact ReadsAll.cons (as:=[]) (bs:=[]) (.int i u) (mM r2)
section
variable{X:Cx}{pins:List (Addr×Obj)}{σ:St}{H:Hp}{s:Shared}
theorem q8(I:Inv X pins σ H s):∀ {ks:List (List Int)} {xs:List (List Key×Addr×Value)},Paired (fun(p:List Key×V) (q:List Key×Addr×Value)=>p.1=q.1/\H q.2.1=some (.tup (p.1.map kV))/\br p.2 q.2.2) (dtO ks) xs ->
  ReadsAll s.heap ((xs.map (entryOfKey (tupleKind (hX X.prog X.w)))).map (·.key)) (ks.map fun k=>PyData.tuple (k.map .int)) []/\ReadsAll s.heap ((xs.map (entryOfKey (tupleKind (hX X.prog X.w)))).map (·.val)) (ks.map fun _=>PyData.int 1) []
 | [],xs,r=>by cases r;exact⟨.nil,.nil⟩
 |k::ks,xs,r=>by
  cases r with
  |cons r1 r2=>
   obtain⟨e1,e2,e3⟩:=r1;obtain⟨q1,q2⟩:=q8 I r2;obtain⟨its,rv,⟨o,h1,h2,n,h3⟩,_⟩:=I.tuple (SqT.of (K:=X.K) e2);obtain⟨u,e3⟩:=e3;refine⟨?_,?_⟩
   ·show ReadsAll s.heap (_::_) (_::_) ([]++[])
    refine .cons ?_ q1;show Reads s.heap (.ref _) (.tuple _) [];exact .tuple h1 h2 h3 (by simpa using mM rv)
   ·show ReadsAll s.heap (_::_) (_::_) ([]++[])
    refine .cons ?_ q2;dsimp only[entryOfKey];rw[e3];exact .int 1 u
mutual
theorem lZ(I:Inv X pins σ H s):∀ {d:D} {v:V} {u:Value},Dat H d v->br v u->∃as,Reads s.heap u (pyD d) as/\∀b∈as,∃o,H b=some o
 |.non,v,u,h,r=>by
  simp only[Dat] at h;subst h;cases r;exact⟨_,.none,by simp⟩
 |.bl b,v,u,h,r=>by
  simp only[Dat] at h;subst h;cases r;exact⟨_,.bool b,by simp⟩
 |.int i,v,u,h,r=>by
  simp only[Dat] at h;subst h;obtain⟨t,rfl⟩:=r;exact⟨_,.int i t,by simp⟩
 |.str x,v,u,h,r=>by
  simp only[Dat] at h;subst h;obtain⟨t,rfl⟩:=r;exact⟨_,.str x t,by simp⟩
 |.tup ds,v,u,h,r=>by
  simp only[Dat] at h;obtain⟨a,xs,rfl,ha,hd⟩:=h;cases r;obtain⟨its,rv,⟨o,h1,h2,n,h3⟩,_⟩:=I.tuple (SqT.of ha);obtain⟨as,hr,hm⟩:=g6 I hd rv;exact⟨_,.tuple h1 h2 h3 (by simpa using hr),hm⟩
 |.lst ds,v,u,h,r=>by
  simp only[Dat] at h;obtain⟨a,xs,rfl,ha,hd⟩:=h;cases r;obtain⟨its,rv,⟨o,n,h1,h2,h3,h4⟩,_⟩:=I.list (SqL.of ha);obtain⟨as,hr,hm⟩:=g6 I hd rv;refine⟨_,.list h1 h2 h4 (by simpa using hr),fun b hb=>?_⟩
  rcases List.mem_cons.mp hb with rfl|hb
  ·exact⟨_,ha⟩
  ·exact hm b hb
 |.dk ks,v,u,h,r=>by
  simp only[Dat] at h;obtain⟨a,xs,rfl,ha,rfl⟩:=h;cases r;obtain⟨_,_,vs,kv,o,es,ep,e1,⟨c1,_,_⟩,e2,_,p,_⟩:=I.hok _ _ ha;obtain⟨q1,q2⟩:=qd (h:=s.heap) kv p;refine⟨_,.dict (kvs:=xs.map fun k=>(PyData.int k,PyData.int 1)) e1 c1 e2 (by simpa[List.map_map,Function.comp_def] using q1) (by simpa[List.map_map,Function.comp_def] using q2),fun b hb=>?_⟩
  simp only[List.append_nil,List.mem_singleton] at hb;subst hb;exact⟨_,ha⟩
 |.dt ks,v,u,h,r=>by
  simp only[Dat] at h;obtain⟨a,xs,rfl,ha,rfl⟩:=h;cases r;obtain⟨_,_,ys,pr,o,es,ep,e1,⟨c1,_,_⟩,e2,e3,_⟩:=I.hok _ _ ha;obtain⟨q1,q2⟩:=q8 I pr;rw[←e3] at q1 q2
  refine⟨_,.dict (kvs:=xs.map fun k:List Int=>(PyData.tuple (k.map PyData.int),PyData.int 1)) e1 c1 e2 (by simpa[List.map_map,Function.comp_def] using q1) (by simpa[List.map_map,Function.comp_def] using q2),fun b hb=>?_⟩
  simp only[List.append_nil,List.mem_singleton] at hb;subst hb;exact⟨_,ha⟩
theorem g6(I:Inv X pins σ H s):∀ {ds:List D} {xs:List V} {us:List Value},aG H ds xs->aQ xs us->∃as,ReadsAll s.heap us (ei ds) as/\∀b∈as,∃o,H b=some o
 | [],xs,us,h,r=>by
  simp only[aG] at h;subst h;cases r;exact⟨_,.nil,by simp⟩
 |d::ds,xs,us,h,r=>by
  simp only[aG] at h;obtain⟨x,xr,rfl,h1,h2⟩:=h
  cases r with
  |cons r1 r2=>
   obtain⟨as,a1,m1⟩:=lZ I h1 r1;obtain⟨bs,b1,m2⟩:=g6 I h2 r2;exact⟨_,.cons a1 b1,fun b hb=>(List.mem_append.mp hb).elim (m1 b) (m2 b)⟩
end
end
mutual
noncomputable def wt:D->Nat
 |.non=>4
 |.bl _=>5
 |.int i=>i.natAbs.log2+3
 |.str x=>(reprText x).length
 |.tup ds=>wts ds+3
 |.lst ds=>wts ds+2
 |.dk ks=>(ks.map fun k=>k.natAbs.log2+10).sum+2
 |.dt ks=>(ks.map fun k=>(k.map fun i=>i.natAbs.log2+5).sum+10).sum+2
noncomputable def wts:List D->Nat
 | []=>0
 |d::ds=>wt d+2+wts ds
end
mutual
noncomputable def fit:D->Bool
 |.int i=>decide (i.natAbs.log2<1920)
 |.tup ds=>fits ds
 |.lst ds=>fits ds
 |.dk ks=>ks.all fun i=>decide (i.natAbs.log2<1920)
 |.dt ks=>ks.all fun k=>k.all fun i=>decide (i.natAbs.log2<1920)
 |_=>true
noncomputable def fits:List D->Bool
 | []=>true
 |d::ds=>fit d && fits ds
end
theorem nM:∀ {k:List Int},(k.all fun i=>decide (i.natAbs.log2<1920))=true->PyData.showableAll (k.map .int)=true
 | [],_=>rfl
 |i::k,h=>by
  simp only[List.all_cons,Bool.and_eq_true] at h;simp only[List.map_cons,PyData.showableAll,PyData.showable,Bool.and_eq_true];exact⟨h.1,nM h.2⟩
theorem uG:∀ {ks:List Int},(ks.all fun i=>decide (i.natAbs.log2<1920))=true->PyData.showableKv (ks.map fun k=>(PyData.int k,PyData.int 1))=true
 | [],_=>rfl
 |i::k,h=>by
  simp only[List.all_cons,Bool.and_eq_true] at h;simp only[List.map_cons,PyData.showableKv,PyData.showable,Bool.and_eq_true];exact⟨⟨h.1,by decide⟩,uG h.2⟩
theorem u8:∀ {ks:List (List Int)},(ks.all fun k=>k.all fun i=>decide (i.natAbs.log2<1920))=true->PyData.showableKv (ks.map fun k=>(PyData.tuple (k.map .int),PyData.int 1))=true
 | [],_=>rfl
 |i::k,h=>by
  simp only[List.all_cons,Bool.and_eq_true] at h;simp only[List.map_cons,PyData.showableKv,PyData.showable,Bool.and_eq_true];exact⟨⟨nM h.1,by decide⟩,u8 h.2⟩
mutual
theorem lU:∀ {d:D},fit d=true->(pyD d).showable=true
 |.non,h=>rfl
 |.bl b,h=>rfl
 |.int i,h=>h
 |.str x,h=>rfl
 |.tup ds,h=>km (ds:=ds) (by simpa only[fit] using h)
 |.lst ds,h=>km (ds:=ds) (by simpa only[fit] using h)
 |.dk ks,h=>uG (ks:=ks) (by simpa only[fit] using h)
 |.dt ks,h=>u8 (ks:=ks) (by simpa only[fit] using h)
theorem km:∀ {ds:List D},fits ds=true->PyData.showableAll (ei ds)=true
 | [],h=>rfl
 |d::ds,h=>by
  simp only[fits,Bool.and_eq_true] at h;simp only[ei,PyData.showableAll,Bool.and_eq_true];exact⟨lU h.1,km h.2⟩
end
mutual
theorem u6:∀(d:D),dep d<=1000->(pyD d).hasDict=false/\(pyD d).depth=dep d
 |.non,_=>by simp[pyD,PyData.depth,PyData.hasDict,dep]
 |.bl b,_=>by simp[pyD,PyData.depth,PyData.hasDict,dep]
 |.int i,_=>by simp[pyD,PyData.depth,PyData.hasDict,dep]
 |.str x,_=>by simp[pyD,PyData.depth,PyData.hasDict,dep]
 |.tup ds,h=>by
  simp only[dep] at h;obtain⟨a,b⟩:=mh ds (by omega)
  simp only[pyD,PyData.depth,PyData.hasDict,dep,a,b,true_and]
 |.lst ds,h=>by
  simp only[dep] at h;obtain⟨a,b⟩:=mh ds (by omega)
  simp only[pyD,PyData.depth,PyData.hasDict,dep,a,b,true_and]
 |.dk ks,h=>by simp[dep] at h
 |.dt ks,h=>by simp[dep] at h
theorem mh:∀(ds:List D),dA ds<=1000->PyData.hasDictAll (ei ds)=false/\PyData.depthAll (ei ds)=dA ds
 | [],_=>by simp[ei,PyData.depthAll,PyData.hasDictAll,dA]
 |d::ds,h=>by
  simp only[dA] at h;obtain⟨a,b⟩:=u6 d (by omega)
  obtain⟨a',b'⟩:=mh ds (by omega)
  simp only[ei,PyData.hasDictAll,PyData.depthAll,dA,a,a',b,b',Bool.or_self,true_and]
end
theorem kR:∀(ts:List Str)(k:Nat)(acc:Str),(textFrom k acc ts).length<=acc.length+(ts.map fun t=>t.length+2).sum
 | [],k,acc=>by simp[textFrom]
 |t::ts,k,acc=>by
  have ih:=kR ts (k+1) (acc++(if k>0 then ", " else "":String)++t)
  have e:(acc++(if k>0 then ", " else "":String)++t).length<=acc.length+2+t.length:=by
   rw[strLen_append,strLen_append];have:(((if k>0 then ", " else "":String):Str)).length<=2:=by split<;>decide
   omega
  simp only[textFrom,List.map_cons,List.sum_cons];omega
theorem ju:∀ts:List Str,(Str.join ", " ts).length<=(ts.map fun t=>t.length+2).sum
 | []=>by simp[Str.join];decide
 | [x]=>by
  show x.length<=_;simp
 |x::y::r=>by
  have ih:=ju (y::r);show (x ++ ", "++Str.join ", " (y::r)).length<=_;rw[strLen_append,strLen_append];have e2:((", ":String):Str).length=2:=rfl;simp only[List.map_cons,List.sum_cons] at ih ⊢;omega
theorem k9(i:Int):((toString i:String):Str).length<=i.natAbs.log2+3:=by
 have h:=int_text_length_le (a:=i) (k:=i.natAbs.log2+1) (Nat.succ_pos _) (Nat.lt_succ_self _);rw[show ((toString i:String):Str).length=(toString i).length from PySem.ofString_length _]
 omega
theorem re:∀(k:List Int),((PyData.shownAll (k.map .int)).map fun t=>t.length+2).sum<=(k.map fun i=>i.natAbs.log2+5).sum
 | []=>by simp[PyData.shownAll]
 |i::k=>by
  have h1:=k9 i;have h2:=re k;simp only[List.map_cons,PyData.shownAll,PyData.shown,List.sum_cons];omega
theorem qx(ps:List Str):(dictText ps).length<=(ps.map fun t=>t.length+2).sum+2:=by
 unfold dictText;rw[strLen_append,strLen_append];have h1:=ju ps;have h2:(("{":String):Str).length=1:=rfl;have h3:(("}":String):Str).length=1:=rfl;omega
theorem BU:∀(ks:List Int),((PyData.shownKv (ks.map fun k=>(PyData.int k,PyData.int 1))).map fun t=>t.length+2).sum<=(ks.map fun k=>k.natAbs.log2+10).sum
 | []=>by simp[PyData.shownKv]
 |i::k=>by
  have h1:=k9 i;have h2:=BU k;have h3:=k9 1;have h4:((1:Int).natAbs).log2=0:=by decide
  have h5:((": ":String):Str).length=2:=rfl;simp only[List.map_cons,PyData.shownKv,PyData.shown,List.sum_cons,strLen_append];have h6:((toString (1:Int):String):Str).length=1:=rfl;omega
theorem Cq:∀(ks:List (List Int)),((PyData.shownKv (ks.map fun k=>(PyData.tuple (k.map .int),PyData.int 1))).map fun t=>t.length+2).sum<=(ks.map fun k=>(k.map fun i=>i.natAbs.log2+5).sum+10).sum
 | []=>by simp[PyData.shownKv]
 |i::k=>by
  have h1:=re i;have h2:=Cq k;have h5:((": ":String):Str).length=2:=rfl
  have h7:(tupleText (PyData.shownAll (i.map .int))).length<=(i.map fun i=>i.natAbs.log2+5).sum+3:=by
   unfold tupleText;rw[strLen_append,strLen_append];have h1:=ju (PyData.shownAll (i.map .int));have h2:(("(":String):Str).length=1:=rfl;have h3:(((if (PyData.shownAll (i.map .int)).length == 1 then ",)" else ")":String)):Str).length<=2:=by split<;>decide
   omega
  simp only[List.map_cons,PyData.shownKv,PyData.shown,List.sum_cons,strLen_append];have h6:((toString (1:Int):String):Str).length=1:=rfl;omega
mutual
theorem yS:∀(d:D),(pyD d).shown.length<=wt d
 |.non=>by show (("None":String):Str).length<=4;decide
 |.bl b=>by cases b<;>(show (_:Str).length<=5)<;>decide
 |.int i=>k9 i
 |.str x=>Nat.le_refl _
 |.tup ds=>by
  have h:=sL ds;show (tupleText (PyData.shownAll (ei ds))).length<=wts ds+3;unfold tupleText;rw[strLen_append,strLen_append];have h1:=ju (PyData.shownAll (ei ds));have h2:(("(":String):Str).length=1:=rfl;have h3:(((if (PyData.shownAll (ei ds)).length == 1 then ",)" else ")":String)):Str).length<=2:=by split<;>decide
  omega
 |.lst ds=>by
  have h:=sL ds;show (listText (PyData.shownAll (ei ds))).length<=wts ds+2;unfold listText;rw[strLen_append];have h1:=kR (PyData.shownAll (ei ds)) 0 "[";have h2:(("[":String):Str).length=1:=rfl;have h3:(("]":String):Str).length=1:=rfl;omega
 |.dk ks=>Nat.le_trans (qx _) (Nat.add_le_add_right (BU ks) 2)
 |.dt ks=>Nat.le_trans (qx _) (Nat.add_le_add_right (Cq ks) 2)
theorem sL:∀(ds:List D),((PyData.shownAll (ei ds)).map fun t=>t.length+2).sum<=wts ds
 | []=>by simp[ei,PyData.shownAll,wts]
 |d::ds=>by
  have h1:=yS d;have h2:=sL ds;simp only[ei,PyData.shownAll,List.map_cons,List.sum_cons,wts];omega
end
section
variable{X:Cx}
theorem mL(hg:X.A.guards=some [])(hu:X.A.units+100<cLine):de X (.builtin "repr") (fun xs H Q=>∃(a:Addr)(d:D),xs=[.ref a]/\Dat H d (.ref a)/\dep d<=90/\fit d=true/\wt d<=1000000/\Q (.str (io d)) H):=by
 intro pins s σ H xs us Q I r h;obtain⟨a,d,rfl,hd,hdp,hf,hw,q⟩:=h;obtain⟨u,rfl,rx⟩:=gE r;have ru:=rx;cases rx;obtain⟨as,hr,_⟩:=lZ I hd ru;obtain⟨nd,dp⟩:=u6 d (by omega)
 refine repr_of_reads' hr (lU hf) (fun z=>by rw[nd] at z;cases z) hg (by rw[dp];omega) (fun _ _ e=>e) (fun h' t tk hk=>?_) (Nat.le_trans (yS d) (Nat.le_trans hw (by decide)))
 exact⟨.str (io d),H,I.kept (t':=tk) hk,⟨t,rfl⟩,q⟩
theorem gC(hg:X.A.guards=some [])(hu:X.A.units+100<cLine)(hs:(X.K.lookup sysModules).isSome=true):de X (.builtin "repr") (fun xs H Q=>∃(a:Addr)(d:D),xs=[.ref a]/\Dat H d (.ref a)/\(pyD d).depth<=90/\fit d=true/\wt d<=1000000/\Q (.str (io d)) H):=by
 intro pins s σ H xs us Q I r h;obtain⟨a,d,rfl,hd,hdp,hf,hw,q⟩:=h;obtain⟨u,rfl,rx⟩:=gE r;have ru:=rx;cases rx;obtain⟨as,hr,hm⟩:=lZ I hd ru
 have hn:sysModules ∉ as:=fun z=>by
  obtain⟨o,e⟩:=hm _ z;obtain⟨ob,e2⟩:=Option.isSome_iff_exists.mp hs;have h1:=I.ok.mod.kin _ _ e2;have h2:=I.base.free _ _ (I.ok.bs _ _ h1).1 (I.ok.bs _ _ h1).2 (I.ok.noex _ _ h1);rw[e] at h2;cases h2
 refine repr_of_reads' hr (lU hf) (fun _=>hn) hg (by omega) (fun _ _ e=>e) (fun h' t tk hk=>?_) (Nat.le_trans (yS d) (Nat.le_trans hw (by decide)))
 exact⟨.str (io d),H,I.kept (t':=tk) hk,⟨t,rfl⟩,q⟩
end
section
variable{X:Cx}{pos:Pos}
theorem oq(K:W.Frag)(h:X.K=K)(hu:X.A.units+100<cLine):OpR X (compareOp .NotEq) (fun x y H Q=>∃a b xs,x=.ref a/\y=.ref b/\SqL K H a xs/\SqL K H b []/\Q (.bl (!xs.isEmpty)) H):=h ▸ yq hu
end
section
variable{X:Cx}
theorem av{es fs x1 pos te t}(ha:PE X (.Tuple fs x1 pos) te)(hr:PA X es t):PA X (.Tuple fs x1 pos::es) (om te t):=ab ha hr (by rfl)
theorem bL{es fs pos te t}(ha:PE X (.List fs pos) te)(hr:PA X es t):PA X (.List fs pos::es) (om te t):=ab ha hr (by rfl)
theorem af{es c j pos te t}(ha:PE X (.Constant c j pos) te)(hr:PA X es t):PA X (.Constant c j pos::es) (om te t):=ab ha hr (by rfl)
end
end L2
namespace L2
open PySem PySem.Spec PySem.Calls PyProof.Rows
noncomputable def Frz(H H':Hp):Prop:=∀b o u,H b=some (.frz o u)->H' b=some (.frz o u)
noncomputable def FD(K:W.Frag)(c P:Addr):Bool:=match K.lookup c with
 | some o=>(o.cls == .type "code") && c != P && (match o.data with
  | .fields vs=>(vs[11]? == some (.ref P)) && (match vs.getD 18 .none,vs.getD 7 .none,vs.getD 9 .none,vs.getD 10 .none with
   |.str _ _,.int _ _,.bool _,.int _ _=>true
   |_,_,_,_=>false)
  |_=>false)
 |none=>false
structure Clo(P:Program)(w:World)(K:W.Frag)(mg:Str->Option Value)(base:Heap)(H₀:Hp)(k:Nat)(f:Addr)(n:Nat)(sp:Sp):Prop where
 fn:(∃(oc:Value)(od:Option Addr)(fd:FuncData) (sl:Array (Option Value)) (u:HO),H₀ f=some (.frz ⟨oc,od,.func fd,sl⟩ u))\/∃(oc:Value)(od:Option Addr)(fd:FuncData) (sl:Array (Option Value)),K.lookup f=some ⟨oc,od,.func fd,sl⟩
 len:∀vs H Q E,sp vs H Q E->vs.length=n
 run:∀(A:Around)(outer:List Env)(s:Shared)(H:Hp)(us:List Value)(vs:List V)(Q:VK)(E:XK),eB k A->tX P w K mg base A outer s H->Frz H₀ H->aQ vs us->sp vs H Q E ->
  codeAny (model P w) A (.call (.ref f) ⟨us,[]⟩) (CR CX0 outer P w H s Q E) s
structure EI(ps cs:List Str)(sc:Scope):Prop where
 kind:sc.kind=.function
 co:sc.isCoroutine=false
 gen:sc.isGenerator=false
 nd:(ps++cs).Nodup
 par:∀x∈ps,sc.names.lookup x=some .local
 free:∀x∈cs,sc.names.lookup x=some .free
 has:∀y∈sc.names,y.2≠.cell/\(y.2=.free->y.1∈cs)
structure FP(K:W.Frag)(x qual:Str)(st:Stmt)(f:Addr)(fd:FuncData)(c p:Addr):Prop where
 ex:∃(oc:Value)(od:Option Addr)(kV doc pm:Value)(an:Option Addr)(ct:Value) (osl:Array (Option Value)),
  fd=W.fnOf x qual (defArgs st) (defBody st) (defScope st) .none kV doc pm an (.ref c) ct/\K.lookup f=some ⟨oc,od,.func fd,osl⟩/\W.codeIn K (.ref c) qual=true
 tab:(x,c,p)∈kX K
 hd:FD K c p=true
noncomputable def ndB:List Nat->Bool
 | []=>true
 |a::r=>!(r.contains a) && ndB r
theorem vA{α:Type}(f:α->Nat):∀ {l:List α} {q:α},ndB (l.map f)=true->q∈l->l.find? (fun t=>f t == f q)=some q
 | [],_,_,m=>nomatch m
 |a::r,q,h,m=>by
  rw[List.map_cons,ndB,Bool.and_eq_true] at h;obtain⟨h1,h2⟩:=h;rcases List.mem_cons.mp m with e|m
  ·subst e
   rw[List.find?_cons_of_pos (by simp)]
  ·have ne:(f a == f q)=false:=by
    cases z:f a == f q with
    |false=>rfl
    |true=>
     have z':f a=f q:=eq_of_beq z
     have:(r.map f).contains (f a)=true:=by
      rw[z'];simpa using⟨q,m,rfl⟩
     rw[this] at h1;cases h1
   rw[List.find?_cons_of_neg (by rw[ne];simp)]
   exact vA f h2 m
noncomputable def nw(K:W.Frag)(b:Addr):Option HO:=((kX K).find? fun t=>t.2.2 == b).map fun t=>HO.tbl #[.str (t.1 ++ ".<locals>." ++ "<lambda>") 0]
theorem lV{K:W.Frag}{b:Addr}{o:HO}(e:nw K b=some o):∃t∈kX K,t.2.2=b/\o=HO.tbl #[.str (t.1 ++ ".<locals>." ++ "<lambda>") 0]:=by
 unfold nw at e
 cases q:(kX K).find? (fun t=>t.2.2 == b) with
 |none=>rw[q] at e;cases e
 |some t=>
  rw[q] at e;cases e;have:=List.find?_some q;exact⟨t,List.mem_of_find?_eq_some q,eq_of_beq this,rfl⟩
noncomputable def yF(K:W.Frag)(names:List Str):Bool:=W.noTabs K && ndB ((kX K).map fun t=>t.2.2) && (kX K).all fun t=>names.contains t.1
theorem Ao{K:W.Frag}{t:Str×Addr×Addr}(h:t∈kX K):W.tabIn K t.1=some t.2:=by
 unfold kX at h;split at h
 ·obtain⟨e,_,q⟩:=List.mem_filterMap.mp h
  split at q
  ·rename_i x tk hx
   cases z:W.tabIn K x with
   |none=>rw[z] at q;cases q
   |some r=>rw[z] at q;cases q;exact z
  ·cases q
 ·cases h
theorem xc{P:Program}{w:World}{K:W.Frag}{mg mb:Str->Option Value}{CX:CXT}{k:Nat}{fa a:Addr}{fd:FuncData}{x:Str}{sp:Sp}{s₁:Shared}{vs:List Value}{ns:List Int}(KX:K.In s₁.heap)(hns:s₁.heap.Ns mainGlobals mg)(hb:s₁.heap.Ns builtinsNs mb)(hbb:∀x:Str,x≠"__name__"->mb x=bootBuiltins x)(hlim:s₁.heap.NoLimit)(hg:s₁.gens=#[])(hbm:∃bm ob,mg "__builtins__"=some (.ref bm)/\bm≠builtinsNs/\s₁.heap.get? bm=some ob/\ob.cls=.type "module"/\ob.dict=some builtinsNs/\ob.data=.plain)(hT:∀t∈kX K,W.CodeHd s₁.heap t.2.1 t.2.2/\s₁.heap.get? t.2.2=some (W.tabObj #[]))(nt:W.noTabs K=true)(nd:ndB ((kX K).map fun t=>t.2.2)=true)(ha:s₁.heap.get? a=some { cls:=.type "list",data:=.seq vs.toArray })(hi:IntsAre vs ns)(hl:ns.length<=sizeLine)(hr:eB k callerA)(F:∀base:Heap,aO P w K mg base CX k fa fd [x] sp)(hbind:∀(s:Shared)(u:Value),BindsTo s fd ⟨[u],[]⟩ [(x,u)])(hsp:∀H:Hp,SqL K H a (ns.map V.int)->sp [.ref a] H (fun v _=>v=.bl true) fun _ _ _=>False)(hCX:∀H e s',CX [] H s₁ (fun _ _ _=>False) e s'->False):
  codeAny (model P w) callerA (.call (.ref fa) ⟨[.ref a],[]⟩) (fun r s'=>r=.ok (.ret (.bool true))/\OldK s₁.heap s'.heap/\s'.os=s₁.os/\AllBare s'.gens) s₁:=by
 have rv:=nJ hi;have lenV:=hi.length
 have tabNot:∀b o,K.lookup b=some o->nw K b=none:=fun b o e=>by
  cases q:nw K b with
  |none=>rfl
  |some u=>
   obtain⟨t,ht,rfl,_⟩:=lV q;have e1:=(hT t ht).2;rw[KX _ _ e] at e1;cases e1;have h2:=List.all_eq_true.mp nt _ (W.mem_of_lookupK e);exact absurd (show false=true from h2) Bool.false_ne_true
 have tabA:nw K a=none:=by
  cases q:nw K a with
  |none=>rfl
  |some u=>
   obtain⟨t,ht,e,_⟩:=lV q;have e1:=(hT t ht).2;rw[e,ha] at e1;cases e1
 have core:∀H:Hp,(∀b,b≠a->H b=nw K b)->(H a=none\/(K.lookup a=none/\H a=some (.frz { cls:=.type "list",data:=.seq vs.toArray } (.lst (ns.map V.int)))))->SqL K H a (ns.map V.int) ->
   codeAny (model P w) callerA (.call (.ref fa) ⟨[.ref a],[]⟩) (fun r s'=>r=.ok (.ret (.bool true))/\OldK s₁.heap s'.heap/\s'.os=s₁.os/\AllBare s'.gens) s₁:=by
  intro H hH hA hS
  have what:∀b u,H b=some u->(b=a/\K.lookup a=none/\u=.frz { cls:=.type "list",data:=.seq vs.toArray } (.lst (ns.map V.int)))\/∃t∈kX K,t.2.2=b/\u=HO.tbl #[.str (t.1 ++ ".<locals>." ++ "<lambda>") 0]:=fun b u e=>by
   by_cases hb:b=a
   ·subst hb
    rcases hA with z|⟨z1,z2⟩
    ·rw[z] at e;cases e
    ·rw[z2] at e;cases e
     exact .inl ⟨rfl,z1,rfl⟩
   ·rw[hH b hb] at e
    exact .inr (lV e)
  have hok:HOk P w H s₁.heap:=fun b u e=>by
   rcases what b u e with⟨rfl,_,rfl⟩|⟨t,ht,rfl,rfl⟩
   ·exact⟨ha,by rw[List.length_map];exact hl,vs,_,rv,ha⟩
   ·exact⟨#[],(hT t ht).2,trivial,fun pos cv q=>by cases q⟩
  have tt:wK K H:=fun t ht=>by
   refine⟨#[.str (t.1 ++ ".<locals>." ++ "<lambda>") 0],?_,rfl⟩
   have ne:t.2.2≠a:=fun z=>by
    have e1:=(hT t ht).2;rw[z,ha] at e1;cases e1
   rw[hH _ ne];unfold nw;rw[vA (fun t:Str×Addr×Addr=>t.2.2) nd ht];rfl
  have base_of:∀ {b:Addr} {o:Obj},s₁.heap.get? b=some o->H b=none->(pU s₁.heap H).get? b=some o:=fun e n=>yI e n
  have freeB:∀ {b:Addr} {o:Obj},s₁.heap.get? b=some o->o.cls≠.none->o.cls≠.type "list"->H b=none:=fun {b o} e c1 c2=>by
   cases q:H b with
   |none=>rfl
   |some u=>
    rcases what b u q with⟨rfl,_,_⟩|⟨t,ht,rfl,_⟩
    ·rw[ha] at e;cases e;exact absurd rfl c2
    ·rw[(hT t ht).2] at e;cases e;exact absurd rfl c1
  have noD:∀ {b:Addr} {o:Obj} {es:Array DictEntry} {ep:Nat},s₁.heap.get? b=some o->o.data=.dict es ep->H b=none:=fun {b o es ep} e d=>by
   cases q:H b with
   |none=>rfl
   |some u=>
    rcases what b u q with⟨rfl,_,_⟩|⟨t,ht,rfl,_⟩
    ·rw[ha] at e;cases e;cases d
    ·rw[(hT t ht).2] at e;cases e;cases d
  have nsK:∀ {b:Addr} {m:Str->Option Value},s₁.heap.Ns b m->(pU s₁.heap H).Ns b m:=fun {b m} ⟨o,es,ep,e,d,r⟩=>⟨o,es,ep,base_of e (noD e d),d,r⟩
  have hKb : K.In (pU s₁.heap H):=fun b o e=>base_of (KX b o e) (by
   cases q:H b with
   |none=>rfl
   |some u=>
    by_cases hb:b=a
    ·subst hb
     rcases hA with z|⟨z1,_⟩
     ·rw[z] at q;cases q
     ·rw[e] at z1;cases z1
    ·rw[hH b hb,tabNot b o e] at q;cases q)
  have hM:Mod K mg (pU s₁.heap H):=⟨hKb,nsK hns,⟨mb,nsK hb,hbb⟩,let ⟨mc,h1,h2⟩:=hlim;⟨mc,nsK h1,h2⟩,
   let ⟨bm,ob,b1,b2,b3,b4,b5,b6⟩:=hbm;⟨bm,ob,b1,b2,base_of b3 (freeB b3 (by rw[b4];nofun) (by rw[b4];decide)),b4,b5,b6⟩⟩
  have e0:tX P w K mg (pU s₁.heap H) callerA [] s₁ H:=⟨rfl,hM,fun b o e=>Bn e,Nat.le_of_eq (wJ _ _),trivial,fun b hb=>absurd (show b∈([]:List Addr) from hb) (by simp),tt,hok,.of_eq hg⟩
  refine codeAny_mono ((F _).run callerA [] s₁ H ⟨[.ref a],[]⟩ [.ref a] [.ref a] _ _ hr e0 (hbind s₁ (.ref a)) (.cons rfl .nil) (hsp H hS)) fun r s' h=>?_
  cases r with
  |error e=>exact(hCX H e s' h).elim
  |ok fl=>
   cases fl with
   |next=>exact False.elim h
   |brk=>exact False.elim h
   |cont=>exact False.elim h
   |ret u=>
    obtain⟨v,H',os,bare,un,hok',r',q⟩:=h;have q':v=.bl true:=q;subst q';obtain rfl:u=Value.bool true:=r';refine⟨rfl,⟨fun b o e=>?_,fun b o e=>un.there b o e (by simp)⟩,os,bare⟩
    cases q:H b with
    |none=>exact .inl (un.keep b o e q (by intro z;exact absurd (show b∈([]:List Addr) from z) (by simp)) (by simp))
    |some u=>
     rcases what b u q with⟨rfl,_,rfl⟩|⟨t,ht,rfl,rfl⟩
     ·have z2:=un.frzs _ _ _ q
      obtain⟨e1,_⟩:=hok _ _ q;obtain⟨e2,_⟩:=hok' _ _ z2;rw[e] at e1;cases e1;exact .inl e2
     ·obtain⟨more,z2⟩:=un.tbls _ _ q
      obtain⟨qs,e2,_⟩:=hok' _ _ z2;have e1:=(hT t ht).2;rw[e] at e1;obtain rfl:=Option.some.inj e1;exact .inr (.inl ⟨((hT t ht).1.tab (hT t ht).2).isCodeTable,rfl,#[],qs,rfl,by rw[Array.empty_append];exact e2⟩)
 cases hk:K.lookup a with
 |some o=>
  have e:=KX a o hk;rw[ha] at e;cases e;exact core (fun b=>nw K b) (fun _ _=>rfl) (.inl tabA) (.inr ⟨_,vs.toArray,_,hk,rfl,rfl,rfl,by rw[List.size_toArray,lenV];exact hl,by simpa using rv⟩)
 |none=>
  refine core (fun b=>if b=a then some (.frz { cls:=.type "list",data:=.seq vs.toArray } (.lst (ns.map V.int))) else nw K b) (fun b hb=>if_neg hb) (.inr ⟨hk,if_pos rfl⟩) (.inl (.inr ⟨_,if_pos rfl⟩))
theorem xp{l:W.OpenLaw}{n k:Nat}{q:Program}{loose:List Str}{XP:(Str->Option Value)->Heap->Prop}{YP:World->Heap->Prop}{d:DefRec}{K:Params->W.Frag}{CX:CXT}{sp:W.Frag->Sp}{x:Str}(hn:l.most=some n)(hn2:n<=sizeLine)(hdf:d.params.defaults=[])(hr:eB k callerA)(hY:∀(w:World)(h:Heap),YP w h->(K w.params).In h)(tabs:∀w:World,yF (K w.params) ((recsOf q).map (·.name))=true)
  (F:∀(w:World)(mg:Str->Option Value)(fa:Addr)(h:Heap),(K w.params).In h->h.Ns mainGlobals mg->mg d.name=some (.ref fa) ->
   ∃fd:FuncData,(∀(s:Shared)(u:Value),BindsTo s fd ⟨[u],[]⟩ [(x,u)])/\∀base:Heap,aO l.prog w (K w.params) mg base CX k fa fd [x] (sp (K w.params)))
  (hsp:∀(K:W.Frag)(H:Hp)(a:Addr)(ns:List Int),ns.length<=n->DL H->SqL K H a (ns.map V.int)->sp K [.ref a] H (fun v _=>v=.bl true) fun _ _ _=>False)
  (hCX:∀(H:Hp)(s:Shared)(e:Value)(s':Shared),CX [] H s (fun _ _ _=>False) e s'->False) :
  W.WalkO q loose XP YP l.row.toRowW d [] (fun f vs=>PySem.call f vs):=by
 refine Att.qV hn hdf fun w s₀ s₁ mg mb fa o pm cd doc a vs ns G Y ho hd hcd hmg hobj hints hlen hg=>?_;have KX:=hY w _ Y;have tb:=tabs w;unfold yF at tb;rw[Bool.and_eq_true,Bool.and_eq_true] at tb;obtain⟨⟨t1,t2⟩,t3⟩:=tb;obtain⟨fd,hb,hF⟩:=F w mg fa _ KX G.T.g hmg;refine xc KX G.T.g G.T.b G.T.builtins G.T.nolimit hg G.T.bmain (fun t ht=>?_) t1 t2 hobj hints (Nat.le_trans hlen hn2) hr hF hb (fun H hS=>hsp _ H a ns hlen trivial hS) fun H e s'=>hCX H s₁ e s'
 have hc:=List.all_eq_true.mp t3 t ht;have hm:t.1∈(recsOf q).map (·.name):=by simpa using hc
 obtain⟨r,hr1,hr2⟩:=List.mem_map.mp hm
 cases z:(recsOf q).find? (fun e=>e.name == t.1) with
 |none=>
  have:=List.find?_eq_none.mp z r hr1;rw[hr2] at this;simp at this
 |some d'=>exact W.tab_of G.T KX z (Ao ht)
end L2
namespace L2
open PySem PySem.Spec PySem.Calls PyProof.Rows
open AutoSeq1 (wpAny_loadPart')
section
variable{prog:Program}{w:World}{A:Around}{E:Value->Shared->Prop}{S:Shared}
set_option maxHeartbeats 2000000 in
end
end L2
namespace L2
open PySem PySem.Spec PySem.Calls PyProof.Rows
structure Src(prog:Program)(w:World)(A:Around)(j q:Addr)(its:Array Value)(It1:Nat->Heap->Prop)(Sq1:Heap->Prop):Prop where
 item:∀(n:Nat)(v:Value)(S:Shared)(Q:Value->Shared->Prop)(E:Value->Shared->Prop),It1 n S.heap->Sq1 S.heap->its[n]?=some v->(∀h1,It1 (n+1) h1->Heap.SameBut j S.heap h1->Q v { S with heap:=h1 })->wpAny (model prog w) A (Builtin.SmallTypes.nextOf (.ref j)) Q E S
 stop:∀(n:Nat)(S:Shared)(Q:Value->Shared->Prop)(E:Value->Shared->Prop),It1 n S.heap->Sq1 S.heap->its[n]?=none->(∀h1 e,Heap.ExtBut j S.heap h1->(∃o,h1.get? e=some o/\o.cls=.type "StopIteration")->E (.ref e) { S with heap:=h1 })->wpAny (model prog w) A (Builtin.SmallTypes.nextOf (.ref j)) Q E S
 mv:∀(n:Nat)(h h1:Heap),It1 n h->(∀o,h.get? j=some o->h1.get? j=some o)->It1 n h1
 sv:∀(h h1:Heap),Sq1 h->(∀o,h.get? q=some o->h1.get? q=some o)->Sq1 h1
 live:∀(n:Nat)(h:Heap),It1 n h->∃o vs,h.get? j=some o/\o.data=.fields vs
structure Kd(cls:String)(Sa:W.Frag->Hp->Addr->List V->Prop)(Iti:Heap->Addr->Addr->Nat->Prop)(Is:Heap->Addr->Array Value->Prop):Prop where
 got:∀ {X:Cx} {pins:List (Addr×Obj)} {σ:St} {H:Hp} {s:Shared} {a:Addr} {xs:List V},Inv X pins σ H s->Sa X.K H a xs->∃its:List Value,aQ xs its/\Is s.heap a its.toArray
 inj:∀ {X:Cx} {pins:List (Addr×Obj)} {σ:St} {H:Hp} {s:Shared} {a:Addr} {xs ys:List V},Inv X pins σ H s->Sa X.K H a xs->Sa X.K H a ys->xs=ys
 src:∀(prog:Program)(w:World)(A:Around)(j q:Addr)(its:Array Value),A.handled=none->Src prog w A j q its (fun n h=>Iti h j q n) (fun h=>Is h q its)
 seq:∀ {h:Heap} {a:Addr} {its:Array Value},Is h a its->∃o n,h.get? a=some o/\o.data=.seq its n
 ne:∀ {X:Cx} {pins:List (Addr×Obj)} {σ:St} {H:Hp} {s:Shared} {a b:Addr} {xs:List V},Inv X pins σ H s->Sa X.K H a xs->kb X pins H b->a≠b
 itr:∀ {prog:Program} {w:World} {A:Around} {E:Value->Shared->Prop} {S:Shared} {a:Addr} {its:Array Value} {Q:Value->Shared->Prop},Is S.heap a its->Q (.ref S.heap.objs.size) { S with heap:=S.heap.push { cls:=.type cls,data:=.fields #[.ref a,.int 0 0] } }->wpAny (model prog w) A (pyIter (.ref a)) Q E S
 sv:∀ {h h1:Heap} {a:Addr} {its:Array Value},Is h a its->(∀ob,h.get? a=some ob->h1.get? a=some ob)->Is h1 a its
 new:∀ {h:Heap} {j q:Addr},h.get? j=some { cls:=.type cls,data:=.fields #[.ref q,.int 0 0] }->Iti h j q 0
theorem lE{X:Cx}(K:W.Frag)(h:X.K=K){ts:List Expr}{k n:Nat}{pos:Pos}{t:TGs}(hc:X.calm=true)(hts:PGs X ts t)(hn:(assignEach ts X.env).length=n:=by rfl)(hst:(assignEach ts X.env).findIdx? (·.1)=none:=by rfl):PG X (.Tuple ts k pos) (Cw K n t):=h ▸ DI hc hts hn hst
noncomputable def bt{α:Type}(c:Nat->Nat->Bool):W.KasT α->α
 |.ret a=>a
 |.ask i j k=>bt c (k (c i j))
noncomputable def KG{α:Type}(n:Nat)(R:α->Prop):W.KasT α->Prop
 |.ret a=>R a
 |.ask i j k=>i<n/\j<n/\∀b,KG n R (k b)
theorem KG.fin{α:Type}{n:Nat}{R:α->Prop}(c:Nat->Nat->Bool):∀ {t:W.KasT α},KG n R t->R (bt c t)
 |.ret _,h=>h
 |.ask i j k,h=>KG.fin c (t:=k (c i j)) (h.2.2 (c i j))
theorem KG.mono{α:Type}{n:Nat}{R S:α->Prop}(q:∀a,R a->S a):∀ {t:W.KasT α},KG n R t->KG n S t
 |.ret a,h=>q a h
 |.ask _ _ k,h=>⟨h.1,h.2.1,fun b=>KG.mono q (t:=k b) (h.2.2 b)⟩
theorem KG.bind{α β:Type}{n:Nat}{R:β->Prop}{f:α->W.KasT β}:∀ {t:W.KasT α},KG n (fun a=>KG n R (f a)) t->KG n R (t.bind f)
 |.ret _,h=>h
 |.ask _ _ k,h=>⟨h.1,h.2.1,fun b=>KG.bind (t:=k b) (h.2.2 b)⟩
theorem KG.wp{α:Type}{n:Nat}{R:α->Prop}{c:Nat->Nat->Bool}{cmp:Nat->Nat->(Bool->Shared->Prop)->Shared->Prop}{Q:α->Shared->Prop}{s:Shared}(hc:∀i j C,i<n->j<n->C (c i j) s->cmp i j C s):
  ∀ {t:W.KasT α},KG n R t->Q (bt c t) s->t.kasWp cmp Q s
 |.ret _,_,q=>q
 |.ask i j k,h,q=>hc i j _ h.1 h.2.1 (KG.wp hc (t:=k (c i j)) (h.2.2 (c i j)) q)
noncomputable def Ord(n:Nat)(p:Array Nat):Prop:=p.Perm (List.range n).toArray
theorem Ord.lt{n:Nat}{p:Array Nat}(hn:0<n)(h:Ord n p)(k:Nat):p.getD k 0<n:=by
 by_cases hk:k<p.size
 ·have hm:p[k]∈p:=Array.getElem_mem hk
  have h2:=(h.mem_iff (a:=p[k])).mp hm;simp at h2;simp[Array.getD,hk];exact h2
 ·simp[Array.getD,hk]
  exact hn
theorem Ord.rev{n i j:Nat}{p:Array Nat}(h:Ord n p):Ord n (W.kas_rev p i j):=(mirror_perm p i j _).trans h
theorem Ord.bub{n i j:Nat}{p:Array Nat}(h:Ord n p):Ord n (bubble p i j):=(bubble_perm p i j).trans h
section
variable{n:Nat}(hn:0<n)
include hn
theorem sY{p:Array Nat}(hp:Ord n p):∀f k,KG n (fun _=>True) (W.kas_asc p f k)
 |0,_=>trivial
 |f+1,k=>⟨hp.lt hn _,hp.lt hn _,fun b=>by
  cases b
  ·exact sY hp f (k+1)
  ·exact trivial⟩
theorem lg:∀f (p:Array Nat) k q,Ord n p->KG n (fun r=>Ord n r.1) (W.kas_desc f p k q)
 |0,_,_,_,hp=>hp
 |f+1,p,k,q,hp=>by
  refine⟨hp.lt hn _,hp.lt hn _,fun b=>?_⟩;cases b
  ·refine⟨hp.lt hn _,hp.lt hn _,fun d=>?_⟩
   cases d
   ·exact lg f _ _ _ hp
   ·exact hp
  ·show KG n _ (if q>0 then _ else _)
   split
   ·exact lg f _ _ _ hp.rev
   ·exact lg f _ _ _ hp
theorem rh{p:Array Nat}(hp:Ord n p)(a b:Nat):KG n (fun r=>Ord n r.2) (W.kas_tail3 a b p):=KG.bind ((sY hn hp.rev _ _).mono fun _ _=>hp.rev)
theorem kG{p:Array Nat}(hp:Ord n p)(a b:Nat):KG n (fun r=>Ord n r.2) (W.kas_descPart a b p):=KG.bind ((lg hn _ _ _ _ hp).mono fun r hr=>by
 split
 ·exact rh hn hr.rev _ _
 ·exact rh hn hr _ _)
theorem zP{p:Array Nat}(hp:Ord n p)(a:Nat):KG n (fun r=>Ord n r.2) (W.kas_count a p):=KG.bind ((sY hn hp _ _).mono fun k _=>by
 split
 ·exact hp
 ·split
  ·refine⟨hp.lt hn _,hp.lt hn _,fun b=>?_⟩
   cases b
   ·exact kG hn hp.rev _ _
   ·exact hp
  ·exact kG hn hp _ _)
theorem l6{p:Array Nat}(hp:Ord n p)(k:Nat):∀f l r,KG n (fun _=>True) (W.kas_place p k f l r)
 |0,_,_=>trivial
 |f+1,l,r=>by
  show KG n _ (if l ≥ r then _ else _)
  split
  ·exact trivial
  ·refine⟨hp.lt hn _,hp.lt hn _,fun b=>?_⟩
   cases b
   ·exact l6 hp k f _ _
   ·exact l6 hp k f _ _
theorem xB:∀f (p:Array Nat) k,Ord n p->KG n (Ord n) (W.kas_bin f p k)
 |0,_,_,hp=>hp
 |f+1,_,k,hp=>KG.bind ((l6 hn hp _ _ _ _).mono fun _ _=>xB f _ _ hp.bub)
theorem vK:KG n (Ord n) (W.kas_sort n):=KG.bind ((zP hn (.refl _) n).mono fun r hr=>by
 split
 ·exact xB hn _ _ _ hr
 ·exact hr)
end
noncomputable def Zs:List Value->List Int->Prop
 | [],[]=>True
 |v::vs,n::ns=>(∃t,v=.int n t)/\Zs vs ns
 |_,_=>False
noncomputable def ltF(e:Bool):List Int->List Int->Bool
 |x::xs,y::ys=>if x=y then ltF e xs ys else decide (x<y)
 |_,_=>e
noncomputable def ltZ(x y:List Int):Bool:=ltF (decide (x.length<y.length)) x y
theorem Zs.len:∀ {vs:List Value} {ns:List Int},Zs vs ns->vs.length=ns.length
 | [],[],_=>rfl
 |_::_,_::_,h=>congrArg (·+1) (Zs.len h.2)
 | [],_::_,h=>h.elim
 |_::_,[],h=>h.elim
section
variable{prog:Program}{w:World}{A:Around}{E:Value->Shared->Prop}{s:Shared}
theorem AJ{b:Bool}{x y:Int}{t u:Tok}{Q:Bool->Shared->Prop}(h:Q (decide (x<y)) s):wpAny (model prog w) A (oneLt' b (.int x t) (.int y u)) Q E s:=by
 cases b
 ·exact W.kat_one _ _ (wpAny_lt_int h)
 ·exact oneLt_int h
theorem vR{b e:Bool}{Q:Bool->Shared->Prop}:∀ {xs ys:List Value} {ns ms:List Int} (i:Nat),Zs xs ns->Zs ys ms->Q (ltF e ns ms) s->W.KatLex prog w A b e Q (xs.zip ys) i s
 | [],_,[],_,_,_,_,q=>W.kat_nil (by simpa[ltF] using q)
 |_::_,[],_::_,[],_,_,_,q=>W.kat_nil (by simpa[ltF] using q)
 |x::xs,y::ys,n::ns,m::ms,i,hx,hy,q=>by
  obtain⟨⟨t,rfl⟩,hx⟩:=hx;obtain⟨⟨u,rfl⟩,hy⟩:=hy;refine W.kat_cons (wpAny_eqBool_int ?_);unfold ltF at q;by_cases h:n=m
  ·rw[if_pos h] at q
   rw[show (n == m)=true by simpa using h]
   exact W.kat_yes (vR (i+1) hx hy q)
  ·rw[if_neg h] at q
   rw[show (n == m)=false by simpa using h]
   exact W.kat_no (AJ q)
 | [],_,_::_,_,_,h,_,_=>h.elim
 |_::_,_,[],_,_,h,_,_=>h.elim
 |_::_,[],_,_::_,_,_,h,_=>h.elim
 |_::_,_::_,_,[],_,_,h,_=>h.elim
end
noncomputable def TW(h:Heap):List Value->List (List Int)->Prop
 | [],[]=>True
 |v::vs,x::xs=>(∃a o its n,v=.ref a/\h.get? a=some o/\o.cls=.type "tuple"/\o.data=.seq its n/\Zs its.toList x)/\TW h vs xs
 |_,_=>False
theorem TW.len{h:Heap}:∀ {vs:List Value} {W:List (List Int)},TW h vs W->vs.length=W.length
 | [],[],_=>rfl
 |_::_,_::_,q=>congrArg (·+1) (TW.len q.2)
 | [],_::_,q=>q.elim
 |_::_,[],q=>q.elim
theorem TW.keep{h h':Heap}(k:∀b o,h.get? b=some o->o.cls=.type "tuple"->h'.get? b=some o):∀ {vs:List Value} {W:List (List Int)},TW h vs W->TW h' vs W
 | [],[],_=>trivial
 |_::_,_::_,⟨⟨a,o,its,n,e1,e2,e3,e4⟩,q⟩=>⟨⟨a,o,its,n,e1,k _ _ e2 e3,e3,e4⟩,TW.keep k q⟩
 | [],_::_,q=>q.elim
 |_::_,[],q=>q.elim
theorem TW.at{h:Heap}:∀ {vs:List Value} {W:List (List Int)} {i:Nat},TW h vs W->i<vs.length->∃a o its n,vs.getD i Value.none=.ref a/\h.get? a=some o/\o.data=.seq its n/\Zs its.toList (W.getD i [])
 |_::_,_::_,0,⟨⟨a,o,its,n,e1,e2,e3,e4,e5⟩,_⟩,_=>⟨a,o,its,n,by simpa using e1,e2,e4,by simpa using e5⟩
 |_::_,_::_,i+1,⟨_,q⟩,hi=>by
  obtain⟨a,o,its,n,e1,e2,e3,e4⟩:=TW.at (i:=i) q (by simpa using hi)
  exact⟨a,o,its,n,by simpa using e1,e2,e3,by simpa using e4⟩
 | [],_,_,_,hi=>absurd hi (by simp)
 |_::_,[],_,q,_=>q.elim
theorem TW.tups{h:Heap}:∀ {vs:List Value} {W:List (List Int)},TW h vs W->(∀x∈W,x≠[])->∃fs,PySem.W.KatTups h vs fs/\fs.length=vs.length/\∀v∈fs,∃n t,v=.int n t
 | [],[],_,_=>⟨[],trivial,rfl,by simp⟩
 |_::vs,x::xs,⟨⟨a,o,its,n,rfl,e2,e3,e4,e5⟩,q⟩,ne=>by
  obtain⟨fs,g1,g2,g3⟩:=TW.tups q fun y hy=>ne y (List.mem_cons_of_mem _ hy);have e6:=ne x List.mem_cons_self
  match hi:its.toList,x,e5,e6 with
  | [],[],_,e6=>exact absurd rfl e6
  | [],_::_,e5,_=>exact e5.elim
  |_::_,[],e5,_=>exact e5.elim
  |f::r,m::ms,e5,_=>
   obtain⟨t,ht⟩:=e5.1;refine⟨f::fs,PySem.W.KatTups.cons e2 e3 e4 ?_ g1,by simp[g2],?_⟩
   ·rw[←Array.getElem?_toList,hi];rfl
   ·intro v hv
    rcases List.mem_cons.mp hv with rfl|hv
    ·exact⟨m,t,ht⟩
    ·exact g3 v hv
 | [],_::_,q,_=>q.elim
 |_::_,[],q,_=>q.elim
noncomputable def d5(W:List (List Int)):Array Nat:=if W.length<2 then (List.range W.length).toArray else bt (fun i j=>ltZ (W.getD i []) (W.getD j [])) (PySem.W.kas_sort W.length)
theorem dI(W:List (List Int)):Ord W.length (d5 W):=by
 unfold d5;split
 ·exact .refl _
 ·exact KG.fin _ (vK (by omega))
section
variable{prog:Program}{w:World}{A:Around}{E:Value->Shared->Prop}{s:Shared}
noncomputable def qi(vs:List Value)(W:List (List Int)):Array Value:=List.toArray ((d5 W).toList.map fun i=>vs.getD i Value.none)
theorem wY{h:Heap}{vs:List Value}{W:List (List Int)}(tw:TW h vs W):(qi vs W).size=vs.length:=by
 have a:=(dI W).size_eq;have b:=tw.len;simp[qi];simp at a;omega
theorem we{vs:List Value}{W:List (List Int)}{b:Bool}{s:Shared}(tw:TW s.heap vs W){Q:Array Nat->Shared->Prop}(h2:0<vs.length)(q:Q (bt (fun i j=>ltZ (W.getD i []) (W.getD j [])) (PySem.W.kas_sort vs.length)) s):
  (PySem.W.kas_sort vs.length).kasWp (PySem.W.kas_ask prog w A (tuples' b) vs) Q s:=by
 refine KG.wp (fun i j C hi hj hC=>?_) (vK h2) q;obtain⟨a1,o1,i1,n1,e1,e2,e3,e4⟩:=tw.at hi;obtain⟨a2,o2,i2,n2,f1,f2,f3,f4⟩:=tw.at hj;show wpAny (model prog w) A (keyLt' (tuples' b) (vs.getD i Value.none) (vs.getD j Value.none)) C _ s;rw[e1,f1];refine PySem.W.kat_lt e2 e3 f2 f3 (vR 0 e4 f4 ?_);have g1:=e4.len;have g2:=f4.len;rw[Array.length_toList] at g1 g2;rw[g1,g2];exact hC
theorem wx:∀(vs:List Value),vs.length<2->Array.map (·.2) (vs.toArray.zip vs.toArray)=List.toArray ((List.range vs.length).map fun i=>vs.getD i Value.none)
 | [],_=>by simp
 | [v],_=>by simp
 |_::_::_,h=>absurd h (by simp)
theorem wy{a:Addr}{vs:List Value}{W:List (List Int)}{k:Nat}{P:PySem.Fin->Shared->Prop}(g:s.heap.get? a=some (seqObj "list" vs.toArray k))(tw:TW s.heap vs W)(ne:2<=W.length->∀x∈W,x≠[])(hs:vs.length<64)(q:P (.done (.ret .none)) { s with heap:=sortedHeap s.heap a vs (qi vs W) }):wpAny (model prog w) A (Builtin.«list.sort» ⟨[.ref a],[]⟩) P E s:=by
 have line:64<=sizeLine:=by rw[sizeLine_eq];omega
 have room:vs.toArray.size<=sizeLine:=by rw[List.size_toArray];omega
 have la:a<s.heap.objs.size:=Heap.lt_size g;have osz:=wY tw;rw[list_sort_plain];obtain⟨e1,g1⟩:∃e1,(s.heap.update a (Obj.mapSeq fun _=>(#[]:Array Value))).get? a=some (seqObj "list" #[] e1):=⟨_,get?_update_seq g fun _=>#[]⟩;refine wpAny_bind (listItems_at g rfl (wpAny_bind (listUpdate_at g rfl (wpAny_bind (seqEpoch_at g1 rfl (wpAny_bind (wpAny_newTuple (wpAny_bind (wpAny_newList (wpAny_holding ?_) (Nat.zero_le _))) ?_)))) room (Nat.zero_le _))))
 case refine_2=>show vs.length<=_;omega
 have g3:(((s.heap.update a (Obj.mapSeq fun _=>(#[]:Array Value))).push (seqObj "tuple" vs.toArray 0)).push (seqObj "list" #[] 0)).get? a=some (seqObj "list" #[] e1):=Heap.get?_push_of_some _ (Heap.get?_push_of_some _ g1)
 have tw3:TW (((s.heap.update a (Obj.mapSeq fun _=>(#[]:Array Value))).push (seqObj "tuple" vs.toArray 0)).push (seqObj "list" #[] 0)) vs W:=tw.keep fun b o e c=>by
  have nb:b≠a:=fun z=>by
   subst z;rw[g] at e;cases e;exact absurd (show Value.type "list"=Value.type "tuple" from c) (fun z=>by injection z with z;exact absurd z (by decide))
  exact Heap.get?_push_of_some _ (Heap.get?_push_of_some _ ((Heap.get?_update_ne _ _ _ _ nb).trans e))
 show wpAny (model prog w) A _ P E { s with heap:=((s.heap.update a (Obj.mapSeq fun _=>(#[]:Array Value))).push (seqObj "tuple" vs.toArray 0)).push (seqObj "list" #[] 0) }
 have fin:∀out:Array Value,out=qi vs W->P (.done (.ret .none)) { s with heap:=(((s.heap.update a (Obj.mapSeq fun _=>(#[]:Array Value))).push (seqObj "tuple" vs.toArray 0)).push (seqObj "list" #[] 0)).update a (Obj.mapSeq fun _=>out) }:=fun out e=>by
  subst e;exact q
 generalize hh:((s.heap.update a (Obj.mapSeq fun _=>(#[]:Array Value))).push (seqObj "tuple" vs.toArray 0)).push (seqObj "list" #[] 0)=hp at g3 tw3 fin ⊢;dsimp only;by_cases h2:vs.toArray.size<2
 ·rw[if_pos h2,if_pos h2]
  refine wpAny_bind (wpAny_pure ?_);rw[StateT.run_pure];refine wpAny_bind (wpAny_pure ?_);dsimp only
  have same:(arrOf (SortSt.mk' general' (vs.toArray.zip vs.toArray) #[] 7 none)).map (·.2)=qi vs W:=by
   have hl:=tw.len;rw[List.size_toArray] at h2;unfold qi d5;rw[if_pos (by omega),←hl]
   exact wx vs h2
  rw[same];refine wpAny_bind (seqEpoch_at g3 rfl (wpAny_bind (listUpdate_at g3 rfl ?_ (Nat.zero_le _) (by omega))))
  simp only[bne_self_eq_false,Bool.false_eq_true,if_false];exact wpAny_pure (fin _ rfl)
 ·rw[if_neg h2,if_neg h2]
  rw[List.size_toArray] at h2;obtain⟨fs,t1,t2,t3⟩:=tw3.tups (ne (by have:=tw.len;omega))
  refine wpAny_bind (PySem.W.kat_kind (T:=.type "int") t1 (by omega) (fun v hv=>?_) rfl ?_)
  ·obtain⟨n,t,rfl⟩:=t3 v hv
   exact PySem.W.Looks.now
  refine wpAny_bind (wpAny_mono (PySem.W.kat_run (E:=E) (Q:=fun st' s'=>failedOf st'=none/\(arrOf st').map (·.2)=qi vs W/\s'={ s with heap:=hp }) (G:=fun p s'=>p=d5 W/\s'={ s with heap:=hp }) rfl (by omega) hs (fun p st' s' _ b1 b2 b3=>⟨b2,?_,b3.2⟩) (we tw3 (by omega) ⟨?_,rfl⟩)) ?_ fun _ _ e=>e)
  ·rw[PySem.W.kat_snds rfl b1,b3.1]
   rfl
  ·have hl:=tw.len
   unfold d5;rw[if_neg (by omega),←hl]
  ·rintro⟨⟨⟩,st'⟩ s' ⟨b1,b2,rfl⟩
   dsimp only at b1 b2 ⊢;rw[b2];refine wpAny_bind (seqEpoch_at g3 rfl (wpAny_bind (listUpdate_at g3 rfl ?_ (Nat.zero_le _) (by omega))))
   rw[b1];simp only[bne_self_eq_false,Bool.false_eq_true,if_false];exact wpAny_pure (fin _ rfl)
end
noncomputable def srt(xs:List V)(W:List (List Int)):List V:=(d5 W).toList.map fun i=>xs.getD i .non
noncomputable def TWv(H:Hp):List V->List (List Int)->Prop
 | [],[]=>True
 |v::vs,x::xs=>(∃a,v=.ref a/\H a=some (.tup (x.map V.int)))/\TWv H vs xs
 |_,_=>False
section
variable{X:Cx}
theorem Zs.of:∀ {ns:List Int} {its:List Value},aQ (ns.map V.int) its->Zs its ns
 | [],[],_=>trivial
 |n::ns,v::vs,h=>by
  cases h with
  |cons r rr=>
   exact⟨r,Zs.of rr⟩
 | [],_::_,h=>by cases h
 |_::_,[],h=>by cases h
theorem qf{α:Type}{f:α->V}{g:α->Value}:∀ {l:List α},(∀i∈l,br (f i) (g i))->aQ (l.map f) (l.map g)
 | [],_=>.nil
 |_::_,h=>.cons (h _ (List.mem_cons_self ..)) (qf fun j hj=>h j (List.mem_cons_of_mem _ hj))
theorem Ord.mem{n:Nat}{p:Array Nat}(h:Ord n p){i:Nat}(hi:i∈p.toList):i<n:=by
 have:=(h.mem_iff (a:=i)).mp (Array.mem_toList_iff.mp hi);simpa using this
end
noncomputable def kl(W:List (List Int)):List (List Int):=(d5 W).toList.map fun i=>W.getD i []
theorem TWv.len{H:Hp}:∀ {vs:List V} {W:List (List Int)},TWv H vs W->vs.length=W.length
 | [],[],_=>rfl
 |_::_,_::_,q=>congrArg (·+1) (TWv.len q.2)
 | [],_::_,q=>q.elim
 |_::_,[],q=>q.elim
theorem jX(W:List (List Int)):(kl W).Perm W:=by
 have h:(d5 W).toList.Perm (List.range W.length):=by
  have:=(dI W).toList;simpa using this
 have:=h.map fun i=>W.getD i [];refine this.trans (.of_eq ?_);apply List.ext_getElem?;intro i;by_cases hi:i<W.length
 ·rw[List.getElem?_map,List.getElem?_range hi,List.getElem?_eq_getElem hi]
  simp[hi]
 ·rw[List.getElem?_eq_none (by simpa using hi),List.getElem?_eq_none (by simpa using hi)]
theorem uA{H:Hp}:∀ {ns:List Int} {xs:List V},aG H (ns.map D.int) xs->xs=ns.map V.int
 | [],xs,h=>by simpa[aG] using h
 |n::ns,xs,h=>by
  simp only[List.map_cons,aG,Dat] at h;obtain⟨x,r,rfl,rfl,h2⟩:=h;rw[uA h2];rfl
theorem TWv.of{H:Hp}:∀ {W:List (List Int)} {xs:List V},aG H (W.map wdD) xs->TWv H xs W
 | [],xs,h=>by
  have:xs=[]:=by simpa[aG] using h
  subst this;exact trivial
 |x::W,xs,h=>by
  simp only[List.map_cons,aG] at h;obtain⟨v,r,rfl,hv,h2⟩:=h;simp only[wdD,Dat] at hv;obtain⟨a,ys,rfl,ha,hy⟩:=hv;rw[uA hy] at ha;exact⟨⟨a,rfl,ha⟩,TWv.of h2⟩
theorem xm(W:List (List Int)):(kl W).length=W.length:=(jX W).length_eq
theorem zf{W:List (List Int)}{x:List Int}:x∈kl W↔x∈W:=(jX W).mem_iff
structure AN(c:Nat->Nat->Bool):Prop where
 as:∀i j,c i j=true->c j i=false
 tr:∀i j k,c j i=false->c k j=false->c k i=false
theorem eE{α β:Type}(c:Nat->Nat->Bool){f:α->W.KasT β}:∀t:W.KasT α,bt c (t.bind f)=bt c (f (bt c t))
 |.ret _=>rfl
 |.ask i j k=>eE c (k (c i j))
section
variable{c:Nat->Nat->Bool}(L:AN c)
noncomputable def Up(c:Nat->Nat->Bool)(p:Array Nat)(k:Nat):Prop:=∀i j,i<=j->j<k->c (p.getD j 0) (p.getD i 0)=false
noncomputable def Dn(c:Nat->Nat->Bool)(p:Array Nat)(k:Nat):Prop:=∀i j,i<=j->j<k->c (p.getD i 0) (p.getD j 0)=false
include L
theorem AN.rf(i:Nat):c i i=false:=by
 cases h:c i i with
 |false=>rfl
 |true=>rw[L.as i i h] at h;cases h
theorem Dc(p:Array Nat):Up c p 1:=fun i j h1 h2=>by
 have:i=j:=by omega
 subst this;exact L.rf _
theorem Bl{p:Array Nat}{k:Nat}(h:Up c p k)(hk:1<=k)(q:c (p.getD k 0) (p.getD (k-1) 0)=false):Up c p (k+1):=fun i j h1 h2=>by
 by_cases hj:j<k
 ·exact h i j h1 hj
 ·have:j=k:=by omega
  subst this;by_cases hi:i=j
  ·subst hi;exact L.rf _
  ·exact L.tr _ (p.getD (j-1) 0) _ (h i (j-1) (by omega) (by omega)) q
theorem jK{p:Array Nat}{k:Nat}(h:Dn c p k)(hk:1<=k)(q:c (p.getD (k-1) 0) (p.getD k 0)=false):Dn c p (k+1):=fun i j h1 h2=>by
 by_cases hj:j<k
 ·exact h i j h1 hj
 ·have:j=k:=by omega
  subst this;by_cases hi:i=j
  ·subst hi;exact L.rf _
  ·exact L.tr _ (p.getD (j-1) 0) _ q (h i (j-1) (by omega) (by omega))
theorem tP{p:Array Nat}:∀f k,1<=k->Up c p k->Up c p (bt c (W.kas_asc p f k))/\k<=bt c (W.kas_asc p f k)/\bt c (W.kas_asc p f k)<=k+f
 |0,k,_,h=>⟨h,Nat.le_refl _,Nat.le_refl _⟩
 |f+1,k,hk,h=>by
  unfold W.kas_asc;simp only[bt]
  cases q:c (p.getD k 0) (p.getD (k-1) 0) with
  |true=>exact⟨h,Nat.le_refl _,by simp[bt]⟩
  |false=>
   have:=tP f (k+1) (by omega) (Bl L h hk q)
   simp only[Bool.false_eq_true,if_false];exact⟨this.1,by omega,by omega⟩
end
theorem cN{p:Array Nat}{i j:Nat}(hj:j<=p.size)(k:Nat):(W.kas_rev p i j).getD k 0=if i<=k/\k<j then p.getD (i+j-1-k) 0 else p.getD k 0:=by
 have:=getElem?_mirror_all (xs:=p) (i:=i) hj k;simp only[Array.getD_eq_getD_getElem?];unfold W.kas_rev;rw[this];split<;>rfl
theorem rK{p:Array Nat}{s d:Nat}(hs:s<p.size)(hd:d<=s)(k:Nat):(bubble p s d).getD k 0=if k=s-d then p.getD s 0 else if s-d<k/\k<=s then p.getD (k-1) 0 else p.getD k 0:=by
 have:=getElem?_bubble hs d hd k;simp only[Array.getD_eq_getD_getElem?];rw[this];split
 ·rfl
 ·split<;>rfl
section
variable{c:Nat->Nat->Bool}(L:AN c)
include L
theorem Ak{p:Array Nat}{k:Nat}(hk:k<=p.size)(h:Dn c p k):Up c (W.kas_rev p 0 k) k:=fun i j h1 h2=>by
 rw[cN hk,cN hk,if_pos (by omega),if_pos (by omega)]
 exact h _ _ (by omega) (by omega)
theorem my{p:Array Nat}{k:Nat}(hu:Up c p k):∀f l r,r-l<=f->l<=r->r<=k->(∀i,i<l->c (p.getD k 0) (p.getD i 0)=false)->(∀i,r<=i->i<k->c (p.getD k 0) (p.getD i 0)=true) ->
  bt c (W.kas_place p k f l r)<=k/\(∀i,i<bt c (W.kas_place p k f l r)->c (p.getD k 0) (p.getD i 0)=false)/\(∀i,bt c (W.kas_place p k f l r)<=i->i<k->c (p.getD k 0) (p.getD i 0)=true)
 |0,l,r,hf,hl,hr,h1,h2=>by
  have:l=r:=by omega
  subst this;exact⟨hr,h1,h2⟩
 |f+1,l,r,hf,hl,hr,h1,h2=>by
  unfold W.kas_place;by_cases h:l ≥ r
  ·rw[if_pos h]
   have:l=r:=by omega
   subst this;exact⟨hr,h1,h2⟩
  ·rw[if_neg h]
   simp only[bt]
   cases q:c (p.getD k 0) (p.getD ((l+r) / 2) 0) with
   |true=>
    simp only[if_true];refine my hu f l ((l+r) / 2) (by omega) (by omega) (by omega) h1 fun i hi hik=>?_
    cases e:c (p.getD k 0) (p.getD i 0) with
    |true=>rfl
    |false=>
     have:=L.tr (p.getD ((l+r) / 2) 0) (p.getD i 0) (p.getD k 0) (hu _ _ hi hik) e;rw[this] at q;cases q
   |false=>
    simp only[Bool.false_eq_true,if_false];refine my hu f ((l+r) / 2+1) r (by omega) (by omega) hr (fun i hi=>?_) h2
    exact L.tr (p.getD i 0) (p.getD ((l+r) / 2) 0) (p.getD k 0) (hu _ _ (by omega) (by omega)) q
theorem xV:∀f (p:Array Nat) k,k+f<=p.size->Up c p k->Up c (bt c (W.kas_bin f p k)) (k+f)
 |0,_,_,_,h=>h
 |f+1,p,k,hz,h=>by
  unfold W.kas_bin;rw[eE];obtain⟨h1,h2,h3⟩:=my L h k 0 k (by omega) (by omega) (Nat.le_refl _) (fun i hi=>absurd hi (by omega)) (fun i hi hik=>absurd hik (by omega))
  generalize bt c (W.kas_place p k k 0 k)=l at h1 h2 h3 ⊢
  have:=xV f (bubble p k (k - l)) (k + 1) (by rw [bubble_size];omega) (fun i j hij hj=>by
   rw[rK (by omega) (by omega),rK (by omega) (by omega),show k-(k-l)=l by omega]
   by_cases j1:j=l
   ·rw[if_pos j1]
    by_cases i1:i=l
    ·rw[if_pos i1];exact L.rf _
    ·rw[if_neg i1,if_neg (by omega)];exact h2 i (by omega)
   ·rw[if_neg j1]
    by_cases j2:l<j/\j<=k
    ·rw[if_pos j2]
     by_cases i1:i=l
     ·rw[if_pos i1];exact L.as _ _ (h3 (j-1) (by omega) (by omega))
     ·rw[if_neg i1]
      by_cases i2:l<i/\i<=k
      ·rw[if_pos i2];exact h _ _ (by omega) (by omega)
      ·rw[if_neg i2];exact h _ _ (by omega) (by omega)
    ·rw[if_neg j2,if_neg (by omega),if_neg (by omega)];exact h _ _ hij (by omega))
  rw[show k+(f+1)=k+1+f by omega]
  exact this
noncomputable def vS(c:Nat->Nat->Bool)(p:Array Nat)(a b:Nat):Prop:=∀i j,a<=i->i<b->a<=j->j<b->c (p.getD i 0) (p.getD j 0)=false
theorem yA{p:Array Nat}{a k:Nat}(hk:k<=p.size)(h:Dn c p k)(al:vS c p a k):Dn c (W.kas_rev p a k) k:=fun i j hij hj=>by
 rw[cN hk,cN hk];by_cases j1:a<=j/\j<k
 ·rw[if_pos j1]
  by_cases i1:a<=i/\i<k
  ·rw[if_pos i1];exact al _ _ (by omega) (by omega) (by omega) (by omega)
  ·rw[if_neg i1]
   exact h _ _ (by omega) (by omega)
 ·rw[if_neg j1,if_neg (by omega)];exact h _ _ hij hj
theorem lG:∀f (p:Array Nat) n q,1<=n->q+1<=n->n+f<=p.size->Dn c p n->vS c p (n-(q+1)) n ->
  (bt c (W.kas_desc f p n q)).1.size=p.size/\1<=(bt c (W.kas_desc f p n q)).2.1/\(bt c (W.kas_desc f p n q)).2.1<=n+f/\(bt c (W.kas_desc f p n q)).2.2+1<=(bt c (W.kas_desc f p n q)).2.1 /\
  Dn c (bt c (W.kas_desc f p n q)).1 (bt c (W.kas_desc f p n q)).2.1/\vS c (bt c (W.kas_desc f p n q)).1 ((bt c (W.kas_desc f p n q)).2.1-((bt c (W.kas_desc f p n q)).2.2+1)) (bt c (W.kas_desc f p n q)).2.1
 |0,p,n,q,h1,h2,h3,h4,h5=>⟨rfl,h1,Nat.le_refl _,h2,h4,h5⟩
 |f+1,p,n,q,h1,h2,h3,h4,h5=>by
  have single:∀p':Array Nat,vS c p' (n+1-(0+1)) (n+1):=fun p' i j a1 a2 a3 a4=>by
   have:i=j:=by omega
   subst this;exact L.rf _
  unfold W.kas_desc;simp only[bt]
  cases e:c (p.getD n 0) (p.getD (n-1) 0) with
  |true=>
   simp only[if_true];by_cases hq:q>0
   ·rw[if_pos hq]
    have d1:=yA L (by omega:n<=p.size) h4 h5
    have d2 : Dn c (W.kas_rev p (n - (q + 1)) n) (n + 1):=jK L d1 h1 (by
     rw[cN (by omega),cN (by omega),if_pos (by omega),if_neg (by omega)]
     exact L.tr _ (p.getD (n-1) 0) _ (L.as _ _ e) (h5 _ _ (by omega) (by omega) (by omega) (by omega)))
    have:=lG f (W.kas_rev p (n-(q+1)) n) (n+1) 0 (by omega) (by omega) (by rw[W.kas_rev_size];omega) d2 (single _)
    rw[W.kas_rev_size] at this;exact⟨this.1,this.2.1,by omega,this.2.2.2⟩
   ·rw[if_neg hq]
    have:=lG f p (n+1) 0 (by omega) (by omega) (by omega) (jK L h4 h1 (L.as _ _ e)) (single _)
    exact⟨this.1,this.2.1,by omega,this.2.2.2⟩
  |false=>
   simp only[Bool.false_eq_true,if_false,bt]
   cases e2:c (p.getD (n-1) 0) (p.getD n 0) with
   |true=>exact⟨rfl,h1,by simp[bt],h2,h4,h5⟩
   |false=>
    simp only[Bool.false_eq_true,if_false]
    have:=lG f p (n + 1) (q + 1) (by omega) (by omega) (by omega) (jK L h4 h1 e2) (fun i j a1 a2 a3 a4=>by
     have low:∀i,n-(q+1)<=i->i<n+1->c (p.getD i 0) (p.getD n 0)=false:=fun i b1 b2=>by
      by_cases hi:i=n
      ·subst hi;exact L.rf _
      ·exact L.tr _ (p.getD (n-1) 0) _ e2 (h5 _ _ (by omega) (by omega) (by omega) (by omega))
     have high:∀i,n-(q+1)<=i->i<n+1->c (p.getD n 0) (p.getD i 0)=false:=fun i b1 b2=>by
      by_cases hi:i=n
      ·subst hi;exact L.rf _
      ·exact L.tr _ (p.getD (n-1) 0) _ (h5 _ _ (by omega) (by omega) (by omega) (by omega)) e
     exact L.tr _ (p.getD n 0) _ (high j (by omega) a4) (low i (by omega) a2))
    exact⟨this.1,this.2.1,by omega,this.2.2.2⟩
theorem rS{p:Array Nat}{n z:Nat}(h1:1<=n)(h2:n<=z)(hz:z=p.size)(h:Dn c p n):(bt c (W.kas_tail3 n z p)).2.size=z/\1<=(bt c (W.kas_tail3 n z p)).1/\(bt c (W.kas_tail3 n z p)).1<=z/\Up c (bt c (W.kas_tail3 n z p)).2 (bt c (W.kas_tail3 n z p)).1:=by
 unfold W.kas_tail3;rw[eE];simp only[bt];have:=tP L (p:=W.kas_rev p 0 n) (z-n) n h1 (Ak L (by omega) h)
 exact⟨by rw[W.kas_rev_size];exact hz.symm,by omega,by omega,this.1⟩
theorem kT{p:Array Nat}{n z:Nat}(h1:1<=n)(h2:n<z)(hz:z=p.size)(h:Dn c p (n+1)):(bt c (W.kas_descPart n z p)).2.size=z/\1<=(bt c (W.kas_descPart n z p)).1/\(bt c (W.kas_descPart n z p)).1<=z/\Up c (bt c (W.kas_descPart n z p)).2 (bt c (W.kas_descPart n z p)).1:=by
 unfold W.kas_descPart;rw[eE]
 obtain ⟨a1,a2,a3,a4,a5,a6⟩:=lG L (z - (n + 1)) p (n + 1) 0 (by omega) (by omega) (by omega) h (fun i j b1 b2 b3 b4=>by
  have:i=j:=by omega
  subst this
  exact L.rf _)
 generalize bt c (W.kas_desc (z-(n+1)) p (n+1) 0)=r at a1 a2 a3 a4 a5 a6 ⊢;split
 ·exact rS L a2 (by omega) (by rw[W.kas_rev_size];omega) (yA L (by omega) a5 a6)
 ·exact rS L a2 (by omega) (by omega) a5
theorem qL{p:Array Nat}:∀f k,bt c (W.kas_asc p f k)=k+f\/c (p.getD (bt c (W.kas_asc p f k)) 0) (p.getD (bt c (W.kas_asc p f k)-1) 0)=true
 |0,k=>.inl rfl
 |f+1,k=>by
  unfold W.kas_asc;simp only[bt]
  cases q:c (p.getD k 0) (p.getD (k-1) 0) with
  |true=>exact .inr (by simpa[bt] using q)
  |false=>
   simp only[Bool.false_eq_true,if_false];rcases qL f (k+1) with h|h
   ·exact .inl (by rw[h];omega)
   ·exact .inr h
theorem zI{p:Array Nat}{z:Nat}(h1:1<=z)(hz:z=p.size):(bt c (W.kas_count z p)).2.size=z/\1<=(bt c (W.kas_count z p)).1/\(bt c (W.kas_count z p)).1<=z/\Up c (bt c (W.kas_count z p)).2 (bt c (W.kas_count z p)).1:=by
 unfold W.kas_count;rw[eE];obtain⟨a1,a2,a3⟩:=tP L (p:=p) (z-1) 1 (Nat.le_refl _) (Dc L p);have a4:=qL L (p:=p) (z-1) 1;generalize bt c (W.kas_asc p (z-1) 1)=n at a1 a2 a3 a4 ⊢;by_cases e:(n == z)=true
 ·rw[if_pos e]
  have:n=z:=by simpa using e
  exact⟨hz.symm,a2,by show n<=z;omega,a1⟩
 ·rw[if_neg e]
  have hne:n≠z:=by simpa using e
  have st:c (p.getD n 0) (p.getD (n-1) 0)=true:=by
   rcases a4 with h|h
   ·exact absurd h (by omega)
   ·exact h
  by_cases h2:n>1
  ·rw[if_pos h2]
   simp only[bt]
   cases q:c (p.getD 0 0) (p.getD (n-1) 0) with
   |true=>exact⟨hz.symm,a2,by show n<=z;omega,a1⟩
   |false=>
    simp only[Bool.false_eq_true,if_false]
    have al:∀i j,i<n->j<n->c (p.getD i 0) (p.getD j 0)=false:=fun i j hi hj=>by
     have b1:c (p.getD i 0) (p.getD 0 0)=false->True:=fun _=>trivial;have b2:=a1 j (n-1) (by omega) (by omega)
     have b3:=a1 0 i (by omega) (by omega)
     have b4:=a1 i (n-1) (by omega) (by omega)
     have b5:=a1 0 j (by omega) (by omega)
     have up1:c (p.getD (n-1) 0) (p.getD j 0)=false:=a1 j (n-1) (by omega) (by omega)
     have x1:c (p.getD 0 0) (p.getD j 0)=false:=L.tr (p.getD j 0) (p.getD (n-1) 0) (p.getD 0 0) up1 q;exact L.tr (p.getD j 0) (p.getD 0 0) (p.getD i 0) x1 b3
    have d0:Dn c (W.kas_rev p 0 n) n:=fun i j hij hj=>by
     rw[cN (by omega),cN (by omega),if_pos (by omega),if_pos (by omega)]
     exact al _ _ (by omega) (by omega)
    have d1 : Dn c (W.kas_rev p 0 n) (n + 1):=jK L d0 (by omega) (by
     rw[cN (by omega),cN (by omega),if_pos (by omega),if_neg (by omega)]
     exact L.tr _ (p.getD (n-1) 0) _ (L.as _ _ st) (al _ _ (by omega) (by omega)))
    exact kT L (by omega) (by omega) (by rw[W.kas_rev_size];exact hz) d1
  ·rw[if_neg h2]
   have n1:n=1:=by omega
   subst n1
   have d0:Dn c p 1:=fun i j hij hj=>by
    have:i=j:=by omega
    subst this;exact L.rf _
   exact kT L (by omega) (by omega) hz (jK L d0 (by omega) (L.as _ _ st))
theorem Av{z:Nat}(h1:1<=z):Up c (bt c (W.kas_sort z)) z:=by
 unfold W.kas_sort;rw[eE];obtain⟨a1,a2,a3,a4⟩:=zI L (p:=List.toArray (List.range z)) h1 (by simp)
 generalize bt c (W.kas_count z (List.toArray (List.range z)))=r at a1 a2 a3 a4 ⊢;split
 ·rw[show max r.1 1=r.1 by omega]
  have:=xV L (z-r.1) r.2 r.1 (by omega) a4
  rwa [show r.1+(z-r.1)=z by omega] at this
 ·have:r.1=z:=by omega
  rw[this] at a4;exact a4
end
noncomputable def cf:List Int->List Int->Bool
 | [],[]=>false
 | [],_::_=>true
 |_::_,[]=>false
 |x::xs,y::ys=>if x=y then cf xs ys else decide (x<y)
theorem lx:∀x y:List Int,ltZ x y=cf x y
 | [],[]=>rfl
 | [],_::_=>by simp[ltZ,ltF,cf]
 |_::_,[]=>by simp[ltZ,ltF,cf]
 |x::xs,y::ys=>by
  have:=lx xs ys;unfold ltZ at this ⊢;unfold ltF cf;have e:decide ((x::xs).length<(y::ys).length)=decide (xs.length<ys.length):=by simp
  rw[e,this]
theorem lX:∀x y:List Int,cf x y=true->cf y x=false
 | [],[],h=>by simp[cf] at h
 | [],_::_,_=>rfl
 |_::_,[],h=>by simp[cf] at h
 |x::xs,y::ys,h=>by
  unfold cf at h ⊢;by_cases e:x=y
  ·rw[if_pos e] at h;rw[if_pos e.symm];exact lX xs ys h
  ·rw[if_neg e] at h;rw[if_neg (Ne.symm e)]
   simp at h ⊢;omega
theorem tY:∀x y z:List Int,cf y x=false->cf z y=false->cf z x=false
 | [],_,[],_,_=>rfl
 | [],_,_::_,_,_=>rfl
 |_::_,[],_,h,_=>by simp[cf] at h
 |_::_,_::_,[],_,h=>by simp[cf] at h
 |x::xs,y::ys,z::zs,h1,h2=>by
  unfold cf at h1 h2 ⊢;by_cases e1:y=x
  ·subst e1
   rw[if_pos rfl] at h1;by_cases e2:z=y
   ·subst e2
    rw[if_pos rfl] at h2 ⊢;exact tY xs ys zs h1 h2
   ·rw[if_neg e2] at h2 ⊢;exact h2
  ·rw[if_neg e1] at h1
   simp at h1;by_cases e2:z=y
   ·subst e2
    rw[if_neg e1];simpa using h1
   ·rw[if_neg e2] at h2
    simp at h2;rw[if_neg (by omega)]
    simp;omega
theorem tM:∀x y:List Int,cf y x=false->cf x y=false->x=y
 | [],[],_,_=>rfl
 | [],_::_,_,h=>by simp[cf] at h
 |_::_,[],h,_=>by simp[cf] at h
 |x::xs,y::ys,h1,h2=>by
  unfold cf at h1 h2;by_cases e:x=y
  ·subst e
   rw[if_pos rfl] at h1 h2;rw[tM xs ys h1 h2]
  ·rw[if_neg e] at h2
   rw[if_neg (Ne.symm e)] at h1;simp at h1 h2;omega
theorem tQ(W:List (List Int)):AN fun i j=>ltZ (W.getD i []) (W.getD j []) where
 as i j h:=by rw[lx] at h ⊢;exact lX _ _ h
 tr i j k h1 h2:=by rw[lx] at h1 h2 ⊢;exact tY _ _ _ h1 h2
noncomputable def Ris(W:List (List Int)):Prop:=W.Pairwise fun a b=>cf b a=false
theorem x8(W:List (List Int)):Ris (kl W):=by
 have hs:(d5 W).size=W.length:=by
  have:=(dI W).size_eq;simpa using this
 unfold Ris;rw[List.pairwise_iff_getElem];intro i j hi hj hij;have hl:(kl W).length=W.length:=xm W
 have at_:∀k (hk:k<(kl W).length),(kl W)[k]=W.getD ((d5 W).getD k 0) []:=fun k hk=>by
  have hk2:k<(d5 W).size:=by omega
  have q:(kl W)[k]?=some (W.getD ((d5 W).getD k 0) []):=by
   unfold kl;rw[List.getElem?_map,Array.getElem?_toList,Array.getElem?_eq_getElem hk2,Array.getD_eq_getD_getElem?,Array.getElem?_eq_getElem hk2];rfl
  exact(List.getElem?_eq_some_iff.mp q).2
 rw[at_ i hi,at_ j hj];by_cases h2:W.length<2
 ·omega
 ·have:=Av (tQ W) (z:=W.length) (by omega) i j (by omega) (by omega)
  have e:d5 W=bt (fun i j=>ltZ (W.getD i []) (W.getD j [])) (PySem.W.kas_sort W.length):=by unfold d5;rw[if_neg h2]
  rw[←e] at this
  rw[←lx]
  exact this
theorem zY:∀ {A B:List (List Int)},A.Perm B->Ris A->Ris B->A=B
 | [],B,p,_,_=>by rw[List.nil_perm.mp p]
 |a::A,[],p,_,_=>by simp at p
 |a::A,b::B,p,h1,h2=>by
  have ma:a∈b::B:=p.mem_iff.mp (List.mem_cons_self ..);have mb:b∈a::A:=p.mem_iff.mpr (List.mem_cons_self ..)
  have e:a=b:=by
   rcases List.mem_cons.mp ma with h|h
   ·exact h
   ·rcases List.mem_cons.mp mb with h'|h'
    ·exact h'.symm
    ·exact tM _ _ (List.rel_of_pairwise_cons h1 h') (List.rel_of_pairwise_cons h2 h)
  subst e;rw[zY (List.Perm.cons_inv p) h1.of_cons h2.of_cons]
end L2
namespace L2
open PySem PySem.Spec PyProof.Rows
inductive AV where
 |d (x:D)
 |r (v:V)
 |p (v:V) (P:Hp->Prop)
inductive OC where
 |own (xs:List AV)
 |frz (ds:List D)
 |dic (kvs:List (Str×AV))
 |sto (kvs:List (D×AV))
noncomputable abbrev Om:=Addr->Option OC
noncomputable abbrev SA:=List (Option AV)
noncomputable abbrev Fs:=Addr->Bool
noncomputable def Om.put(Z:Om)(l:Addr)(c:OC):Om:=fun b=>if b=l then some c else Z b
theorem Om.FR{Z:Om}{l:Addr}{c:OC}:Z.put l c l=some c:=by unfold Om.put;rw[if_pos rfl]
theorem Om.FS{Z:Om}{l b:Addr}{c:OC}(h:b≠l):Z.put l c b=Z b:=by unfold Om.put;rw[if_neg h]
theorem Om.FT{Z:Om}{l:Addr}{c e:OC}:(Z.put l c).put l e=Z.put l e:=by funext b;unfold Om.put;split<;>rfl
theorem Om.FZ{Z:Om}{l:Addr}{c:OC}(h:Z l=some c):Z.put l c=Z:=by
 funext b;unfold Om.put;split
 ·rename_i e;rw[e,h]
 ·rfl
noncomputable def ow:Option OC->Bool
 |some (.own _)=>true
 |some (.dic _)=>true
 |some (.sto _)=>true
 |_=>false
noncomputable def Fs.add(F:Fs)(l:Addr):Fs:=fun b=>decide (b=l) || F b
noncomputable def cut(F:Fs)(H:Hp)(Z:Om):Hp:=fun b=>if (ow (Z b) || F b)=true then none else H b
noncomputable def RV(G:Hp):AV->V->Prop
 |.d x,v=>Dat G x v
 |.r u,v=>v=u
 |.p u P,v=>v=u/\∀G',dj G G'->P G'
noncomputable def RVs(G:Hp):List AV->List V->Prop
 | [],vs=>vs=[]
 |a::as,vs=>∃v r,vs=v::r/\RV G a v/\RVs G as r
noncomputable def RS(G:Hp)(ρ:SA)(σ:St):Prop:=ρ.length=σ.length/\∀(i:Nat)(a:AV),ρ[i]?=some (some a)->∃v,σ[i]?=some (some v)/\RV G a v
noncomputable def RKs(G:Hp):List (Str×AV)->List (Key×V)->Prop
 | [],ks=>ks=[]
 |p::r,ks=>∃v r',ks=((Sum.inr p.1:Key),v)::r'/\RV G p.2 v/\RKs G r r'
mutual
noncomputable def BM:D->Int
 |.int i=>hashInt i
 |.tup ds=>reduceHash (Builtin.Tuple.tupleHashOf (zq ds))
 |_=>0
noncomputable def zq:List D->List Int
 | []=>[]
 |d::ds=>BM d::zq ds
end
noncomputable abbrev stO(l:Addr)(es:List (D×V×V)):HO:=.ext fun h=>∃o es' ep,h.get? l=some o/\o.ExactDict/\o.data=.dict es' ep/\(l == sysModules)=false/\es.length<=sizeLine/\(es.map (·.1)).Nodup /\
 Paired (fun(p:D×V×V) (q:DictEntry)=>q.hash=BM p.1/\br p.2.1 q.key/\br p.2.2 q.val) es es'.toList
noncomputable def RDs(G:Hp):List (D×AV)->List (D×V×V)->Prop
 | [],es=>es=[]
 |p::r,es=>∃kv v r',es=(p.1,kv,v)::r'/\Dat G p.1 kv/\RV G p.2 v/\RDs G r r'
structure Rep(F:Fs)(H:Hp)(Z:Om):Prop where
 own:∀l xs,Z l=some (.own xs)->∃vs,H l=some (.lst vs)/\RVs (cut F H Z) xs vs
 frz:∀l ds,Z l=some (.frz ds)->Dat (cut F H Z) (.lst ds) (.ref l)
 hid:∀b,F b=true->Z b=none/\∃vs,H b=some (.lst vs)
 dic:∀l kvs,Z l=some (.dic kvs)->∃ks,H l=some (.dK ks)/\RKs (cut F H Z) kvs ks
 sto:∀l kvs,Z l=some (.sto kvs)->∃es,H l=some (stO l es)/\RDs (cut F H Z) kvs es
structure Fr(F:Fs)(H:Hp)(Z:Om)(H':Hp)(Z':Om):Prop where
 st:∀b o,ow (Z b)=false->F b=false->H b=some o->H' b=some o/\ow (Z' b)=false
 hd:∀b,F b=true->H' b=H b
section
variable{F:Fs}{H H1 H2 H':Hp}{Z Z1 Z2 Z':Om}{G G':Hp}
theorem Fr.refl:Fr F H Z H Z:=⟨fun _ _ h _ e=>⟨e,h⟩,fun _ _=>rfl⟩
theorem Fr.trans(a:Fr F H Z H1 Z1)(b:Fr F H1 Z1 H2 Z2):Fr F H Z H2 Z2:=
 ⟨fun c o h f e=>let ⟨x,y⟩:=a.st c o h f e;b.st c o y f x,fun c h=>(b.hd c h).trans (a.hd c h)⟩
theorem bY{b:Addr}{o:HO}:cut F H Z b=some o↔ow (Z b)=false/\F b=false/\H b=some o:=by
 unfold cut;cases ow (Z b)<;>cases F b<;>simp
theorem Fr.same(a:Fr F H Z H' Z'):dj (cut F H Z) (cut F H' Z'):=fun b o e=>by
 obtain⟨h,f,e⟩:=bY.mp e;obtain⟨x,y⟩:=a.st b o h f e;exact bY.mpr ⟨y,f,x⟩
theorem ba:dj (cut F H Z) H:=fun b o e=>(bY.mp e).2.2
theorem RV.same(e:dj G G'):∀ {a:AV} {v:V},RV G a v->RV G' a v
 |.d _,_,h=>Dat.same e h
 |.r _,_,h=>h
 |.p _ _,_,h=>⟨h.1,fun G2 s=>h.2 G2 (e.trans s)⟩
theorem RVs.same(e:dj G G'):∀ {as:List AV} {vs:List V},RVs G as vs->RVs G' as vs
 | [],_,h=>h
 |_::_,_,⟨v,r,h1,h2,h3⟩=>⟨v,r,h1,h2.same e,h3.same e⟩
theorem RKs.same(e:dj G G'):∀ {as:List (Str×AV)} {vs:List (Key×V)},RKs G as vs->RKs G' as vs
 | [],_,h=>h
 |_::_,_,⟨v,r,h1,h2,h3⟩=>⟨v,r,h1,h2.same e,h3.same e⟩
theorem RDs.same(e:dj G G'):∀ {as:List (D×AV)} {vs:List (D×V×V)},RDs G as vs->RDs G' as vs
 | [],_,h=>h
 |_::_,_,⟨k,v,r,h1,h2,h3,h4⟩=>⟨k,v,r,h1,Dat.same e h2,h3.same e,h4.same e⟩
theorem RS.same(e:dj G G'){ρ:SA}{σ:St}(h:RS G ρ σ):RS G' ρ σ:=⟨h.1,fun i a q=>let ⟨v,x,y⟩:=h.2 i a q;⟨v,x,y.same e⟩⟩
theorem RVs.length:∀ {as:List AV} {vs:List V},RVs G as vs->vs.length=as.length
 | [],_,h=>by cases h;rfl
 |_::_,_,⟨v,r,h1,_,h3⟩=>by subst h1;simp[h3.length]
theorem RVs.get:∀ {as:List AV} {vs:List V} {i:Nat} {a:AV},RVs G as vs->as[i]?=some a->∃v,vs[i]?=some v/\RV G a v
 | [],_,_,_,_,e=>by simp at e
 |_::_,_,0,_,⟨v,r,h1,h2,_⟩,e=>by subst h1;simp at e;subst e;exact⟨v,rfl,h2⟩
 |_::_,_,i+1,_,⟨v,r,h1,_,h3⟩,e=>by subst h1;simp at e;obtain⟨v',e1,e2⟩:=h3.get e;exact⟨v',by simpa using e1,e2⟩
theorem RVs.append:∀ {as bs:List AV} {vs us:List V},RVs G as vs->RVs G bs us->RVs G (as++bs) (vs++us)
 | [],_,_,_,h,k=>by cases h;exact k
 |_::_,_,_,_,⟨v,r,h1,h2,h3⟩,k=>by subst h1;exact⟨v,_,rfl,h2,h3.append k⟩
theorem RVs.one{a:AV}{v:V}(h:RV G a v):RVs G [a] [v]:=⟨v,[],rfl,h,rfl⟩
theorem RVs.dats:∀ {ds:List D} {vs:List V},RVs G (ds.map AV.d) vs↔aG G ds vs
 | [],_=>by simp[RVs,aG]
 |d::ds,vs=>by
  simp only[List.map_cons,RVs,aG,RV];constructor
  ·rintro⟨v,r,h1,h2,h3⟩;exact⟨v,r,h1,h2,RVs.dats.mp h3⟩
  ·rintro⟨v,r,h1,h2,h3⟩;exact⟨v,r,h1,h2,RVs.dats.mpr h3⟩
theorem RVs.set{as:List AV}{vs:List V}(i:Nat){a:AV}{v:V}(h:RVs G as vs)(k:RV G a v):RVs G (as.set i a) (vs.set i v):=by
 induction as generalizing vs i with
 |nil=>cases h;exact rfl
 |cons b as ih=>
  obtain⟨u,r,rfl,h2,h3⟩:=h
  cases i with
  |zero=>exact⟨v,r,rfl,k,h3⟩
  |succ i=>exact⟨u,_,rfl,h2,ih i h3⟩
theorem RVs.dropLast:∀ {as:List AV} {vs:List V},RVs G as vs->RVs G as.dropLast vs.dropLast
 | [],_,h=>by cases h;exact rfl
 | [a],_,⟨v,r,h1,h2,h3⟩=>by cases h3;subst h1;exact rfl
 |a::b::as,_,⟨v,r,h1,h2,h3⟩=>by
  obtain⟨u,r',rfl,k2,k3⟩:=id h3;subst h1;exact⟨v,_,rfl,h2,h3.dropLast⟩
theorem Rep.free(R:Rep F H Z){p:Addr}(h:H p=none):Z p=none/\F p=false:=by
 constructor
 ·cases e:Z p with
  |none=>rfl
  |some c=>cases c with
   |own xs=>obtain⟨vs,q,_⟩:=R.own p xs e;rw[h] at q;cases q
   |frz ds=>
    have q:=R.frz p ds e;simp only[Dat] at q;obtain⟨a,xs,e1,e2,_⟩:=q;cases e1;rw[ba _ _ e2] at h;cases h
   |dic kvs=>obtain⟨vs,q,_⟩:=R.dic p kvs e;rw[h] at q;cases q
   |sto kvs=>obtain⟨vs,q,_⟩:=R.sto p kvs e;rw[h] at q;cases q
 ·cases e:F p with
  |false=>rfl
  |true=>obtain⟨_,o,q⟩:=R.hid p e;rw[h] at q;cases q
theorem Rep.lay(R:Rep F H Z){p:Addr}{o:HO}(h:H p=none):Rep F (upd H p o) Z/\Fr F H Z (upd H p o) Z/\cut F (upd H p o) Z p=some o:=by
 have hs:=xE (o:=o) h
 have fr:Fr F H Z (upd H p o) Z:=⟨fun b u x f e=>⟨hs _ _ e,x⟩,fun b f=>by
  obtain⟨_,u,q⟩:=R.hid b f
  rw[aS (bj q h)]⟩
 obtain⟨f1,f2⟩:=R.free h;refine⟨⟨fun l xs e=>?_,fun l ds e=>(R.frz l ds e).same fr.same,fun b f=>?_,fun l ks e=>(by obtain⟨vs,e1,e2⟩:=R.dic l ks e;exact⟨vs,hs _ _ e1,e2.same fr.same⟩),fun l ks e=>(by obtain⟨vs,e1,e2⟩:=R.sto l ks e;exact⟨vs,hs _ _ e1,e2.same fr.same⟩)⟩,fr,bY.mpr ⟨by rw[f1];rfl,f2,di⟩⟩
 ·obtain⟨vs,e1,e2⟩:=R.own l xs e
  exact⟨vs,hs _ _ e1,e2.same fr.same⟩
 ·obtain⟨x,u,q⟩:=R.hid b f
  exact⟨x,u,hs _ _ q⟩
theorem vZ{l:Addr}{xs ys:List AV}{o:HO}(h:Z l=some (.own xs)):cut F (upd H l o) (Z.put l (.own ys))=cut F H Z:=by
 funext b
 unfold cut Om.put;by_cases hb:b=l
 ·subst hb;rw[if_pos rfl,h];simp[ow]
 ·rw[if_neg hb,aS hb]
theorem Rep.write(R:Rep F H Z){l:Addr}{xs ys:List AV}{vs:List V}(h:Z l=some (.own xs))(hv:RVs (cut F H Z) ys vs):
  Rep F (upd H l (.lst vs)) (Z.put l (.own ys))/\Fr F H Z (upd H l (.lst vs)) (Z.put l (.own ys)):=by
 have c:=vZ (F:=F) (H:=H) (ys:=ys) (o:=.lst vs) h
 refine ⟨⟨fun k zs e=>?_,fun k ds e=>?_,fun b f=>?_,fun k ks e=>(by
  have hk:k≠l:=fun z=>(by subst z;rw[Om.FR] at e;cases e)
  rw[Om.FS hk] at e;rw[c,aS hk];exact R.dic k ks e),fun k ks e=>(by
  have hk:k≠l:=fun z=>(by subst z;rw[Om.FR] at e;cases e)
  rw[Om.FS hk] at e;rw[c,aS hk];exact R.sto k ks e)⟩,fun b o x f e=>?_,fun b f=>?_⟩
 ·rw[c]
  by_cases hk:k=l
  ·subst hk;rw[Om.FR] at e;cases e;exact⟨vs,di,hv⟩
  ·rw[Om.FS hk] at e;rw[aS hk];exact R.own k zs e
 ·rw[c]
  by_cases hk:k=l
  ·subst hk;rw[Om.FR] at e;cases e
  ·rw[Om.FS hk] at e;exact R.frz k ds e
 ·obtain⟨x,o,q⟩:=R.hid b f
  have hb:b≠l:=fun z=>by subst z;rw[h] at x;cases x
  exact⟨by rw[Om.FS hb];exact x,o,by rw[aS hb];exact q⟩
 ·have hb:b≠l:=fun z=>by subst z;rw[h] at x;cases x
  rw[Om.FS hb,aS hb];exact⟨e,x⟩
 ·obtain⟨x,o,q⟩:=R.hid b f
  have hb:b≠l:=fun z=>by subst z;rw[h] at x;cases x
  exact aS hb
theorem Rep.mk'(R:Rep F H Z){l:Addr}{xs:List AV}{vs:List V}(h:H l=none)(hv:RVs (cut F H Z) xs vs):
  Rep F (upd H l (.lst vs)) (Z.put l (.own xs))/\Fr F H Z (upd H l (.lst vs)) (Z.put l (.own xs)):=by
 obtain⟨f1,f2⟩:=R.free h
 have c:cut F (upd H l (.lst vs)) (Z.put l (.own xs))=cut F H Z:=by
  funext b
  unfold cut Om.put;by_cases hb:b=l
  ·subst hb;rw[if_pos rfl,f1,f2,h];simp[ow]
  ·rw[if_neg hb,aS hb]
 refine ⟨⟨fun k zs e=>?_,fun k ds e=>?_,fun b f=>?_,fun k ks e=>(by
  have hk:k≠l:=fun z=>(by subst z;rw[Om.FR] at e;cases e)
  rw[Om.FS hk] at e;rw[c,aS hk];exact R.dic k ks e),fun k ks e=>(by
  have hk:k≠l:=fun z=>(by subst z;rw[Om.FR] at e;cases e)
  rw[Om.FS hk] at e;rw[c,aS hk];exact R.sto k ks e)⟩,fun b o x f e=>?_,fun b f=>?_⟩
 ·rw[c]
  by_cases hk:k=l
  ·subst hk;rw[Om.FR] at e;cases e;exact⟨vs,di,hv⟩
  ·rw[Om.FS hk] at e;rw[aS hk];exact R.own k zs e
 ·rw[c]
  by_cases hk:k=l
  ·subst hk;rw[Om.FR] at e;cases e
  ·rw[Om.FS hk] at e;exact R.frz k ds e
 ·obtain⟨x,o,q⟩:=R.hid b f
  have hb:b≠l:=bj q h;exact⟨by rw[Om.FS hb];exact x,o,by rw[aS hb];exact q⟩
 ·have hb:b≠l:=bj e h
  rw[Om.FS hb,aS hb];exact⟨e,x⟩
 ·obtain⟨x,o,q⟩:=R.hid b f
  exact aS (bj q h)
theorem Rep.freeze(R:Rep F H Z){l:Addr}{ds:List D}(h:Z l=some (.own (ds.map AV.d))):
  Rep F H (Z.put l (.frz ds))/\Fr F H Z H (Z.put l (.frz ds))/\Dat (cut F H (Z.put l (.frz ds))) (.lst ds) (.ref l):=by
 have fr:Fr F H Z H (Z.put l (.frz ds)):=⟨fun b o x f e=>⟨e,by
  by_cases hb:b=l
  ·subst hb;rw[h] at x;cases x
  ·rw[Om.FS hb];exact x⟩,fun _ _=>rfl⟩
 obtain⟨vs,e1,e2⟩:=R.own l _ h
 have hF:F l=false:=by
  cases e:F l with
  |false=>rfl
  |true=>have:=(R.hid l e).1;rw[h] at this;cases this
 have dl:Dat (cut F H (Z.put l (.frz ds))) (.lst ds) (.ref l):=by
  simp only[Dat];exact⟨l,vs,rfl,bY.mpr ⟨by rw[Om.FR];rfl,hF,e1⟩,(RVs.dats.mp e2).same fr.same⟩
 refine ⟨⟨fun k zs e=>?_,fun k es e=>?_,fun b f=>?_,fun k ks e=>(by
  have hk:k≠l:=fun z=>(by subst z;rw[Om.FR] at e;cases e)
  rw[Om.FS hk] at e;obtain⟨us,q1,q2⟩:=R.dic k ks e;exact⟨us,q1,q2.same fr.same⟩),fun k ks e=>(by
  have hk:k≠l:=fun z=>(by subst z;rw[Om.FR] at e;cases e)
  rw[Om.FS hk] at e;obtain⟨us,q1,q2⟩:=R.sto k ks e;exact⟨us,q1,q2.same fr.same⟩)⟩,fr,dl⟩
 ·by_cases hk:k=l
  ·subst hk;rw[Om.FR] at e;cases e
  ·rw[Om.FS hk] at e
   obtain⟨us,q1,q2⟩:=R.own k zs e;exact⟨us,q1,q2.same fr.same⟩
 ·by_cases hk:k=l
  ·subst hk;rw[Om.FR] at e;cases e;exact dl
  ·rw[Om.FS hk] at e;exact(R.frz k es e).same fr.same
 ·obtain⟨x,o,q⟩:=R.hid b f
  have hb:b≠l:=fun z=>by subst z;rw[h] at x;cases x
  exact⟨by rw[Om.FS hb];exact x,o,q⟩
theorem Rep.hide(R:Rep F H Z){l:Addr}{vs:List V}(h:H l=none):Rep (F.add l) (upd H l (.lst vs)) Z/\cut (F.add l) (upd H l (.lst vs)) Z=cut F H Z:=by
 obtain⟨f1,f2⟩:=R.free h
 have c:cut (F.add l) (upd H l (.lst vs)) Z=cut F H Z:=by
  funext b
  unfold cut Fs.add;by_cases hb:b=l
  ·subst hb;simp[h]
  ·rw[aS hb];simp[hb]
 refine⟨⟨fun k zs e=>?_,fun k ds e=>?_,fun b f=>?_,fun k ks e=>(by rw[c];obtain⟨us,q1,q2⟩:=R.dic k ks e;exact⟨us,by rw[aS (bj q1 h)];exact q1,q2⟩),fun k ks e=>(by rw[c];obtain⟨us,q1,q2⟩:=R.sto k ks e;exact⟨us,by rw[aS (bj q1 h)];exact q1,q2⟩)⟩,c⟩
 ·rw[c]
  obtain⟨us,q1,q2⟩:=R.own k zs e;exact⟨us,by rw[aS (bj q1 h)];exact q1,q2⟩
 ·rw[c];exact R.frz k ds e
 ·by_cases hb:b=l
  ·subst hb;exact⟨f1,_,di⟩
  ·have f':F b=true:=by simpa[Fs.add,hb] using f
   obtain⟨x,o,q⟩:=R.hid b f';exact⟨x,o,by rw[aS hb];exact q⟩
theorem Rep.hwrite(R:Rep F H Z){l:Addr}{vs:List V}(h:F l=true):Rep F (upd H l (.lst vs)) Z/\cut F (upd H l (.lst vs)) Z=cut F H Z:=by
 have c:cut F (upd H l (.lst vs)) Z=cut F H Z:=by
  funext b
  unfold cut;by_cases hb:b=l
  ·subst hb;simp[h]
  ·rw[aS hb]
 refine ⟨⟨fun k zs e=>?_,fun k ds e=>?_,fun b f=>?_,fun k ks e=>(by
  have hk:k≠l:=fun z=>(by subst z;rw[(R.hid _ h).1] at e;cases e)
  rw[c,aS hk];exact R.dic k ks e),fun k ks e=>(by
  have hk:k≠l:=fun z=>(by subst z;rw[(R.hid _ h).1] at e;cases e)
  rw[c,aS hk];exact R.sto k ks e)⟩,c⟩
 ·rw[c]
  obtain⟨us,q1,q2⟩:=R.own k zs e;have hk:k≠l:=fun z=>by subst z;rw[(R.hid _ h).1] at e;cases e
  exact⟨us,by rw[aS hk];exact q1,q2⟩
 ·rw[c];exact R.frz k ds e
 ·by_cases hb:b=l
  ·subst hb;exact⟨(R.hid _ h).1,_,di⟩
  ·obtain⟨x,o,q⟩:=R.hid b f
   exact⟨x,o,by rw[aS hb];exact q⟩
theorem Rep.unhide{l:Addr}{vs:List V}(R:Rep (F.add l) H Z)(hF:F l=false)(h:H l=some (.lst vs)):
  Rep F H Z/\dj (cut (F.add l) H Z) (cut F H Z)/\cut F H Z l=some (.lst vs):=by
 have hl:Z l=none:=(R.hid l (by simp[Fs.add])).1
 have sm:dj (cut (F.add l) H Z) (cut F H Z):=fun b o e=>by
  obtain⟨x,f,e⟩:=bY.mp e;refine bY.mpr ⟨x,?_,e⟩;unfold Fs.add at f
  cases q:F b with
  |false=>rfl
  |true=>rw[q] at f;simp at f
 refine⟨⟨fun k zs e=>?_,fun k ds e=>(R.frz k ds e).same sm,fun b f=>R.hid b (by simp[Fs.add,f]),fun k ks e=>(by obtain⟨us,q1,q2⟩:=R.dic k ks e;exact⟨us,q1,q2.same sm⟩),fun k ks e=>(by obtain⟨us,q1,q2⟩:=R.sto k ks e;exact⟨us,q1,q2.same sm⟩)⟩,sm,bY.mpr ⟨by rw[hl];rfl,hF,h⟩⟩
 obtain⟨us,q1,q2⟩:=R.own k zs e;exact⟨us,q1,q2.same sm⟩
end
noncomputable def LP{α β:Type}(R:Hp->α->β->Prop)(F:Fs)(H:Hp)(Z:Om)(Q':α->Om->Prop)(Q:β->Hp->Prop):Prop:=
 ∀a Z' v H',Rep F H' Z'->Fr F H Z H' Z'->R (cut F H' Z') a v->Q' a Z'->Q v H'
theorem LP.fr{α β:Type}{R:Hp->α->β->Prop}{F:Fs}{H H1:Hp}{Z Z1:Om}{Q':α->Om->Prop}{Q:β->Hp->Prop}(k:LP R F H Z Q' Q)(f:Fr F H Z H1 Z1):LP R F H1 Z1 Q' Q:=
 fun a Z' v H' rp fr rv q=>k a Z' v H' rp (f.trans fr) rv q
structure Ref{α β:Type}(R:Hp->α->β->Prop)(t:St->Hp->(β->Hp->Prop)->Prop)(t':SA->Om->(α->Om->Prop)->Prop):Prop where
 run:∀(F:Fs)(H:Hp)(Z:Om)(σ:St)(ρ:SA)(Q:β->Hp->Prop)(Q':α->Om->Prop),Rep F H Z->RS (cut F H Z) ρ σ->t' ρ Z Q'->LP R F H Z Q' Q->t σ H Q
theorem Ref.go{α β:Type}{R:Hp->α->β->Prop}{t:St->Hp->(β->Hp->Prop)->Prop}{t':SA->Om->(α->Om->Prop)->Prop}(h:Ref R t t'){F:Fs}{H:Hp}{Z:Om}{σ:St}{ρ:SA}{Q:β->Hp->Prop}{Q':α->Om->Prop}(rp:Rep F H Z)(rs:RS (cut F H Z) ρ σ)(w:t' ρ Z Q')(k:∀a Z1 v H1,Rep F H1 Z1->Fr F H Z H1 Z1->RS (cut F H1 Z1) ρ σ->R (cut F H1 Z1) a v->Q' a Z1->Q v H1):t σ H Q:=
 h.run F H Z σ ρ Q Q' rp rs w fun a Z1 v H1 rp1 fr1 rv q=>k a Z1 v H1 rp1 fr1 (rs.same fr1.same) rv q
noncomputable abbrev AE:=SA->Om->(AV->Om->Prop)->Prop
noncomputable abbrev AT:=SA->Om->(Bool->Om->Prop)->Prop
noncomputable abbrev AA:=SA->Om->(List AV->Om->Prop)->Prop
noncomputable def REq{α:Type}(_:Hp)(a b:α):Prop:=a=b
noncomputable abbrev bw(t:TE)(t':AE):Prop:=Ref RV t t'
noncomputable abbrev kn(t:TT)(t':AT):Prop:=Ref REq t t'
noncomputable abbrev k7(t:TA)(t':AA):Prop:=Ref RVs t t'
structure cu where
 nx:SA->Om->Prop
 rt:AV->Om->Prop
 bk:SA->Om->Prop:=fun _ _=>False
 ct:SA->Om->Prop:=fun _ _=>False
noncomputable abbrev AS:=cu->SA->Om->Prop
structure LE(F:Fs)(H:Hp)(Z:Om)(D':cu)(D:ir):Prop where
 nx:LP RS F H Z D'.nx D.nx
 rt:LP RV F H Z D'.rt D.rt
 bk:LP RS F H Z D'.bk D.bk
 ct:LP RS F H Z D'.ct D.ct
theorem LE.fr{F:Fs}{H H1:Hp}{Z Z1:Om}{D':cu}{D:ir}(k:LE F H Z D' D)(f:Fr F H Z H1 Z1):LE F H1 Z1 D' D:=⟨k.nx.fr f,k.rt.fr f,k.bk.fr f,k.ct.fr f⟩
structure iq(t:TS)(t':AS):Prop where
 run:∀(F:Fs)(H:Hp)(Z:Om)(σ:St)(ρ:SA)(D:ir)(D':cu),Rep F H Z->RS (cut F H Z) ρ σ->t' D' ρ Z->LE F H Z D' D->t D σ H
noncomputable abbrev AG:=AV->SA->Om->(SA->Om->Prop)->Prop
noncomputable abbrev AGs:=List AV->SA->Om->(SA->Om->Prop)->Prop
structure oK(g:TG)(g':AG):Prop where
 run:∀(F:Fs)(H:Hp)(Z:Om)(σ:St)(ρ:SA)(v:V)(a:AV)(Q:St->Hp->Prop)(Q':SA->Om->Prop),Rep F H Z->RS (cut F H Z) ρ σ->RV (cut F H Z) a v->g' a ρ Z Q'->LP RS F H Z Q' Q->g v σ H Q
structure vy(g:TGs)(g':AGs):Prop where
 run:∀(F:Fs)(H:Hp)(Z:Om)(σ:St)(ρ:SA)(v:List V)(a:List AV)(Q:St->Hp->Prop)(Q':SA->Om->Prop),Rep F H Z->RS (cut F H Z) ρ σ->RVs (cut F H Z) a v->g' a ρ Z Q'->LP RS F H Z Q' Q->g v σ H Q
noncomputable abbrev ASp:=List AV->Om->(AV->Om->Prop)->Prop
noncomputable def ca(sp:ASp):Sp:=fun vs H Q _=>∃(F:Fs)(xs:List AV)(Z:Om)(Q':AV->Om->Prop),Rep F H Z/\RVs (cut F H Z) xs vs/\sp xs Z Q'/\LP RV F H Z Q' Q
noncomputable def B6:AS:=fun D ρ Z=>D.nx ρ Z
noncomputable def nj(t u:AS):AS:=fun D ρ Z=>t { D with nx:=u D } ρ Z
noncomputable def BO(te:AE):AS:=fun D ρ Z=>te ρ Z fun _ Z1=>D.nx ρ Z1
noncomputable def Ep(te:AE):AS:=fun D ρ Z=>te ρ Z D.rt
noncomputable def DP(c:AT)(t u:AS):AS:=fun D ρ Z=>c ρ Z fun b Z1=>if b=true then t D ρ Z1 else u D ρ Z1
noncomputable def AD(te:AE)(g:AG):AS:=fun D ρ Z=>te ρ Z fun x Z1=>g x ρ Z1 D.nx
noncomputable def zg(c:AT)(tb:AS):AS:=fun D ρ Z=>∃W:Nat->SA->Om->Prop,(∃m,W m ρ Z)/\∀m ρ Z,W m ρ Z ->
 c ρ Z fun b Z1=>if b=true then ∃N:SA->Om->Prop,(∀ρ' Z',N ρ' Z'->∃m',m'<m/\W m' ρ' Z')/\tb { D with nx:=N,ct:=N,bk:=D.nx } ρ Z1 else D.nx ρ Z1
noncomputable def gu(i:Nat):AG:=fun v ρ Z Q=>Q (ρ.set i (some v)) Z
noncomputable def Cj:AGs:=fun vs ρ Z Q=>vs=[]/\Q ρ Z
noncomputable def zO(t:AG)(u:AGs):AGs:=fun vs ρ Z Q=>∃v r,vs=v::r/\t v ρ Z fun ρ' Z'=>u r ρ' Z' Q
section
variable{t u:TS}{t' u':AS}{te:TE}{te':AE}{tc:TT}{tc':AT}{g:TG}{g':AG}{gs:TGs}{gs':AGs}
theorem RS.set{G:Hp}{ρ:SA}{σ:St}{i:Nat}{a:AV}{v:V}(h:RS G ρ σ)(r:RV G a v):RS G (ρ.set i (some a)) (σ.set i (some v)):=by
 refine⟨by simp[h.1],fun j b e=>?_⟩
 by_cases hj:j=i
 ·subst hj
  rw[List.getElem?_set] at e;rw[List.getElem?_set];simp only[if_true] at e ⊢;split at e
  ·rename_i hl
   cases e;rw[if_pos (h.1 ▸ hl)];exact⟨v,rfl,r⟩
  ·cases e
 ·rw[List.getElem?_set_ne (Ne.symm hj)] at e
  rw[List.getElem?_set_ne (Ne.symm hj)];exact h.2 j b e
theorem bz:iq Aa B6:=⟨fun F H Z σ ρ D D' rp rs h k=>k.nx ρ Z σ H rp .refl rs h⟩
theorem ax(h1:iq t t')(h2:iq u u'):iq (DK t u) (nj t' u'):=⟨fun F H Z σ ρ D D' rp rs h k=>
 h1.run F H Z σ ρ _ _ rp rs h ⟨fun ρ1 Z1 σ1 H1 rp1 fr1 rs1 q=>h2.run F H1 Z1 σ1 ρ1 D D' rp1 rs1 q (k.fr fr1),k.rt,k.bk,k.ct⟩⟩
theorem ka(h:bw te te'):iq (BN te) (BO te'):=⟨fun F H Z σ ρ D D' rp rs w k=>h.go rp rs w fun a Z1 v H1 rp1 fr1 rs1 rv q=>k.nx ρ Z1 σ H1 rp1 fr1 rs1 q⟩
theorem a9(h:bw te te'):iq (C3 te) (Ep te'):=⟨fun F H Z σ ρ D D' rp rs w k=>h.run F H Z σ ρ _ _ rp rs w k.rt⟩
theorem dg(hc:kn tc tc')(h1:iq t t')(h2:iq u u'):iq (CY tc t u) (DP tc' t' u'):=⟨fun F H Z σ ρ D D' rp rs w k=>
 hc.go rp rs w fun a Z1 v H1 rp1 fr1 rs1 rv q=>by
  cases (show a=v from rv)
  cases a with
  |true=>rw[if_pos rfl] at q ⊢;exact h1.run F H1 Z1 σ ρ D D' rp1 rs1 q (k.fr fr1)
  |false=>rw[if_neg Bool.false_ne_true] at q ⊢;exact h2.run F H1 Z1 σ ρ D D' rp1 rs1 q (k.fr fr1)⟩
theorem aR(h:bw te te')(hg:oK g g'):iq (Ai te g) (AD te' g'):=⟨fun F H Z σ ρ D D' rp rs w k=>h.go rp rs w fun a Z1 v H1 rp1 fr1 rs1 rv q=>
 hg.run F H1 Z1 σ ρ v a _ _ rp1 rs1 rv q (k.nx.fr fr1)⟩
theorem aq{i:Nat}:oK (u4 i) (gu i):=⟨fun F H Z σ ρ v a Q Q' rp rs rv w k=>k _ Z _ H rp .refl (rs.set rv) w⟩
theorem vz:vy Eu Cj:=⟨fun F H Z σ ρ vs as Q Q' rp rs rv w k=>by
 obtain⟨rfl,w⟩:=w
 exact⟨rv,k ρ Z σ H rp .refl rs w⟩⟩
theorem ef(h1:oK g g')(h2:vy gs gs'):vy (B7 g gs) (zO g' gs'):=⟨fun F H Z σ ρ vs as Q Q' rp rs rv w k=>by
 obtain⟨a,r,rfl,w⟩:=w;obtain⟨v,us,rfl,rv1,rv2⟩:=rv
 exact⟨v,us,rfl,h1.run F H Z σ ρ v a _ _ rp rs rv1 w fun ρ1 Z1 σ1 H1 rp1 fr1 rs1 q=>h2.run F H1 Z1 σ1 ρ1 us r Q Q' rp1 rs1 (rv2.same fr1.same) q (k.fr fr1)⟩⟩
theorem pM(hc:kn tc tc')(hb:iq t t'):iq (yT tc t) (zg tc' t'):=⟨fun F H Z σ ρ D D' rp rs w k=>by
 obtain⟨W,⟨m0,w0⟩,turn⟩:=w;refine⟨fun m σ1 H1=>∃ρ1 Z1,Rep F H1 Z1/\RS (cut F H1 Z1) ρ1 σ1/\Fr F H Z H1 Z1/\W m ρ1 Z1,⟨m0,ρ,Z,rp,rs,.refl,w0⟩,?_⟩;rintro m σ1 H1 ⟨ρ1,Z1,rp1,rs1,fr1,w1⟩;refine hc.go rp1 rs1 (turn m ρ1 Z1 w1) fun a Z2 v H2 rp2 fr2 rs2 rv q=>?_;cases (show a=v from rv)
 have k2:=k.fr (fr1.trans fr2)
 cases a with
 |true=>
  rw[if_pos rfl] at q ⊢;obtain⟨N,hN,q⟩:=q;refine⟨fun σ' H'=>∃ρ' Z',Rep F H' Z'/\RS (cut F H' Z') ρ' σ'/\Fr F H Z H' Z'/\N ρ' Z',?_,hb.run F H2 Z2 σ1 ρ1 _ _ rp2 rs2 q ⟨?_,k2.rt,k2.nx,?_⟩⟩
  ·rintro σ' H' ⟨ρ',Z',e1,e2,e3,e4⟩
   obtain⟨m',hm,z⟩:=hN _ _ e4;exact⟨m',hm,ρ',Z',e1,e2,e3,z⟩
  ·exact fun ρ' Z' σ' H' e1 e2 e3 e4=>⟨ρ',Z',e1,e3,(fr1.trans fr2).trans e2,e4⟩
  ·exact fun ρ' Z' σ' H' e1 e2 e3 e4=>⟨ρ',Z',e1,e3,(fr1.trans fr2).trans e2,e4⟩
 |false=>
  rw[if_neg Bool.false_ne_true] at q ⊢
  exact k2.nx ρ1 Z2 σ1 H2 rp2 .refl rs2 q⟩
end
noncomputable def yP(G:Hp)(as:List AV)(J:It):Prop:=∀(F:Fs)(H:Hp)(Z:Om),Rep F H Z->dj G (cut F H Z)->J.stop as.length H /\
 ∀(i:Nat)(a:AV),as[i]?=some a->J.go i H/\∀x H',J.yld i H x H'->Rep F H' Z/\Fr F H Z H' Z/\RV (cut F H' Z) a x
noncomputable abbrev AI:=SA->Om->(List AV->Om->Prop)->Prop
noncomputable abbrev xi(t:TI)(t':AI):Prop:=Ref yP t t'
noncomputable def iB(g:AG)(tb:AS)(D:cu):List AV->SA->Om->Prop
 | [],ρ,Z=>D.nx ρ Z
 |a::as,ρ,Z=>g a ρ Z fun ρ1 Z1=>tb { nx:=iB g tb D as,ct:=iB g tb D as,bk:=D.nx,rt:=D.rt } ρ1 Z1
noncomputable def EC(wi:AI)(g:AG)(tb:AS):AS:=fun D ρ Z=>wi ρ Z fun as Z1=>iB g tb D as ρ Z1
theorem ik{α:Type}{as:List α}{i:Nat}(h:i<as.length):∃a,as[i]?=some a/\as.drop i=a::as.drop (i+1):=
 ⟨as[i],List.getElem?_eq_getElem h,List.drop_eq_getElem_cons h⟩
theorem mW{wi:TI}{wi':AI}{g:TG}{g':AG}{t:TS}{t':AS}(hi:xi wi wi')(hg:oK g g')(hb:iq t t'):iq (CG wi g t) (EC wi' g' t'):=⟨fun F H Z σ ρ D D' rp rs w k=>by
 rw[Bg];refine hi.go rp rs w fun as Z1 J H1 rp1 fr1 rs1 it q=>?_;refine⟨fun i m σ2 H2=>m+i=as.length/\∃ρ2 Z2,Rep F H2 Z2/\RS (cut F H2 Z2) ρ2 σ2/\Fr F H1 Z1 H2 Z2/\iB g' t' D' (as.drop i) ρ2 Z2,⟨as.length,rfl,ρ,Z1,rp1,rs1,.refl,q⟩,?_⟩;rintro i m σ2 H2 ⟨hm,ρ2,Z2,rp2,rs2,fr2,q2⟩;obtain⟨stop,go⟩:=it F H2 Z2 rp2 fr2.same;by_cases hl:i<as.length
 ·obtain⟨a,ha,hd⟩:=ik hl
  rw[hd] at q2;obtain⟨g1,y1⟩:=go i a ha;refine .inr ⟨g1,fun σ' H'=>m-1+(i+1)=as.length/\∃ρ' Z',Rep F H' Z'/\RS (cut F H' Z') ρ' σ'/\Fr F H1 Z1 H' Z'/\iB g' t' D' (as.drop (i+1)) ρ' Z',fun σ' H' z=>⟨m-1,by omega,z⟩,fun x H' hy=>?_⟩
  obtain⟨rp3,fr3,rv3⟩:=y1 x H' hy;have fr13:=(fr2.trans fr3);refine hg.run F H' Z2 σ2 ρ2 x a _ _ rp3 (rs2.same fr3.same) rv3 q2 fun ρ4 Z4 σ4 H4 rp4 fr4 rs4 q4=>?_;have k4:=k.fr ((fr1.trans fr13).trans fr4);refine hb.run F H4 Z4 σ4 ρ4 _ _ rp4 rs4 q4 ⟨?_,k4.rt,k4.nx,?_⟩
  ·exact fun ρ' Z' σ' H'' e1 e2 e3 e4=>⟨by omega,ρ',Z',e1,e3,(fr13.trans fr4).trans e2,e4⟩
  ·exact fun ρ' Z' σ' H'' e1 e2 e3 e4=>⟨by omega,ρ',Z',e1,e3,(fr13.trans fr4).trans e2,e4⟩
 ·have hi:i=as.length:=by omega
  subst hi;rw[List.drop_length] at q2
  exact .inl ⟨stop,k.nx ρ2 Z2 σ2 H2 rp2 (fr1.trans fr2) rs2 q2⟩⟩
noncomputable abbrev AL:=List AV->SA->Om->(List AV->SA->Om->Prop)->Prop
structure Fa(l:Addr)(F:Fs)(H:Hp)(Z:Om)(H':Hp)(Z':Om):Prop where
 st:∀b o,ow (Z b)=false->F b=false->H b=some o->H' b=some o/\ow (Z' b)=false
 hd:∀b,F b=true->b≠l->H' b=H b
theorem Fr.fa{l:Addr}{F:Fs}{H H':Hp}{Z Z':Om}(h:Fr F H Z H' Z'):Fa l F H Z H' Z':=⟨h.st,fun b f _=>h.hd b f⟩
theorem Fa.trans{l:Addr}{F:Fs}{H H1 H2:Hp}{Z Z1 Z2:Om}(a:Fa l F H Z H1 Z1)(b:Fa l F H1 Z1 H2 Z2):Fa l F H Z H2 Z2:=
 ⟨fun c o h f e=>let ⟨x,y⟩:=a.st c o h f e;b.st c o y f x,fun c h n=>(b.hd c h n).trans (a.hd c h n)⟩
theorem Fa.same{l:Addr}{F:Fs}{H H':Hp}{Z Z':Om}(a:Fa l F H Z H' Z'):dj (cut F H Z) (cut F H' Z'):=fun b o e=>by
 obtain⟨h,f,e⟩:=bY.mp e;obtain⟨x,y⟩:=a.st b o h f e;exact bY.mpr ⟨y,f,x⟩
noncomputable def LL(l:Addr)(F:Fs)(H:Hp)(Z:Om)(K':List AV->SA->Om->Prop)(K:St->Hp->Prop):Prop:=
 ∀xs vs ρ Z' σ H',Rep F H' Z'->Fa l F H Z H' Z'->RS (cut F H' Z') ρ σ->H' l=some (.lst vs)->RVs (cut F H' Z') xs vs->K' xs ρ Z'->K σ H'
structure Bx(l:TL)(l':AL):Prop where
 run:∀(F:Fs)(H:Hp)(Z:Om)(σ:St)(ρ:SA)(acc:Addr)(vs:List V)(xs:List AV)(K:St->Hp->Prop)(K':List AV->SA->Om->Prop),Rep F H Z->RS (cut F H Z) ρ σ->F acc=true->H acc=some (.lst vs)->RVs (cut F H Z) xs vs ->
  l' xs ρ Z K'->LL acc F H Z K' K->l acc σ H K
noncomputable def jd:AT:=fun _ Z Q=>Q true Z
noncomputable def jM(te:AE):AL:=fun xs ρ Z K=>te ρ Z fun y Z1=>xs.length<sizeLine/\K (xs++[y]) ρ Z1
noncomputable def du(g:AG)(tc:AT)(l:AL):List AV->AL
 | [],xs,ρ,Z,K=>K xs ρ Z
 |a::as,xs,ρ,Z,K=>g a ρ Z fun ρ1 Z1=>tc ρ1 Z1 fun b Z2=>if b=true then l xs ρ1 Z2 (fun xs' ρ' Z'=>du g tc l as xs' ρ' Z' K) else du g tc l as xs ρ1 Z2 K
noncomputable def rg(src:List (Option Nat))(ρ:SA):SA:=src.map fun o=>match o with|none=>none|some j=>(ρ[j]?).join
noncomputable def und:List AV->Option (List D)
 | []=>some []
 |.d x::r=>(und r).map (x::·)
 |_=>none
theorem cw:∀ds:List D,und (ds.map AV.d)=some ds
 | []=>rfl
 |d::ds=>by simp[und,cw ds]
theorem eS:∀ {xs:List AV} {ds:List D},und xs=some ds->xs=ds.map AV.d
 | [],ds,h=>by cases h;rfl
 |.d x::r,ds,h=>by
  simp only[und,Option.map_eq_some_iff] at h;obtain⟨es,e1,rfl⟩:=h;rw[eS e1];rfl
 |.r _::_,_,h=>by simp[und] at h
 |.p _ _::_,_,h=>by simp[und] at h
noncomputable def B5(src:List (Option Nat))(wi:AI)(g:AG)(tc:AT)(l:AL):AE:=fun ρ Z Q=>wi ρ Z fun as Z1=>du g tc l as [] (rg src ρ) Z1 fun xs _ Z'=>∃ds,und xs=some ds/\Q (.d (.lst ds)) Z'
section
variable{te:TE}{te':AE}{tc:TT}{tc':AT}{g:TG}{g':AG}{wi:TI}{wi':AI}{l:TL}{l':AL}{src:List (Option Nat)}
theorem ua:kn uM jd:=⟨fun F H Z σ ρ Q Q' rp rs w k=>k true Z true H rp .refl rfl w⟩
theorem fu(h:bw te te'):Bx (Cd te) (jM te'):=⟨fun F H Z σ ρ acc vs xs K K' rp rs fa ha rx w k=>by
 refine h.go rp rs w fun y Z1 v H1 rp1 fr1 rs1 rv q=>?_;obtain⟨q1,q2⟩:=q;have ha1:H1 acc=some (.lst vs):=(fr1.hd acc fa).trans ha;obtain⟨rp2,c2⟩:=rp1.hwrite (vs:=vs++[v]) fa;refine⟨vs,ha1,by rw[rx.length];exact q1,k (xs++[y]) (vs++[v]) ρ Z1 σ _ rp2 ?_ ?_ di ?_ q2⟩
 ·refine fr1.fa.trans ⟨fun b o e1 e2 e3=>⟨?_,e1⟩,fun b f n=>aS n⟩
  have hb:b≠acc:=fun z=>by subst z;rw[fa] at e2;cases e2
  rw[aS hb];exact e3
 ·rw[c2];exact rs1
 ·rw[c2];exact(rx.same fr1.same).append (.one rv)⟩
theorem CB(hg:oK g g')(hc:kn tc tc')(hl:Bx l l'){G:Hp}{as:List AV}{J:It}(it:yP G as J){F:Fs}{H:Hp}{Z:Om}{σ:St}{ρ:SA}{acc:Addr}{vs:List V}{xs:List AV}{K:St->Hp->Prop}{K':List AV->SA->Om->Prop}(rp:Rep F H Z)(rs:RS (cut F H Z) ρ σ)(fa:F acc=true)(ha:H acc=some (.lst vs))(rx:RVs (cut F H Z) xs vs)(sG:dj G (cut F H Z))(w:du g' tc' l' as xs ρ Z K')(k:LL acc F H Z K' K):yp J g tc l acc σ H K:=by
 refine⟨fun i m σ2 H2=>m+i=as.length/\∃ρ2 Z2 vs2 xs2,Rep F H2 Z2/\RS (cut F H2 Z2) ρ2 σ2/\Fa acc F H Z H2 Z2/\H2 acc=some (.lst vs2)/\RVs (cut F H2 Z2) xs2 vs2/\du g' tc' l' (as.drop i) xs2 ρ2 Z2 K',
  ⟨as.length,rfl,ρ,Z,vs,xs,rp,rs,Fr.refl.fa,ha,rx,w⟩,?_⟩
 rintro i m σ2 H2 ⟨hm,ρ2,Z2,vs2,xs2,rp2,rs2,fr2,ha2,rx2,q2⟩;obtain⟨stop,go⟩:=it F H2 Z2 rp2 (sG.trans fr2.same);by_cases hl':i<as.length
 ·obtain⟨a,hai,hd⟩:=ik hl'
  rw[hd] at q2;obtain⟨g1,y1⟩:=go i a hai;refine .inr ⟨g1,fun x H' hy=>?_⟩;obtain⟨rp3,fr3,rv3⟩:=y1 x H' hy;refine hg.run F H' Z2 σ2 ρ2 x a _ _ rp3 (rs2.same fr3.same) rv3 q2 fun ρ4 Z4 σ4 H4 rp4 fr4 rs4 q4=>?_;refine hc.go rp4 rs4 q4 fun b Z5 b' H5 rp5 fr5 rs5 rb q5=>?_;cases (show b=b' from rb)
  have fr25:Fr F H2 Z2 H5 Z5:=(fr3.trans fr4).trans fr5;have ha5:H5 acc=some (.lst vs2):=(fr25.hd acc fa).trans ha2;have rx5:=rx2.same fr25.same
  cases b with
  |true=>
   rw[if_pos rfl] at q5 ⊢;refine hl.run F H5 Z5 σ4 ρ4 acc vs2 xs2 _ _ rp5 rs5 fa ha5 rx5 q5 fun xs6 vs6 ρ6 Z6 σ6 H6 e1 e2 e3 e4 e5 e6=>?_;exact⟨m-1,by omega,by omega,ρ6,Z6,vs6,xs6,e1,e3,(fr2.trans fr25.fa).trans e2,e4,e5,e6⟩
  |false=>
   rw[if_neg Bool.false_ne_true] at q5 ⊢;exact⟨m-1,by omega,by omega,ρ4,Z5,vs2,xs2,rp5,rs5,fr2.trans fr25.fa,ha5,rx5,q5⟩
 ·have hi:i=as.length:=by omega
  subst hi;rw[List.drop_length] at q2;exact .inl ⟨stop,k xs2 vs2 ρ2 Z2 σ2 H2 rp2 fr2 rs2 ha2 rx2 q2⟩
theorem RS.blk{G:Hp}{ρ:SA}{σ:St}(h:RS G ρ σ):RS G (rg src ρ) (nD src σ):=by
 refine⟨by simp[rg,nD],fun i a e=>?_⟩
 unfold rg at e;unfold nD;rw[List.getElem?_map] at e ⊢
 cases q:src[i]? with
 |none=>rw[q] at e;simp at e
 |some o=>
  rw[q] at e
  cases o with
  |none=>simp at e
  |some j=>
   simp only[Option.map_some,Option.some.injEq] at e ⊢
   have e':ρ[j]?=some (some a):=by
    cases z:ρ[j]? with
    |none=>rw[z] at e;simp at e
    |some y=>rw[z] at e;simp at e;rw[e]
   obtain⟨v,e1,e2⟩:=h.2 j a e';exact⟨v,by rw[e1];rfl,e2⟩
theorem BB(hi:xi wi wi')(hg:oK g g')(hc:kn tc tc')(hl:Bx l l'){F:Fs}{H:Hp}{Z:Om}{σ:St}{ρ:SA}{Q:VK}{K':List AV->SA->Om->Prop}(rp:Rep F H Z)(rs:RS (cut F H Z) ρ σ)(w:wi' ρ Z fun as Z1=>du g' tc' l' as [] (rg src ρ) Z1 K')(k:∀p xs vs ρ' Z' H',F p=false->(∀b o,ow (Z b)=false->F b=false->H b=some o->b≠p)->Rep (F.add p) H' Z'->Fr F H Z H' Z'->H' p=some (.lst vs)->RVs (cut (F.add p) H' Z') xs vs->K' xs ρ' Z'->Q (.ref p) H'):uD src wi g tc l σ H Q:=by
 refine hi.go rp rs w fun as Z1 J H1 rp1 fr1 rs1 it q=>fun acc hacc=>?_;obtain⟨rp2,c2⟩:=rp1.hide (vs:=[]) hacc;obtain⟨f1,f2⟩:=rp1.free hacc;have hb1:∀b,b≠acc->F b=false->(F.add acc) b=false:=fun b h f=>by simp[Fs.add,h,f]
 have hne:∀b o,ow (Z b)=false->F b=false->H b=some o->b≠acc:=fun b o h f e=>bj (fr1.st b o h f e).1 hacc;refine CB (xs:=[]) hg hc hl it rp2 (by rw[c2];exact rs1.blk) (by simp[Fs.add]) di rfl (by rw[c2];exact dj.refl _) q fun xs vs ρ' Z' σ' H' e1 e2 e3 e4 e5 e6=>?_
 refine k acc xs vs ρ' Z' H' f2 hne e1 ⟨fun b o h f e=>?_,fun b f=>?_⟩ e4 e5 e6
 ·obtain⟨x,y⟩:=fr1.st b o h f e
  have hb:=hne b o h f e;exact e2.st b o y (hb1 b hb f) (by rw[aS hb];exact x)
 ·have hb:b≠acc:=fun z=>by subst z;rw[f] at f2;cases f2
  rw[e2.hd b (by simp[Fs.add,f]) hb,aS hb,fr1.hd b f]
theorem fy(hi:xi wi wi')(hg:oK g g')(hc:kn tc tc')(hl:Bx l l'):bw (uD src wi g tc l) (B5 src wi' g' tc' l'):=⟨fun F H Z σ ρ Q Q' rp rs w k=>by
 refine BB hi hg hc hl rp rs w fun p xs vs ρ' Z' H' f hne rp1 fr1 e1 e2 q=>?_;obtain⟨ds,hu,q⟩:=q;cases eS hu;obtain⟨rp2,sm,hp⟩:=rp1.unhide f e1;refine k (.d (.lst ds)) Z' _ H' rp2 fr1 ?_ q;simp only[RV,Dat]
 exact⟨p,vs,rfl,hp,RVs.dats.mp (e2.same sm)⟩⟩
end
noncomputable def bu(Z:Om):AV->Option D
 |.d x=>some x
 |.r (.ref l)=>match Z l with
  |some (.own xs)=>(und xs).map D.lst
  |some (.frz ds)=>some (.lst ds)
  |_=>none
 |_=>none
noncomputable def dh(Z:Om):AV->Option (List AV)
 |.d (.lst ds)=>some (ds.map AV.d)
 |.r (.ref l)=>match Z l with
  |some (.own xs)=>some xs
  |some (.frz ds)=>some (ds.map AV.d)
  |_=>none
 |_=>none
noncomputable def im:AV->Option (List AV)
 |.d (.tup ds)=>some (ds.map AV.d)
 |_=>none
noncomputable def rB(Z:Om)(x:AV)(K:D->Om->Prop):Prop:=match x with
 |.d x=>K x Z
 |.r (.ref l)=>match Z l with
  |some (.own xs)=>∃ds,und xs=some ds/\K (.lst ds) (Z.put l (.frz ds))
  |some (.frz ds)=>K (.lst ds) Z
  |_=>False
 |_=>False
section
variable{F:Fs}{H:Hp}{Z:Om}{x:AV}{v:V}
theorem g9(rp:Rep F H Z)(rv:RV (cut F H Z) x v){xs:List AV}(h:dh Z x=some xs):∃a vs,v=.ref a/\H a=some (.lst vs)/\RVs (cut F H Z) xs vs:=by
 cases x with
 |d x=>cases x with
  |lst ds=>
   simp only[dh,Option.some.injEq] at h;subst h;simp only[RV,Dat] at rv;obtain⟨a,vs,rfl,e1,e2⟩:=rv;exact⟨a,vs,rfl,ba _ _ e1,RVs.dats.mpr e2⟩
  |_=>simp[dh] at h
 |p u P=>simp[dh] at h
 |r u=>
  cases (show v=u from rv)
  cases v with
  |ref l=>
   simp only[dh] at h
   cases e:Z l with
   |none=>rw[e] at h;simp at h
   |some c=>
    rw[e] at h
    cases c with
    |own ys=>
     simp only[Option.some.injEq] at h;subst h;obtain⟨vs,e1,e2⟩:=rp.own l _ e;exact⟨l,vs,rfl,e1,e2⟩
    |frz ds=>
     simp only[Option.some.injEq] at h;subst h;have q:=rp.frz l ds e;simp only[Dat] at q;obtain⟨a,vs,e1,e2,e3⟩:=q;cases e1;exact⟨l,vs,rfl,ba _ _ e2,RVs.dats.mpr e3⟩
    |dic ks=>simp at h
    |sto ks=>simp at h
  |_=>simp[dh] at h
theorem xX(rv:RV (cut F H Z) x v){xs:List AV}(h:im x=some xs):∃a vs,v=.ref a/\cut F H Z a=some (.tup vs)/\RVs (cut F H Z) xs vs:=by
 cases x with
 |d x=>cases x with
  |tup ds=>
   simp only[im,Option.some.injEq] at h;subst h;simp only[RV,Dat] at rv;obtain⟨a,vs,rfl,e1,e2⟩:=rv;exact⟨a,vs,rfl,e1,RVs.dats.mpr e2⟩
  |_=>simp[im] at h
 |p u P=>simp[im] at h
 |r u=>simp[im] at h
theorem gj(rp:Rep F H Z)(rv:RV (cut F H Z) x v){d:D}(h:bu Z x=some d):Dat H d v:=by
 cases x with
 |d x=>
  simp only[bu,Option.some.injEq] at h;subst h;exact Dat.same ba rv
 |p u P=>simp[bu] at h
 |r u=>
  cases (show v=u from rv)
  cases v with
  |ref l=>
   simp only[bu] at h
   cases e:Z l with
   |none=>rw[e] at h;simp at h
   |some c=>
    rw[e] at h
    cases c with
    |own ys=>
     simp only[Option.map_eq_some_iff] at h;obtain⟨ds,h1,rfl⟩:=h;cases eS h1;obtain⟨vs,e1,e2⟩:=rp.own l _ e;simp only[Dat];exact⟨l,vs,rfl,e1,(RVs.dats.mp e2).same ba⟩
    |frz ds=>
     simp only[Option.some.injEq] at h;subst h;exact(rp.frz l ds e).same ba
    |dic ks=>simp at h
    |sto ks=>simp at h
  |_=>simp[bu] at h
theorem dW(rp:Rep F H Z)(rv:RV (cut F H Z) x v){ds:List D}(h:bu Z x=some (.lst ds)):∃a vs,v=.ref a/\H a=some (.lst vs)/\aG (cut F H Z) ds vs:=by
 have:dh Z x=some (ds.map AV.d):=by
  cases x with
  |d x=>simp only[bu,Option.some.injEq] at h;subst h;rfl
  |p u P=>simp[bu] at h
  |r u=>cases u with
   |ref l=>
    simp only[bu] at h;simp only[dh]
    cases e:Z l with
    |none=>rw[e] at h;simp at h
    |some c=>
     rw[e] at h
     cases c with
     |own ys=>
      simp only[Option.map_eq_some_iff] at h;obtain⟨es,h1,h2⟩:=h;cases h2;rw[eS h1]
     |frz es=>simp only[Option.some.injEq] at h;cases h;rfl
     |dic ks=>simp at h
     |sto ks=>simp at h
   |_=>simp[bu] at h
 obtain⟨a,vs,e1,e2,e3⟩:=g9 rp rv this;exact⟨a,vs,e1,e2,RVs.dats.mp e3⟩
theorem zZ(rp:Rep F H Z)(rv:RV (cut F H Z) x v){K:D->Om->Prop}(h:rB Z x K):∃d Z',Rep F H Z'/\Fr F H Z H Z'/\Dat (cut F H Z') d v/\K d Z':=by
 cases x with
 |d x=>exact⟨x,Z,rp,.refl,rv,h⟩
 |p u P=>exact h.elim
 |r u=>
  cases (show v=u from rv)
  cases v with
  |ref l=>
   simp only[rB] at h
   cases e:Z l with
   |none=>rw[e] at h;exact h.elim
   |some c=>
    rw[e] at h
    cases c with
    |own ys=>
     obtain⟨ds,h1,h2⟩:=h;cases eS h1;obtain⟨q1,q2,q3⟩:=rp.freeze e;exact⟨_,_,q1,q2,q3,h2⟩
    |frz ds=>exact⟨_,_,rp,.refl,rp.frz l ds e,h⟩
    |dic ks=>exact h.elim
    |sto ks=>exact h.elim
  |_=>exact h.elim
end
noncomputable abbrev A2:=AV->AV->Om->(AV->Om->Prop)->Prop
structure eO(r:R2)(r':A2):Prop where
 run:∀(F:Fs)(H:Hp)(Z:Om)(v u:V)(x y:AV)(Q:VK)(Q':AV->Om->Prop),Rep F H Z->RV (cut F H Z) x v->RV (cut F H Z) y u->r' x y Z Q'->LP RV F H Z Q' Q->r v u H Q
structure DT(r:V->Hp->VK->Prop)(r':AV->Om->(AV->Om->Prop)->Prop):Prop where
 run:∀(F:Fs)(H:Hp)(Z:Om)(v:V)(x:AV)(Q:VK)(Q':AV->Om->Prop),Rep F H Z->RV (cut F H Z) x v->r' x Z Q'->LP RV F H Z Q' Q->r v H Q
structure no(r:List V->Hp->VK->Prop)(r':List AV->Om->(AV->Om->Prop)->Prop):Prop where
 run:∀(F:Fs)(H:Hp)(Z:Om)(vs:List V)(xs:List AV)(Q:VK)(Q':AV->Om->Prop),Rep F H Z->RVs (cut F H Z) xs vs->r' xs Z Q'->LP RV F H Z Q' Q->r vs H Q
noncomputable def qy(i:Nat):AE:=fun ρ Z Q=>∃a,ρ[i]?=some (some a)/\Q a Z
noncomputable def Ci(i:Nat):AE:=fun ρ Z Q=>∃a,ρ[i]?=some (some a)/\rB Z a fun d Z'=>Q (.d d) Z'
noncomputable def aC(d:D):AE:=fun _ Z Q=>Q (.d d) Z
noncomputable def aOp(r:A2)(ta tb:AE):AE:=fun ρ Z Q=>ta ρ Z fun x Z1=>tb ρ Z1 fun y Z2=>r x y Z2 Q
noncomputable def aUn(r:AV->Om->(AV->Om->Prop)->Prop)(ta:AE):AE:=fun ρ Z Q=>ta ρ Z fun x Z1=>r x Z1 Q
noncomputable def Dt:AA:=fun _ Z Q=>Q [] Z
noncomputable def uI(ta:AE)(tr:AA):AA:=fun ρ Z Q=>ta ρ Z fun x Z1=>tr ρ Z1 fun xs Z2=>Q (x::xs) Z2
noncomputable def ES(t:AA):AE:=fun ρ Z Q=>t ρ Z fun xs Z1=>xs.length<=sizeLine/\∃ds,und xs=some ds/\Q (.d (.tup ds)) Z1
noncomputable def E4(t:AA):AE:=fun ρ Z Q=>t ρ Z fun xs Z1=>xs.length<=sizeLine/\∃ds,und xs=some ds/\Q (.d (.lst ds)) Z1
noncomputable def Cg(t:AA):AE:=fun ρ Z Q=>t ρ Z fun xs Z1=>xs.length<=sizeLine/\∀p,Z1 p=none->Q (.r (.ref p)) (Z1.put p (.own xs))
noncomputable def zi(sp:ASp)(t:AA):AE:=fun ρ Z Q=>t ρ Z fun xs Z1=>sp xs Z1 Q
noncomputable def aCB(r:List AV->Om->(AV->Om->Prop)->Prop)(t:AA):AE:=fun ρ Z Q=>t ρ Z fun xs Z1=>r xs Z1 Q
noncomputable def xH(t:AE):AT:=fun ρ Z Q=>t ρ Z fun x Z1=>∃k,x=.d (.bl k)/\Q k Z1
noncomputable def aOr(t u:AT):AT:=fun ρ Z Q=>t ρ Z fun c Z1=>if c=true then Q true Z1 else u ρ Z1 Q
noncomputable def DN(t:AT):AT:=fun ρ Z Q=>t ρ Z fun c Z1=>Q (!c) Z1
section
variable{ta tb tc:TE}{ta' tb' tc':AE}{t u:TT}{t' u':AT}{r r2:R2}{r' r2':A2}{s:TA}{s':AA}
theorem ac{i:Nat}:bw (zJ i) (qy i):=⟨fun F H Z σ ρ Q Q' rp rs h k=>by
 obtain⟨a,e,q⟩:=h;obtain⟨v,e1,e2⟩:=rs.2 i a e
 exact⟨v,e1,k a Z v H rp .refl e2 q⟩⟩
theorem DE{i:Nat}:bw (zJ i) (Ci i):=⟨fun F H Z σ ρ Q Q' rp rs h k=>by
 obtain⟨a,e,q⟩:=h;obtain⟨v,e1,e2⟩:=rs.2 i a e;obtain⟨d,Z',q1,q2,q3,q4⟩:=zZ rp e2 q
 exact⟨v,e1,k (.d d) Z' v H q1 q2 q3 q4⟩⟩
theorem aj{i:Int}:bw (tC (.int i)) (aC (.int i)):=⟨fun F H Z σ ρ Q Q' rp rs h k=>k _ Z _ H rp .refl (by simp[RV,Dat]) h⟩
theorem aY{x:Str}:bw (tC (.str x)) (aC (.str x)):=⟨fun F H Z σ ρ Q Q' rp rs h k=>k _ Z _ H rp .refl (by simp[RV,Dat]) h⟩
theorem cJ{b:Bool}:bw (tC (.bl b)) (aC (.bl b)):=⟨fun F H Z σ ρ Q Q' rp rs h k=>k _ Z _ H rp .refl (by simp[RV,Dat]) h⟩
theorem kA:bw (tC .non) (aC .non):=⟨fun F H Z σ ρ Q Q' rp rs h k=>k _ Z _ H rp .refl (by simp[RV,Dat]) h⟩
noncomputable def EL(v:V):AE:=fun _ Z Q=>Q (.r v) Z
theorem fN{v:V}:bw (tC v) (EL v):=⟨fun F H Z σ ρ Q Q' rp rs h k=>k (.r v) Z _ H rp .refl rfl h⟩
theorem au(h2:eO r r')(ha:bw ta ta')(hb:bw tb tb'):bw (tOp r ta tb) (aOp r' ta' tb'):=⟨fun F H Z σ ρ Q Q' rp rs h k=>
 ha.go rp rs h fun x Z1 v H1 rp1 fr1 rs1 rv1 q1=>hb.go rp1 rs1 q1 fun y Z2 u H2 rp2 fr2 rs2 rv2 q2=>h2.run F H2 Z2 v u x y Q Q' rp2 (rv1.same fr2.same) rv2 q2 (k.fr (fr1.trans fr2))⟩
theorem Du{r:V->Hp->VK->Prop}{r':AV->Om->(AV->Om->Prop)->Prop}(h2:DT r r')(ha:bw ta ta'):bw (tUn r ta) (aUn r' ta'):=⟨fun F H Z σ ρ Q Q' rp rs h k=>
 ha.go rp rs h fun x Z1 v H1 rp1 fr1 rs1 rv1 q1=>h2.run F H1 Z1 v x Q Q' rp1 rv1 q1 (k.fr fr1)⟩
theorem ag:k7 C8 Dt:=⟨fun F H Z σ ρ Q Q' rp rs h k=>k [] Z _ H rp .refl rfl h⟩
theorem aa(ha:bw ta ta')(hs:k7 s s'):k7 (om ta s) (uI ta' s'):=⟨fun F H Z σ ρ Q Q' rp rs h k=>
 ha.go rp rs h fun x Z1 v H1 rp1 fr1 rs1 rv1 q1=>hs.go rp1 rs1 q1 fun y Z2 u H2 rp2 fr2 rs2 rv2 q2=>k (x::y) Z2 (v::u) H2 rp2 (fr1.trans fr2) ⟨v,u,rfl,rv1.same fr2.same,rv2⟩ q2⟩
theorem aw(hs:k7 s s'):bw (EB s) (ES s'):=⟨fun F H Z σ ρ Q Q' rp rs h k=>
 hs.go rp rs h fun xs Z1 vs H1 rp1 fr1 rs1 rv1 ⟨z,ds,hu,q1⟩=>⟨by rw[rv1.length];exact z,fun p hp=>by
  cases eS hu;obtain⟨rp2,fr2,hc⟩:=rp1.lay (o:=.tup vs) hp;refine k _ Z1 _ _ rp2 (fr1.trans fr2) ?_ q1;simp only[RV,Dat]
  exact⟨p,vs,rfl,hc,(RVs.dats.mp rv1).same fr2.same⟩⟩⟩
theorem bq(hs:k7 s s'):bw (Ab s) (E4 s'):=⟨fun F H Z σ ρ Q Q' rp rs h k=>
 hs.go rp rs h fun xs Z1 vs H1 rp1 fr1 rs1 rv1 ⟨z,ds,hu,q1⟩=>⟨by rw[rv1.length];exact z,fun p hp=>by
  cases eS hu;obtain⟨rp2,fr2,hc⟩:=rp1.lay (o:=.lst vs) hp;refine k _ Z1 _ _ rp2 (fr1.trans fr2) ?_ q1;simp only[RV,Dat]
  exact⟨p,vs,rfl,hc,(RVs.dats.mp rv1).same fr2.same⟩⟩⟩
theorem kg(hs:k7 s s'):bw (Ab s) (Cg s'):=⟨fun F H Z σ ρ Q Q' rp rs h k=>
 hs.go rp rs h fun xs Z1 vs H1 rp1 fr1 rs1 rv1 ⟨z,q1⟩=>⟨by rw[rv1.length];exact z,fun p hp=>by
  obtain⟨rp2,fr2⟩:=rp1.mk' (vs:=vs) hp rv1
  exact k (.r (.ref p)) _ _ _ rp2 (fr1.trans fr2) rfl (q1 p (rp1.free hp).1)⟩⟩
theorem ar{sp:ASp}{E:XK}(hs:k7 s s'):bw (Cr (ca sp) [] E s) (zi sp s'):=⟨fun F H Z σ ρ Q Q' rp rs h k=>
 hs.go rp rs h fun xs Z1 vs H1 rp1 fr1 rs1 rv1 q=>⟨F,xs,Z1,Q',rp1,by rw[List.append_nil];exact rv1,q,k.fr fr1⟩⟩
theorem bQ{r:List V->Hp->VK->Prop}{r':List AV->Om->(AV->Om->Prop)->Prop}(hr:no r r')(hs:k7 s s'):bw (tCB r s) (aCB r' s'):=⟨fun F H Z σ ρ Q Q' rp rs h k=>
 hs.go rp rs h fun xs Z1 vs H1 rp1 fr1 rs1 rv1 q=>hr.run F H1 Z1 vs xs Q Q' rp1 rv1 q (k.fr fr1)⟩
theorem bn(ha:bw ta ta'):kn (xU ta) (xH ta'):=⟨fun F H Z σ ρ Q Q' rp rs h k=>
 ha.go rp rs h fun x Z1 v H1 rp1 fr1 rs1 rv1 ⟨c,e,q⟩=>by subst e;exact⟨c,by simpa[RV,Dat] using rv1,k c Z1 c H1 rp1 fr1 rfl q⟩⟩
theorem jG(h1:kn t t')(h2:kn u u'):kn (tOr t u) (aOr t' u'):=⟨fun F H Z σ ρ Q Q' rp rs h k=>
 h1.go rp rs h fun c Z1 c' H1 rp1 fr1 rs1 rv1 q=>by
  cases (show c=c' from rv1)
  cases c with
  |true=>rw[if_pos rfl] at q ⊢;exact k true Z1 true H1 rp1 fr1 rfl q
  |false=>rw[if_neg Bool.false_ne_true] at q ⊢;exact h2.run F H1 Z1 σ ρ Q Q' rp1 rs1 q (k.fr fr1)⟩
theorem eu(h1:kn t t'):kn (D7 t) (DN t'):=⟨fun F H Z σ ρ Q Q' rp rs h k=>
 h1.go rp rs h fun c Z1 c' H1 rp1 fr1 rs1 rv1 q=>by
  cases (show c=c' from rv1)
  exact k _ Z1 _ H1 rp1 fr1 rfl q⟩
theorem rE{G:Hp}{c:Bool}{v:V}(h:RV G (.d (.bl c)) v):v=.bl c:=by simpa[RV,Dat] using h
noncomputable def fe(Z:Om)(x:AV):Option Bool:=match x with
 |.d .non=>some false
 |.d (.bl b)=>some b
 |.d (.int i)=>some (i != 0)
 |.d (.tup ds)=>some (!ds.isEmpty)
 |x=>(dh Z x).map fun xs=>!xs.isEmpty
noncomputable def EA(ta:AE):AT:=fun ρ Z Q=>ta ρ Z fun x Z1=>∃k,fe Z1 x=some k/\Q k Z1
theorem kO{α β:Type}{xs:List α}{ys:List β}(h:xs.length=ys.length):xs.isEmpty=ys.isEmpty:=by
 cases xs<;>cases ys<;>simp_all
theorem pV{K:W.Frag}{F:Fs}{H1:Hp}{Z1:Om}{x:AV}{v:V}{c:Bool}(rp1:Rep F H1 Z1)(rv1:RV (cut F H1 Z1) x v)(e:fe Z1 x=some c):oY K v H1 c:=by
  have ls:∀ {xs:List AV},dh Z1 x=some xs->c=(!xs.isEmpty)->oY K v H1 c:=fun {xs} e1 e2=>by
   obtain⟨a,vs,rfl,e3,e4⟩:=g9 rp1 rv1 e1;exact .inl ⟨vs,.inl (.inl e3),by rw[e2,kO e4.length.symm]⟩
  cases x with
  |d x=>cases x with
   |non=>simp only[fe,Option.some.injEq] at e;simp only[RV,Dat] at rv1;subst rv1;exact e.symm
   |bl b=>simp only[fe,Option.some.injEq] at e;simp only[RV,Dat] at rv1;subst rv1;exact e.symm
   |int b=>simp only[fe,Option.some.injEq] at e;simp only[RV,Dat] at rv1;subst rv1;exact e.symm
   |str b=>simp[fe,dh] at e
   |dk b=>simp[fe,dh] at e
   |dt b=>simp[fe,dh] at e
   |tup ds=>
    simp only[fe,Option.some.injEq] at e;simp only[RV,Dat] at rv1;obtain⟨a,vs,rfl,e1,e2⟩:=rv1;exact .inr (.inl ⟨vs,.inl (.inl (ba _ _ e1)),by rw[←e,kO e2.length]⟩)
   |lst ds=>
    simp only[fe,Option.map_eq_some_iff] at e;obtain⟨xs,e1,e2⟩:=e;exact ls e1 e2.symm
  |r u=>
   simp only[fe,Option.map_eq_some_iff] at e;obtain⟨xs,e1,e2⟩:=e;exact ls e1 e2.symm
  |p u P=>simp[fe,dh] at e
theorem dv{K:W.Frag}(ha:bw ta ta'):kn (fun σ H Q=>ta σ H fun x H'=>∃k,oY K x H' k/\Q k H') (EA ta'):=⟨fun F H Z σ ρ Q Q' rp rs h k=>
 ha.go rp rs h fun x Z1 v H1 rp1 fr1 rs1 rv1 ⟨c,e,q⟩=>⟨c,pV rp1 rv1 e,k c Z1 c H1 rp1 fr1 rfl q⟩⟩
end
noncomputable def aI0(f:Int->Int->D):A2:=fun x y Z Q=>∃i j,x=.d (.int i)/\y=.d (.int j)/\Q (.d (f i j)) Z
noncomputable def aI(C:Int->Int->Prop)(f:Int->Int->D):A2:=fun x y Z Q=>∃i j,x=.d (.int i)/\y=.d (.int j)/\C i j/\Q (.d (f i j)) Z
noncomputable def aU(f:Int->D):AV->Om->(AV->Om->Prop)->Prop:=fun x Z Q=>∃i,x=.d (.int i)/\Q (.d (f i)) Z
section
variable{F:Fs}{H:Hp}{Z:Om}{Q:VK}{Q':AV->Om->Prop}
theorem LP.int(k:LP RV F H Z Q' Q)(rp:Rep F H Z){i:Int}(q:Q' (.d (.int i)) Z):Q (.int i) H:=k (.d (.int i)) Z _ H rp .refl (by simp[RV,Dat]) q
theorem LP.bl(k:LP RV F H Z Q' Q)(rp:Rep F H Z){i:Bool}(q:Q' (.d (.bl i)) Z):Q (.bl i) H:=k (.d (.bl i)) Z _ H rp .refl (by simp[RV,Dat]) q
theorem LP.str(k:LP RV F H Z Q' Q)(rp:Rep F H Z){i:Str}(q:Q' (.d (.str i)) Z):Q (.str i) H:=k (.d (.str i)) Z _ H rp .refl (by simp[RV,Dat]) q
theorem bG{G:Hp}{i:Int}{v:V}(h:RV G (.d (.int i)) v):v=.int i:=by simpa[RV,Dat] using h
theorem CO{G:Hp}{i:Str}{v:V}(h:RV G (.d (.str i)) v):v=.str i:=by simpa[RV,Dat] using h
theorem LP.tup(k:LP RV F H Z Q' Q)(rp:Rep F H Z){ds:List D}{vs:List V}(hd:aG (cut F H Z) ds vs)(q:Q' (.d (.tup ds)) Z):∀p,H p=none->Q (.ref p) (upd H p (.tup vs)):=fun p hp=>by
 obtain⟨rp2,fr2,hc⟩:=rp.lay (o:=.tup vs) hp;refine k (.d (.tup ds)) Z _ _ rp2 fr2 ?_ q;simp only[RV,Dat];exact⟨p,vs,rfl,hc,hd.same fr2.same⟩
theorem LP.lst(k:LP RV F H Z Q' Q)(rp:Rep F H Z){ds:List D}{vs:List V}(hd:aG (cut F H Z) ds vs)(q:Q' (.d (.lst ds)) Z):∀p,H p=none->Q (.ref p) (upd H p (.lst vs)):=fun p hp=>by
 obtain⟨rp2,fr2,hc⟩:=rp.lay (o:=.lst vs) hp;refine k (.d (.lst ds)) Z _ _ rp2 fr2 ?_ q;simp only[RV,Dat];exact⟨p,vs,rfl,hc,hd.same fr2.same⟩
theorem LP.own(k:LP RV F H Z Q' Q)(rp:Rep F H Z){xs:List AV}{vs:List V}(hd:RVs (cut F H Z) xs vs)(q:∀p,Z p=none->Q' (.r (.ref p)) (Z.put p (.own xs))):∀p,H p=none->Q (.ref p) (upd H p (.lst vs)):=fun p hp=>by
 obtain⟨rp2,fr2⟩:=rp.mk' (vs:=vs) hp hd;exact k (.r (.ref p)) _ _ _ rp2 fr2 rfl (q p (rp.free hp).1)
end
theorem nS{f:Int->Int->Int}:eO (rI0 fun i j=>.int (f i j)) (aI0 fun i j=>.int (f i j)):=⟨fun F H Z v u x y Q Q' rp h1 h2 ⟨i,j,e1,e2,q⟩ k=>by
 subst e1 e2;exact⟨i,j,bG h1,bG h2,k.int rp q⟩⟩
theorem iF{f:Int->Int->Bool}:eO (rI0 fun i j=>.bl (f i j)) (aI0 fun i j=>.bl (f i j)):=⟨fun F H Z v u x y Q Q' rp h1 h2 ⟨i,j,e1,e2,q⟩ k=>by
 subst e1 e2;exact⟨i,j,bG h1,bG h2,k.bl rp q⟩⟩
theorem nc{C:Int->Int->Prop}{f:Int->Int->Int}:eO (rI C fun i j=>.int (f i j)) (aI C fun i j=>.int (f i j)):=⟨fun F H Z v u x y Q Q' rp h1 h2 ⟨i,j,e1,e2,c,q⟩ k=>by
 subst e1 e2;exact⟨i,j,bG h1,bG h2,c,k.int rp q⟩⟩
theorem u_i{f:Int->Int}:DT (rU fun i=>.int (f i)) (aU fun i=>.int (f i)):=⟨fun F H Z v x Q Q' rp h1 ⟨i,e1,q⟩ k=>by
 subst e1;exact⟨i,bG h1,k.int rp q⟩⟩
noncomputable def D8(neg:Bool):A2:=fun x y Z Q=>∃a b,bu Z x=some a/\bu Z y=some b/\dep a<=100/\Q (.d (.bl (if neg then !eqD a b else eqD a b))) Z
theorem cr{neg:Bool}:eO (Dq neg) (D8 neg):=⟨fun F H Z v u x y Q Q' rp h1 h2 ⟨a,b,e1,e2,s,q⟩ k=>⟨a,b,gj rp h1 e1,gj rp h2 e2,s,k.bl rp q⟩⟩
noncomputable def aIn(neg:Bool):A2:=fun x y Z Q=>∃a b ds,bu Z x=some a/\bu Z y=some b/\(b=.lst ds\/b=.tup ds)/\dA ds<=90/\Q (.d (.bl (if neg then !inD a ds else inD a ds))) Z
theorem EG{neg:Bool}:eO (Em neg) (aIn neg):=⟨fun F H Z v u x y Q Q' rp h1 h2 ⟨a,b,ds,e1,e2,e3,s,q⟩ k=>⟨a,ds,gj rp h1 e1,by
 have:=gj rp h2 e2;rcases e3 with rfl|rfl
 ·exact .inl this
 ·exact .inr this,s,k.bl rp q⟩⟩
noncomputable def D4:A2:=fun x y Z Q=>∃ds es,x=.d (.tup ds)/\y=.d (.tup es)/\ds.length+es.length<=sizeLine/\Q (.d (.tup (ds++es))) Z
noncomputable def nW:R2:=fun x y H Q=>∃a b xs ys,x=.ref a/\y=.ref b/\H a=some (.tup xs)/\H b=some (.tup ys)/\xs.length+ys.length<=sizeLine /\
 (xs=[]->Q (.ref b) H)/\(ys=[]->Q (.ref a) H)/\∀p,H p=none->Q (.ref p) (upd H p (.tup (xs++ys)))
theorem ay{X:Cx}:OpR X (binaryOp .Add) nW:=by
 intro pins s σ H x y v u Q I rx ry h;obtain⟨a,b,xs,ys,rfl,rfl,ha,hb,hz,g1,g2,g3⟩:=h;by_cases hn:xs=[]
 ·subst hn
  cases rx;cases ry;obtain⟨its,r1,ht⟩:=d8 I ha;obtain⟨its2,r2,hb2⟩:=d8 I hb;cases r1;obtain⟨⟨cls,dd,data,sl⟩,ho,hc,n,hd⟩:=id ht;obtain⟨⟨cls2,dd2,data2,sl2⟩,ho2,hc2,n2,hd2⟩:=id hb2;simp only at hc hd hc2 hd2;subst hc hd hc2 hd2
  exact concat_meets ⟨_,ho,rfl⟩ ⟨_,ho2,rfl⟩ noFill_tuple_add seq_tuple_add PySem.F.slot_tuple_add PySem.F.entry_tuple_add (PySem.F.args_tuple_add_2 _ _)
   (tuple_addW0 a b _ _ n n2 dd dd2 sl sl2 (by simp)) ⟨ho,ho2,⟨.ref b,H,I,rfl,g1 rfl⟩⟩
 ·exact Ah pins s σ H (.ref a) (.ref b) v u Q I rx ry ⟨a,b,xs,ys,rfl,rfl,SqT.of ha,SqT.of hb,hn,hz,g2,fun _ p hp=>g3 p hp⟩
theorem z8:eO nW D4:=⟨fun F H Z v u x y Q Q' rp h1 h2 ⟨ds,es,e1,e2,z,q⟩ k=>by
 subst e1 e2;have h1':=h1;have h2':=h2;simp only[RV,Dat] at h1 h2;obtain⟨a,xs,rfl,ha,hxs⟩:=h1;obtain⟨b,ys,rfl,hb,hys⟩:=h2;refine⟨a,b,xs,ys,rfl,rfl,ba _ _ ha,ba _ _ hb,by rw[hxs.length,hys.length];exact z,fun e=>?_,fun e=>?_,k.tup rp (hxs.append hys) q⟩
 ·have:ds=[]:=List.length_eq_zero_iff.mp (by rw[←hxs.length,e];rfl)
  subst this;exact k _ Z _ H rp .refl h2' q
 ·have:es=[]:=List.length_eq_zero_iff.mp (by rw[←hys.length,e];rfl)
  subst this;rw[List.append_nil] at q
  exact k _ Z _ H rp .refl h1' q⟩
noncomputable def Fo:A2:=fun x y Z Q=>∃xs i a,dh Z x=some xs/\y=.d (.int i)/\atI xs i=some a/\Q a Z
noncomputable def Fw:A2:=fun x y Z Q=>∃xs i a,im x=some xs/\y=.d (.int i)/\atI xs i=some a/\Q a Z
theorem RVs.atI{G:Hp}{xs:List AV}{vs:List V}{i:Int}{a:AV}(h:RVs G xs vs)(e:atI xs i=some a):∃v,L2.atI vs i=some v/\RV G a v:=by
 unfold L2.atI at e ⊢;rw[h.length]
 cases z:ixN xs.length i with
 |none=>rw[z] at e;cases e
 |some j=>
  rw[z] at e;exact h.get e
theorem Ev{K:W.Frag}:eO (A7 K) Fo:=⟨fun F H Z v u x y Q Q' rp h1 h2 ⟨xs,i,a,e1,e2,e3,q⟩ k=>by
 subst e2;obtain⟨l,vs,rfl,q1,q2⟩:=g9 rp h1 e1;obtain⟨w,z1,z2⟩:=q2.atI e3
 exact⟨l,vs,i,w,rfl,bG h2,.inl (.inl q1),z1,k a Z w H rp .refl z2 q⟩⟩
theorem ET{K:W.Frag}:eO (DD K) Fw:=⟨fun F H Z v u x y Q Q' rp h1 h2 ⟨xs,i,a,e1,e2,e3,q⟩ k=>by
 subst e2;obtain⟨l,vs,rfl,q1,q2⟩:=xX h1 e1;obtain⟨w,z1,z2⟩:=q2.atI e3
 exact⟨l,vs,i,w,rfl,bG h2,.inl (.inl (ba _ _ q1)),z1,k a Z w H rp .refl z2 q⟩⟩
noncomputable def aIx:A2:=fun x y Z Q=>∃xs i a,(dh Z x=some xs\/im x=some xs)/\y=.d (.int i)/\atI xs i=some a/\Q a Z
theorem bO{K:W.Frag}:eO (rIx K) aIx:=⟨fun F H Z v u x y Q Q' rp h1 h2 ⟨xs,i,a,e1,e2,e3,q⟩ k=>by
 rcases e1 with e1|e1
 ·exact .inl (Ev.run F H Z v u x y Q Q' rp h1 h2 ⟨xs,i,a,e1,e2,e3,q⟩ k)
 ·exact .inr (.inl (ET.run F H Z v u x y Q Q' rp h1 h2 ⟨xs,i,a,e1,e2,e3,q⟩ k))⟩
noncomputable def ER(f:Bool->Bool->Bool):A2:=fun x y Z Q=>∃a b,x=.d (.bl a)/\y=.d (.bl b)/\Q (.d (.bl (f a b))) Z
theorem nQ{f:Bool->Bool->Bool}:eO (fun x y H Q=>∃c d,x=.bl c/\y=.bl d/\Q (.bl (f c d)) H) (ER f):=⟨fun F H Z v u x y Q Q' rp h1 h2 ⟨a,b,e1,e2,q⟩ k=>by
 subst e1 e2;exact⟨a,b,rE h1,rE h2,k.bl rp q⟩⟩
noncomputable abbrev AC:=List AV->Om->(AV->Om->Prop)->Prop
theorem kY{G:Hp}{a:AV}{vs:List V}(h:RVs G [a] vs):∃v,vs=[v]/\RV G a v:=by
 obtain⟨v,r,rfl,h1,h2⟩:=h;cases h2;exact⟨v,rfl,h1⟩
theorem DJ{G:Hp}{a b:AV}{vs:List V}(h:RVs G [a,b] vs):∃v u,vs=[v,u]/\RV G a v/\RV G b u:=by
 obtain⟨v,r,rfl,h1,h2⟩:=h;obtain⟨u,rfl,h3⟩:=kY h2;exact⟨v,u,rfl,h1,h3⟩
noncomputable def rC(Z:Om)(x:AV):Option Nat:=match im x with
 |some xs=>some xs.length
 |none=>(dh Z x).map List.length
noncomputable def Ej:AC:=fun xs Z Q=>∃x n,xs=[x]/\rC Z x=some n/\Q (.d (.int n)) Z
theorem gF{K:W.Frag}:no (fun xs H Q=>∃x n,xs=[x]/\Bw K x H n/\Q (.int n) H) Ej:=⟨fun F H Z vs xs Q Q' rp rv ⟨x,n,e1,e2,q⟩ k=>by
 subst e1;obtain⟨v,rfl,r⟩:=kY rv;refine⟨v,n,rfl,?_,k.int rp q⟩;unfold rC at e2
 cases z:im x with
 |some xs=>
  rw[z] at e2;cases e2;obtain⟨a,us,rfl,q1,q2⟩:=xX r z;exact .inr ⟨us,.inl (.inl (ba _ _ q1)),q2.length.symm⟩
 |none=>
  rw[z] at e2;simp only[Option.map_eq_some_iff] at e2;obtain⟨ys,e3,rfl⟩:=e2;obtain⟨a,us,rfl,q1,q2⟩:=g9 rp r e3
  exact .inl ⟨us,.inl (.inl q1),q2.length.symm⟩⟩
theorem uH{G:Hp}:∀ {bs:List Bool} {vs:List V},aG G (bs.map D.bl) vs->vs=bs.map V.bl
 | [],_,h=>by simpa[aG] using h
 |b::bs,vs,h=>by
  simp only[List.map_cons,aG,Dat] at h;obtain⟨x,r,rfl,rfl,h⟩:=h;rw[uH h];rfl
noncomputable def Eg(f:List Bool->Bool):AC:=fun xs Z Q=>∃x bs,xs=[x]/\bu Z x=some (.lst (bs.map D.bl))/\Q (.d (.bl (f bs))) Z
theorem qF{K:W.Frag}{f:List Bool->Bool}:no (fun xs H Q=>∃(a:Addr)(bs:List Bool),xs=[.ref a]/\SqL K H a (bs.map V.bl)/\Q (.bl (f bs)) H) (Eg f):=⟨fun F H Z vs xs Q Q' rp rv ⟨x,bs,e1,e2,q⟩ k=>by
 subst e1;obtain⟨v,rfl,r⟩:=kY rv;obtain⟨a,us,rfl,q1,q2⟩:=dW rp r e2;cases uH q2
 exact⟨a,bs,rfl,.inl (.inl q1),k.bl rp q⟩⟩
noncomputable def aF2(f:Int->Int->Int):AC:=fun xs Z Q=>∃i j,xs=[.d (.int i),.d (.int j)]/\Q (.d (.int (f i j))) Z
theorem Fv{f:Int->Int->Int}:no (fun xs H Q=>∃i j,xs=[.int i,.int j]/\Q (.int (f i j)) H) (aF2 f):=⟨fun F H Z vs xs Q Q' rp rv ⟨i,j,e1,q⟩ k=>by
 subst e1;obtain⟨v,u,rfl,r1,r2⟩:=DJ rv
 exact⟨i,j,by rw[bG r1,bG r2],k.int rp q⟩⟩
noncomputable def yC:D->Option Int
 |.int i=>some i
 |.bl k=>some (if k then 1 else 0)
 |_=>none
noncomputable def EX:AC:=fun xs Z Q=>∃d i,xs=[.d d]/\yC d=some i/\Q (.d (.int i)) Z
theorem Eh:no (fun xs H Q=>(∃i,xs=[.int i]/\Q (.int i) H)\/∃k,xs=[.bl k]/\Q (.int (if k then 1 else 0)) H) EX:=⟨fun F H Z vs xs Q Q' rp rv ⟨d,i,e1,e2,q⟩ k=>by
 subst e1;obtain⟨v,rfl,r1⟩:=kY rv
 cases d with
 |int j=>simp only[yC,Option.some.injEq] at e2;subst e2;exact .inl ⟨_,by rw[bG r1],k.int rp q⟩
 |bl j=>simp only[yC,Option.some.injEq] at e2;subst e2;exact .inr ⟨j,by rw[rE r1],k.int rp q⟩
 |_=>cases e2⟩
noncomputable def x6:AC:=fun xs Z Q=>∃x ds,xs=[x]/\(bu Z x=some (.lst ds)\/x=.d (.tup ds))/\Q (.d (.tup ds)) Z
theorem jw{K:W.Frag}:no (fun xs H Q=>∃p ys,xs=[.ref p]/\((SqL K H p ys/\∀l,H l=none->Q (.ref l) (upd H l (.tup ys)))\/(SqT K H p ys/\Q (.ref p) H))) x6:=⟨fun F H Z vs xs Q Q' rp rv ⟨x,ds,e1,e2,q⟩ k=>by
 subst e1;obtain⟨v,rfl,r1⟩:=kY rv;rcases e2 with e2|rfl
 ·obtain⟨a,us,rfl,q1,q2⟩:=dW rp r1 e2
  exact⟨a,us,rfl,.inl ⟨.inl (.inl q1),k.tup rp q2 q⟩⟩
 ·have r2:=r1
  simp only[RV,Dat] at r2;obtain⟨a,us,rfl,q1,q2⟩:=r2
  exact⟨a,us,rfl,.inr ⟨.inl (.inl (ba _ _ q1)),k _ Z _ H rp .refl r1 q⟩⟩⟩
noncomputable def uV:AC:=fun xs Z Q=>∃x ds,xs=[x]/\(bu Z x=some (.lst ds)\/x=.d (.tup ds))/\Q (.d (.lst ds)) Z
noncomputable def yE:AC:=fun xs Z Q=>∃x ds,xs=[x]/\(bu Z x=some (.lst ds)\/x=.d (.tup ds))/\∀p,Z p=none->Q (.r (.ref p)) (Z.put p (.own (ds.map AV.d)))
theorem mf{K:W.Frag}:no (fun xs H Q=>∃p ys,xs=[.ref p]/\(SqL K H p ys\/SqT K H p ys)/\∀l,H l=none->Q (.ref l) (upd H l (.lst ys))) uV:=⟨fun F H Z vs xs Q Q' rp rv ⟨x,ds,e1,e2,q⟩ k=>by
 subst e1;obtain⟨v,rfl,r1⟩:=kY rv;rcases e2 with e2|rfl
 ·obtain⟨a,us,rfl,q1,q2⟩:=dW rp r1 e2
  exact⟨a,us,rfl,.inl (.inl (.inl q1)),k.lst rp q2 q⟩
 ·have r2:=r1
  simp only[RV,Dat] at r2;obtain⟨a,us,rfl,q1,q2⟩:=r2
  exact⟨a,us,rfl,.inr (.inl (.inl (ba _ _ q1))),k.lst rp q2 q⟩⟩
theorem A9{K:W.Frag}:no (fun xs H Q=>∃p ys,xs=[.ref p]/\(SqL K H p ys\/SqT K H p ys)/\∀l,H l=none->Q (.ref l) (upd H l (.lst ys))) yE:=⟨fun F H Z vs xs Q Q' rp rv ⟨x,ds,e1,e2,q⟩ k=>by
 subst e1;obtain⟨v,rfl,r1⟩:=kY rv;rcases e2 with e2|rfl
 ·obtain⟨a,us,rfl,q1,q2⟩:=dW rp r1 e2
  exact⟨a,us,rfl,.inl (.inl (.inl q1)),k.own rp (RVs.dats.mpr q2) q⟩
 ·have r2:=r1
  simp only[RV,Dat] at r2;obtain⟨a,us,rfl,q1,q2⟩:=r2
  exact⟨a,us,rfl,.inr (.inl (.inl (ba _ _ q1))),k.own rp (RVs.dats.mpr q2) q⟩⟩
noncomputable def mx(lo:Int)(n:Nat):List AV:=(List.range n).map fun i=>AV.d (.int (lo+(i:Nat)))
noncomputable def yi(ta:AA):AI:=fun ρ Z R=>ta ρ Z fun xs Z1=>∃j:Int,xs=[.d (.int j)]/\-(2^62)<=j/\j<2^62/\R (mx 0 j.toNat) Z1
section
variable{te:TE}{te':AE}{ta:TA}{ta':AA}{K:W.Frag}
theorem AY{G:Hp}{ds:List D}{a:Addr}(h:Dat G (.lst ds) (.ref a)):yP G (ds.map AV.d) (Itl K a):=fun F H Z rp s=>by
 have h2:=h.same s;simp only[Dat] at h2;obtain⟨_,vs,e,ha,hd⟩:=h2;cases e;have hq:SqL K H a vs:=.inl (.inl (ba _ _ ha));have hl:=hd.length;refine⟨⟨vs,hq,by simp;omega⟩,fun i x hx=>?_⟩
 obtain⟨v,e1,e2⟩:=(RVs.dats.mpr hd).get hx;refine⟨⟨vs,v,hq,e1⟩,fun y H' hy=>?_⟩;obtain⟨rfl,hy⟩:=hy;have:=hy vs hq;rw[e1] at this;cases this;exact⟨rp,.refl,e2⟩
theorem CP{G:Hp}{ds:List D}{a:Addr}(h:Dat G (.tup ds) (.ref a)):yP G (ds.map AV.d) (Itt K a):=fun F H Z rp s=>by
 have h2:=h.same s;simp only[Dat] at h2;obtain⟨_,vs,e,ha,hd⟩:=h2;cases e;have hq:SqT K H a vs:=.inl (.inl (ba _ _ ha));have hl:=hd.length;refine⟨⟨vs,hq,by simp;omega⟩,fun i x hx=>?_⟩
 obtain⟨v,e1,e2⟩:=(RVs.dats.mpr hd).get hx;refine⟨⟨vs,v,hq,e1⟩,fun y H' hy=>?_⟩;obtain⟨rfl,hy⟩:=hy;have:=hy vs hq;rw[e1] at this;cases this;exact⟨rp,.refl,e2⟩
theorem ku{G:Hp}{ds:List D}{v:V}(h:Dat G (.lst ds) v):∃a vs,v=.ref a/\G a=some (.lst vs):=by
 simp only[Dat] at h;obtain⟨a,vs,e,h,_⟩:=h;exact⟨a,vs,e,h⟩
theorem ko{G:Hp}{ds:List D}{v:V}(h:Dat G (.tup ds) v):∃a vs,v=.ref a/\G a=some (.tup vs):=by
 simp only[Dat] at h;obtain⟨a,vs,e,h,_⟩:=h;exact⟨a,vs,e,h⟩
theorem Dj{G:Hp}{lo:Int}{n:Nat}:yP G (mx lo n) (Itr lo n):=fun F H Z rp s=>by
 refine⟨by simp[mx,Itr],fun i x hx=>?_⟩
 unfold mx at hx;rw[List.getElem?_map] at hx;by_cases hi:i<n
 ·rw[List.getElem?_range hi] at hx
  simp only[Option.map_some,Option.some.injEq] at hx;subst hx;refine⟨hi,fun y H' hy=>?_⟩;obtain⟨rfl,rfl⟩:=hy;exact⟨rp,.refl,by simp[RV,Dat]⟩
 ·rw[List.getElem?_eq_none (by simp;omega)] at hx
  cases hx
theorem lK(h:k7 ta ta'):xi (Ck ta) (yi ta'):=⟨fun F H Z σ ρ R R' rp rs w k=>h.go rp rs w fun xs Z1 vs H1 rp1 fr1 rs1 rv ⟨j,e,h1,h2,q⟩=>by
 subst e;obtain⟨v,rfl,r⟩:=kY rv
 exact⟨j,by rw[bG r],h1,h2,k _ Z1 _ H1 rp1 fr1 Dj q⟩⟩
noncomputable def p6:D->Option (List D)
 |.tup ds=>some ds
 |.lst ds=>some ds
 |_=>none
end
noncomputable def Cl(n:Nat)(t:AGs):AG:=fun v ρ Z Q=>∃ds,v=.d (.tup ds)/\ds.length=n/\t (ds.map AV.d) ρ Z Q
noncomputable def BY(to ti:AE):AG:=fun v ρ Z Q=>to ρ Z fun o Z1=>ti ρ Z1 fun i Z2=>∃l k xs j,o=.r (.ref l)/\i=.d (.int k)/\Z2 l=some (.own xs)/\ixN xs.length k=some j/\Q ρ (Z2.put l (.own (xs.set j v)))
section
variable{K:W.Frag}{n:Nat}{gs:TGs}{gs':AGs}{to ti:TE}{to' ti':AE}
theorem vF(h:vy gs gs'):oK (Cw K n gs) (Cl n gs'):=⟨fun F H Z σ ρ v a Q Q' rp rs rv ⟨ds,e,hn,q⟩ k=>by
 subst e;simp only[RV,Dat] at rv;obtain⟨b,vs,rfl,h1,h2⟩:=rv
 exact⟨b,vs,rfl,.inl (.inl (ba _ _ h1)),by rw[h2.length];exact hn,h.run F H Z σ ρ vs _ Q Q' rp rs (RVs.dats.mpr h2) q k⟩⟩
theorem u9(ho:bw to to')(hi:bw ti ti'):oK (DR to ti BK) (BY to' ti'):=⟨fun F H Z σ ρ v a Q Q' rp rs rv w k=>
 ho.go rp rs w fun x Z1 u H1 rp1 fr1 rs1 rv1 q1=>hi.go rp1 rs1 q1 fun y Z2 u2 H2 rp2 fr2 rs2 rv2 ⟨l,j,xs,i,e1,e2,e3,e4,q⟩=>by
  subst e1 e2;have e5:u=.ref l:=rv1;obtain⟨vs,z1,z2⟩:=rp2.own l xs e3;have rv':=rv.same (fr1.trans fr2).same;obtain⟨rp3,fr3⟩:=rp2.write e3 (z2.set i rv');have fr:=(fr1.trans fr2).trans fr3
  exact⟨l,vs,j,i,e5,bG rv2,z1,by rw[z2.length];exact e4,k ρ _ σ _ rp3 fr (rs.same fr.same) q⟩⟩
end
noncomputable def fc{α:Type}(xs:List α)(lo hi:Option Int):List α:=(xs.drop (HT.sIx xs.length 0 lo)).take (HT.sIx xs.length xs.length hi-HT.sIx xs.length 0 lo)
noncomputable abbrev AO:=SA->Om->(Option Int->Om->Prop)->Prop
noncomputable def zr:AO:=fun _ Z Q=>Q none Z
noncomputable def yt(t:AE):AO:=fun ρ Z Q=>t ρ Z fun x Z1=>∃i,x=.d (.int i)/\Q (some i) Z1
theorem aG.cut{G:Hp}{ds:List D}{vs:List V}{lo hi:Option Int}(h:aG G ds vs):aG G (fc ds lo hi) (p4 vs lo hi):=by
 unfold fc p4;rw[h.length];exact(h.drop _).take _
section
variable{K:W.Frag}{te ts:TE}{te' ts':AE}{tl th:TO}{tl' th':AO}
theorem bF:Ref REq vH zr:=⟨fun F H Z σ ρ Q Q' rp rs w k=>k none Z none H rp .refl rfl w⟩
theorem bI(h:bw te te'):Ref REq (B9 te) (yt te'):=⟨fun F H Z σ ρ Q Q' rp rs w k=>h.go rp rs w fun x Z1 v H1 rp1 fr1 rs1 rv ⟨i,e,q⟩=>by
 subst e;exact⟨i,bG rv,k _ Z1 _ H1 rp1 fr1 rfl q⟩⟩
noncomputable def Ei(te:AE):AE:=fun ρ Z Q=>te ρ Z fun x Z1=>∃ds,bu Z1 x=some (.lst ds)/\Q (.d (.lst ds.reverse)) Z1
theorem aG.rev{G:Hp}:∀ {ds:List D} {vs:List V},aG G ds vs->aG G ds.reverse vs.reverse
 | [],_,h=>by simp only[aG] at h;subst h;simp[aG]
 |d::ds,vs,h=>by
  simp only[aG] at h;obtain⟨x,r,rfl,h1,h2⟩:=h;simp only[List.reverse_cons];exact h2.rev.append (.one h1)
theorem EN(he:bw te te'):bw (E2 K te (tUn (rU fun i=>.int (-i)) (tC (.int 1)))) (Ei te'):=⟨fun F H Z σ ρ Q Q' rp rs w k=>
 he.go rp rs w fun x Z1 v H1 rp1 fr1 rs1 rv1 ⟨ds,e,q⟩=>⟨1,rfl,rfl,by
  obtain⟨a,vs,rfl,z1,z2⟩:=dW rp1 rv1 e
  exact⟨a,vs,rfl,.inl (.inl z1),(k.fr fr1).lst rp1 z2.rev q⟩⟩⟩
end
noncomputable def vU(to:AE)(t:AA):AE:=fun ρ Z Q=>to ρ Z fun x Z1=>∃l,x=.r (.ref l)/\(∃zs,Z1 l=some (.own zs))/\t ρ Z1 fun ys Z2=>∃xs y,ys=[y]/\Z2 l=some (.own xs)/\xs.length<sizeLine/\Q (.d .non) (Z2.put l (.own (xs++[y])))
noncomputable def vp(to:AE)(t:AA):AE:=fun ρ Z Q=>to ρ Z fun x Z1=>∃l,x=.r (.ref l)/\(∃zs,Z1 l=some (.own zs))/\t ρ Z1 fun ys Z2=>∃xs y zs,ys=[y]/\Z2 l=some (.own xs)/\dh Z2 y=some zs/\xs.length+zs.length<=sizeLine/\Q (.d .non) (Z2.put l (.own (xs++zs)))
noncomputable def CF(to:AE):AE:=fun ρ Z Q=>to ρ Z fun x Z1=>∃l xs y,x=.r (.ref l)/\Z1 l=some (.own xs)/\xs[xs.length-1]?=some y/\Q y (Z1.put l (.own xs.dropLast))
section
variable{K:W.Frag}{to:TE}{to':AE}{t:TA}{t':AA}
theorem jx(ho:bw to to')(ht:k7 t t'):bw (tBM K "list" vO to t) (vU to' t'):=⟨fun F H Z σ ρ Q Q' rp rs w k=>
 ho.go rp rs w fun x Z1 v H1 rp1 fr1 rs1 rv1 ⟨l,e,⟨zs,hz⟩,q1⟩=>by
  subst e;cases (show v=.ref l from rv1)
  obtain⟨us,z1,_⟩:=rp1.own l zs hz;refine⟨.inl ⟨rfl,us,.inl (.inl z1)⟩,ht.go rp1 rs1 q1 fun ys Z2 vs H2 rp2 fr2 rs2 rv2 ⟨xs,y,e1,e2,e3,q⟩=>?_⟩;subst e1;obtain⟨u,rfl,r⟩:=kY rv2;obtain⟨ws,z3,z4⟩:=rp2.own l xs e2;obtain⟨rp3,fr3⟩:=rp2.write e2 (z4.append (.one r))
  exact⟨l,ws,u,rfl,rfl,z3,by rw[z4.length];exact e3,k _ _ _ _ rp3 ((fr1.trans fr2).trans fr3) (by simp[RV,Dat]) q⟩⟩
theorem rV(ho:bw to to')(ht:k7 t t'):bw (tBM K "list" uQ to t) (vp to' t'):=⟨fun F H Z σ ρ Q Q' rp rs w k=>
 ho.go rp rs w fun x Z1 v H1 rp1 fr1 rs1 rv1 ⟨l,e,⟨zs,hz⟩,q1⟩=>by
  subst e;cases (show v=.ref l from rv1)
  obtain⟨us,z1,_⟩:=rp1.own l zs hz;refine⟨.inl ⟨rfl,us,.inl (.inl z1)⟩,ht.go rp1 rs1 q1 fun ys Z2 vs H2 rp2 fr2 rs2 rv2 ⟨xs,y,ss,e1,e2,e3,e4,q⟩=>?_⟩;subst e1;obtain⟨u,rfl,r⟩:=kY rv2;obtain⟨ws,z3,z4⟩:=rp2.own l xs e2;obtain⟨b,bs,rfl,z5,z6⟩:=g9 rp2 r e3;obtain⟨rp3,fr3⟩:=rp2.write e2 (z4.append z6)
  exact⟨l,b,ws,bs,rfl,rfl,z3,z5,by rw[z4.length,z6.length];exact e4,k _ _ _ _ rp3 ((fr1.trans fr2).trans fr3) (by simp[RV,Dat]) q⟩⟩
theorem BV(ho:bw to to'):bw (EM K "list" E1 to) (CF to'):=⟨fun F H Z σ ρ Q Q' rp rs w k=>
 ho.go rp rs w fun x Z1 v H1 rp1 fr1 rs1 rv1 ⟨l,xs,y,e,hz,hy,q⟩=>by
  subst e;cases (show v=.ref l from rv1)
  obtain⟨us,z1,z2⟩:=rp1.own l xs hz;obtain⟨u,z3,z4⟩:=z2.get hy;obtain⟨rp3,fr3⟩:=rp1.write hz z2.dropLast
  exact⟨.inl ⟨rfl,us,.inl (.inl z1)⟩,l,us,u,rfl,rfl,z1,by rw[z2.length];exact z3,k y _ u _ rp3 (fr1.trans fr3) (z4.same fr3.same) q⟩⟩
end
noncomputable def tyD:D->String
 |.non=>"NoneType"|.bl _=>"bool"|.int _=>"int"|.str _=>"str"|.tup _=>"tuple"|.lst _=>"list"|.dk _=>"dict"|.dt _=>"dict"
noncomputable def isD(T:String)(d:D):Bool:=tyD d == T || (tyD d == "bool" && T == "int")
noncomputable def Ek:AC:=fun xs Z Q=>∃x d T,xs=[x,.r (.ty T)]/\bu Z x=some d/\T∈kL/\Q (.d (.bl (isD T d))) Z
theorem EK{H:Hp}{d:D}{v:V}(h:Dat H d v):gz H v=some (tyD d):=by
 cases d<;>simp only[Dat] at h
 all_goals first
  |(subst h;rfl)
  |(obtain⟨a,xs,rfl,h,_⟩:=h;simp[gz,h,tyD])
theorem fF:no (fun xs H Q=>∃x T,xs=[x,.ty T]/\T∈kL/\(gz H x).isSome=true/\Q (.bl (isA H x T)) H) Ek:=⟨fun F H Z vs xs Q Q' rp rv ⟨x,d,T,e1,e2,e3,q⟩ k=>by
 subst e1;obtain⟨v,u,rfl,r1,r2⟩:=DJ rv;cases (show u=.ty T from r2)
 have ht:=EK (gj rp r1 e2);refine⟨v,T,rfl,e3,by rw[ht];rfl,?_⟩
 have:isA H v T=isD T d:=by simp[isA,ht,isD]
 rw[this]
 exact k.bl rp q⟩
noncomputable def Ef:A2:=fun x y Z Q=>∃ds es,bu Z x=some (.lst ds)/\bu Z y=some (.lst es)/\ds.length+es.length<=sizeLine/\Q (.d (.lst (ds++es))) Z
theorem Dg:eO tV Ef:=⟨fun F H Z v u x y Q Q' rp h1 h2 ⟨ds,es,e1,e2,z,q⟩ k=>by
 obtain⟨a,vs,rfl,z1,z2⟩:=dW rp h1 e1;obtain⟨b,us,rfl,z3,z4⟩:=dW rp h2 e2
 exact⟨a,b,vs,us,rfl,rfl,z1,z3,by rw[z2.length,z4.length];exact z,k.lst rp (z2.append z4) q⟩⟩
noncomputable def t9:A2:=fun x y Z Q=>∃xs ys,dh Z x=some xs/\dh Z y=some ys/\xs.length+ys.length<=sizeLine/\∀p,Z p=none->Q (.r (.ref p)) (Z.put p (.own (xs++ys)))
theorem BC:eO tV t9:=⟨fun F H Z v u x y Q Q' rp h1 h2 ⟨ds,es,e1,e2,z,q⟩ k=>by
 obtain⟨a,vs,rfl,z1,z2⟩:=g9 rp h1 e1;obtain⟨b,us,rfl,z3,z4⟩:=g9 rp h2 e2
 exact⟨a,b,vs,us,rfl,rfl,z1,z3,by rw[z2.length,z4.length];exact z,k.own rp (z2.append z4) q⟩⟩
noncomputable def zE:A2:=fun x y Z Q=>∃ds k,bu Z x=some (.lst ds)/\y=.d (.int k)/\-(2^63)<=k/\k<2^63/\ds.length*k.toNat<=sizeLine/\Q (.d (.lst (List.replicate k.toNat ds).flatten)) Z
theorem aG.rep{G:Hp}{ds:List D}{vs:List V}(h:aG G ds vs):∀n:Nat,aG G (List.replicate n ds).flatten (List.replicate n vs).flatten
 |0=>by simp[aG]
 |n+1=>by
  simp only[List.replicate_succ,List.flatten_cons];exact h.append (h.rep n)
theorem Db:eO A1 zE:=⟨fun F H Z v u x y Q Q' rp h1 h2 ⟨ds,k',e1,e2,b1,b2,z,q⟩ k=>by
 subst e2;obtain⟨a,vs,rfl,z1,z2⟩:=dW rp h1 e1
 exact⟨a,k',vs,rfl,bG h2,z1,b1,b2,by rw[z2.length];exact z,k.lst rp (z2.rep _) q⟩⟩
noncomputable def xJ(r r':A2)(ta tb tc:AE):AE:=fun ρ Z Q=>ta ρ Z fun x Z1=>tb ρ Z1 fun y Z2=>r x y Z2 fun z Z3=>∃k,z=.d (.bl k)/\(if k=true then tc ρ Z3 fun w Z4=>r' y w Z4 Q else Q (.d (.bl false)) Z3)
theorem lm{r r2:R2}{r' r2':A2}{ta tb tc:TE}{ta' tb' tc':AE}(h1:eO r r')(h2:eO r2 r2')(ha:bw ta ta')(hb:bw tb tb')(hc:bw tc tc'):bw (yY r r2 ta tb tc) (xJ r' r2' ta' tb' tc'):=⟨fun F H Z σ ρ Q Q' rp rs w k=>
 ha.go rp rs w fun x Z1 v H1 rp1 fr1 rs1 rv1 q1=>hb.go rp1 rs1 q1 fun y Z2 u H2 rp2 fr2 rs2 rv2 q2=>h1.run F H2 Z2 v u x y _ _ rp2 (rv1.same fr2.same) rv2 q2 fun z Z3 zv H3 rp3 fr3 rv3 ⟨c,e,q⟩=>by
  subst e;refine⟨c,rE rv3,?_⟩;have fr:=(fr1.trans fr2).trans fr3
  cases c with
  |true=>
   rw[if_pos rfl] at q ⊢;exact hc.go rp3 (rs2.same fr3.same) q fun w' Z4 wv H4 rp4 fr4 rs4 rv4 q4=>h2.run F H4 Z4 u wv y w' Q Q' rp4 (rv2.same (fr3.trans fr4).same) rv4 q4 (k.fr (fr.trans fr4))
  |false=>
   rw[if_neg Bool.false_ne_true] at q ⊢
   exact k _ Z3 _ H3 rp3 fr (by simp[RV,Dat]) q⟩
section
variable{X:Cx}{tg:Expr}
noncomputable def DF:D->Bool
 |.str _=>false
 |_=>true
theorem i8(hg:X.A.guards=some [])(hu:X.A.units+100<cLine):de X (.builtin "repr") (fun xs H Q=>∃(x:V)(d:D),xs=[x]/\Dat H d x/\DF d=true/\dep d<=90/\fit d=true/\wt d<=1000000/\Q (.str (io d)) H):=by
 intro pins s σ H xs us Q I r h;obtain⟨x,d,rfl,hd,hs,hdp,hf,hw,q⟩:=h;obtain⟨u,rfl,ru⟩:=gE r
 cases d with
 |non=>
  simp only[Dat] at hd;subst hd;cases (show u=Value.none from ru)
  exact PySem.P.repr_of_none ⟨.str (io .non),H,I.tok _,⟨_,rfl⟩,q⟩
 |bl b=>
  simp only[Dat] at hd;subst hd;cases (show u=Value.bool b from ru)
  exact PySem.P.repr_of_bool ⟨.str (io (.bl b)),H,I.tok _,⟨_,by cases b<;>rfl⟩,q⟩
 |int i=>
  simp only[Dat] at hd;subst hd;obtain⟨t,rfl⟩:=ru;exact PySem.P.repr_of_int (by simpa[fit] using hf) ⟨.str (io (.int i)),H,I.tok _,⟨_,rfl⟩,q⟩
 |str b=>cases hs
 |dk b=>simp[dep] at hdp
 |dt b=>simp[dep] at hdp
 |tup ds=>
  obtain⟨a,_,rfl,_⟩:=ko hd;exact mL hg hu pins s σ H [.ref a] [u] Q I r ⟨a,_,rfl,hd,hdp,hf,hw,q⟩
 |lst ds=>
  obtain⟨a,_,rfl,_⟩:=ku hd;exact mL hg hu pins s σ H [.ref a] [u] Q I r ⟨a,_,rfl,hd,hdp,hf,hw,q⟩
noncomputable def rOr(r1 r2:R2):R2:=fun x y H Q=>r1 x y H Q\/r2 x y H Q
theorem ak{f:Value->Value->Sem Value}{r1 r2:R2}(h1:OpR X f r1)(h2:OpR X f r2):OpR X f (rOr r1 r2):=fun pins s σ H x y v u Q I rx ry h=>by
 rcases h with h|h
 ·exact h1 pins s σ H x y v u Q I rx ry h
 ·exact h2 pins s σ H x y v u Q I rx ry h
noncomputable def sB(K:W.Frag):V->Option Int->Option Int->Hp->VK->Prop:=fun x lo hi H Q=>Ee K x lo hi H Q\/Cp K x lo hi H Q
theorem bH(K:W.Frag)(hK:X.K=K):SlR X (sB K):=by
 subst hK;intro pins s σ H x v vl vu lo hi sl Q I rx hs pl pu h;rcases h with h|h
 ·exact Ar pins s σ H x v vl vu lo hi sl Q I rx hs pl pu h
 ·exact A0 pins s σ H x v vl vu lo hi sl Q I rx hs pl pu h
noncomputable def Er(K:W.Frag)(tl:TE):TI:=fun σ H R=>tl σ H fun x H1=>(∃a,x=.ref a/\(∃xs,SqL K H1 a xs)/\R (Itl K a) H1)\/∃a,x=.ref a/\(∃xs,SqT K H1 a xs)/\R (Itt K a) H1
theorem d9(K:W.Frag)(hK:X.K=K){l:Expr}{tl:TE}(hl:PE X l tl):PI X tg l (Er K tl):=by
 subst hK;intro pins s σ H R I h;refine thn (hl pins s σ H _ I h) fun v s1 ⟨x,H1,I1,r1,q1⟩=>?_;rcases q1 with q1|q1
 ·obtain⟨a,e,⟨xs,hq⟩,q⟩:=q1
  subst e;cases r1;obtain⟨its,rv,p,hz⟩:=I1.list hq;refine wpAny_pyIter_list p.isList ?_;refine⟨s1.heap.objs.size,[s1.heap.objs.size],_,_,H1,rfl,I1.kept (t':=s1.toks) fun b o e=>Heap.get?_push_of_some _ e,w5 a _,⟨_,Heap.get?_push_size _ rfl,rfl,rfl⟩,fun b hb=>?_,q⟩;have e:b=s1.heap.objs.size:=by simpa using hb
  subst e;exact I1.F8 (Nat.le_refl _) (I1.hok.fresh (Nat.le_refl _))
 ·obtain⟨a,e,⟨xs,hq⟩,q⟩:=q1
  subst e;cases r1;obtain⟨its,rv,p,hz⟩:=I1.tuple hq;refine wpAny_pyIter_tuple (show s1.heap.IsTuple a its.toArray from p) ?_
  refine⟨s1.heap.objs.size,[s1.heap.objs.size],_,_,H1,rfl,I1.kept (t':=s1.toks) fun b o e=>Heap.get?_push_of_some _ e,sg a _,⟨_,Heap.get?_push_size _ rfl,rfl,rfl⟩,fun b hb=>?_,q⟩;have e:b=s1.heap.objs.size:=by simpa using hb
  subst e;exact I1.F8 (Nat.le_refl _) (I1.hok.fresh (Nat.le_refl _))
noncomputable def EW(K:W.Frag)(ta tb:TE):TE:=fun σ H Q=>ta σ H fun x H1=>∃c,oY K x H1 c/\if c=true then Q x H1 else tb σ H1 Q
noncomputable def Cc(K:W.Frag)(ta tb:TE):TE:=fun σ H Q=>ta σ H fun x H1=>∃c,oY K x H1 c/\if c=true then tb σ H1 Q else Q x H1
noncomputable def Cv(K:W.Frag)(ta:TE):TE:=fun σ H Q=>ta σ H fun x H1=>∃c,oY K x H1 c/\Q (.bl (!c)) H1
variable{a b:Expr}{bi:List Expr}{pos:Pos}{ta tb:TE}
theorem CU(K:W.Frag)(hK:X.K=K)(ha:PE X a ta)(hb:PE X (.BoolOp .Or (b::bi) pos) tb):PE X (.BoolOp .Or (a::b::bi) pos) (EW K ta tb):=.mk <| by
 subst hK;intro pins s σ H Q I h;refine BoolOp_or (thn (ha pins s σ H _ I h) fun v s1 ⟨x,H1,I1,r1,q1⟩=>?_);refine thn (oH pins s1 σ H1 x v (fun c H2=>H2=H1/\if c=true then Q x H1 else tb σ H1 Q) I1 r1 ?_) fun c s2 ⟨H2,I2,e,q2⟩=>?_
 ·obtain⟨c,hc,q⟩:=q1
  exact⟨c,hc,rfl,q⟩
 ·subst e
  cases c with
  |false=>rw[if_neg Bool.false_ne_true] at q2;exact hb pins s2 σ H2 Q I2 q2
  |true=>rw[if_pos rfl] at q2;exact⟨x,H2,I2,r1,q2⟩
theorem b8(K:W.Frag)(hK:X.K=K)(ha:PE X a ta)(hb:PE X (.BoolOp .And (b::bi) pos) tb):PE X (.BoolOp .And (a::b::bi) pos) (Cc K ta tb):=.mk <| by
 subst hK;intro pins s σ H Q I h;refine BoolOp_and (thn (ha pins s σ H _ I h) fun v s1 ⟨x,H1,I1,r1,q1⟩=>?_);refine thn (oH pins s1 σ H1 x v (fun c H2=>H2=H1/\if c=true then tb σ H1 Q else Q x H1) I1 r1 ?_) fun c s2 ⟨H2,I2,e,q2⟩=>?_
 ·obtain⟨c,hc,q⟩:=q1
  exact⟨c,hc,rfl,q⟩
 ·subst e
  cases c with
  |true=>rw[if_pos rfl] at q2;exact hb pins s2 σ H2 Q I2 q2
  |false=>rw[if_neg Bool.false_ne_true] at q2;exact⟨x,H2,I2,r1,q2⟩
theorem vi(K:W.Frag)(hK:X.K=K)(ha:PE X a ta):PE X (.UnaryOp .Not a pos) (Cv K ta):=.mk <| by
 subst hK;intro pins s σ H Q I h;refine UnaryOp_ (thn (ha pins s σ H _ I h) fun v s1 ⟨x,H1,I1,r1,q1⟩=>?_);refine not_of (thn (oH pins s1 σ H1 x v (fun c H2=>Q (.bl (!c)) H2) I1 r1 q1) fun c s2 ⟨H2,I2,q2⟩=>⟨.bl (!c),H2,I2,rfl,q2⟩)
end
noncomputable def E8(ta tb:AE):AE:=fun ρ Z Q=>ta ρ Z fun x Z1=>∃c,fe Z1 x=some c/\if c=true then Q x Z1 else tb ρ Z1 Q
noncomputable def Cb(ta tb:AE):AE:=fun ρ Z Q=>ta ρ Z fun x Z1=>∃c,fe Z1 x=some c/\if c=true then tb ρ Z1 Q else Q x Z1
noncomputable def BW(ta:AE):AE:=fun ρ Z Q=>ta ρ Z fun x Z1=>∃c,fe Z1 x=some c/\Q (.d (.bl (!c))) Z1
noncomputable def aSl(te:AE)(tl th:AO):AE:=fun ρ Z Q=>te ρ Z fun x Z1=>tl ρ Z1 fun lo Z2=>th ρ Z2 fun hi Z3=>match x with
 |.d (.tup ds)=>Q (.d (.tup (fc ds lo hi))) Z3
 |x=>∃ds,bu Z3 x=some (.lst ds)/\Q (.d (.lst (fc ds lo hi))) Z3
noncomputable def B0(te:AE):AI:=fun ρ Z R=>te ρ Z fun x Z1=>rB Z1 x fun d Z2=>∃ds,p6 d=some ds/\R (ds.map AV.d) Z2
noncomputable def zA:A2:=fun x y Z Q=>match x with
 |.d (.int i)=>∃j,y=.d (.int j)/\Q (.d (.int (i+j))) Z
 |.d (.tup ds)=>∃es,y=.d (.tup es)/\ds.length+es.length<=sizeLine/\Q (.d (.tup (ds++es))) Z
 |x=>∃ds es,bu Z x=some (.lst ds)/\bu Z y=some (.lst es)/\ds.length+es.length<=sizeLine/\Q (.d (.lst (ds++es))) Z
noncomputable def El:A2:=fun x y Z Q=>match x with
 |.d (.int i)=>∃j,y=.d (.int j)/\ng i j/\Q (.d (.int (i*j))) Z
 |x=>zE x y Z Q
section
variable{K:W.Frag}{te ta tb:TE}{te' ta' tb':AE}{tl th:TO}{tl' th':AO}{sa:TA}{sa':AA}
theorem EH(ha:bw ta ta')(hb:bw tb tb'):bw (EW K ta tb) (E8 ta' tb'):=⟨fun F H Z σ ρ Q Q' rp rs h k=>
 ha.go rp rs h fun x Z1 v H1 rp1 fr1 rs1 rv1 ⟨c,e,q⟩=>⟨c,pV rp1 rv1 e,by
  cases c with
  |true=>rw[if_pos rfl] at q ⊢;exact k x Z1 v H1 rp1 fr1 rv1 q
  |false=>rw[if_neg Bool.false_ne_true] at q ⊢;exact hb.run F H1 Z1 σ ρ Q Q' rp1 rs1 q (k.fr fr1)⟩⟩
theorem cT(ha:bw ta ta')(hb:bw tb tb'):bw (Cc K ta tb) (Cb ta' tb'):=⟨fun F H Z σ ρ Q Q' rp rs h k=>
 ha.go rp rs h fun x Z1 v H1 rp1 fr1 rs1 rv1 ⟨c,e,q⟩=>⟨c,pV rp1 rv1 e,by
  cases c with
  |false=>rw[if_neg Bool.false_ne_true] at q ⊢;exact k x Z1 v H1 rp1 fr1 rv1 q
  |true=>rw[if_pos rfl] at q ⊢;exact hb.run F H1 Z1 σ ρ Q Q' rp1 rs1 q (k.fr fr1)⟩⟩
theorem zm(ha:bw ta ta'):bw (Cv K ta) (BW ta'):=⟨fun F H Z σ ρ Q Q' rp rs h k=>
 ha.go rp rs h fun x Z1 v H1 rp1 fr1 rs1 rv1 ⟨c,e,q⟩=>⟨c,pV rp1 rv1 e,(k.fr fr1).bl rp1 q⟩⟩
theorem eC(he:bw te te')(hl:Ref REq tl tl')(hh:Ref REq th th'):bw (tSl (sB K) te tl th) (aSl te' tl' th'):=⟨fun F H Z σ ρ Q Q' rp rs w k=>
 he.go rp rs w fun x Z1 v H1 rp1 fr1 rs1 rv1 q1=>hl.go rp1 rs1 q1 fun lo Z2 lo' H2 rp2 fr2 rs2 e2 q2=>hh.go rp2 rs2 q2 fun hi Z3 hi' H3 rp3 fr3 rs3 e3 q=>by
  cases (show lo=lo' from e2)
  cases (show hi=hi' from e3)
  have r:=rv1.same (fr2.trans fr3).same;have k3:=k.fr ((fr1.trans fr2).trans fr3)
  have ls:(∃ds,bu Z3 x=some (.lst ds)/\Q' (.d (.lst (fc ds lo hi))) Z3)->sB K v lo hi H3 Q:=fun⟨ds,e,q⟩=>by
   obtain⟨a,vs,rfl,z1,z2⟩:=dW rp3 r e;exact .inl ⟨a,vs,rfl,.inl (.inl z1),k3.lst rp3 z2.cut q⟩
  cases x with
  |d x=>cases x with
   |tup ds=>
    refine .inr ?_;have r':=r;simp only[RV,Dat] at r;obtain⟨a,vs,rfl,z1,z2⟩:=r;refine⟨a,vs,rfl,.inl (.inl (ba _ _ z1)),?_⟩;by_cases hw:HT.sIx vs.length 0 lo=0/\HT.sIx vs.length vs.length hi=vs.length
    ·rw[if_pos hw]
     have:fc ds lo hi=ds:=by
      unfold fc;rw[←z2.length,hw.1,hw.2,List.drop_zero,Nat.sub_zero,z2.length,List.take_length]
     replace q:Q' (.d (.tup (fc ds lo hi))) Z3:=q
     rw[this] at q;exact k3 _ Z3 _ H3 rp3 .refl r' q
    ·rw[if_neg hw]
     exact k3.tup rp3 z2.cut q
   |_=>exact ls q
  |_=>exact ls q⟩
theorem gD(h:bw te te'):xi (Er K te) (B0 te'):=⟨fun F H Z σ ρ R R' rp rs w k=>h.go rp rs w fun x Z1 v H1 rp1 fr1 rs1 rv q=>by
 obtain⟨d,Z2,rp2,fr2,hd,ds,hs,q2⟩:=zZ rp1 rv q
 cases d with
 |lst es=>
  cases hs;obtain⟨a,vs,rfl,ha⟩:=ku hd;exact .inl ⟨a,rfl,⟨vs,.inl (.inl (ba _ _ ha))⟩,k _ Z2 _ H1 rp2 (fr1.trans fr2) (AY hd) q2⟩
 |tup es=>
  cases hs;obtain⟨a,vs,rfl,ha⟩:=ko hd;exact .inr ⟨a,rfl,⟨vs,.inl (.inl (ba _ _ ha))⟩,k _ Z2 _ H1 rp2 (fr1.trans fr2) (CP hd) q2⟩
 |_=>cases hs⟩
theorem be:eO (rOr (rI0 fun i j=>.int (i+j)) (rOr nW tV)) zA:=⟨fun F H Z v u x y Q Q' rp h1 h2 q k=>by
 have ls:(∃ds es,bu Z x=some (.lst ds)/\bu Z y=some (.lst es)/\ds.length+es.length<=sizeLine/\Q' (.d (.lst (ds++es))) Z)->rOr (rI0 fun i j=>.int (i+j)) (rOr nW tV) v u H Q:=fun q=>
  .inr (.inr (Dg.run F H Z v u x y Q Q' rp h1 h2 q k))
 cases x with
 |d x=>cases x with
  |int i=>
   obtain⟨j,rfl,q⟩:=q;exact .inl ⟨i,j,bG h1,bG h2,k.int rp q⟩
  |tup ds=>
   obtain⟨es,rfl,z,q⟩:=q;exact .inr (.inl (z8.run F H Z v u _ _ Q Q' rp h1 h2 ⟨ds,es,rfl,rfl,z,q⟩ k))
  |_=>exact ls q
 |_=>exact ls q⟩
theorem x5:eO (rOr (rI ng fun i j=>.int (i*j)) A1) El:=⟨fun F H Z v u x y Q Q' rp h1 h2 q k=>by
 have ls:zE x y Z Q'->rOr (rI ng fun i j=>.int (i*j)) A1 v u H Q:=fun q=>.inr (Db.run F H Z v u x y Q Q' rp h1 h2 q k)
 cases x with
 |d x=>cases x with
  |int i=>
   obtain⟨j,rfl,c,q⟩:=q;exact .inl ⟨i,j,bG h1,bG h2,c,k.int rp q⟩
  |_=>exact ls q
 |_=>exact ls q⟩
end
noncomputable def yx:A2:=fun x y Z Q=>match x with
 |.d (.int i)=>∃j,y=.d (.int j)/\Q (.d (.int (i+j))) Z
 |.d (.tup ds)=>∃es,y=.d (.tup es)/\ds.length+es.length<=sizeLine/\Q (.d (.tup (ds++es))) Z
 |x=>t9 x y Z Q
theorem iN:eO (rOr (rI0 fun i j=>.int (i+j)) (rOr nW tV)) yx:=⟨fun F H Z v u x y Q Q' rp h1 h2 q k=>by
 have ls:t9 x y Z Q'->rOr (rI0 fun i j=>.int (i+j)) (rOr nW tV) v u H Q:=fun q=>.inr (.inr (BC.run F H Z v u x y Q Q' rp h1 h2 q k))
 cases x with
 |d x=>cases x with
  |int i=>
   obtain⟨j,rfl,q⟩:=q;exact .inl ⟨i,j,bG h1,bG h2,k.int rp q⟩
  |tup ds=>
   obtain⟨es,rfl,z,q⟩:=q;exact .inr (.inl (z8.run F H Z v u _ _ Q Q' rp h1 h2 ⟨ds,es,rfl,rfl,z,q⟩ k))
  |_=>exact ls q
 |_=>exact ls q⟩
noncomputable def iX(N:List Str)(xs:List AV):SA:=xs.map some++List.replicate (N.length-xs.length) none
theorem RS.start{G:Hp}{N:List Str}{xs:List AV}{vs:List V}(h:RVs G xs vs):RS G (iX N xs) (start N vs):=by
 refine⟨by simp[iX,L2.start,h.length],fun i a e=>?_⟩
 unfold iX at e;unfold L2.start;by_cases hi:i<xs.length
 ·rw[List.getElem?_append_left (by simpa using hi),List.getElem?_map] at e
  rw[List.getElem?_append_left (by simpa[h.length] using hi),List.getElem?_map]
  cases z:xs[i]? with
  |none=>rw[z] at e;simp at e
  |some b=>
   rw[z] at e;simp at e;subst e;obtain⟨v,e1,e2⟩:=h.get z;exact⟨v,by rw[e1];rfl,e2⟩
 ·rw[List.getElem?_append_right (by simpa using hi)] at e
  have:=List.mem_of_getElem? e;rw[List.mem_replicate] at this;cases this.2
theorem Fun.okA{P:Program}{w:World}{K:W.Frag}{mg:Str->Option Value}{base:Heap}{x qual:Str}{st:Stmt}{f:Addr}{fd:FuncData}{N ps:List Str}{k:Nat}{sp:ASp}(F:Fun K x qual st f fd)(S:aV N ps (defScope st))(len:∀xs Z Q,sp xs Z Q->xs.length=ps.length)
  (hbody:∀(cdv:Value)(A:Around)(outer:List Env)(s:Shared)(H:Hp)(E:XK),eB k (A.deeper (envOfC qual (defScope st) s.heap.objs.size f cdv)) ->
   ∃t t',PSs (oR CX0 P w K mg base N qual (defScope st) f cdv A outer s H E).nox (defBody st) t/\iq t t'/\∀xs Z Q',sp xs Z Q'->t' { nx:=fun _ Z'=>Q' (.d .non) Z',rt:=Q' } (iX N xs) Z):aO P w K mg base CX0 (k+1) f fd ps (ca sp):=by
 refine F.ok S (fun vs H Q E h=>?_) (fun cdv A outer s H vs Q E hr h=>?_)
 ·obtain⟨F,xs,Z,Q',rp,rv,h,_⟩:=h
  rw[rv.length,len xs Z Q' h]
 ·obtain⟨t,t',h1,h2,h3⟩:=hbody cdv A outer s H E hr
  obtain⟨F,xs,Z,Q',rp,rv,h,kq⟩:=h;refine⟨t,h1,h2.run F H Z _ _ _ _ rp (RS.start rv) (h3 xs Z Q' h) ⟨?_,kq,fun _ _ _ _ _ _ _ z=>z.elim,fun _ _ _ _ _ _ _ z=>z.elim⟩⟩;exact fun ρ' Z' σ' H' e1 e2 e3 q=>kq (.d .non) Z' .non H' e1 e2 (by simp[RV,Dat]) q
theorem ra(D:cu)(ρ:SA)(Z:Om):B6 D ρ Z=(D.nx ρ Z):=rfl
theorem fh(t u:AS)(D:cu)(ρ:SA)(Z:Om):nj t u D ρ Z=(t { D with nx:=u D } ρ Z):=rfl
theorem m5(te:AE)(D:cu)(ρ:SA)(Z:Om):BO te D ρ Z=(te ρ Z fun _ Z1=>D.nx ρ Z1):=rfl
theorem uS(te:AE)(D:cu)(ρ:SA)(Z:Om):Ep te D ρ Z=(te ρ Z D.rt):=rfl
theorem pR(c:AT)(t u:AS)(D:cu)(ρ:SA)(Z:Om):DP c t u D ρ Z=(c ρ Z fun b Z1=>if b=true then t D ρ Z1 else u D ρ Z1):=rfl
theorem jN(te:AE)(g:AG)(D:cu)(ρ:SA)(Z:Om):AD te g D ρ Z=(te ρ Z fun x Z1=>g x ρ Z1 D.nx):=rfl
theorem wM(c:AT)(tb:AS)(D:cu)(ρ:SA)(Z:Om):zg c tb D ρ Z=(∃W:Nat->SA->Om->Prop,(∃m,W m ρ Z)/\∀m ρ Z,W m ρ Z ->
 c ρ Z fun b Z1=>if b=true then ∃N:SA->Om->Prop,(∀ρ' Z',N ρ' Z'->∃m',m'<m/\W m' ρ' Z')/\tb { D with nx:=N,ct:=N,bk:=D.nx } ρ Z1 else D.nx ρ Z1):=rfl
theorem dz(i:Nat)(v:AV)(ρ:SA)(Z:Om)(Q:SA->Om->Prop):gu i v ρ Z Q=(Q (ρ.set i (some v)) Z):=rfl
theorem mR(vs:List AV)(ρ:SA)(Z:Om)(Q:SA->Om->Prop):Cj vs ρ Z Q=(vs=[]/\Q ρ Z):=rfl
theorem jV(t:AG)(u:AGs)(vs:List AV)(ρ:SA)(Z:Om)(Q:SA->Om->Prop):zO t u vs ρ Z Q=(∃v r,vs=v::r/\t v ρ Z fun ρ' Z'=>u r ρ' Z' Q):=rfl
theorem pF(wi:AI)(g:AG)(tb:AS)(D:cu)(ρ:SA)(Z:Om):EC wi g tb D ρ Z=(wi ρ Z fun as Z1=>iB g tb D as ρ Z1):=rfl
theorem tN(z0:SA)(Z:Om)(Q:Bool->Om->Prop):jd z0 Z Q=(Q true Z):=rfl
theorem lN(te:AE)(xs:List AV)(ρ:SA)(Z:Om)(K:List AV->SA->Om->Prop):jM te xs ρ Z K=(te ρ Z fun y Z1=>xs.length<sizeLine/\K (xs++[y]) ρ Z1):=rfl
theorem lq(i:Nat)(ρ:SA)(Z:Om)(Q:AV->Om->Prop):qy i ρ Z Q=(∃a,ρ[i]?=some (some a)/\Q a Z):=rfl
theorem rZ(i:Nat)(ρ:SA)(Z:Om)(Q:AV->Om->Prop):Ci i ρ Z Q=(∃a,ρ[i]?=some (some a)/\rB Z a fun d Z'=>Q (.d d) Z'):=rfl
theorem vJ(d:D)(z0:SA)(Z:Om)(Q:AV->Om->Prop):aC d z0 Z Q=(Q (.d d) Z):=rfl
theorem tp(r:A2)(ta tb:AE)(ρ:SA)(Z:Om)(Q:AV->Om->Prop):aOp r ta tb ρ Z Q=(ta ρ Z fun x Z1=>tb ρ Z1 fun y Z2=>r x y Z2 Q):=rfl
theorem lp(z0:SA)(Z:Om)(Q:List AV->Om->Prop):Dt z0 Z Q=(Q [] Z):=rfl
theorem jk(ta:AE)(tr:AA)(ρ:SA)(Z:Om)(Q:List AV->Om->Prop):uI ta tr ρ Z Q=(ta ρ Z fun x Z1=>tr ρ Z1 fun xs Z2=>Q (x::xs) Z2):=rfl
theorem ll(t:AA)(ρ:SA)(Z:Om)(Q:AV->Om->Prop):ES t ρ Z Q=(t ρ Z fun xs Z1=>xs.length<=sizeLine/\∃ds,und xs=some ds/\Q (.d (.tup ds)) Z1):=rfl
theorem lH(t:AA)(ρ:SA)(Z:Om)(Q:AV->Om->Prop):E4 t ρ Z Q=(t ρ Z fun xs Z1=>xs.length<=sizeLine/\∃ds,und xs=some ds/\Q (.d (.lst ds)) Z1):=rfl
theorem jg(t:AA)(ρ:SA)(Z:Om)(Q:AV->Om->Prop):Cg t ρ Z Q=(t ρ Z fun xs Z1=>xs.length<=sizeLine/\∀p,Z1 p=none->Q (.r (.ref p)) (Z1.put p (.own xs))):=rfl
theorem q9(sp:ASp)(t:AA)(ρ:SA)(Z:Om)(Q:AV->Om->Prop):zi sp t ρ Z Q=(t ρ Z fun xs Z1=>sp xs Z1 Q):=rfl
theorem lW(t:AE)(ρ:SA)(Z:Om)(Q:Bool->Om->Prop):xH t ρ Z Q=(t ρ Z fun x Z1=>∃k,x=.d (.bl k)/\Q k Z1):=rfl
theorem xS(t u:AT)(ρ:SA)(Z:Om)(Q:Bool->Om->Prop):aOr t u ρ Z Q=(t ρ Z fun c Z1=>if c=true then Q true Z1 else u ρ Z1 Q):=rfl
theorem uR(t:AT)(ρ:SA)(Z:Om)(Q:Bool->Om->Prop):DN t ρ Z Q=(t ρ Z fun c Z1=>Q (!c) Z1):=rfl
theorem vn(v:V)(z0:SA)(Z:Om)(Q:AV->Om->Prop):EL v z0 Z Q=(Q (.r v) Z):=rfl
theorem uW(ta:AE)(ρ:SA)(Z:Om)(Q:Bool->Om->Prop):EA ta ρ Z Q=(ta ρ Z fun x Z1=>∃k,fe Z1 x=some k/\Q k Z1):=rfl
theorem xn(f:Int->Int->D)(x:AV)(y:AV)(Z:Om)(Q:AV->Om->Prop):aI0 f x y Z Q=(∃i j,x=.d (.int i)/\y=.d (.int j)/\Q (.d (f i j)) Z):=rfl
theorem Cf(C:Int->Int->Prop)(f:Int->Int->D)(x:AV)(y:AV)(Z:Om)(Q:AV->Om->Prop):aI C f x y Z Q=(∃i j,x=.d (.int i)/\y=.d (.int j)/\C i j/\Q (.d (f i j)) Z):=rfl
theorem vm(neg:Bool)(x:AV)(y:AV)(Z:Om)(Q:AV->Om->Prop):D8 neg x y Z Q=(∃a b,bu Z x=some a/\bu Z y=some b/\dep a<=100/\Q (.d (.bl (if neg then !eqD a b else eqD a b))) Z):=rfl
theorem za(neg:Bool)(x:AV)(y:AV)(Z:Om)(Q:AV->Om->Prop):aIn neg x y Z Q=(∃a b ds,bu Z x=some a/\bu Z y=some b/\(b=.lst ds\/b=.tup ds)/\dA ds<=90/\Q (.d (.bl (if neg then !inD a ds else inD a ds))) Z):=rfl
theorem y6(x:AV)(y:AV)(Z:Om)(Q:AV->Om->Prop):aIx x y Z Q=(∃xs i a,(dh Z x=some xs\/im x=some xs)/\y=.d (.int i)/\atI xs i=some a/\Q a Z):=rfl
theorem vM(f:Bool->Bool->Bool)(x:AV)(y:AV)(Z:Om)(Q:AV->Om->Prop):ER f x y Z Q=(∃a b,x=.d (.bl a)/\y=.d (.bl b)/\Q (.d (.bl (f a b))) Z):=rfl
theorem vE(xs:List AV)(Z:Om)(Q:AV->Om->Prop):Ej xs Z Q=(∃x n,xs=[x]/\rC Z x=some n/\Q (.d (.int n)) Z):=rfl
theorem vq(f:List Bool->Bool)(xs:List AV)(Z:Om)(Q:AV->Om->Prop):Eg f xs Z Q=(∃x bs,xs=[x]/\bu Z x=some (.lst (bs.map D.bl))/\Q (.d (.bl (f bs))) Z):=rfl
theorem yv(f:Int->Int->Int)(xs:List AV)(Z:Om)(Q:AV->Om->Prop):aF2 f xs Z Q=(∃i j,xs=[.d (.int i),.d (.int j)]/\Q (.d (.int (f i j))) Z):=rfl
theorem uT(xs:List AV)(Z:Om)(Q:AV->Om->Prop):EX xs Z Q=(∃d i,xs=[.d d]/\yC d=some i/\Q (.d (.int i)) Z):=rfl
theorem nV(xs:List AV)(Z:Om)(Q:AV->Om->Prop):x6 xs Z Q=(∃x ds,xs=[x]/\(bu Z x=some (.lst ds)\/x=.d (.tup ds))/\Q (.d (.tup ds)) Z):=rfl
theorem ja(xs:List AV)(Z:Om)(Q:AV->Om->Prop):uV xs Z Q=(∃x ds,xs=[x]/\(bu Z x=some (.lst ds)\/x=.d (.tup ds))/\Q (.d (.lst ds)) Z):=rfl
theorem oe(xs:List AV)(Z:Om)(Q:AV->Om->Prop):yE xs Z Q=(∃x ds,xs=[x]/\(bu Z x=some (.lst ds)\/x=.d (.tup ds))/\∀p,Z p=none->Q (.r (.ref p)) (Z.put p (.own (ds.map AV.d)))):=rfl
theorem nB(ta:AA)(ρ:SA)(Z:Om)(R:List AV->Om->Prop):yi ta ρ Z R=(ta ρ Z fun xs Z1=>∃j:Int,xs=[.d (.int j)]/\-(2^62)<=j/\j<2^62/\R (mx 0 j.toNat) Z1):=rfl
theorem mU(n:Nat)(t:AGs)(v:AV)(ρ:SA)(Z:Om)(Q:SA->Om->Prop):Cl n t v ρ Z Q=(∃ds,v=.d (.tup ds)/\ds.length=n/\t (ds.map AV.d) ρ Z Q):=rfl
theorem rl(to ti:AE)(v:AV)(ρ:SA)(Z:Om)(Q:SA->Om->Prop):BY to ti v ρ Z Q=(to ρ Z fun o Z1=>ti ρ Z1 fun i Z2=>∃l k xs j,o=.r (.ref l)/\i=.d (.int k)/\Z2 l=some (.own xs)/\ixN xs.length k=some j/\Q ρ (Z2.put l (.own (xs.set j v)))):=rfl
theorem jR(z0:SA)(Z:Om)(Q:Option Int->Om->Prop):zr z0 Z Q=(Q none Z):=rfl
theorem kj(t:AE)(ρ:SA)(Z:Om)(Q:Option Int->Om->Prop):yt t ρ Z Q=(t ρ Z fun x Z1=>∃i,x=.d (.int i)/\Q (some i) Z1):=rfl
theorem uF(te:AE)(ρ:SA)(Z:Om)(Q:AV->Om->Prop):Ei te ρ Z Q=(te ρ Z fun x Z1=>∃ds,bu Z1 x=some (.lst ds)/\Q (.d (.lst ds.reverse)) Z1):=rfl
theorem iZ(to:AE)(t:AA)(ρ:SA)(Z:Om)(Q:AV->Om->Prop):vU to t ρ Z Q=(to ρ Z fun x Z1=>∃l,x=.r (.ref l)/\(∃zs,Z1 l=some (.own zs))/\t ρ Z1 fun ys Z2=>∃xs y,ys=[y]/\Z2 l=some (.own xs)/\xs.length<sizeLine/\Q (.d .non) (Z2.put l (.own (xs++[y])))):=rfl
theorem mD(to:AE)(t:AA)(ρ:SA)(Z:Om)(Q:AV->Om->Prop):vp to t ρ Z Q=(to ρ Z fun x Z1=>∃l,x=.r (.ref l)/\(∃zs,Z1 l=some (.own zs))/\t ρ Z1 fun ys Z2=>∃xs y zs,ys=[y]/\Z2 l=some (.own xs)/\dh Z2 y=some zs/\xs.length+zs.length<=sizeLine/\Q (.d .non) (Z2.put l (.own (xs++zs)))):=rfl
theorem uP(xs:List AV)(Z:Om)(Q:AV->Om->Prop):Ek xs Z Q=(∃x d T,xs=[x,.r (.ty T)]/\bu Z x=some d/\T∈kL/\Q (.d (.bl (isD T d))) Z):=rfl
theorem nZ(r r':A2)(ta tb tc:AE)(ρ:SA)(Z:Om)(Q:AV->Om->Prop):xJ r r' ta tb tc ρ Z Q=(ta ρ Z fun x Z1=>tb ρ Z1 fun y Z2=>r x y Z2 fun z Z3=>∃k,z=.d (.bl k)/\(if k=true then tc ρ Z3 fun w Z4=>r' y w Z4 Q else Q (.d (.bl false)) Z3)):=rfl
theorem vB(ta tb:AE)(ρ:SA)(Z:Om)(Q:AV->Om->Prop):E8 ta tb ρ Z Q=(ta ρ Z fun x Z1=>∃c,fe Z1 x=some c/\if c=true then Q x Z1 else tb ρ Z1 Q):=rfl
theorem qt(ta tb:AE)(ρ:SA)(Z:Om)(Q:AV->Om->Prop):Cb ta tb ρ Z Q=(ta ρ Z fun x Z1=>∃c,fe Z1 x=some c/\if c=true then tb ρ Z1 Q else Q x Z1):=rfl
theorem rO(ta:AE)(ρ:SA)(Z:Om)(Q:AV->Om->Prop):BW ta ρ Z Q=(ta ρ Z fun x Z1=>∃c,fe Z1 x=some c/\Q (.d (.bl (!c))) Z1):=rfl
theorem qu(te:AE)(ρ:SA)(Z:Om)(R:List AV->Om->Prop):B0 te ρ Z R=(te ρ Z fun x Z1=>rB Z1 x fun d Z2=>∃ds,p6 d=some ds/\R (ds.map AV.d) Z2):=rfl
theorem rq(src:List (Option Nat))(wi:AI)(g:AG)(tc:AT)(l:AL)(ρ:SA)(Z:Om)(Q:AV->Om->Prop):B5 src wi g tc l ρ Z Q=(wi ρ Z fun as Z1=>du g tc l as [] (rg src ρ) Z1 fun xs _ Z'=>∃ds,und xs=some ds/\Q (.d (.lst ds)) Z'):=rfl
theorem o7(r:AV->Om->(AV->Om->Prop)->Prop)(ta:AE)(ρ:SA)(Z:Om)(Q:AV->Om->Prop):aUn r ta ρ Z Q=(ta ρ Z fun x Z1=>r x Z1 Q):=rfl
theorem ug(r:List AV->Om->(AV->Om->Prop)->Prop)(t:AA)(ρ:SA)(Z:Om)(Q:AV->Om->Prop):aCB r t ρ Z Q=(t ρ Z fun xs Z1=>r xs Z1 Q):=rfl
theorem uU(f:Int->D)(x:AV)(Z:Om)(Q:AV->Om->Prop):aU f x Z Q=(∃i,x=.d (.int i)/\Q (.d (f i)) Z):=rfl
theorem je(i:Int)(y:AV)(Z:Om)(Q:AV->Om->Prop):zA (.d (.int i)) y Z Q=(∃j,y=.d (.int j)/\Q (.d (.int (i+j))) Z):=rfl
theorem fS(ds:List D)(y:AV)(Z:Om)(Q:AV->Om->Prop):zA (.d (.tup ds)) y Z Q=(∃es,y=.d (.tup es)/\ds.length+es.length<=sizeLine/\Q (.d (.tup (ds++es))) Z):=rfl
theorem qq(ds:List D)(y:AV)(Z:Om)(Q:AV->Om->Prop):zA (.d (.lst ds)) y Z Q=(∃es,bu Z y=some (.lst es)/\ds.length+es.length<=sizeLine/\Q (.d (.lst (ds++es))) Z):=by
 show (∃ds' es,bu Z (.d (.lst ds))=some (.lst ds')/\bu Z y=some (.lst es)/\ds'.length+es.length<=sizeLine/\Q (.d (.lst (ds'++es))) Z)=_;simp only[bu,Option.some.injEq,D.lst.injEq,exists_eq_left',exists_and_left]
theorem rW(i:Int)(y:AV)(Z:Om)(Q:AV->Om->Prop):El (.d (.int i)) y Z Q=(∃j,y=.d (.int j)/\ng i j/\Q (.d (.int (i*j))) Z):=rfl
noncomputable def slA(x:AV)(lo hi:Option Int)(Z:Om)(Q:AV->Om->Prop):Prop:=match x with
 |.d (.tup ds)=>Q (.d (.tup (fc ds lo hi))) Z
 |x=>∃ds,bu Z x=some (.lst ds)/\Q (.d (.lst (fc ds lo hi))) Z
theorem ji(ds:List D)(lo hi:Option Int)(Z:Om)(Q:AV->Om->Prop):slA (.d (.tup ds)) lo hi Z Q=Q (.d (.tup (fc ds lo hi))) Z:=rfl
theorem sR(te:AE)(tl th:AO)(ρ:SA)(Z:Om)(Q:AV->Om->Prop):aSl te tl th ρ Z Q=(te ρ Z fun x Z1=>tl ρ Z1 fun lo Z2=>th ρ Z2 fun hi Z3=>slA x lo hi Z3 Q):=rfl
theorem zW(Z:Om)(x:D)(K:D->Om->Prop):rB Z (.d x) K=K x Z:=rfl
theorem yM(Z:Om)(l:Addr)(K:D->Om->Prop):rB Z (.r (.ref l)) K=(match Z l with
  |some (.own xs)=>∃ds,und xs=some ds/\K (.lst ds) (Z.put l (.frz ds))
  |some (.frz ds)=>K (.lst ds) Z
  |_=>False):=rfl
theorem tf(Z:Om)(x:D):bu Z (.d x)=some x:=rfl
theorem zn(Z:Om)(l:Addr):bu Z (.r (.ref l))=(match Z l with
  |some (.own xs)=>(und xs).map D.lst
  |some (.frz ds)=>some (.lst ds)
  |_=>none):=rfl
theorem xv(Z:Om)(ds:List D):dh Z (.d (.lst ds))=some (ds.map AV.d):=rfl
theorem xW(Z:Om)(ds:List D):dh Z (.d (.tup ds))=none:=rfl
theorem lR(Z:Om)(l:Addr):dh Z (.r (.ref l))=(match Z l with
  |some (.own xs)=>some xs
  |some (.frz ds)=>some (ds.map AV.d)
  |_=>none):=rfl
theorem zR(ds:List D):im (.d (.tup ds))=some (ds.map AV.d):=rfl
theorem yX(ds:List D):im (.d (.lst ds))=none:=rfl
theorem yj(v:V):im (.r v)=none:=rfl
theorem y9(Z:Om)(b:Bool):fe Z (.d (.bl b))=some b:=rfl
theorem zp(Z:Om)(l:Addr):fe Z (.r (.ref l))=(dh Z (.r (.ref l))).map fun xs=>!xs.isEmpty:=rfl
theorem rP(x:D)(r:List AV):und (.d x::r)=(und r).map (x::·):=rfl
theorem vG:und []=some []:=rfl
theorem gP(Z:Om)(ds:List D):rC Z (.d (.tup ds))=some ds.length:=by simp[rC,im]
theorem zw(Z:Om)(ds:List D):rC Z (.d (.lst ds))=some ds.length:=by simp[rC,im,dh]
theorem yK(Z:Om)(l:Addr):rC Z (.r (.ref l))=(dh Z (.r (.ref l))).map List.length:=rfl
theorem yg(ds:List D):p6 (.tup ds)=some ds:=rfl
theorem yc(ds:List D):p6 (.lst ds)=some ds:=rfl
theorem yh{g:AG}{tb:AS}{D:cu}{as:List AV}{ρ:SA}{Z:Om}(I:Nat->SA->Om->Prop)(h0:I 0 ρ Z)(hs:∀(i:Nat)(a:AV)(ρ:SA)(Z:Om)(N:SA->Om->Prop),as[i]?=some a->I i ρ Z->(∀ρ' Z',I (i+1) ρ' Z'->N ρ' Z')->g a ρ Z fun ρ1 Z1=>tb { nx:=N,ct:=N,bk:=D.nx,rt:=D.rt } ρ1 Z1)(hd:∀ρ Z,I as.length ρ Z->D.nx ρ Z):iB g tb D as ρ Z:=by
 have key:∀(n i:Nat)(ρ:SA)(Z:Om),i+n=as.length->I i ρ Z->iB g tb D (as.drop i) ρ Z:=by
  intro n
  induction n with
  |zero=>intro i ρ Z hi h;rw[List.drop_eq_nil_of_le (by omega)];exact hd ρ Z (by rw[←hi];exact h)
  |succ n ih=>
   intro i ρ Z hi h;obtain⟨a,ha,hdr⟩:=ik (as:=as) (i:=i) (by omega)
   rw[hdr];exact hs i a ρ Z _ ha h fun ρ' Z' h'=>ih (i+1) ρ' Z' (by omega) h'
 simpa using key as.length 0 ρ Z (by omega) h0
theorem x4{g:AG}{tb:AS}{D:cu}{ds:List L2.D}{ρ:SA}{Z:Om}(I:Nat->SA->Om->Prop)(h0:I 0 ρ Z)(hs:∀(i:Nat)(d:L2.D)(ρ:SA)(Z:Om)(N:SA->Om->Prop),ds[i]?=some d->I i ρ Z->(∀ρ' Z',I (i+1) ρ' Z'->N ρ' Z')->g (.d d) ρ Z fun ρ1 Z1=>tb { nx:=N,ct:=N,bk:=D.nx,rt:=D.rt } ρ1 Z1)(hd:∀ρ Z,I ds.length ρ Z->D.nx ρ Z):iB g tb D (ds.map AV.d) ρ Z:=
 yh I h0 (fun i a ρ Z N ha h k=>by
  rw[List.getElem?_map,Option.map_eq_some_iff] at ha;obtain⟨d,h1,rfl⟩:=ha
  exact hs i d ρ Z N h1 h k) (fun ρ Z h=>hd ρ Z (by simpa using h))
theorem lF{g:AG}{tb:AS}{D:cu}{lo:Int}{n:Nat}{ρ:SA}{Z:Om}(I:Nat->SA->Om->Prop)(h0:I 0 ρ Z)(hs:∀(i:Nat)(ρ:SA)(Z:Om)(N:SA->Om->Prop),i<n->I i ρ Z->(∀ρ' Z',I (i+1) ρ' Z'->N ρ' Z')->g (.d (.int (lo+(i:Nat)))) ρ Z fun ρ1 Z1=>tb { nx:=N,ct:=N,bk:=D.nx,rt:=D.rt } ρ1 Z1)(hd:∀ρ Z,I n ρ Z->D.nx ρ Z):iB g tb D (mx lo n) ρ Z:=
 yh I h0 (fun i a ρ Z N ha h k=>by
  unfold mx at ha;rw[List.getElem?_map,Option.map_eq_some_iff] at ha;obtain⟨j,h1,rfl⟩:=ha;obtain⟨hj,rfl⟩:=List.getElem?_eq_some_iff.mp h1;simp only[List.getElem_range,List.length_range] at hj ⊢
  exact hs i ρ Z N hj h k) (fun ρ Z h=>hd ρ Z (by simpa[mx] using h))
theorem pE{g:AG}{tc:AT}{l:AL}{as xs:List AV}{ρ:SA}{Z:Om}{K:List AV->SA->Om->Prop}(I:Nat->List AV->SA->Om->Prop)(h0:I 0 xs ρ Z)(hs:∀(i:Nat)(a:AV)(xs:List AV)(ρ:SA)(Z:Om)(N:List AV->SA->Om->Prop),as[i]?=some a->I i xs ρ Z->(∀xs' ρ' Z',I (i+1) xs' ρ' Z'->N xs' ρ' Z')->g a ρ Z fun ρ1 Z1=>tc ρ1 Z1 fun b Z2=>if b=true then l xs ρ1 Z2 N else N xs ρ1 Z2)(hd:∀xs ρ Z,I as.length xs ρ Z->K xs ρ Z):du g tc l as xs ρ Z K:=by
 have key:∀(n i:Nat)(xs:List AV)(ρ:SA)(Z:Om),i+n=as.length->I i xs ρ Z->du g tc l (as.drop i) xs ρ Z K:=by
  intro n
  induction n with
  |zero=>intro i xs ρ Z hi h;rw[List.drop_eq_nil_of_le (by omega)];exact hd xs ρ Z (by rw[←hi];exact h)
  |succ n ih=>
   intro i xs ρ Z hi h;obtain⟨a,ha,hdr⟩:=ik (as:=as) (i:=i) (by omega)
   rw[hdr];exact hs i a xs ρ Z (fun xs' ρ' Z'=>du g tc l (as.drop (i+1)) xs' ρ' Z' K) ha h fun xs' ρ' Z' h'=>ih (i+1) xs' ρ' Z' (by omega) h'
 simpa using key as.length 0 xs ρ Z (by omega) h0
theorem Ds{g:AG}{tc:AT}{l:AL}{ds:List D}{xs:List AV}{ρ:SA}{Z:Om}{K:List AV->SA->Om->Prop}(I:Nat->List AV->SA->Om->Prop)(h0:I 0 xs ρ Z)(hs:∀(i:Nat)(d:D)(xs:List AV)(ρ:SA)(Z:Om)(N:List AV->SA->Om->Prop),ds[i]?=some d->I i xs ρ Z->(∀xs' ρ' Z',I (i+1) xs' ρ' Z'->N xs' ρ' Z')->g (.d d) ρ Z fun ρ1 Z1=>tc ρ1 Z1 fun b Z2=>if b=true then l xs ρ1 Z2 N else N xs ρ1 Z2)(hd:∀xs ρ Z,I ds.length xs ρ Z->K xs ρ Z):du g tc l (ds.map AV.d) xs ρ Z K:=
 pE I h0 (fun i a xs ρ Z N ha h k=>by
  rw[List.getElem?_map,Option.map_eq_some_iff] at ha;obtain⟨d,h1,rfl⟩:=ha
  exact hs i d xs ρ Z N h1 h k) (fun xs ρ Z h=>hd xs ρ Z (by simpa using h))
structure Pn where
 f:Int
 x:Int
 i:Int
 h:0<=f
noncomputable def bC(c:Pn):OC:=.own [.d (.int c.f),.d (.int c.x),.d (.int c.i)]
noncomputable def cZ(Z:Om)(p:Addr):Prop:=∃c,Z p=some (bC c)
theorem az{Z:Om}{p:Addr}{c:Pn}:cZ (Z.put p (bC c)) p:=⟨c,Om.FR⟩
section
variable{α:Type}(a b c e:α)(l:List α)
theorem cY{xs:List α}{x:α}(j:Nat){i:Int}(hi:i=(j:Int))(h:xs[j]?=some x):atI xs i=some x:=by
 subst hi;have hj:=(List.getElem?_eq_some_iff.mp h).1;unfold atI ixN;rw[if_pos (by omega),if_pos (by omega)]
 simpa using h
theorem BI:atI (a::l) 0=some a:=cY 0 rfl rfl
theorem BZ:atI (a::b::l) 1=some b:=cY 1 rfl rfl
theorem B2:atI (a::b::c::l) 2=some c:=cY 2 rfl rfl
theorem Cm:atI (a::b::c::e::l) 3=some e:=cY 3 rfl rfl
end
theorem sz1:(1<=sizeLine)=True:=eq_true (by decide)
theorem sz2:(2<=sizeLine)=True:=eq_true (by decide)
theorem sz3:(3<=sizeLine)=True:=eq_true (by decide)
theorem sz4:(4<=sizeLine)=True:=eq_true (by decide)
theorem sz5:(5<=sizeLine)=True:=eq_true (by decide)
theorem sz6:(6<=sizeLine)=True:=eq_true (by decide)
theorem sz7:(7<=sizeLine)=True:=eq_true (by decide)
theorem sz8:(8<=sizeLine)=True:=eq_true (by decide)
theorem sz9:(9<=sizeLine)=True:=eq_true (by decide)
theorem By:(12<=sizeLine)=True:=eq_true (by decide)
theorem zX:ixN 3 0=some 0:=rfl
theorem yd:ixN 3 2=some 2:=rfl
theorem jI(a b:Int):eqD (.int a) (.int b)=(a == b):=by simp[eqD]
theorem gh(a b:Str):eqD (.str a) (.str b)=(a == b):=by simp[eqD]
theorem tH(a b:Bool):eqD (.bl a) (.bl b)=(a == b):=by simp[eqD]
theorem uB(a:Int):dep (.int a)=0:=by simp[dep]
theorem vT(a:Str):dep (.str a)=0:=by simp[dep]
theorem vv(a:Bool):yC (.bl a)=some (if a then 1 else 0):=rfl
theorem mQ{n m:Nat}(h:n<=1000):n<=sizeLine:=Nat.le_trans h (by decide)
noncomputable def Om.only(Z' Z:Om):Om:=fun b=>if (Z b).isSome=true then Z' b else none
noncomputable def Ex(Z Z':Om):Prop:=∀b,(Z b).isSome=true->Z' b=Z b
theorem Ex.refl(Z:Om):Ex Z Z:=fun _ _=>rfl
theorem Ex.none{Z Z':Om}(h:Ex Z Z'){l:Addr}(e:Z' l=none):Z l=none:=by
 cases z:Z l with
 |none=>rfl
 |some c=>have:=h l (by rw[z];rfl);rw[e,z] at this;cases this
theorem Ex.new{Z Z':Om}(h:Ex Z Z'){l:Addr}{c:OC}(e:Z' l=Option.none):Ex Z (Z'.put l c):=fun b hb=>by
 have:b≠l:=fun z=>by subst z;rw[h.none e] at hb;cases hb
 rw[Om.FS this];exact h b hb
theorem Ex.over{Z Z':Om}(h:Ex Z Z'){l:Addr}{c:OC}(e:Z l=Option.none):Ex Z (Z'.put l c):=fun b hb=>by
 have:b≠l:=fun z=>by subst z;rw[e] at hb;cases hb
 rw[Om.FS this];exact h b hb
theorem Ex.put{Z Z':Om}(h:Ex Z Z'){l:Addr}{c:OC}:Ex (Z.put l c) (Z'.put l c):=fun b hb=>by
 by_cases z:b=l
 ·subst z;rw[Om.FR,Om.FR]
 ·rw[Om.FS z] at hb ⊢;rw[Om.FS z];exact h b hb
theorem Ex.put2{Z Z':Om}{l:Addr}{c e:OC}(h:Ex (Z.put l c) Z'):Ex (Z.put l e) (Z'.put l e):=by
 have:=h.put (l:=l) (c:=e)
 rwa [Om.FT] at this
theorem Ex.pen{Z Z':Om}{p:Addr}{c:Pn}(h:Ex (Z.put p (bC c)) Z'):cZ Z' p:=⟨c,(h p (by rw[Om.FR];rfl)).trans Om.FR⟩
theorem aJ(Z:Om):Z.only Z=Z:=by
 funext b;unfold Om.only
 cases e:Z b<;>simp
theorem lh{Z Z':Om}(h:Ex Z Z'):Z'.only Z=Z:=by
 funext b;unfold Om.only
 cases e:Z b with
 |none=>simp
 |some c=>simp only[Option.isSome_some,if_true];rw[h b (by rw[e];rfl),e]
theorem mY{Z Z':Om}{p:Addr}{c:OC}(h:Ex (Z.put p c) Z')(hp:(Z p).isSome=true):Z'.only Z=Z.put p c:=by
 funext b;unfold Om.only
 by_cases hb:b=p
 ·subst hb;rw[if_pos hp,h b (by rw[Om.FR];rfl)]
 ·rw[Om.FS hb]
  cases e:Z b with
  |none=>simp
  |some o=>simp only[Option.isSome_some,if_true];rw[h b (by rw[Om.FS hb,e];rfl),Om.FS hb,e]
theorem cZ.some{Z:Om}{p:Addr}(h:cZ Z p):(Z p).isSome=true:=by obtain⟨c,h⟩:=h;rw[h];rfl
theorem yz{Z Z':Om}{p:Addr}{c:Pn}(hp:cZ Z p)(h:Ex (Z.put p (bC c)) Z'):Z'.only Z=Z.put p (bC c):=mY h hp.some
theorem bD{Z:Om}{p:Addr}{c:Pn}(hp:cZ Z p):(Z.put p (bC c)).only Z=Z.put p (bC c):=yz hp (Ex.refl _)
theorem Rep.only{F:Fs}{H:Hp}{Z Z':Om}(rp:Rep F H Z'):Rep F H (Z'.only Z)/\dj (cut F H Z') (cut F H (Z'.only Z)):=by
 have ho:∀b,ow (Z' b)=false->ow ((Z'.only Z) b)=false:=fun b h=>by
  unfold Om.only;split
  ·exact h
  ·rfl
 have sm:dj (cut F H Z') (cut F H (Z'.only Z)):=fun b o e=>by
  obtain⟨h,f,e⟩:=bY.mp e;exact bY.mpr ⟨ho b h,f,e⟩
 have un:∀b c,(Z'.only Z) b=some c->Z' b=some c:=fun b c e=>by
  unfold Om.only at e;split at e
  ·exact e
  ·cases e
 refine⟨⟨fun l xs e=>?_,fun l ds e=>(rp.frz l ds (un _ _ e)).same sm,fun b f=>?_,fun l ks e=>(by obtain⟨vs,e1,e2⟩:=rp.dic l ks (un _ _ e);exact⟨vs,e1,e2.same sm⟩),fun l ks e=>(by obtain⟨vs,e1,e2⟩:=rp.sto l ks (un _ _ e);exact⟨vs,e1,e2.same sm⟩)⟩,sm⟩
 ·obtain⟨vs,e1,e2⟩:=rp.own l xs (un _ _ e)
  exact⟨vs,e1,e2.same sm⟩
 ·obtain⟨h1,h2⟩:=rp.hid b f
  refine⟨?_,h2⟩;unfold Om.only;rw[h1];simp
theorem Fr.only{F:Fs}{H H':Hp}{Z Z':Om}(fr:Fr F H Z H' Z'):Fr F H Z H' (Z'.only Z):=⟨fun b o h f e=>by
 obtain⟨x,y⟩:=fr.st b o h f e;refine⟨x,?_⟩;unfold Om.only;split
 ·exact y
 ·rfl,fr.hd⟩
theorem Fun.okD{P:Program}{w:World}{K:W.Frag}{mg:Str->Option Value}{base:Heap}{x qual:Str}{st:Stmt}{f:Addr}{fd:FuncData}{N ps:List Str}{k:Nat}{sp:ASp}(F:Fun K x qual st f fd)(S:aV N ps (defScope st))(len:∀xs Z Q,sp xs Z Q->xs.length=ps.length)
  (hbody:∀(cdv:Value)(A:Around)(outer:List Env)(s:Shared)(H:Hp)(E:XK),eB k (A.deeper (envOfC qual (defScope st) s.heap.objs.size f cdv)) ->
   ∃t t',PSs (oR CX0 P w K mg base N qual (defScope st) f cdv A outer s H E).nox (defBody st) t/\iq t t'/\∀xs Z Q',sp xs Z Q'->t' { nx:=fun _ Z'=>Q' (.d .non) (Z'.only Z),rt:=fun a Z'=>∃d,a=.d d/\Q' (.d d) (Z'.only Z) } (iX N xs) Z):aO P w K mg base CX0 (k+1) f fd ps (ca sp):=by
 refine F.ok S (fun vs H Q E h=>?_) (fun cdv A outer s H vs Q E hr h=>?_)
 ·obtain⟨F,xs,Z,Q',rp,rv,h,_⟩:=h
  rw[rv.length,len xs Z Q' h]
 ·obtain⟨t,t',h1,h2,h3⟩:=hbody cdv A outer s H E hr
  obtain⟨F,xs,Z,Q',rp,rv,h,kq⟩:=h;refine⟨t,h1,h2.run F H Z _ _ _ _ rp (RS.start rv) (h3 xs Z Q' h) ⟨?_,?_,fun _ _ _ _ _ _ _ z=>z.elim,fun _ _ _ _ _ _ _ z=>z.elim⟩⟩
  ·exact fun ρ' Z' σ' H' e1 e2 e3 q=>kq (.d .non) (Z'.only Z) .non H' e1.only.1 e2.only (by simp[RV,Dat]) q
  ·rintro a Z' v H' e1 e2 e3 ⟨d,rfl,q⟩
   exact kq (.d d) (Z'.only Z) v H' e1.only.1 e2.only (e3.same e1.only.2) q
noncomputable def wl:Nat->List (List Int)
 |0=>[[]]
 |n+1=>(wl n).flatMap fun w=>[w++[0],w++[1]]
theorem zF:∀n,(wl n).length=2^n
 |0=>rfl
 |n+1=>by
  have h:∀ws:List (List Int),(ws.flatMap fun w=>[w++[0],w++[1]]).length=2*ws.length:=fun ws=>by
   induction ws with
   |nil=>rfl
   |cons a r ih=>rw[List.flatMap_cons,List.length_append,ih];simp;omega
  rw[wl,h,zF n,Nat.pow_succ];omega
theorem i7:∀ {n:Nat} {w:List Int},w∈wl n->w.length=n/\∀x∈w,x=0\/x=1
 |0,w,h=>by simp[wl] at h;rw[h];simp
 |n+1,w,h=>by
  simp only[wl,List.mem_flatMap] at h;obtain⟨v,hv,h⟩:=h;obtain⟨h1,h2⟩:=i7 hv;simp only[List.mem_cons,List.not_mem_nil,or_false] at h;rcases h with rfl|rfl<;>refine⟨by simp[h1],fun x hx=>?_⟩<;>rcases List.mem_append.mp hx with hx|hx
  ·exact h2 x hx
  ·rw[List.mem_singleton.mp hx];exact .inl rfl
  ·exact h2 x hx
  ·rw[List.mem_singleton.mp hx];exact .inr rfl
theorem kE{n:Nat}(h:n<=5):(wl n).length<=32:=by
 rw[zF];exact Nat.pow_le_pow_right (by decide) h
theorem CV:∀n:Fin 6,(wl n.val).Nodup:=by decide +kernel
theorem Fb{n:Nat}(h:n<=5):(wl n).Nodup:=CV ⟨n,by omega⟩
noncomputable def Wds(n:Nat)(ws:List (List Int)):Prop:=ws.Nodup/\∀w∈ws,w∈wl n
theorem nY:∀a b:List Int,d7 (a.map D.int) (b.map D.int)=decide (a=b)
 | [],[]=>by simp[d7]
 | [],_::_=>by simp[d7]
 |_::_,[]=>by simp[d7]
 |x::a,y::b=>by
  simp only[List.map_cons,d7,eqD,nY a b,List.cons.injEq];by_cases h1:x=y<;>by_cases h2:a=b<;>simp[h1,h2]
theorem sI(a b:List Int):eqD (wdD a) (wdD b)=decide (a=b):=by simp only[wdD,eqD];exact nY a b
theorem oO(w:List Int):dep (wdD w)=1:=by simp[wdD,dep,wW]
theorem xP(ws:List (List Int)):dA (ws.map wdD)<=1:=oI fun d hd=>by
 obtain⟨w,_,rfl⟩:=List.mem_map.mp hd;rw[oO];exact Nat.le_refl _
theorem AU{α β:Type}{f:α->β}{xs:List α}{i:Nat}{y:β}(h:(xs.map f)[i]?=some y):∃x,xs[i]?=some x/\y=f x:=by
 rw[List.getElem?_map] at h
 cases e:xs[i]? with
 |none=>rw[e] at h;cases h
 |some x=>rw[e] at h;cases h;exact⟨x,rfl,rfl⟩
theorem AX{α:Type}{f:α->AV}{xs:List α}{i:Int}(h0:0<=i)(h1:i<xs.length):∃x,x∈xs/\xs[i.toNat]?=some x/\atI (xs.map f) i=some (f x):=by
 obtain⟨j,rfl⟩:=Int.eq_ofNat_of_zero_le h0;have hj:j<xs.length:=by omega
 exact⟨xs[j],List.getElem_mem hj,by simp[List.getElem?_eq_getElem hj],cY j rfl (by rw[List.getElem?_map,List.getElem?_eq_getElem hj];rfl)⟩
theorem u5(x:List Int)(b:Int)(Z:Om)(Q:AV->Om->Prop):zA (.d (wdD x)) (.d (.tup [.int b])) Z Q=(x.length+1<=sizeLine/\Q (.d (wdD (x++[b]))) Z):=by
 unfold wdD;rw[fS];simp
theorem uw(x:List Int):im (.d (wdD x))=some ((x.map D.int).map AV.d):=rfl
inductive Sy where
 |is (i b:Int)
 |jn (an:Bool) (l r:Sy)
namespace Sy
noncomputable def d:Sy->D
 |.is i b=>.tup [.str "is",.int i,.int b]
 |.jn an l r=>.tup [.str (if an then "and" else "or"),l.d,r.d]
noncomputable def ok(n:Nat):Sy->Prop
 |.is i b=>0<=i/\i<n/\(b=0\/b=1)
 |.jn _ l r=>l.ok n/\r.ok n
noncomputable def dp:Sy->Nat
 |.is _ _=>0
 |.jn _ l r=>1+max l.dp r.dp
noncomputable def lvs:Sy->Nat
 |.is _ _=>1
 |.jn _ l r=>l.lvs+r.lvs
noncomputable def up:Sy->Prop
 |.is _ b=>b=1
 |.jn _ l r=>l.up/\r.up
noncomputable def val(w:List Int):Sy->Bool
 |.is i b=>decide (w.getD i.toNat 0=b)
 |.jn an l r=>if an then val w l && val w r else val w l || val w r
end Sy
inductive Ta where
 |en (i:Int)
 |nd (y:Bool) (ws:List (List Int)) (l r:Ta)
namespace Ta
noncomputable def d:Ta->D
 |.en i=>.tup [.str "end",.int i]
 |.nd y ws l r=>.tup [.str (if y then "yes" else "no"),.tup (ws.map wdD),l.d,r.d]
noncomputable def ok(n:Nat):Ta->Prop
 |.en i=>0<=i/\i<n
 |.nd _ ws l r=>Wds n ws/\l.ok n/\r.ok n
noncomputable def dp:Ta->Nat
 |.en _=>0
 |.nd _ _ l r=>1+max l.dp r.dp
noncomputable def lvs:Ta->Nat
 |.en _=>1
 |.nd _ _ l r=>l.lvs+r.lvs
noncomputable def size:Ta->Nat
 |.en _=>1
 |.nd _ _ l r=>l.size+r.size+1
noncomputable def bit(y n:List Int)(hy:Bool)(ws:List (List Int)):Bool:=decide ((if hy then y else n)∈ws)
noncomputable def fin(y n:List Int):Ta->Int
 |.en i=>i
 |.nd h ws a b=>if bit y n h ws then fin y n b else fin y n a
theorem eV:∀t:Ta,t.size+1=2*t.lvs
 |.en x=>rfl
 |.nd y ws l r=>by
  have:=eV l;have:=eV r;simp only[size,lvs];omega
end Ta
theorem uN{i:Int}(h0:0<=i)(h1:i<=64):i.natAbs.log2<=6:=by
 have h8:∀n:Fin 65,n.val.log2<=6:=by decide +kernel
 exact h8 ⟨i.natAbs,by omega⟩
theorem oy{tc:AT}{te:AE}{ds:List D}{v0:Option AV}{bi:SA}{Z:Om}{p:Addr}{K:List AV->SA->Om->Prop}(c0:Pn)(ht:∀d∈ds,∀(c:Pn)(Q:Bool->Om->Prop),(∀b c',Q b (Z.put p (bC c')))->tc (some (.d d)::bi) (Z.put p (bC c)) Q)(he:∀d∈ds,∀(c:Pn)(Q:AV->Om->Prop),Q (.d d) (Z.put p (bC c))->te (some (.d d)::bi) (Z.put p (bC c)) Q)(hz:ds.length<=sizeLine)(hk:∀(es:List D) ρ c,es.Sublist ds->K (es.map AV.d) ρ (Z.put p (bC c))):du (gu 0) tc (jM te) (ds.map AV.d) [] (v0::bi) (Z.put p (bC c0)) K:=by
 refine Ds (fun i xs ρ Z'=>∃c v es,Z'=Z.put p (bC c)/\ρ=v::bi/\xs=es.map AV.d/\es.Sublist (ds.take i)) ⟨c0,_,[],rfl,rfl,rfl,List.nil_sublist _⟩ ?_ ?_
 ·rintro i d xs ρ Z' N hd ⟨c,v,es,rfl,rfl,rfl,hs⟩ kN
  have hi:=(List.getElem?_eq_some_iff.mp hd).1;have hm:=List.mem_of_getElem? hd;have et:ds.take (i+1)=ds.take i++[d]:=by rw[List.take_succ,hd];rfl
  rw[dz,List.set_cons_zero];refine ht d hm c _ fun b c'=>?_
  cases b with
  |true=>
   rw[if_pos rfl,lN];refine he d hm c' _ ⟨?_,kN _ _ _ ⟨c',_,es++[d],rfl,rfl,by simp,?_⟩⟩
   ·have:=hs.length_le
    rw[List.length_take] at this;rw[List.length_map];omega
   ·rw[et];exact hs.append (List.Sublist.refl _)
  |false=>
   rw[if_neg Bool.false_ne_true];refine kN _ _ _ ⟨c',_,es,rfl,rfl,rfl,?_⟩;rw[et];exact hs.trans (List.sublist_append_left _ _)
 ·rintro xs ρ Z' ⟨c,v,es,rfl,rfl,rfl,hs⟩
  rw[List.take_length] at hs;exact hk es _ c hs
theorem vD{n:Nat}{es:List D}(h:es.Sublist ((wl n).map wdD))(hn:n<=5):∃ws:List (List Int),es=ws.map wdD/\ws.Sublist (wl n):=by
 obtain⟨ws,h1,rfl⟩:=List.sublist_map_iff.mp h;exact⟨ws,rfl,h1⟩
theorem Ew(F:Nat->SA->Om->Prop):∃Pv:Nat->SA->Om->Prop,∀i ρ Z,Pv i ρ Z↔F i ρ Z:=⟨F,fun _ _ _=>Iff.rfl⟩
structure Ne4(p l1 l2 l3:Addr):Prop where
 p1:p≠l1
 p2:p≠l2
 p3:p≠l3
 a:l1≠l2
 b:l1≠l3
 c:l2≠l3
section
variable{Z:Om}{p l1 l2 l3:Addr}{c c' A A' B B' C C':OC}(h:Ne4 p l1 l2 l3)
include h
end
section
variable{P:Program}{w:World}{K:W.Frag}{mg:Str->Option Value}{base:Heap}
structure Cs(n:Nat)(ys zs:List (List Int)):Prop where
 y:Wds n ys
 z:Wds n zs
 y1:ys≠[]
 z1:zs≠[]
theorem uC{t u:AS}{D:cu}{ρ:SA}{Z:Om}(I:SA->Om->Prop)(h1:∀N:SA->Om->Prop,(∀ρ' Z',I ρ' Z'->N ρ' Z')->t { D with nx:=N } ρ Z)(h2:∀ρ' Z',I ρ' Z'->u D ρ' Z'):nj t u D ρ Z:=h1 (u D) h2
theorem qe{α:Type}(xs:List α)(lo hi:Option Int):(fc xs lo hi).Sublist xs:=(List.take_sublist _ _).trans (List.drop_sublist _ _)
theorem li:∀u:Ta,u.size+1<=2^(u.dp+1)
 |.en i=>by simp[Ta.size,Ta.dp]
 |.nd b ws l r=>by
  have h1:=li l;have h2:=li r;have g1:2^(l.dp+1)<=2^(max l.dp r.dp+1):=Nat.pow_le_pow_right (by decide) (by omega)
  have g2:2^(r.dp+1)<=2^(max l.dp r.dp+1):=Nat.pow_le_pow_right (by decide) (by omega)
  simp only[Ta.size,Ta.dp];rw[show 1+max l.dp r.dp+1=(max l.dp r.dp+1)+1 by omega,Nat.pow_succ]
  omega
theorem Ch{y:Int}(g0:0<=y)(g1:y<2):∃b:Bool,atI [AV.d (D.str ("yes":Str)),AV.d (D.str ("no":Str))] y=some (.d (.str (if b then "yes" else "no"))):=by
 rcases(by omega:y=0\/y=1) with rfl|rfl
 ·exact⟨true,rfl⟩
 ·exact⟨false,rfl⟩
theorem qp(to:AE)(ρ:SA)(Z:Om)(Q:AV->Om->Prop):CF to ρ Z Q=(to ρ Z fun x Z1=>∃l xs y,x=.r (.ref l)/\Z1 l=some (.own xs)/\xs.getLast?=some y/\Q y (Z1.put l (.own xs.dropLast))):=by
 unfold CF;simp only[List.getLast?_eq_getElem?]
theorem kD{α:Type}(A:List α)(x:α):(A++[x]).getLast?=some x:=by simp
theorem jA{α:Type}(A:List α)(x:α):(A++[x]).dropLast=A:=by simp
end
structure FK(t2 t:TS)(t':AS):Prop where
 run:∀(F:Fs)(H:Hp)(Z:Om)(σ:St)(ρ:SA)(D:ir)(D':cu),Rep F H Z->RS (cut F H Z) ρ σ->t' D' ρ Z->LE F H Z D' { D with nx:=t2 D }->t D σ H
theorem xA{g:AG}{te:AE}{as:List AV}{rs:List D}{ρ:SA}{Z:Om}{K:List AV->SA->Om->Prop}(R:SA->Prop)(h0:R ρ)(hl:rs.length=as.length)(hz:as.length<=sizeLine)(he:∀(i:Nat)(a:AV)(r:D)(ρ:SA)(N:SA->Om->Prop),as[i]?=some a->rs[i]?=some r->R ρ->(∀ρ1,R ρ1->(∀Q:AV->Om->Prop,Q (.d r) Z->te ρ1 Z Q)->N ρ1 Z)->g a ρ Z N)(hk:∀ρ,R ρ->K (rs.map AV.d) ρ Z):du g jd (jM te) as [] ρ Z K:=by
 refine pE (fun i xs ρ Z'=>Z'=Z/\R ρ/\xs=(rs.take i).map AV.d) ⟨rfl,h0,rfl⟩ ?_ ?_
 ·rintro i a xs ρ Z' N ha ⟨rfl,hR,rfl⟩ kN
  have hi:=(List.getElem?_eq_some_iff.mp ha).1;have hr:rs[i]?=some rs[i]:=List.getElem?_eq_getElem (by omega)
  refine he i a _ ρ _ ha hr hR fun ρ1 hR1 h=>?_;rw[tN,if_pos rfl,lN];refine h _ ⟨by rw[List.length_map,List.length_take];omega,kN _ _ _ ⟨rfl,hR1,?_⟩⟩
  rw[show rs.take (i+1)=rs.take i++[rs[i]] from by rw[List.take_succ,hr];rfl,List.map_append]
  rfl
 ·rintro xs ρ Z' ⟨rfl,hR,rfl⟩
  rw[←hl,List.take_length]
  exact hk ρ hR
theorem ig{te:AE}{as:List AV}{rs:List D}{v0:Option AV}{bi:SA}{Z:Om}{K:List AV->SA->Om->Prop}(hl:rs.length=as.length)(hz:as.length<=sizeLine)(he:∀(i:Nat)(a:AV)(r:D),as[i]?=some a->rs[i]?=some r->∀Q:AV->Om->Prop,Q (.d r) Z->te (some a::bi) Z Q)(hk:∀ρ,K (rs.map AV.d) ρ Z):du (gu 0) jd (jM te) as [] (v0::bi) Z K:=
 xA (fun ρ=>∃v,ρ=v::bi) ⟨_,rfl⟩ hl hz (fun i a r ρ N ha hr ⟨v,e⟩ k=>by
  subst e;rw[dz,List.set_cons_zero]
  exact k _ ⟨_,rfl⟩ (he i a r ha hr)) (fun ρ _=>hk ρ)
theorem A4{α:Type}{g:AG}{tc:AT}{te:AE}{as:List AV}{xs:List α}{ρ:SA}{Z:Om}{K:List AV->SA->Om->Prop}(R:SA->Prop)(h0:R ρ)(enc:α->AV)(p:α->Bool)(f:α->D)(ea:as=xs.map enc)(hz:xs.length<=sizeLine)(he:∀(x:α)(ρ:SA)(N:SA->Om->Prop),x∈xs->R ρ->(∀ρ1,R ρ1->(∀Q:Bool->Om->Prop,Q (p x) Z->tc ρ1 Z Q)->(p x=true->∀Q:AV->Om->Prop,Q (.d (f x)) Z->te ρ1 Z Q)->N ρ1 Z)->g (enc x) ρ Z N)(hk:∀ρ,R ρ->K (((xs.filter p).map f).map AV.d) ρ Z):du g tc (jM te) as [] ρ Z K:=by
 subst ea;refine pE (fun i ys ρ Z'=>Z'=Z/\R ρ/\ys=(((xs.take i).filter p).map f).map AV.d) ⟨rfl,h0,rfl⟩ ?_ ?_
 ·rintro i a ys ρ Z' N ha ⟨rfl,hR,rfl⟩ kN
  rw[List.getElem?_map,Option.map_eq_some_iff] at ha;obtain⟨x,hx,rfl⟩:=ha;have hi:=(List.getElem?_eq_some_iff.mp hx).1;have et:xs.take (i+1)=xs.take i++[x]:=by rw[List.take_succ,hx];rfl
  refine he x ρ _ (List.mem_of_getElem? hx) hR fun ρ1 hR1 h1 h2=>h1 _ ?_
  cases hp:p x with
  |true=>
   rw[if_pos rfl,lN];refine h2 hp _ ⟨?_,kN _ _ _ ⟨rfl,hR1,?_⟩⟩
   ·rw[List.length_map,List.length_map]
    have:=List.length_filter_le p (xs.take i);rw[List.length_take] at this;omega
   ·rw[et,List.filter_append]
    simp[hp]
  |false=>
   rw[if_neg Bool.false_ne_true];refine kN _ _ _ ⟨rfl,hR1,?_⟩;rw[et,List.filter_append];simp[hp]
 ·rintro ys ρ Z' ⟨rfl,hR,rfl⟩
  rw[List.length_map,List.take_length];exact hk ρ hR
theorem Aj{α:Type}{tc:AT}{te:AE}{xs:List α}{v0:Option AV}{bi:SA}{Z:Om}{K:List AV->SA->Om->Prop}(enc:α->D)(p:α->Bool)(f:α->D)(hz:xs.length<=sizeLine)(ht:∀x∈xs,∀Q:Bool->Om->Prop,Q (p x) Z->tc (some (.d (enc x))::bi) Z Q)(he:∀x∈xs,p x=true->∀Q:AV->Om->Prop,Q (.d (f x)) Z->te (some (.d (enc x))::bi) Z Q)(hk:∀ρ,K (((xs.filter p).map f).map AV.d) ρ Z):du (gu 0) tc (jM te) ((xs.map enc).map AV.d) [] (v0::bi) Z K:=
 A4 (fun ρ=>∃ v,ρ = v :: bi) ⟨_,rfl⟩ (fun x=>.d (enc x)) p f (by simp) hz (fun x ρ N hx ⟨v,e⟩ k=>by
  subst e;rw[dz,List.set_cons_zero]
  exact k _ ⟨_,rfl⟩ (ht x hx) (he x hx)) (fun ρ _=>hk ρ)
structure Pq where
 a:Addr
 ns:List Int
 i:Int
 f:Int
 h0:0<=i
 hf:0<=f
 hn:ns.length<=63
inductive yf:List (TE×TE)->List Str->List AE->Prop
 |nil:yf [] [] []
 |cons {k:Str} {tv:TE} {tv':AE} {r:List (TE×TE)} {ks:List Str} {ts:List AE}:bw tv tv'->yf r ks ts->yf ((tC (.str k),tv)::r) (k::ks) (tv'::ts)
theorem CM{F:Fs}{H:Hp}{Z:Om}{y:AV}{u:V}(rp:Rep F H Z)(r:RV (cut F H Z) y u)(e:bu Z y=some (.lst [])):∃b,u=.ref b/\H b=some (.lst []):=by
 have hd:=gj rp r e;simp only[Dat] at hd;obtain⟨b,us,rfl,q1,q2⟩:=hd;have q2:us=[]:=q2;subst q2;exact⟨b,rfl,q1⟩
noncomputable def tx(l:List Nat):Str:=⟨l.toArray⟩
noncomputable def jn(s:List Nat):List (List Nat)->List Nat
 | []=>[]
 | [x]=>x
 |x::y::r=>x++s++jn s (y::r)
inductive PFs (X:Cx):List Expr->List TE->Prop
 |nil:PFs X [] []
 |cons {e:Expr} {t:TE} {es:List Expr} {ts:List TE}:PE X e t->PFs X es ts->PFs X (e::es) (t::ts)
inductive zc:List TE->List AE->Prop
 |nil:zc [] []
 |cons {t:TE} {t':AE} {ts:List TE} {ts':List AE}:bw t t'->zc ts ts'->zc (t::ts) (t'::ts')
end L2
namespace L2
open PySem PySem.Spec PyProof.Rows PySem.W
noncomputable def CXx(P:Program)(w:World):CXT:=fun outer H s E e s'=>∃(a C t:Addr)(H':Hp)(B:Heap),e=.ref a/\s'.os=s.os/\AllBare s'.gens/\Un (frs outer) [] H H' s.heap s'.heap/\HOk P w H' B /\
 Heap.FlyingW B outer a (.ref C) (.ref t) s'.heap/\(∀b o,s.heap.get? b=some o->H b=none->b ∉ frs outer->B.get? b=some o)/\(∀b o,s.heap.get? b=some o->b ∉ frs outer->∃o',B.get? b=some o')/\E (.ref a) (some C) H'
end L2
namespace L2
open PySem PySem.Spec PySem.Calls PyProof.Rows PySem.W PySem.Builtin PySem.Builtin.ObjectAttr PySem.Builtin.Getset_descriptor
end L2
namespace L2
open PySem PySem.Spec PySem.Calls PyProof.Rows PySem.W
end L2
namespace L2
open PySem PySem.Spec PyProof.Rows
noncomputable abbrev xo:=List AV->Om->(AV->Om->Prop)->(Addr->Om->Prop)->Prop
noncomputable def LX(F:Fs)(H:Hp)(Z:Om)(Ex:Addr->Om->Prop)(E:XK):Prop:=∀C Z' a H',Rep F H' Z'->Fr F H Z H' Z'->Ex C Z'->E (.ref a) (some C) H'
noncomputable abbrev AXS:=cu->(Addr->Om->Prop)->SA->Om->Prop
structure FI(E:XK)(t:TS)(t':AXS):Prop where
 run:∀(F:Fs)(H:Hp)(Z:Om)(σ:St)(ρ:SA)(D:ir)(D':cu)(Ex:Addr->Om->Prop),Rep F H Z->RS (cut F H Z) ρ σ->t' D' Ex ρ Z->LE F H Z D' D->LX F H Z Ex E->t D σ H
noncomputable def DQ(t u:AXS):AXS:=fun D Ex ρ Z=>t { D with nx:=u D Ex } Ex ρ Z
theorem y8(t u:AXS)(D:cu)(Ex:Addr->Om->Prop)(ρ:SA)(Z:Om):DQ t u D Ex ρ Z=t { D with nx:=u D Ex } Ex ρ Z:=rfl
end L2
namespace L2
open PySem PySem.Spec PySem.Calls PyProof.Rows PySem.W
structure FQ(P:Program)(w:World)(K:W.Frag)(mg:Str->Option Value)(base:Heap)(H₀:Hp)(k:Nat)(f:Addr)(n:Nat)(sp:Sp):Prop where
 fn:∃(oc:Value)(od:Option Addr)(fd:FuncData) (sl:Array (Option Value)) (u:HO),H₀ f=some (.frz ⟨oc,od,.func fd,sl⟩ u)
 len:∀vs H Q E,sp vs H Q E->vs.length=n
 run:∀(A:Around)(outer:List Env)(s:Shared)(H:Hp)(us:List Value)(vs:List V)(Q:VK)(E:XK),eB k A->tX P w K mg base A outer s H->Frz H₀ H->aQ vs us->sp vs H Q E ->
  codeAny (model P w) A (.call (.ref f) ⟨us,[]⟩) (CR (CXx P w) outer P w H s Q E) s
end L2
namespace L2
open PySem PySem.Spec PySem.Calls PyProof.Rows
structure Ap3(z u o i j l p q r:Addr):Prop where
 uz:u≠z
 oz:o≠z
 iz:i≠z
 jz:j≠z
 lz:l≠z
 uo:u≠o
 ui:u≠i
 uj:u≠j
 ul:u≠l
 oi:o≠i
 oj:o≠j
 ol:o≠l
 ij:i≠j
 il:i≠l
 jl:j≠l
 np:∀c∈[z,u,o,i,j,l],p≠c
 nq:∀c∈[z,u,o,i,j,l],q≠c
 nr:∀c∈[z,u,o,i,j,l],r≠c
end L2
namespace L2
open PySem PySem.Spec PyProof.Rows
inductive O where
 |d (x:D)|box (b:Bool)|tup (os:List O)
mutual
noncomputable def Odd(G:Hp):O->V->Prop
 |.d x,v=>Dat G x v
 |.box t,v=>∃a,v=.ref a/\((t=false/\∃xs,G a=some (.lst xs))\/(t=true/\∃ks,G a=some (.dK ks)))
 |.tup os,v=>∃a xs,v=.ref a/\G a=some (.tup xs)/\pN G os xs
noncomputable def pN(G:Hp):List O->List V->Prop
 | [],xs=>xs=[]
 |o::os,xs=>∃x r,xs=x::r/\Odd G o x/\pN G os r
end
mutual
theorem Odd.same{G G':Hp}(e:dj G G'):∀ {o:O} {v:V},Odd G o v->Odd G' o v
 |.d x,v,h=>by simp only[Odd] at h ⊢;exact h.same e
 |.box t,v,h=>by
  simp only[Odd] at h ⊢;obtain⟨a,rfl,h⟩:=h;refine⟨a,rfl,h.imp (fun⟨h1,xs,h2⟩=>⟨h1,xs,e _ _ h2⟩) fun⟨h1,xs,h2⟩=>⟨h1,xs,e _ _ h2⟩⟩
 |.tup os,v,h=>by
  simp only[Odd] at h ⊢;obtain⟨a,xs,rfl,h1,h2⟩:=h;exact⟨a,xs,rfl,e _ _ h1,pN.same e h2⟩
theorem pN.same{G G':Hp}(e:dj G G'):∀ {os:List O} {vs:List V},pN G os vs->pN G' os vs
 | [],vs,h=>by simpa only[pN] using h
 |o::os,vs,h=>by
  simp only[pN] at h ⊢;obtain⟨x,r,rfl,h1,h2⟩:=h;exact⟨x,r,rfl,Odd.same e h1,pN.same e h2⟩
end
noncomputable def oA:O->V->AV
 |.d x,_=>.d x
 |.box t,v=>.p v (fun G=>Odd G (.box t) v)
 |.tup os,v=>.p v (fun G=>Odd G (.tup os) v)
noncomputable def isO(x:AV)(o:O):Prop:=∃v,x=oA o v
theorem xQ{d:D}:isO (.d d) (.d d):=⟨.non,rfl⟩
theorem isO.odd{G:Hp}{x:AV}{o:O}{v:V}(h:isO x o)(r:RV G x v):Odd G o v:=by
 obtain⟨u,rfl⟩:=h
 cases o with
 |d x=>simp only[Odd];exact r
 |_=>obtain⟨rfl,h⟩:=r;exact h G (dj.refl _)
end L2
namespace L2
open PySem PySem.Spec PyProof.Rows AutoSeq1
theorem ev:isSubtype (.type "str") (.type "dict")=pure false:=by rw[isSubtype_type];kernel_rfl
theorem rH(l:Addr)(es:Array DictEntry)(ep:Nat)(b:Str)(u:Tok):
  Meets (Builtin.«dict.__eq__» ⟨[.ref l,.str b u],[]⟩) (fun _ R s=>s.heap.get? l=some { cls:=.type "dict",data:=.dict es ep }/\R (.ok (.ret .notImplemented)) s):=
 .of_wp fun prog w A R s h=>by obtain⟨hp,g,d,tk,os⟩:=s;obtain⟨hl,h⟩:=h;have f1:=ev;wp_walk using wpAny_loadPart' hl,wpAny_load hl;exact⟨_,rfl,h⟩
theorem qg(l:Addr)(es:Array DictEntry)(ep:Nat)(b:Str)(u:Tok):
  Meets (Builtin.«dict.__ne__» ⟨[.ref l,.str b u],[]⟩) (fun _ R s=>s.heap.get? l=some { cls:=.type "dict",data:=.dict es ep }/\R (.ok (.ret .notImplemented)) s):=
 .of_wp fun prog w A R s h=>by obtain⟨hp,g,d,tk,os⟩:=s;obtain⟨hl,h⟩:=h;have f1:=ev;wp_walk using wpAny_loadPart' hl,wpAny_load hl;exact⟨_,rfl,h⟩
theorem rD(l:Addr)(es:Array DictEntry)(ep:Nat)(b:Str)(u:Tok):
  Meets (Builtin.«str.__eq__» ⟨[.str b u,.ref l],[]⟩) (fun _ R s=>s.heap.get? l=some { cls:=.type "dict",data:=.dict es ep }/\R (.ok (.ret .notImplemented)) s):=
 .of_wp fun prog w A R s h=>by obtain⟨hp,g,d,tk,os⟩:=s;obtain⟨hl,h⟩:=h;wp_walk using wpAny_loadPart' hl,wpAny_load hl;exact⟨_,rfl,h⟩
theorem qz(l:Addr)(es:Array DictEntry)(ep:Nat)(b:Str)(u:Tok):
  Meets (Builtin.«str.__ne__» ⟨[.str b u,.ref l],[]⟩) (fun _ R s=>s.heap.get? l=some { cls:=.type "dict",data:=.dict es ep }/\R (.ok (.ret .notImplemented)) s):=
 .of_wp fun prog w A R s h=>by obtain⟨hp,g,d,tk,os⟩:=s;obtain⟨hl,h⟩:=h;wp_walk using wpAny_loadPart' hl,wpAny_load hl;exact⟨_,rfl,h⟩
section
variable{A:Around}{s:Shared}
theorem kP{l:Addr}{es:Array DictEntry}{ep:Nat}(b:Str)(u:Tok)(ho:s.heap.get? l=some { cls:=.type "dict",data:=.dict es ep })(hu:A.units<cLine):SeqAt.RcAt A s (.ref l) (.str b u) false:=fun prog w E Q h=>
 SeqAt.rc_eq_decline_or (k:=false) ⟨_,ho,rfl⟩ (typeIs_str s b u) (by decide) ev F.slot_dict_eq F.slot_str_eq_refl
  (fun _ hq=>call_meets F.slot_dict_eq ⟨_,ho,rfl⟩ F.entry_dict_eq (F.args_dict_eq_2 _ _) (rH l es ep b u) ⟨ho,hq⟩)
  (fun _ hq=>call_meets F.slot_str_eq_refl (typeIs_str s b u) F.entry_str_eq (F.args_str_eq_2 _ _) (rD l es ep b u) ⟨ho,hq⟩)
  (fun _ hq=>wpAny_of_eq (rfl:isSame (.ref l) (.str b u)=pure false) hq) (.inr hu) h
theorem jF{l:Addr}{es:Array DictEntry}{ep:Nat}(b:Str)(u:Tok)(ho:s.heap.get? l=some { cls:=.type "dict",data:=.dict es ep })(hu:A.units<cLine):SeqAt.RcNeAt A s (.ref l) (.str b u) true:=fun prog w E Q h=>
 SeqAt.rc_ne_decline_or (k:=false) ⟨_,ho,rfl⟩ (typeIs_str s b u) (by decide) ev F.slot_dict_ne F.slot_str_ne_refl
  (fun _ hq=>call_meets F.slot_dict_ne ⟨_,ho,rfl⟩ F.entry_dict_ne (F.args_dict_ne_2 _ _) (qg l es ep b u) ⟨ho,hq⟩)
  (fun _ hq=>call_meets F.slot_str_ne_refl (typeIs_str s b u) F.entry_str_ne (F.args_str_ne_2 _ _) (qz l es ep b u) ⟨ho,hq⟩)
  (fun _ hq=>wpAny_of_eq (rfl:isSame (.ref l) (.str b u)=pure false) hq) (.inr hu) h
end
noncomputable def sH(H:Hp)(x:V)(z:Str):Option Bool:=match x with
 |.non=>some false
 |.bl _=>some false
 |.int _=>some false
 |.str y=>some (y == z)
 |.ref a=>match H a with
  |some (.lst _)=>some false
  |some (.tup _)=>some false
  |some (.dK _)=>some false
  |some (.dT _)=>some false
  |_=>none
 |_=>none
noncomputable def EY(neg:Bool):R2:=fun x y H Q=>∃z b,y=.str z/\sH H x z=some b/\Q (.bl (if neg then !b else b)) H
theorem C9{X:Cx}{pins:List (Addr×Obj)}{σ:St}{H:Hp}{s:Shared}(I:Inv X pins σ H s){x:V}{z:Str}{b:Bool}{v:Value}{u:Tok}(e:sH H x z=some b)(rx:br x v)(hu:X.A.units<cLine):
  SeqAt.RcAt X.A s v (.str z u) b/\SeqAt.RcNeAt X.A s v (.str z u) (!b):=by
 cases x with
 |non=>cases e;cases rx;exact⟨SeqAt.RcAt.none_str z u,SeqAt.RcNeAt.none_str z u⟩
 |bl c=>cases e;cases rx;exact⟨SeqAt.RcAt.bool_str c z u,SeqAt.RcNeAt.bool_str c z u⟩
 |int i=>cases e;obtain⟨t,rfl⟩:=rx;exact⟨SeqAt.RcAt.int_str i t z u,SeqAt.RcNeAt.int_str i t z u⟩
 |str y=>cases e;obtain⟨t,rfl⟩:=rx;exact⟨SeqAt.RcAt.str_str y t z u,SeqAt.RcNeAt.str_str y t z u⟩
 |ref a=>
  cases rx;simp only[sH] at e
  cases ha:H a with
  |none=>rw[ha] at e;cases e
  |some o=>
   rw[ha] at e
   cases o with
   |lst xs=>
    cases e;obtain⟨its,_,p⟩:=g8 I ha;exact⟨SeqAt.RcAt.list_str z u p hu,SeqAt.RcNeAt.list_str z u p hu⟩
   |tup xs=>
    cases e;obtain⟨its,_,p⟩:=d8 I ha;exact⟨SeqAt.RcAt.tuple_str z u p hu,SeqAt.RcNeAt.tuple_str z u p hu⟩
   |dK ks=>
    cases e;obtain⟨_,_,vs,_,o,es,ep,e1,⟨c1,c2,c3⟩,e2,_⟩:=I.hok _ _ ha;obtain⟨cls,dd,data,sl⟩:=o;simp only at c1 c2 c3 e2;subst c1 c2 c3 e2;exact⟨kP z u e1 hu,jF z u e1 hu⟩
   |dT ks=>
    cases e;obtain⟨es,ep,e1⟩:=md I ha;exact⟨kP z u e1 hu,jF z u e1 hu⟩
   |_=>cases e
 |_=>cases e
theorem sQ{X:Cx}(hu:X.A.units+100<cLine):OpR X (compareOp .Eq) (EY false):=by
 intro pins s σ H x y v u Q I rx ry h;obtain⟨z,b,rfl,e,q⟩:=h;obtain⟨t,rfl⟩:=ry;exact(C9 I e rx (by omega)).1 X.prog X.w _ _ ⟨.bl _,H,I,rfl,q⟩
noncomputable def i4(o:O)(z:Str):Bool:=match o with
 |.d (.str y)=>y == z
 |_=>false
theorem Ad{H:Hp}{o:O}{v:V}{z:Str}(h:Odd H o v):sH H v z=some (i4 o z):=by
 cases o with
 |d x=>
  cases x<;>simp only[Odd,Dat] at h
  all_goals first
   |(subst h;rfl)
   |(obtain⟨a,xs,rfl,h,_⟩:=h;simp[sH,h,i4])
 |box t=>
  simp only[Odd] at h;obtain⟨a,rfl,⟨_,xs,h⟩|⟨_,ks,h⟩⟩:=h<;>simp[sH,h,i4]
 |tup os=>
  simp only[Odd] at h;obtain⟨a,xs,rfl,h,_⟩:=h;simp[sH,h,i4]
noncomputable def FE(neg:Bool):A2:=fun x y Z Q=>∃o z,isO x o/\y=.d (.str z)/\Q (.d (.bl (if neg then !i4 o z else i4 o z))) Z
theorem yD{neg:Bool}:eO (EY neg) (FE neg):=⟨fun F H Z v u x y Q Q' rp h1 h2 ⟨o,z,e1,e2,q⟩ k=>by
 subst e2
 exact⟨z,_,CO h2,Ad ((e1.odd h1).same ba),k.bl rp q⟩⟩
noncomputable def EF(neg:Bool):A2:=fun x y Z Q=>∃xs,dh Z x=some xs/\bu Z y=some (.lst [])/\Q (.d (.bl (if neg then !xs.isEmpty else xs.isEmpty))) Z
theorem rj{K:W.Frag}:eO (fun x y H Q=>∃a b xs,x=.ref a/\y=.ref b/\SqL K H a xs/\SqL K H b []/\Q (.bl (!xs.isEmpty)) H) (EF true):=⟨fun F H Z v u x y Q Q' rp h1 h2 ⟨xs,e1,e2,q⟩ k=>by
 obtain⟨a,vs,rfl,z1,z2⟩:=g9 rp h1 e1;obtain⟨b,rfl,hb⟩:=CM rp h2 e2
 have:vs.isEmpty=xs.isEmpty:=by
  have:=z2.length;cases vs<;>cases xs<;>simp at this ⊢
 exact⟨a,b,vs,rfl,rfl,.inl (.inl z1),.inl (.inl hb),by rw[this];exact k.bl rp q⟩⟩
theorem p8:∀ {G:Hp} {ds:List D} {vs:List V},aG G ds vs->aG G ds.reverse vs.reverse
 |G,[],vs,h=>by simp only[aG] at h;subst h;simp only[List.reverse_nil,aG]
 |G,d::ds,vs,h=>by
  simp only[aG] at h;obtain⟨x,r,rfl,h1,h2⟩:=h;rw[List.reverse_cons,List.reverse_cons];exact(p8 h2).append (aG.one h1)
end L2
namespace L2
open PySem PySem.Spec PyProof PyProof.Rows PySem.SeqAt
open AutoSeq1 (wpAny_loadPart')
section
variable{prog:Program}{w:World}{A:Around}{E:Value->Shared->Prop}{s:Shared}
theorem sr(n:Nat):Builtin.Slice.sliceAdjust none none (-1) (n:Int)=((n:Int)-1,-1):=by
 unfold Builtin.Slice.sliceAdjust;simp
theorem su(n:Nat):Builtin.Slice.slicePlaces ((n:Int)-1) (-1) (-1)=n:=by
 unfold Builtin.Slice.slicePlaces;simp;omega
theorem kc{sl:Addr}{n:Nat}{u:Tok}{Q:Int×Int×Nat->Shared->Prop}(hs:s.heap.IsSliceOf sl .none .none (.int (-1) u))(h:Q ((n:Int)-1,-1,n) s):
  wpAny (model prog w) A (Builtin.Slice.sliceApplied (.ref sl) (pure (n:Int))) Q E s:=by
 obtain⟨os,hos,hcs,hds⟩:=id hs;unfold Builtin.Slice.sliceApplied Builtin.Slice.sliceFields;refine wpAny_bind (wpAny_bind (wpAny_field hos hds (x:=.none) rfl (wpAny_bind (wpAny_field hos hds (x:=.none) rfl (wpAny_bind (wpAny_field hos hds (x:=.int (-1) u) rfl (wpAny_pure ?_)))))));refine wpAny_bind (slicePart_int ?_);show wpAny _ _ (if ((-1:Int) == 0)=true then _ else _) _ _ s
 rw[if_neg (by decide)]
 refine wpAny_bind (slicePart_none (wpAny_bind (slicePart_none (wpAny_bind (wpAny_pure ?_)))));show wpAny _ _ (match Builtin.Slice.sliceAdjust none none (-1) (n:Int) with|(lo,hi)=>pure (lo,(-1:Int),Builtin.Slice.slicePlaces lo hi (-1))) _ _ s
 rw[sr n];show wpAny _ _ (pure ((n:Int)-1,(-1:Int),Builtin.Slice.slicePlaces ((n:Int)-1) (-1) (-1))) _ _ s;rw[su n];exact wpAny_pure h
theorem xD{α:Type}:∀xs:List α,(List.range xs.length).filterMap (fun k=>xs[k]?)=xs
 | []=>rfl
 |x::r=>by
  rw[List.length_cons,List.range_succ_eq_map,List.filterMap_cons_some (by rfl:(x::r)[0]?=some x),List.filterMap_map]
  congr 1
  exact xD r
theorem rQ{α β:Type}{f g:α->Option β}:∀ {l:List α},(∀x∈l,f x=g x)->l.filterMap f=l.filterMap g
 | [],_=>rfl
 |x::r,h=>by
  rw[List.filterMap_cons,List.filterMap_cons,h x List.mem_cons_self,rQ fun y hy=>h y (List.mem_cons_of_mem _ hy)]
theorem yW(xs:List Value):((List.range xs.length).filterMap fun(k:Nat)=>xs.toArray[((xs.length:Int)-1+(k:Int)*(-1)).toNat]?)=xs.reverse:=by
 have e:∀k∈List.range xs.length,xs.toArray[((xs.length:Int)-1+(k:Int)*(-1)).toNat]?=xs.reverse[k]?:=fun k hk=>by
  have hk:=List.mem_range.mp hk;rw[List.getElem?_toArray,List.getElem?_reverse hk]
  congr 1
  omega
 rw[show ((List.range xs.length).filterMap fun(k:Nat)=>xs.toArray[((xs.length:Int)-1+(k:Int)*(-1)).toNat]?)=(List.range xs.length).filterMap fun k=>xs.reverse[k]? from rQ e]
 have:=xD xs.reverse;rw[List.length_reverse] at this;exact this
theorem jJ{t sl:Addr}{its:List Value}{u:Tok}{Q:Value->Shared->Prop}(ht:IsTup s.heap t its.toArray)(hs:s.heap.IsSliceOf sl .none .none (.int (-1) u))(h:Q (.ref s.heap.objs.size) { s with heap:=s.heap.push { cls:=.type "tuple",data:=.seq its.reverse.toArray } })(hsz:its.length<=sizeLine):wpAny (model prog w) A (getItem (.ref t) (.ref sl)) Q E s:=by
 have hdrop:sizeOk (.seq its.reverse.toArray):=by
  show its.reverse.toArray.size<=sizeLine;rw[List.size_toArray,List.length_reverse];exact hsz
 obtain⟨os,hos,hcs,hds⟩:=id hs;have hTs:s.TypeIs (.ref sl) "slice":=⟨os,hos,hcs⟩;unfold getItem
 try with_reducible refine wpAny_holding ?_
 first|refine wpAny_bind (wpAny_pure ?_)|skip
 refine wpAny_bind (wpAny_sequenceKey ht.typeIs (by decide) ?_)
 refine wpAny_bind (wpAny_callSpecial?_slot (name:=Str.ofString "__getitem__") ht.typeIs slot_tuple_getitem
  (wpAny_call_entry slot_tuple_getitem ht.typeIs entry_tuple_getitem ?_ (args_tuple_getitem _ _)))
 show wpAny _ _ (Builtin.Tuple.tupleItemsOf (.ref t) >>= _) _ _ s;refine wpAny_bind (tupleItemsOf_ ht ?_);refine wpAny_bind (wpAny_typeOf hTs ?_);rw[if_pos (by decide)]
 refine wpAny_bind (kc (n:=its.length) hs ?_);have hno:¬ (((its.length:Int)-1 == 0 && (-1:Int) == 1 && its.length == its.toArray.size)=true):=by simp
 show wpAny _ _ (if ((its.length:Int)-1 == 0 && (-1:Int) == 1 && its.length == its.toArray.size)=true then _ else _) _ _ s
 rw[if_neg hno,yW its]
 first
  |exact wpAny_bind (m:=Builtin.Tuple.tupleExact _) (wpAny_newObj_type (wpAny_pure ⟨_,rfl,wpAny_pure h⟩) hdrop)
  |exact wpAny_bind (m:=Builtin.Tuple.tupleExact _) (wpAny_newObj_type (wpAny_bind (wpAny_pure (wpAny_pure ⟨_,rfl,wpAny_pure h⟩))) hdrop)
  |exact wpAny_bind (wpAny_bind (m:=Builtin.Tuple.tupleExact _) (wpAny_newObj_type (wpAny_pure (wpAny_pure ⟨_,rfl,wpAny_pure h⟩)) hdrop))
  |exact wpAny_bind (wpAny_bind (m:=Builtin.Tuple.tupleExact _) (wpAny_newObj_type (wpAny_pure ⟨_,rfl,wpAny_pure h⟩) hdrop))
end
section
variable{X:Cx}{e st:Expr}{te ts:TE}{pos p2:Pos}
noncomputable def Cu(K:W.Frag)(te ts:TE):TE:=fun σ H Q=>te σ H fun x H1=>ts σ H1 fun k H2=>k=.int (-1)/\∃a xs,x=.ref a/\SqT K H2 a xs/\∀p,H2 p=none->Q (.ref p) (upd H2 p (.tup xs.reverse))
theorem As(K:W.Frag)(hK:X.K=K)(he:PE X e te)(hs:PE X st ts):PE X (.Subscript e (.Slice none none (some st) p2) pos) (Cu K te ts):=.mk <| by
 subst hK;intro pins s σ H Q I h;refine Subscript_ (thn (he pins s σ H _ I h) fun v s1 ⟨x,H1,I1,r1,q1⟩=>?_);refine wpAny_Slice ?_;rw[evalPart_none];refine wpAny_pure (wpAny_pure ?_);rw[evalPart_some];refine thn (hs pins s1 σ H1 _ I1 q1) fun u s2 ⟨k,H2,I2,r2,q2⟩=>?_;obtain⟨rfl,a,xs,rfl,hx,q⟩:=q2;obtain⟨t,rfl⟩:=r2;cases r1;have I4:Inv X pins σ H2 { s2 with heap:=s2.heap.push { cls:=.type "slice",data:=.fields #[.none,.none,.int (-1) t] } }:=I2.kept (t':=s2.toks) fun b ob q=>Heap.get?_push_of_some _ q
 obtain⟨its,r,ht,hz⟩:=I4.tuple hx;have hlen:=r.length;refine tail_any (ops:=[.ref a,.ref s2.heap.objs.size]) ht.typeIs slot_tuple_getitem.lookup ?_ (by with_unfolding_all rfl)
 refine jJ ht (Heap.IsSliceOf.new ..) ?_ (by omega)
 refine⟨.ref _,_,I4.laid (t':=s2.toks) (o:=.tup xs.reverse) (fun b ob q=>Heap.get?_push_of_some _ q) (Nat.le_refl _) ?_,rfl,q _ (I4.hok.fresh (Nat.le_refl _))⟩;exact⟨by rw[List.length_reverse];exact hz,its.reverse,r.reverse,pC.new _ _⟩
end
noncomputable def B3(te:AE):AE:=fun ρ Z Q=>te ρ Z fun x Z1=>∃ds,x=.d (.tup ds)/\Q (.d (.tup ds.reverse)) Z1
theorem C6{K:W.Frag}{te:TE}{te':AE}(he:bw te te'):bw (Cu K te (tUn (rU fun i=>.int (-i)) (tC (.int 1)))) (B3 te'):=⟨fun F H Z σ ρ Q Q' rp rs w k=>
 he.go rp rs w fun x Z1 v H1 rp1 fr1 rs1 rv1 ⟨ds,e,q⟩=>⟨1,rfl,rfl,by
  subst e;simp only[RV,Dat] at rv1;obtain⟨a,us,rfl,q1,q2⟩:=rv1
  exact⟨a,us,rfl,.inl (.inl (ba _ _ q1)),(k.fr fr1).tup rp1 (p8 q2) q⟩⟩⟩
theorem zy(te:AE)(ρ:SA)(Z:Om)(Q:AV->Om->Prop):B3 te ρ Z Q=(te ρ Z fun x Z1=>∃ds,x=.d (.tup ds)/\Q (.d (.tup ds.reverse)) Z1):=rfl
noncomputable def LtA(A:Around)(s:Shared)(x y:Value)(b:Bool):Prop:=∀(p:Program)(w:World)(E:Value->Shared->Prop)(Q:Value->Shared->Prop),Q (.bool b) s->wpAny (model p w) A (richCompare .Lt x y) Q E s
noncomputable def qv(A:Around)(s:Shared)(fin:Bool):List (Value×Value)->Bool->Prop
 | [],r=>r=fin
 |(p,q)::t,r=>∃b,EqAt A s p q b/\(b=true->qv A s fin t r)/\(b=false->LtA A s p q r)
theorem wA(x y:Addr)(xs ys:Array Value)(n m:Nat)(dx dy:Option Addr)(sx sy:Array (Option Value))(r:Bool):
  Meets (Builtin.«tuple.__lt__» ⟨[.ref x,.ref y],[]⟩)
   (fun A R s=>s.heap.get? x=some { cls:=.type "tuple",dict:=dx,data:=.seq xs n,slots:=sx }/\s.heap.get? y=some { cls:=.type "tuple",dict:=dy,data:=.seq ys m,slots:=sy } /\
    qv A.in1 s (decide (xs.size<ys.size)) (xs.toList.zip ys.toList) r/\R (.ok (.ret (.bool r))) s):=
 .of_wp fun prog w A R s h=>by
  obtain⟨hp,g,d,tk,os⟩:=s;obtain⟨hx,hy,he,h⟩:=h;have f2:=AutoSeq1.sub_tuple_tuple
  wp_walk using wpAny_loadPart' hx,wpAny_loadPart' hy,wpAny_forIn_list _ (fun bi b s'=>b.1=none/\s'=⟨hp,g,d,tk,os⟩/\qv A.in1 ⟨hp,g,d,tk,os⟩ (decide (xs.size<ys.size)) bi r) _
  case turn=>
   rintro⟨p,q⟩ bi b s' ⟨hb,rfl,hL⟩;obtain⟨k,hk,h1,h2⟩:=hL;refine wpAny_bind (hk prog w _ _ ?_)
   cases k with
   |true=>
    wp_walk
    exact⟨rfl,rfl,h1 rfl⟩
   |false=>
    rw[if_pos (by rfl)]
    refine wpAny_bind (wpAny_rule (wpAny_bind (h2 rfl prog w _ _ ?_)))
    wp_walk
    exact⟨_,rfl,h⟩
  case fin=>
   rintro⟨b1,b2⟩ s' ⟨hb,rfl,hL⟩;simp only at hb;subst hb;have e:r=decide (xs.size<ys.size):=hL;subst e
   wp_walk
   exact⟨_,rfl,h⟩
  case h=>exact⟨rfl,rfl,he⟩
theorem LtA.tuples{A:Around}{s:Shared}{x y:Addr}{xs ys:Array Value}{r:Bool}(hx:s.heap.IsTuple x xs)(hy:s.heap.IsTuple y ys)(hu:A.units<cLine)(he:qv A.in1 s (decide (xs.size<ys.size)) (xs.toList.zip ys.toList) r):LtA A s (.ref x) (.ref y) r:=fun p w E Q q=>by
 obtain⟨⟨c1,d1,t1,l1⟩,o1,hc1,n1,hd1⟩:=id hx;obtain⟨⟨c2,d2,t2,l2⟩,o2,hc2,n2,hd2⟩:=id hy;simp only at hc1 hd1 hc2 hd2;subst hc1 hd1 hc2 hd2;exact richCompare_meets_room (op:=.Lt) ⟨_,o1,rfl⟩ ⟨_,o2,rfl⟩ F.slot_tuple_lt F.entry_tuple_lt (F.args_tuple_lt_2 _ _) (wA x y xs ys n1 n2 d1 d2 l1 l2 r) ⟨o1,o2,he,show Value.bool r≠Value.notImplemented/\Q (.bool r) s from ⟨fun z=>(nomatch z),q⟩⟩ hu
mutual
noncomputable def ltD:D->D->Bool
 |.int a,.int b=>decide (a<b)
 |.str a,.str b=>decide (a.cps.toList<b.cps.toList)
 |.tup xs,.tup ys=>q0 xs ys
 |_,_=>false
noncomputable def q0:List D->List D->Bool
 | [],[]=>false
 | [],_::_=>true
 |_::_,[]=>false
 |x::xs,y::ys=>if eqD x y then q0 xs ys else ltD x y
end
mutual
noncomputable def cmD:D->D->Bool
 |.int _,.int _=>true
 |.str _,.str _=>true
 |.tup xs,.tup ys=>qb xs ys
 |_,_=>false
noncomputable def qb:List D->List D->Bool
 |x::xs,y::ys=>if eqD x y then qb xs ys else cmD x y
 |_,_=>true
end
section
variable{X:Cx}{pins:List (Addr×Obj)}{σ:St}{H:Hp}{s:Shared}
theorem yy(I:Inv X pins σ H s){A:Around}{n:Nat}(hu:A.units+n<cLine)(lt:∀(d e:D)(x y:V)(v u:Value),dep d<=n->Dat H d x->Dat H e y->br x v->br y u->cmD d e=true->LtA A s v u (ltD d e)):
  ∀ {ds es:List D} {xs ys:List V} {vs us:List Value},dA ds<=n->aG H ds xs->aG H es ys->aQ xs vs->aQ ys us->qb ds es=true->qv A s (decide (vs.length<us.length)) (vs.zip us) (q0 ds es)
 | [],[],xs,ys,vs,us,_,h1,h2,r1,r2,_=>by
  simp only[aG] at h1 h2;subst h1 h2;cases r1;cases r2;rfl
 | [],e::es,xs,ys,vs,us,_,h1,h2,r1,r2,_=>by
  simp only[aG] at h1 h2;obtain⟨y,yr,rfl,_,_⟩:=h2;subst h1;cases r1;cases r2;simp[qv,q0]
 |d::ds,[],xs,ys,vs,us,_,h1,h2,r1,r2,_=>by
  simp only[aG] at h1 h2;obtain⟨x,xr,rfl,_,_⟩:=h1;subst h2;cases r1;cases r2;simp[qv,q0]
 |d::ds,e::es,xs,ys,vs,us,hd,h1,h2,r1,r2,hc=>by
  simp only[aG] at h1 h2;obtain⟨x,xr,rfl,hx,hxr⟩:=h1;obtain⟨y,yr,rfl,hy,hyr⟩:=h2
  cases r1 with
  | @cons _ v _ vs rx rxr=>
  cases r2 with
  | @cons _ u _ us ry ryr=>
  have d1:dep d<=n:=Nat.le_trans (lY (List.mem_cons_self ..)) hd;have d2:dA ds<=n:=by simp only[dA] at hd;omega
  simp only[qb] at hc;simp only[List.zip_cons_cons,qv,q0];refine⟨eqD d e,(oN I n d e x y v u A d1 hu hx hy rx ry).2.1,fun q=>?_,fun q=>?_⟩
  ·rw[if_pos q] at hc ⊢
   have:=yy I hu lt d2 hxr hyr rxr ryr hc;rw[show decide ((v::vs).length<(u::us).length)=decide (vs.length<us.length) from by simp]
   exact this
  ·rw[if_neg (by rw[q];decide)] at hc ⊢
   exact lt d e x y v u d1 hx hy rx ry hc
theorem D9(I:Inv X pins σ H s):∀(n:Nat)(A:Around)(d e:D)(x y:V)(v u:Value),A.units+n<cLine->dep d<=n->Dat H d x->Dat H e y->br x v->br y u->cmD d e=true->LtA A s v u (ltD d e):=fun n=>by
 induction n with
 |zero=>
  intro A d e x y v u hu hd hx hy rx ry hc
  cases d with
  |int a=>
   cases e<;>simp only[cmD,Bool.false_eq_true] at hc
   simp only[Dat] at hx hy;subst hx hy;obtain⟨t1,rfl⟩:=rx;obtain⟨t2,rfl⟩:=ry;exact fun p w E Q q=>lt_int q
  |str a=>
   cases e<;>simp only[cmD,Bool.false_eq_true] at hc
   simp only[Dat] at hx hy;subst hx hy;obtain⟨t1,rfl⟩:=rx;obtain⟨t2,rfl⟩:=ry;exact fun p w E Q q=>lt_str q
  |tup ds=>simp[dep] at hd
  |non=>cases e<;>simp[cmD] at hc
  |bl b=>cases e<;>simp[cmD] at hc
  |lst b=>cases e<;>simp[cmD] at hc
  |dk b=>cases e<;>simp[cmD] at hc
  |dt b=>cases e<;>simp[cmD] at hc
 |succ n ih=>
  intro A d e x y v u hu hd hx hy rx ry hc;by_cases h0:dep d<=n
  ·exact ih A d e x y v u (by omega) h0 hx hy rx ry hc
  have hin:A.in1.units+n<cLine:=by show A.units+1+n<cLine;omega
  cases d with
  |tup ds=>
   cases e<;>simp only[cmD,Bool.false_eq_true] at hc
   rename_i es
   simp only[Dat] at hx hy;obtain⟨a,xs,rfl,ha,hxs⟩:=hx;obtain⟨b,ys,rfl,hb,hys⟩:=hy;cases rx;cases ry;obtain⟨its,r1,p1⟩:=d8 I ha;obtain⟨jts,r2,p2⟩:=d8 I hb;have:=yy I hin (fun d e x y v u q1 q2 q3 q4 q5 q6=>ih A.in1 d e x y v u hin q1 q2 q3 q4 q5 q6) (by simp only[dep] at hd;omega) hxs hys r1 r2 hc
   exact LtA.tuples p1 p2 (by omega) (by simpa[ltD] using this)
  |int a=>simp only[dep] at h0;omega
  |str a=>simp only[dep] at h0;omega
  |non=>cases e<;>simp[cmD] at hc
  |bl b=>cases e<;>simp[cmD] at hc
  |lst b=>cases e<;>simp[cmD] at hc
  |dk b=>cases e<;>simp[cmD] at hc
  |dt b=>cases e<;>simp[cmD] at hc
noncomputable def EE:R2:=fun x y H Q=>∃d e,Dat H d x/\Dat H e y/\dep d<=100/\cmD d e=true/\Q (.bl (ltD d e)) H
theorem CH(hu:X.A.units+100<cLine):OpR X (compareOp .Lt) EE:=by
 intro pins s σ H x y v u Q I rx ry h;obtain⟨d,e,hx,hy,hd,hc,q⟩:=h;exact D9 I 100 X.A d e x y v u hu hd hx hy rx ry hc X.prog X.w _ _ ⟨.bl _,H,I,rfl,q⟩
end
noncomputable def En:A2:=fun x y Z Q=>∃a b,bu Z x=some a/\bu Z y=some b/\dep a<=100/\cmD a b=true/\Q (.d (.bl (ltD a b))) Z
theorem Ap(x y:AV)(Z:Om)(Q:AV->Om->Prop):En x y Z Q=∃a b,bu Z x=some a/\bu Z y=some b/\dep a<=100/\cmD a b=true/\Q (.d (.bl (ltD a b))) Z:=rfl
theorem Fc:eO EE En:=⟨fun F H Z v u x y Q Q' rp h1 h2 ⟨a,b,e1,e2,s,c,q⟩ k=>⟨a,b,gj rp h1 e1,gj rp h2 e2,s,c,k.bl rp q⟩⟩
end L2
namespace L2
open PySem PySem.Spec PyProof PyProof.Rows PySem.SeqAt
end L2
namespace L2
open PySem PySem.Spec PySem.Calls PyProof PyProof.Rows PySem.SeqAt
section
variable{prog:Program}{w:World}{A:Around}{E:Value->Shared->Prop}{s:Shared}
noncomputable def BX(h0 h:Heap):Prop:=∀x o,h0.get? x=some o->h.get? x=some o
structure FM(prog:Program)(w:World)(A:Around)(h0:Heap)(s:Shared)(vs:List Value)(c:Nat->Nat->Bool)(b:Bool):Prop where
 kind:∀h,BX h0 h->∃fs T,W.KatTups h vs fs/\fs.length=vs.length/\(∀v∈fs,W.Looks (model prog w) h (typeOf v) T)/\(T == T)=true/\(T != Value.type "tuple")=b
 ask:∀h,BX h0 h->∀i j,i<vs.length->j<vs.length->∀(C:Bool->Shared->Prop)(E:Value->Shared->Prop),C (c i j) { s with heap:=h }->wpAny (model prog w) A (keyLt' (tuples' b) (vs.getD i Value.none) (vs.getD j Value.none)) C E { s with heap:=h }
end
section
variable{X:Cx}{pins:List (Addr×Obj)}{σ:St}{H:Hp}{s:Shared}{A:Around}
noncomputable def E3(k:Bool)(d:D):Prop:=∃r,(k=true/\∃z,d=.tup (.str z::r))\/(k=false/\∃i,d=.tup (.int i::r))
end
structure Srt(W:List D)(key:D->List Int)(k:Bool):Prop where
 row:∀d∈W,E3 k d
 cmp:∀d∈W,∀e∈W,cmD d e=true
 lt:∀d∈W,∀e∈W,ltD d e=cf (key d) (key e)
end L2
namespace L2
open PySem PySem.Spec PyProof PyProof.Rows PySem.SeqAt
section
variable{K:W.Frag}{x qual:Str}{st:Stmt}{f:Addr}{fd:FuncData}
theorem Fun.FX{p0:Str}(F:Fun K x qual st f fd)(h:∀(kV doc pm:Value)(an:Option Addr)(cdv ct:Value)(u0:Value),bindArgs (W.fnOf x qual (defArgs st) (defBody st) (defScope st) .none kV doc pm an cdv ct) ⟨[u0],[]⟩=pure ([p0].zip [u0])):bx K fd [p0] []:=
 F.binds fun a b c d e g us hl=>match us,hl with | [u0],_=>h a b c d e g u0
theorem Fun.FV{p0 p1:Str}(F:Fun K x qual st f fd)(h:∀(kV doc pm:Value)(an:Option Addr)(cdv ct:Value)(u0 u1:Value),bindArgs (W.fnOf x qual (defArgs st) (defBody st) (defScope st) .none kV doc pm an cdv ct) ⟨[u0,u1],[]⟩=pure ([p0,p1].zip [u0,u1])):bx K fd [p0,p1] []:=
 F.binds fun a b c d e g us hl=>match us,hl with | [u0,u1],_=>h a b c d e g u0 u1
theorem Fun.FY{p0 p1 p2:Str}(F:Fun K x qual st f fd)(h:∀(kV doc pm:Value)(an:Option Addr)(cdv ct:Value)(u0 u1 u2:Value),bindArgs (W.fnOf x qual (defArgs st) (defBody st) (defScope st) .none kV doc pm an cdv ct) ⟨[u0,u1,u2],[]⟩=pure ([p0,p1,p2].zip [u0,u1,u2])):bx K fd [p0,p1,p2] []:=
 F.binds fun a b c d e g us hl=>match us,hl with | [u0,u1,u2],_=>h a b c d e g u0 u1 u2
end
end L2
namespace L2
open PySem PySem.Spec PyProof.Rows
end L2
namespace L2
open PySem PySem.Spec PySem.Calls PyProof.Rows PySem.W
end L2
namespace L2
open PySem PySem.Spec PyProof.Rows
structure dr(K:W.Frag)(x:Str)(st:Stmt)(a:Addr)(fd:FuncData):Prop where
 g:W.nsIn K mainGlobals x=some (some (.ref a))
 f:Fun K x x st a fd
 e:W.keepIn K (.ref a)=true
theorem D0{K:W.Frag}{x:Str}{st:Stmt}{a:Addr}{oc:Value}{od an:Option Addr}{osl:Array (Option Value)}{kV doc pm cdv ct:Value}(g:W.nsIn K mainGlobals x=some (some (.ref a)))(l:K.lookup a=some ⟨oc,od,.func (W.fnOf x x (defArgs st) (defBody st) (defScope st) .none kV doc pm an cdv ct),osl⟩)(c:W.codeIn K cdv x=true)(e:W.keepIn K (.ref a)=true):dr K x st a (W.fnOf x x (defArgs st) (defBody st) (defScope st) .none kV doc pm an cdv ct):=⟨g,yo l c e,e⟩
theorem fsc{N P:List Str}{sc:Scope}(a:sc.kind=.function)(b:sc.isCoroutine=false)(c:sc.isGenerator=false)(h:N.Nodup/\N.take P.length=P/\(∀x∈P,sc.names.lookup x=some .local\/sc.names.lookup x=some .cell)/\∀y∈sc.names,y.2≠.free):aV N P sc:=⟨a,b,c,h.1,h.2.1,h.2.2.1,h.2.2.2⟩
section
variable{X:Cx}
theorem uu(hg:X.A.guards=some [])(hu:X.A.units+100<cLine)(hs:(X.K.lookup sysModules).isSome=true):de X (.builtin "repr") (fun xs H Q=>∃(x:V)(d:D),xs=[x]/\Dat H d x/\DF d=true/\(pyD d).depth<=90/\fit d=true/\wt d<=1000000/\Q (.str (io d)) H):=by
 intro pins s σ H xs us Q I r h;obtain⟨x,d,rfl,hd,hn,hdp,hf,hw,q⟩:=h
 cases d with
 |non=>exact i8 hg hu pins s σ H [x] us Q I r ⟨x,_,rfl,hd,hn,by simp[dep],hf,hw,q⟩
 |bl b=>exact i8 hg hu pins s σ H [x] us Q I r ⟨x,_,rfl,hd,hn,by simp[dep],hf,hw,q⟩
 |int i=>exact i8 hg hu pins s σ H [x] us Q I r ⟨x,_,rfl,hd,hn,by simp[dep],hf,hw,q⟩
 |str b=>cases hn
 |tup ds=>
  obtain⟨a,_,rfl,_⟩:=ko hd;exact gC hg hu hs pins s σ H [.ref a] us Q I r ⟨a,_,rfl,hd,hdp,hf,hw,q⟩
 |lst ds=>
  obtain⟨a,_,rfl,_⟩:=ku hd;exact gC hg hu hs pins s σ H [.ref a] us Q I r ⟨a,_,rfl,hd,hdp,hf,hw,q⟩
 |dk ks=>
  have h0:=hd;simp only[Dat] at h0;obtain⟨a,_,rfl,_⟩:=h0;exact gC hg hu hs pins s σ H [.ref a] us Q I r ⟨a,_,rfl,hd,hdp,hf,hw,q⟩
 |dt ks=>
  have h0:=hd;simp only[Dat] at h0;obtain⟨a,_,rfl,_⟩:=h0;exact gC hg hu hs pins s σ H [.ref a] us Q I r ⟨a,_,rfl,hd,hdp,hf,hw,q⟩
end
noncomputable def DM:AE:=fun _ Z Q=>Q (.d (.dk [])) Z
theorem lD(ρ:SA)(Z:Om)(Q:AV->Om->Prop):DM ρ Z Q=Q (.d (.dk [])) Z:=rfl
theorem kH:bw yR DM:=⟨fun F H Z σ ρ Q Q' rp rs h k p hp=>by
 obtain⟨rp2,fr2,hc⟩:=rp.lay (o:=.dK []) hp;refine k _ Z _ _ rp2 fr2 ?_ h;simp only[RV,Dat]
 exact⟨p,[],rfl,hc,rfl⟩⟩
end L2
namespace L2
open PySem PySem.Spec PyProof.Rows
open AutoSeq1 (wpAny_loadPart')
theorem gI:fillsNumberSlot (.type "tuple") "mul"=pure false:=
 PySem.fillsNumberSlot_seq (id:="tuple.__mul__") (r:=some (.builtin "tuple.__rmul__")) F.slot_tuple_mul.lookup (by decide +kernel) F.slot_tuple_rmul.lookup (by decide +kernel)
theorem mP:seqRepeat? (.type "tuple")=pure (some (.builtin "tuple.__mul__")):=by
 unfold seqRepeat?;rw[PySem.seqSlot_of (T:="tuple") (name:="__mul__") (id:="tuple.__mul__") F.slot_tuple_mul.lookup (by decide +kernel),PySem.seqSlot_of (T:="tuple") (name:="__rmul__") (id:="tuple.__rmul__") F.slot_tuple_rmul.lookup (by decide +kernel)]
 rfl
theorem rL(a:Int)(t:Tok)(l:Addr)(items:Array Value)(n:Nat)(dd:Option Addr)(sl:Array (Option Value)):
  Meets (Builtin.«int.__rmul__» ⟨[.int a t,.ref l],[]⟩) (fun _ R s=>s.heap.get? l=some ⟨.type "tuple",dd,.seq items n,sl⟩/\R (.ok (.ret Value.notImplemented)) s):=
 .of_wp fun prog w A R s h=>by obtain⟨hp,g,d,tk,os⟩:=s;obtain⟨hl,h⟩:=h;wp_walk using wpAny_loadPart' hl;exact⟨_,rfl,h⟩
theorem yZ(l:Addr)(items:Array Value)(n:Nat)(dd:Option Addr)(sl:Array (Option Value))(t:Tok):
  Meets (Builtin.«tuple.__mul__» ⟨[.ref l,.int 1 t],[]⟩) (fun _ R s=>s.heap.get? l=some ⟨.type "tuple",dd,.seq items n,sl⟩/\R (.ok (.ret (.ref l))) s):=
 .of_wp fun prog w A R s h=>by
  obtain⟨hp,g,d,tk,os⟩:=s;obtain⟨hl,h⟩:=h;have hc1:(items.isEmpty || (1:Int) == 1)=true:=by simp
  wp_walk using wpAny_loadPart' hl
  exact⟨_,rfl,h⟩
theorem qB(its:List Value):∀(m:Nat)(acc:List Value),List.foldl (fun x1 x2=>x1++x2) acc.toArray (List.replicate m its.toArray)=(acc++(List.replicate m its).flatten).toArray
 |0,acc=>by simp
 |m+1,acc=>by
  have:=qB its m (acc++its);rw[List.replicate_succ,List.foldl_cons,List.replicate_succ,List.flatten_cons,←List.append_assoc,←this]
  simp
theorem BG(l:Addr)(its:List Value)(n:Nat)(dd:Option Addr)(sl:Array (Option Value))(k:Int)(t:Tok)(h0:its≠[])(h2:2<=k)(hk:k<=1000)(hz:(its.length:Int)*k<=1000):
  Meets (Builtin.«tuple.__mul__» ⟨[.ref l,.int k t],[]⟩) (fun _ R s=>s.heap.get? l=some ⟨.type "tuple",dd,.seq its.toArray n,sl⟩/\R (.ok (.ret (.ref s.heap.objs.size))) { s with heap:=s.heap.push { cls:=.type "tuple",data:=.seq ((List.replicate k.toNat its).flatten).toArray } }):=
 .of_wp fun prog w A R s h=>by
  obtain⟨hp,g,d,tk,os⟩:=s;obtain⟨hl,h⟩:=h;have e:(its.toArray.size:Int)=its.length:=by simp
  have hc0:¬ (decide (k < -2^63) || decide (k ≥ 2^63))=true:=by simp;omega
  have hc1:¬ (its.toArray.isEmpty || k == 1)=true:=by simp[h0];omega
  have hc2:¬ (decide (k<=0) || its.toArray.isEmpty)=true:=by simp[h0];omega
  have hc3:¬ ((its.toArray.size:Int)*k>(2^63-1) / 8):=by rw[e];omega
  have hc4:¬ Builtin.Tuple.tupleTooMany ((its.toArray.size:Int)*k)=true:=by
   rw[e];have:(1000:Int)<=sizeLine:=by decide
   simp only[Builtin.Tuple.tupleTooMany,decide_eq_true_eq];omega
  have hf:List.foldl (fun x1 x2=>x1++x2) #[] (List.replicate k.toNat its.toArray)=(List.replicate k.toNat its).flatten.toArray:=by simpa using qB its k.toNat []
  have hsz:(List.foldl (fun x1 x2=>x1++x2) #[] (List.replicate k.toNat its.toArray)).size<=sizeLine:=by
   rw[hf,List.size_toArray,pL];have:((k.toNat*its.length:Nat):Int)<=1000:=by rw[Int.natCast_mul,Int.toNat_of_nonneg (by omega),Int.mul_comm];exact hz
   exact Nat.le_of_lt (aT (by omega))
  wp_walk using wpAny_loadPart' hl
  rw[if_neg hc0]
  wp_walk using wpAny_loadPart' hl
  simp only[if_neg hc1,if_neg hc2,if_neg hc3,if_neg hc4]
  wp_walk
  refine wpAny_ite_false (decide_eq_false (Nat.not_lt.mpr hsz)) ?_
  wp_walk
  rw[←hf] at h
  exact⟨_,rfl,h⟩
noncomputable def BL:R2:=fun x y H Q=>∃l k xs,x=.ref l/\y=.int k/\H l=some (.tup xs)/\xs≠[]/\1<=k/\k<=1000/\(xs.length:Int)*k<=1000/\(k=1->Q (.ref l) H)/\∀p,H p=none->Q (.ref p) (upd H p (.tup (List.replicate k.toNat xs).flatten))
theorem vw{X:Cx}:OpR X (binaryOp .Mult) BL:=by
 intro pins s σ H x y v u Q I rx ry h;obtain⟨l,k,xs,rfl,rfl,hH,h0,h1,hk,hz,q1,q2⟩:=h;cases rx;obtain⟨t,rfl⟩:=ry;obtain⟨z,its,r,⟨ot,e1,e2,n,e3⟩,_⟩:=I.hok l _ hH;obtain⟨cls,dd,data,sl⟩:=ot;dsimp only at e2 e3;subst e2 e3;have hl:its.length=xs.length:=r.length.symm;by_cases hk1:k=1
 ·subst hk1
  exact wpAny_binaryOp_repeat_ref (T:="tuple") (U:="int") (by decide) ⟨_,e1,rfl⟩ (fun s'=>typeIs_int s' 1 t) gI F.fills_int_mul F.slot_int_rmul mP F.slot_int_index.lookup
   (call_meets F.slot_int_rmul (typeIs_int s 1 t) F.entry_int_rmul (F.args_int_rmul_2 _ _) (rL 1 t l its.toArray n dd sl)
    ⟨e1,rfl,⟨_,e1,rfl⟩,call_meets F.slot_tuple_mul ⟨_,e1,rfl⟩ F.entry_tuple_mul (F.args_tuple_mul_2 _ _) (yZ l its.toArray n dd sl t) ⟨e1,.ref l,H,I,rfl,q1 rfl⟩⟩)
 ·have hn:its≠[]:=fun e=>h0 (List.length_eq_zero_iff.mp (by rw[←hl,e];rfl))
  refine wpAny_binaryOp_repeat_ref (T:="tuple") (U:="int") (by decide) ⟨_,e1,rfl⟩ (fun s'=>typeIs_int s' k t) gI F.fills_int_mul F.slot_int_rmul mP F.slot_int_index.lookup
   (call_meets F.slot_int_rmul (typeIs_int s k t) F.entry_int_rmul (F.args_int_rmul_2 _ _) (rL k t l its.toArray n dd sl)
    ⟨e1,rfl,⟨_,e1,rfl⟩,call_meets F.slot_tuple_mul ⟨_,e1,rfl⟩ F.entry_tuple_mul (F.args_tuple_mul_2 _ _) (BG l its n dd sl k t hn (by omega) hk (by rw[hl];exact hz)) ⟨e1,?_⟩⟩)
  have hz2:(List.replicate k.toNat xs).flatten.length<=sizeLine:=by
   rw[pL];have:((k.toNat*xs.length:Nat):Int)<=1000:=by rw[Int.natCast_mul,Int.toNat_of_nonneg (by omega),Int.mul_comm];exact hz
   exact Nat.le_of_lt (aT (by omega))
  refine⟨.ref s.heap.objs.size,upd H s.heap.objs.size (.tup (List.replicate k.toNat xs).flatten),I.laid (t':=s.toks) (fun b u e=>Heap.get?_push_of_some _ e) (Nat.le_refl _) ?_,rfl,q2 _ (I.hok.fresh (Nat.le_refl _))⟩;exact⟨hz2,_,r.rep k.toNat,⟨_,Heap.get?_push_size _ rfl,rfl,_,rfl⟩,_,Heap.get?_push_size _ rfl,rfl⟩
noncomputable def B8:A2:=fun x y Z Q=>∃(ds:List D)(k:Int),x=.d (.tup ds)/\y=.d (.int k)/\ds≠[]/\1<=k/\k<=1000/\(ds.length:Int)*k<=1000/\Q (.d (.tup (List.replicate k.toNat ds).flatten)) Z
theorem qR(x y:AV)(Z:Om)(Q:AV->Om->Prop):B8 x y Z Q=∃(ds:List D)(k:Int),x=.d (.tup ds)/\y=.d (.int k)/\ds≠[]/\1<=k/\k<=1000/\(ds.length:Int)*k<=1000/\Q (.d (.tup (List.replicate k.toNat ds).flatten)) Z:=rfl
theorem r8{G:Hp}{ds:List D}{vs:List V}(h:aG G ds vs):∀m:Nat,aG G (List.replicate m ds).flatten (List.replicate m vs).flatten
 |0=>by simp[aG]
 |m+1=>by
  rw[List.replicate_succ,List.replicate_succ,List.flatten_cons,List.flatten_cons];exact h.append (r8 h m)
theorem xy:eO BL B8:=⟨fun F H Z v u x y Q Q' rp h1 h2 ⟨ds,k',e1,e2,h0,b1,b2,z,q⟩ k=>by
 subst e1 e2;cases bG h2;have hd:=h1;simp only[RV,Dat] at hd;obtain⟨a,vs,rfl,q1,q2⟩:=hd;refine⟨a,k',vs,rfl,rfl,ba _ _ q1,fun e=>h0 (List.length_eq_zero_iff.mp (by rw[←q2.length,e];rfl)),b1,b2,by rw[q2.length];exact z,fun e=>?_,fun p hp=>?_⟩
 ·subst e
  have e3:(List.replicate (1:Int).toNat ds).flatten=ds:=by simp
  rw[e3] at q;exact k _ Z _ H rp .refl h1 q
 ·obtain⟨rp2,fr2,hc⟩:=rp.lay (o:=.tup (List.replicate k'.toNat vs).flatten) hp
  refine k _ Z _ _ rp2 fr2 ?_ q;simp only[RV,Dat]
  exact⟨p,_,rfl,hc,(r8 q2 k'.toNat).same fr2.same⟩⟩
end L2
namespace L2
open PySem PySem.Spec PyProof.Rows
section
open PySem.SeqAt
open PySem.AutoSeq1 (wpAny_loadPart')
open PySem.MeetsSeq PySem.MeetsSeq2 PySem.MeetsSeq3
open HT
end
end L2
namespace L2
open PySem PySem.Spec PyProof.Rows
open PySem.Builtin.Str
noncomputable def pb(l:List Nat):Nat->List Nat->List (List Nat)
 |s,[]=>[l.drop s]
 |s,k::ks=>(l.drop s).take (k-s)::pb l (k+1) ks
end L2
namespace L2
open PySem PySem.Spec PyProof.Rows
end L2
namespace L2
open PySem PySem.Spec PySem.Calls PyProof.Rows PySem.W PySem.Builtin PySem.Builtin.ObjectAttr
section
variable{prog:Program}{w:World}{A:Around}{E:Value->Shared->Prop}{s:Shared}{K:Frag}{x C:Addr}{o:Obj}{name:Str}{v:Value}
structure Fh(h h':Heap)(e:Addr)(o:Obj)(v:Value):Prop where
 at_:∃dx,h'.get? e=some { o with dict:=some dx }/\h'.Ns1 dx (fun y=>if y=("at":Str) then some v else none)/\h.get? dx=none/\h.objs.size<=dx
 keep:∀b u,b≠e->h.get? b=some u->h'.get? b=some u
end
end L2
namespace L2
open PySem PySem.Spec PyProof.Rows PySem.W
noncomputable def enC(C n:Nat):Nat:=(C+n)*(C+n)+n
noncomputable def atM(n:Nat)(tk:Tok):Str->Option Value:=fun y=>if y=("at":Str) then some (.int n tk) else none
structure Ea(h:Heap)(e dx:Addr)(n:Nat):Prop where
 ob:∃o,h.get? e=some o/\o.dict=some dx
 ns:∃tk,h.Ns1 dx (atM n tk)
noncomputable def CXn(P:Program)(w:World):CXT:=fun outer H s E e s'=>∃(a C t n dx:Addr)(H':Hp)(B:Heap),e=.ref a/\s'.os=s.os/\AllBare s'.gens/\Un (frs outer) [] H H' s.heap s'.heap/\HOk P w H' B /\
 Heap.FlyingW B outer a (.ref C) (.ref t) s'.heap/\(∀b o,s.heap.get? b=some o->H b=none->b ∉ frs outer->B.get? b=some o)/\(∀b o,s.heap.get? b=some o->b ∉ frs outer->∃o',B.get? b=some o')/\Ea s'.heap a dx n/\B.get? dx=none/\dx ∉ frs outer/\E (.ref a) (some (enC C n)) H'
structure FJ(h h':Heap)(e C t n dx:Addr):Prop where
 keeps:∀b o,h.get? b=some o->h'.get? b=some o
 new:h.get? e=none
 there:h'.get? e=some ⟨.ref C,some dx,.fields #[.ref t,.none,.none,.none,.bool false,.none],#[]⟩
 dnew:h.get? dx=none
 ns:∃tk,h'.Ns1 dx (atM n tk)
end L2
namespace L2
open PySem PySem.Spec PySem.Calls PyProof.Rows PySem.W
end L2
namespace L2
open PySem PySem.Spec PySem.Calls PyProof.Rows PySem.W PySem.Builtin PySem.Builtin.ObjectAttr PySem.Builtin.Getset_descriptor
end L2
namespace L2
open PySem PySem.Spec PyProof.Rows
structure FL(E:XK){α β:Type}(R:Hp->α->β->Prop)(t:St->Hp->(β->Hp->Prop)->Prop)(t':SA->Om->(α->Om->Prop)->(Addr->Om->Prop)->Prop):Prop where
 run:∀(F:Fs)(H:Hp)(Z:Om)(σ:St)(ρ:SA)(Q:β->Hp->Prop)(Q':α->Om->Prop)(Ex:Addr->Om->Prop),Rep F H Z->RS (cut F H Z) ρ σ->t' ρ Z Q' Ex->LP R F H Z Q' Q->LX F H Z Ex E->t σ H Q
noncomputable abbrev AEX:=SA->Om->(AV->Om->Prop)->(Addr->Om->Prop)->Prop
noncomputable abbrev AAX:=SA->Om->(List AV->Om->Prop)->(Addr->Om->Prop)->Prop
end L2
namespace L2
open PySem PySem.Spec PySem.Calls PyProof.Rows PySem.W
structure FN(P:Program)(w:World)(K:W.Frag)(mg:Str->Option Value)(base:Heap)(H₀:Hp)(k:Nat)(f:Addr)(n:Nat)(sp:Sp):Prop where
 fn:∃(oc:Value)(od:Option Addr)(fd:FuncData) (sl:Array (Option Value)) (u:HO),H₀ f=some (.frz ⟨oc,od,.func fd,sl⟩ u)
 len:∀vs H Q E,sp vs H Q E->vs.length=n
 run:∀(A:Around)(outer:List Env)(s:Shared)(H:Hp)(us:List Value)(vs:List V)(Q:VK)(E:XK),eB k A->tX P w K mg base A outer s H->Frz H₀ H->aQ vs us->sp vs H Q E ->
  codeAny (model P w) A (.call (.ref f) ⟨us,[]⟩) (CR (CXn P w) outer P w H s Q E) s
end L2
namespace L2
open PySem PySem.Spec PyProof.Rows
open PySem.Builtin.Str
end L2
namespace L2
open PySem PySem.Spec PyProof.Rows
end L2
namespace L2
open PySem
open PySem.SetTable (below insertAt has runEnd leap bits turns)
noncomputable def iL(xs:Array Nat):Prop:=xs.toList.Pairwise (· < ·)
theorem iL.get{xs:Array Nat}(h:iL xs){i j:Nat}(hij:i<j)(hj:j<xs.size):xs.getD i 0<xs.getD j 0:=by
 have:=(List.pairwise_iff_getElem.mp h) i j (by simpa using Nat.lt_trans hij hj) (by simpa using hj) hij
 simpa[Array.getD,hj,Nat.lt_trans hij hj] using this
theorem mO{xs:Array Nat}(hr:iL xs)(j:Nat):∀(fuel lo hi:Nat),hi-lo<=fuel->lo<=hi->hi<=xs.size->(∀k,k<lo->xs.getD k 0<j)->(∀k,hi<=k->k<xs.size->j<=xs.getD k 0) ->
  below.go xs j fuel lo hi<=xs.size/\(∀k,k<below.go xs j fuel lo hi->xs.getD k 0<j)/\(∀k,below.go xs j fuel lo hi<=k->k<xs.size->j<=xs.getD k 0)
 |0,lo,hi,h1,h2,h3,h4,h5=>by
  have:lo=hi:=by omega
  subst this;exact⟨h3,h4,h5⟩
 |fuel+1,lo,hi,h1,h2,h3,h4,h5=>by
  rw[below.go];by_cases hlt:lo<hi
  ·rw[if_pos hlt]
   have hm:(lo+hi) / 2<hi:=by omega
   have hm2:lo<=(lo+hi) / 2:=by omega
   have e:xs.getD ((lo+hi) / 2) j=xs.getD ((lo+hi) / 2) 0:=by
    have:(lo+hi) / 2<xs.size:=by omega
    simp[Array.getD,this]
   dsimp only;rw[e];by_cases hc:xs.getD ((lo+hi) / 2) 0<j
   ·rw[if_pos hc]
    refine mO hr j fuel _ hi (by omega) (by omega) h3 (fun k hk=>?_) h5
    rcases Nat.lt_or_ge k ((lo+hi) / 2) with h|h
    ·exact Nat.lt_trans (hr.get h (by omega)) hc
    ·rw[show k=(lo+hi) / 2 by omega];exact hc
   ·rw[if_neg hc]
    refine mO hr j fuel lo _ (by omega) (by omega) (by omega) h4 (fun k hk hks=>?_)
    rcases Nat.lt_or_ge ((lo+hi) / 2) k with h|h
    ·exact Nat.le_of_lt (Nat.lt_of_le_of_lt (Nat.le_of_not_lt hc) (hr.get h hks))
    ·rw[show k=(lo+hi) / 2 by omega];exact Nat.le_of_not_lt hc
  ·rw[if_neg hlt]
   have:lo=hi:=by omega
   subst this;exact⟨h3,h4,h5⟩
theorem cX{xs:Array Nat}(hr:iL xs)(j:Nat):below xs j<=xs.size/\(∀k,k<below xs j->xs.getD k 0<j)/\(∀k,below xs j<=k->k<xs.size->j<=xs.getD k 0):=
 mO hr j xs.size 0 xs.size (by omega) (Nat.zero_le _) (Nat.le_refl _) (fun k h=>by omega) (fun k h1 h2=>by omega)
theorem xF{xs:Array Nat}(hr:iL xs){i:Nat}(hi:i<xs.size):below xs (xs.getD i 0)=i:=by
 obtain⟨b1,b2,b3⟩:=cX hr (xs.getD i 0);rcases Nat.lt_trichotomy (below xs (xs.getD i 0)) i with h|h|h
 ·have:=b3 (below xs (xs.getD i 0)) (Nat.le_refl _) (by omega)
  have:=hr.get h hi;omega
 ·exact h
 ·have:=b2 i h
  omega
open PySem.SetTable in
theorem fR{t:SetTable}(hr:iL t.place){i j:Nat}(h:t.place[i]?=some j):t.slot j=.live i:=by
 have hi:=(Array.getElem?_eq_some_iff.mp h).1;have e:t.place.getD i 0=j:=by simp[Array.getD,hi,(Array.getElem?_eq_some_iff.mp h).2]
 have hb:=xF hr hi;rw[e] at hb;simp only[SetTable.slot,hb,h,beq_self_eq_true,if_true]
open PySem.SetTable in
theorem mZ{t:SetTable}(hr:iL t.place)(hd:t.dummies=#[]){j:Nat}(h:j ∉ t.place.toList):t.slot j=.empty:=by
 have h1:(t.place[below t.place j]? == some j)=false:=by
  rw[beq_eq_false_iff_ne];intro e;apply h;obtain⟨hi,e⟩:=Array.getElem?_eq_some_iff.mp e;rw[←e]
  simp
 have h2:has t.dummies j=false:=by rw[hd];rfl
 simp only[SetTable.slot,h1,h2,if_false,Bool.false_eq_true]
theorem sU{t:SetTable}(hr:iL t.place)(hd:t.dummies=#[])(j:Nat):(∃i,t.place[i]?=some j/\t.slot j=.live i)\/(j ∉ t.place.toList/\t.slot j=.empty):=by
 by_cases h:j∈t.place.toList
 ·obtain⟨i,hi⟩:=List.mem_iff_getElem?.mp h
  rw[Array.getElem?_toList] at hi;exact .inl ⟨i,hi,fR hr hi⟩
 ·exact .inr ⟨h,mZ hr hd h⟩
noncomputable def lL(m:Nat)(p:SetTable.Probe):SetTable.Probe:=
 if p.more>0 then { p with j:=p.j+1,more:=p.more-1 } else
 { p with j:=(leap m p.i p.perturb).1,more:=runEnd m (leap m p.i p.perturb).1-(leap m p.i p.perturb).1,i:=(leap m p.i p.perturb).1,perturb:=(leap m p.i p.perturb).2 }
noncomputable def Di(m:Nat)(h:Int):SetTable.Probe:={ j:=bits h%(m+1),more:=runEnd m (bits h%(m+1))-bits h%(m+1),i:=bits h%(m+1),perturb:=bits h,dummy:=none }
theorem sN(t:SetTable)(p:SetTable.Probe):t.advance p=lL t.mask p:=rfl
noncomputable def aK(m:Nat)(h:Int):Nat->SetTable.Probe
 |0=>Di m h
 |n+1=>lL m (aK m h n)
theorem lT(m:Nat)(h:Int):∀n,(aK m h n).dummy=none
 |0=>rfl
 |n+1=>by
  have:=lT m h n;rw[aK,lL];split<;>exact this
noncomputable def lpP(m:Nat)(h:Int):Nat->Nat×Nat
 |0=>(bits h%(m+1),bits h)
 |k+1=>leap m (lpP m h k).1 (lpP m h k).2
noncomputable def atP(m:Nat)(q:Nat×Nat)(d:Nat):SetTable.Probe:={ j:=q.1+d,more:=runEnd m q.1-q.1-d,i:=q.1,perturb:=q.2,dummy:=none }
theorem xI(m i:Nat):runEnd m i-i<=9/\i<=runEnd m i:=by
 unfold runEnd;split<;>omega
theorem jh(m:Nat)(h:Int)(k n:Nat)(e:aK m h n=atP m (lpP m h k) 0):∀d,d<=runEnd m (lpP m h k).1-(lpP m h k).1->aK m h (n+d)=atP m (lpP m h k) d
 |0,_=>e
 |d+1,hd=>by
  have ih:=jh m h k n e d (by omega)
  rw[show n+(d+1)=(n+d)+1 by omega,aK,ih,lL]
  have:(atP m (lpP m h k) d).more>0:=by show runEnd m (lpP m h k).1-(lpP m h k).1-d>0;omega
  rw[if_pos this];simp only[atP,SetTable.Probe.mk.injEq,true_and,and_true];omega
theorem nH(m:Nat)(h:Int):∀k,∃n,n<=10*k/\aK m h n=atP m (lpP m h k) 0
 |0=>⟨0,by omega,rfl⟩
 |k+1=>by
  obtain⟨n,hn,e⟩:=nH m h k;have hr:=xI m (lpP m h k).1;refine⟨n+(runEnd m (lpP m h k).1-(lpP m h k).1)+1,by omega,?_⟩
  rw[aK,jh m h k n e _ (Nat.le_refl _),lL,if_neg (by simp[atP])]
  simp only[atP,lpP,SetTable.Probe.mk.injEq,true_and,and_true,Nat.add_zero,Nat.sub_zero]
theorem oB(m:Nat)(h:Int):∀k,(lpP m h k).2=bits h / 32^k
 |0=>by simp[lpP]
 |k+1=>by
  rw[lpP,leap,oB m h k,Nat.div_div_eq_div_mul,Nat.pow_succ]
theorem A6(h:Int):bits h<2^64:=by
 unfold bits;have h1:=Int.emod_lt_of_pos h (show (0:Int)<2^64 by decide)
 have h2:=Int.emod_nonneg h (show (2^64:Int)≠0 by decide)
 omega
theorem Bp(m:Nat)(h:Int){k:Nat}(hk:13<=k):(lpP m h k).2=0:=by
 rw[oB];refine Nat.div_eq_of_lt (Nat.lt_of_lt_of_le (A6 h) ?_);exact Nat.le_trans (show 2^64<=32^13 by decide) (Nat.pow_le_pow_right (by decide) hk)
noncomputable def f5(m i:Nat):Nat:=(i*5+1)%(m+1)
noncomputable def it5(m:Nat):Nat->Nat->Nat
 |0,i=>i
 |k+1,i=>f5 m (it5 m k i)
theorem lc(m:Nat)(i:Nat):∀a b,it5 m (b+a) i=it5 m b (it5 m a i)
 |a,0=>by rw[Nat.zero_add];rfl
 |a,b+1=>by rw[show b+1+a=(b+a)+1 by omega,it5,it5,lc m i a b]
theorem sT(m:Nat)(h:Int):∀d,(lpP m h (13+d)).1=it5 m d (lpP m h 13).1
 |0=>rfl
 |d+1=>by
  rw[show 13+(d+1)=(13+d)+1 by omega,lpP,leap,Bp m h (by omega),it5,←sT m h d]
  simp[f5]
theorem gJ(m:Nat)(h:Int):∀k,(lpP m h k).1<=m
 |0=>Nat.le_of_lt_succ (Nat.mod_lt _ (Nat.succ_pos m))
 |k+1=>Nat.le_of_lt_succ (Nat.mod_lt _ (Nat.succ_pos m))
noncomputable def cL:List Nat:=[7,31,127]
theorem cyc:∀m∈cL,it5 m (m+1) 0=0/\∀j,j<m+1->∃a,a<m+1/\it5 m a 0=j:=by
 have:∀m∈cL,it5 m (m+1) 0=0/\∀j∈List.range (m+1),((List.range (m+1)).any fun a=>it5 m a 0 == j)=true:=by decide +kernel
 intro m hm;refine⟨(this m hm).1,fun j hj=>?_⟩;have h:=(this m hm).2 j (List.mem_range.mpr hj);rw[List.any_eq_true] at h;obtain⟨a,ha,e⟩:=h;exact⟨a,List.mem_range.mp ha,by simpa using e⟩
theorem vP{m:Nat}(hm:m∈cL){i j:Nat}(hi:i<=m)(hj:j<=m):∃a,a<m+1/\it5 m a i=j:=by
 obtain⟨c0,c1⟩:=cyc m hm;obtain⟨a,ha,ea⟩:=c1 i (by omega)
 obtain⟨b,hb,eb⟩:=c1 j (by omega)
 rcases Nat.lt_or_ge b a with h|h
 ·refine⟨m+1+b-a,by omega,?_⟩
  rw[←ea,←lc,show m+1+b-a+a=b+(m+1) by omega,lc,c0,eb]
 ·refine⟨b-a,by omega,?_⟩
  rw[←ea,←lc,show b-a+a=b by omega,eb]
theorem ye{m:Nat}(hm:m∈cL)(h:Int){j:Nat}(hj:j<=m):∃n,n<=10*(m+13)/\(aK m h n).j=j:=by
 obtain⟨a,ha,ea⟩:=vP hm (gJ m h 13) hj;obtain⟨n,hn,e⟩:=nH m h (13+a);refine⟨n,by omega,?_⟩
 rw[e];show (lpP m h (13+a)).1+0=j;rw[sT,ea,Nat.add_zero]
theorem oE(m:Nat)(h:Int):∀n,(aK m h n).j+(aK m h n).more<=m
 |0=>by
  have h1:=Nat.mod_lt (bits h) (show 0<m+1 by omega)
  show bits h%(m+1)+(runEnd m (bits h%(m+1))-bits h%(m+1))<=m;unfold runEnd;split<;>omega
 |n+1=>by
  have ih:=oE m h n;rw[aK,lL];split
  ·dsimp only;omega
  ·have h1:=Nat.mod_lt ((aK m h n).i*5+1+(aK m h n).perturb / 32) (show 0<m+1 by omega)
   dsimp only;unfold runEnd leap;split<;>dsimp only at *<;>omega
end L2
namespace L2
open PySem
open PySem.SetTable (below insertAt has runEnd leap bits turns)
structure Tb(t:SetTable)(hs:List Int):Prop where
 ris:iL t.place
 dum:t.dummies=#[]
 siz:t.place.size=hs.length
 msk:t.mask∈cL
 le:∀j∈t.place.toList,j<=t.mask
 few:hs.length*5<t.mask*3
 rch:∀(i j:Nat)(h:Int),t.place[i]?=some j->hs[i]?=some h->∃n,(aK t.mask h n).j=j/\∀q,q<n->(aK t.mask h q).j∈t.place.toList
theorem pk:∀ {ys xs:List Nat},xs.Pairwise (· < ·)->ys.Pairwise (· < ·)->(∀x∈xs,x∈ys)->xs.Sublist ys
 | [],[],_,_,_=>.slnil
 | [],x::xs,_,_,h=>absurd (h x (List.mem_cons_self ..)) (by simp)
 |y::ys,[],_,_,_=>List.nil_sublist _
 |y::ys,x::xs,hx,hy,h=>by
  rw[List.pairwise_cons] at hx hy;by_cases e:x=y
  ·subst e
   refine .cons_cons _ (pk hx.2 hy.2 fun z hz=>?_);have:=hx.1 z hz;rcases List.mem_cons.mp (h z (List.mem_cons_of_mem _ hz)) with e|e
   ·omega
   ·exact e
  ·have hxy:x∈ys:=(List.mem_cons.mp (h x (List.mem_cons_self ..))).resolve_left e
   have hlt:=hy.1 x hxy;refine .cons _ (pk (List.pairwise_cons.mpr hx) hy.2 fun z hz=>?_);rcases List.mem_cons.mp hz with e1|e1
   ·rw[e1];exact hxy
   ·have:=hx.1 z e1
    rcases List.mem_cons.mp (h z (List.mem_cons_of_mem _ e1)) with e2|e2
    ·omega
    ·exact e2
theorem rX(n:Nat):(List.range n).Pairwise (· < ·):=List.pairwise_lt_range
theorem wC{L:List Nat}{m:Nat}(hr:L.Pairwise (· < ·))(hl:L.length<m+1):∃j,j<=m/\j ∉ L:=by
 apply Classical.byContradiction;intro hn;have h:∀x∈List.range (m+1),x∈L:=fun x hx=>Classical.byContradiction fun h=>hn ⟨x,by have:=List.mem_range.mp hx;omega,h⟩
 have:=(pk (rX (m+1)) hr h).length_le;rw[List.length_range] at this;omega
theorem qN{P:Nat->Prop}:∀n,P n->∃k,k<=n/\P k/\∀q,q<k->¬ P q:=by
 intro n
 induction n using Nat.strongRecOn with
 |ind n ih=>
  intro h;by_cases hq:∃q,q<n/\P q
  ·obtain⟨q,h1,h2⟩:=hq
   obtain⟨k,a,b,c⟩:=ih q h1 h2;exact⟨k,by omega,b,c⟩
  ·exact⟨n,Nat.le_refl _,h,fun q h1 h2=>hq ⟨q,h1,h2⟩⟩
theorem uf{m:Nat}(hm:m∈cL){L:List Nat}(hr:L.Pairwise (· < ·))(hl:L.length<m+1)(h:Int):∃N,N<=10*(m+13)/\(aK m h N).j ∉ L/\∀q,q<N->(aK m h q).j∈L:=by
 obtain⟨j,hj,hn⟩:=wC hr hl;obtain⟨n,h1,h2⟩:=ye hm h hj;obtain⟨N,a,b,c⟩:=qN (P:=fun n=>(aK m h n).j ∉ L) n (by rw[h2];exact hn)
 exact⟨N,by omega,b,fun q hq=>Classical.byContradiction (c q hq)⟩
theorem Tb.F7{t:SetTable}{hs:List Int}(T:Tb t hs):t.place.toList.length<t.mask+1:=by
 have:=T.few;rw[Array.length_toList,T.siz];omega
theorem qk{t:SetTable}{hs:List Int}(T:Tb t hs){g:Nat->Int}(hg:∀(i:Nat)(h:Int),hs[i]?=some h->g i=h){h:Int}{N:Nat}(hN:(aK t.mask h N).j ∉ t.place.toList)(hb:∀q,q<N->(aK t.mask h q).j∈t.place.toList):∀(fuel n:Nat),n<=N->N<n+fuel ->
  (SetTable.probe.go t g h fuel (aK t.mask h n)=some (.empty (aK t.mask h N).j none)/\∀q,n<=q->q<N->∀i:Nat,t.place[i]?=some (aK t.mask h q).j->hs[i]?≠some h) \/
  (∃k i,n<=k/\k<N/\t.place[i]?=some (aK t.mask h k).j/\hs[i]?=some h/\SetTable.probe.go t g h fuel (aK t.mask h n)=some (.candidate (aK t.mask h k).j i (aK t.mask h (k+1)))/\∀q,n<=q->q<k->∀i:Nat,t.place[i]?=some (aK t.mask h q).j->hs[i]?≠some h)
 |0,n,h1,h2=>by omega
 |fuel+1,n,h1,h2=>by
  rw[SetTable.probe.go];rcases Nat.lt_or_ge n N with hlt|hge
  ·have hm:=hb n hlt
   obtain⟨i,hi,hsl⟩:=(sU T.ris T.dum (aK t.mask h n).j).resolve_right fun z=>z.1 hm;have his:i<hs.length:=by rw[←T.siz];exact(Array.getElem?_eq_some_iff.mp hi).1
   rw[hsl];dsimp only;have e:=hg i _ (List.getElem?_eq_getElem his);by_cases hh:hs[i]=h
   ·refine .inr ⟨n,i,Nat.le_refl _,hlt,hi,by rw[List.getElem?_eq_getElem his,hh],?_,fun q a b=>by omega⟩
    rw[if_pos (by rw[e,hh];simp)]
    rfl
   ·rw[if_neg (by rw[e];simpa using hh),sN]
    have uniq:∀i':Nat,t.place[i']?=some (aK t.mask h n).j->hs[i']?≠some h:=fun i' hi'=>by
     have h3:=fR T.ris hi';rw[hsl] at h3;injection h3 with h3;subst h3;rw[List.getElem?_eq_getElem his];intro z;injection z with z;exact hh z
    rcases qk T hg hN hb fuel (n+1) (by omega) (by omega) with⟨a,b⟩|⟨k,i',a1,a2,a3,a4,a5,a6⟩
    ·refine .inl ⟨a,fun q q1 q2 i' hi'=>?_⟩
     rcases Nat.eq_or_lt_of_le q1 with rfl|q1
     ·exact uniq i' hi'
     ·exact b q q1 q2 i' hi'
    ·refine .inr ⟨k,i',by omega,a2,a3,a4,a5,fun q q1 q2 i'' hi''=>?_⟩
     rcases Nat.eq_or_lt_of_le q1 with rfl|q1
     ·exact uniq i'' hi''
     ·exact a6 q q1 q2 i'' hi''
  ·have:n=N:=by omega
   subst this;rw[mZ T.ris T.dum hN];dsimp only;rw[lT];exact .inl ⟨rfl,fun q a b=>by omega⟩
theorem bV{α:Type}(xs:Array α)(p:Nat)(x:α):(insertAt xs p x).toList=xs.toList.take p++x::xs.toList.drop p:=SetTable.toList_insertAt xs p x
theorem Ac{α:Type}{l:List α}{p:Nat}{x y:α}:y∈l.take p++x::l.drop p↔y=x\/y∈l:=by
 rw[List.mem_append,List.mem_cons]
 conv=>rhs;rw[←List.take_append_drop p l,List.mem_append]
 constructor
 ·rintro(h|h|h)
  ·exact .inr (.inl h)
  ·exact .inl h
  ·exact .inr (.inr h)
 ·rintro(h|h|h)
  ·exact .inr (.inl h)
  ·exact .inl h
  ·exact .inr (.inr h)
theorem s9{xs:Array Nat}(hr:iL xs){j:Nat}(hj:j ∉ xs.toList):(∀x∈xs.toList.take (below xs j),x<j)/\(∀x∈xs.toList.drop (below xs j),j<x):=by
 obtain⟨b1,b2,b3⟩:=cX hr j;constructor
 ·intro x hx
  obtain⟨k,hk,rfl⟩:=List.mem_iff_getElem.mp hx;rw[List.length_take] at hk;have hk2:k<xs.size:=by rw[←Array.length_toList];omega
  have:=b2 k (by omega)
  rw[List.getElem_take,Array.getElem_toList];simpa[Array.getD,hk2] using this
 ·intro x hx
  obtain⟨k,hk,rfl⟩:=List.mem_iff_getElem.mp hx;rw[List.length_drop,Array.length_toList] at hk;have hk2:below xs j+k<xs.size:=by omega
  have:=b3 (below xs j+k) (by omega) hk2
  rw[List.getElem_drop,Array.getElem_toList];have h1:j<=xs[below xs j+k]:=by simpa[Array.getD,hk2] using this
  have h2:xs[below xs j+k]≠j:=fun e=>hj (by rw[←e,←Array.getElem_toList hk2];exact List.getElem_mem _)
  omega
theorem A3{xs:Array Nat}(hr:iL xs){j:Nat}(hj:j ∉ xs.toList):iL (insertAt xs (below xs j) j):=by
 obtain⟨h1,h2⟩:=s9 hr hj;unfold iL;rw[bV,List.pairwise_append,List.pairwise_cons];refine⟨hr.sublist (List.take_sublist _ _),⟨h2,hr.sublist (List.drop_sublist _ _)⟩,fun a ha b hb=>?_⟩;rcases List.mem_cons.mp hb with rfl|hb
 ·exact h1 a ha
 ·exact Nat.lt_trans (h1 a ha) (h2 b hb)
theorem mm{α:Type}{l:List α}{p i:Nat}(hp:p<=l.length){x y:α}(h:(l.take p++x::l.drop p)[i]?=some y):(i=p/\y=x)\/(i≠p/\l[if i<p then i else i-1]?=some y):=by
 have ht:(l.take p).length=p:=by rw[List.length_take];omega
 rcases Nat.lt_trichotomy i p with hi|hi|hi
 ·rw[List.getElem?_append_left (by omega),List.getElem?_take_of_lt hi] at h
  exact .inr ⟨by omega,by rw[if_pos hi];exact h⟩
 ·subst hi
  rw[List.getElem?_append_right (by omega),ht,Nat.sub_self,List.getElem?_cons_zero] at h
  injection h with h;exact .inl ⟨rfl,h.symm⟩
 ·rw[List.getElem?_append_right (by omega),ht,show i-p=(i-p-1)+1 by omega,List.getElem?_cons_succ,List.getElem?_drop,show p+(i-p-1)=i-1 by omega] at h
  exact .inr ⟨by omega,by rw[if_neg (by omega)];exact h⟩
theorem Tb.put{t:SetTable}{hs:List Int}(T:Tb t hs){h:Int}{N:Nat}(hN:(aK t.mask h N).j ∉ t.place.toList)(hb:∀q,q<N->(aK t.mask h q).j∈t.place.toList)(few:(hs.length+1)*5<t.mask*3):
  Tb (t.put (aK t.mask h N).j).1 (hs.take (t.put (aK t.mask h N).j).2++h::hs.drop (t.put (aK t.mask h N).j).2):=by
 have hp:=(cX T.ris (aK t.mask h N).j).1;have hjm:=oE t.mask h N;generalize hj:(aK t.mask h N).j=j at *;have e1:(t.put j).1.place=insertAt t.place (below t.place j) j:=rfl;have e2:(t.put j).2=below t.place j:=rfl;have e3:(t.put j).1.mask=t.mask:=rfl;have mem:∀y,y∈(t.put j).1.place.toList↔y=j\/y∈t.place.toList:=fun y=>by rw[e1,bV];exact Ac
 refine⟨by rw[e1];exact A3 T.ris hN,?_,?_,T.msk,fun y hy=>?_,?_,fun i y h' hi hh=>?_⟩
 ·show (if has t.dummies j then _ else t.dummies)=#[]
  rw[T.dum];rfl
 ·rw[e1,e2,←Array.length_toList,bV]
  have:=T.siz;have h2:t.place.toList.length=hs.length:=by rw[Array.length_toList];exact this
  simp only[List.length_append,List.length_cons,List.length_take,List.length_drop,h2]
 ·rcases(mem y).mp hy with rfl|hy
  ·show _<=t.mask;omega
  ·exact T.le y hy
 ·show _<t.mask*3
  simp only[List.length_append,List.length_cons,List.length_take,List.length_drop];rw[e2];have:=T.siz;omega
 ·rw[e1,←Array.getElem?_toList,bV] at hi
  rw[e2] at hh;have hps:below t.place j<=hs.length:=by rw[←T.siz];exact hp
  rw[e3];rcases mm (by rw[Array.length_toList];exact hp) hi with⟨i1,i2⟩|⟨i1,i2⟩
  ·rcases mm hps hh with⟨_,h2⟩|⟨h1,_⟩
   ·subst i2 h2
    exact⟨N,hj,fun q hq=>(mem _).mpr (.inr (hb q hq))⟩
   ·exact absurd i1 h1
  ·rcases mm hps hh with⟨h1,_⟩|⟨_,h2⟩
   ·exact absurd h1 i1
   ·rw[Array.getElem?_toList] at i2
    obtain⟨n,a,b⟩:=T.rch _ _ _ i2 h2;exact⟨n,a,fun q hq=>(mem _).mpr (.inr (b q hq))⟩
end L2
namespace L2
open PySem
open PySem.SetTable (below insertAt has runEnd leap bits turns layClean)
noncomputable def nsP(m:Nat)(h:Int):Nat->Nat
 |0=>0
 |k+1=>nsP m h k+(runEnd m (lpP m h k).1-(lpP m h k).1)+1
theorem o9(m:Nat)(h:Int):∀k,aK m h (nsP m h k)=atP m (lpP m h k) 0
 |0=>rfl
 |k+1=>by
  rw[nsP,aK,jh m h k _ (o9 m h k) _ (Nat.le_refl _),lL,if_neg (by simp[atP])]
  simp only[atP,lpP,SetTable.Probe.mk.injEq,true_and,and_true,Nat.add_zero,Nat.sub_zero]
theorem vk(m:Nat)(h:Int)(k:Nat):∀d,nsP m h k+d<=nsP m h (k+d)
 |0=>Nat.le_refl _
 |d+1=>by
  have:=vk m h k d;rw[show k+(d+1)=(k+d)+1 by omega,nsP]
  omega
theorem rA{m:Nat}(hm:m∈cL){F:Nat->Prop}{j:Nat}(hj:j<=m)(hf:F j)(h:Int):∃N,N<nsP m h (m+15)/\F (aK m h N).j/\∀q,q<N->¬ F (aK m h q).j:=by
 obtain⟨a,ha,ea⟩:=vP hm (gJ m h 13) hj
 have e:(aK m h (nsP m h (13+a))).j=j:=by
  rw[o9];show (lpP m h (13+a)).1+0=j;rw[sT,ea,Nat.add_zero]
 obtain⟨N,b,c,d⟩:=qN (P:=fun n=>F (aK m h n).j) (nsP m h (13+a)) (by rw[e];exact hf)
 have:=vk m h (13+a) (m+15-(13+a));rw[show 13+a+(m+15-(13+a))=m+15 by omega] at this
 exact⟨N,by omega,c,d⟩
noncomputable def qr(o:Array (Option Nat))(j:Nat):Prop:=∃k,o[j]?=some (some k)
theorem u7{m:Nat}{o:Array (Option Nat)}(hs:o.size=m+1){h:Int}{N:Nat}(hN:o[(aK m h N).j]?=some none)(hb:∀q,q<N->qr o (aK m h q).j):∀(fuel k:Nat),nsP m h k<=N->N<nsP m h (k+fuel) ->
  layClean.free m o fuel (lpP m h k).1 (lpP m h k).2=some (aK m h N).j
 |0,k,h1,h2=>by rw[Nat.add_zero] at h2;omega
 |fuel+1,k,h1,h2=>by
  rw[layClean.free];have hr:=xI m (lpP m h k).1;have hl:=gJ m h k;have pos:∀d,d<=runEnd m (lpP m h k).1-(lpP m h k).1->(aK m h (nsP m h k+d)).j=(lpP m h k).1+d:=fun d hd=>by rw[jh m h k _ (o9 m h k) d hd];rfl
  have hem:runEnd m (lpP m h k).1<=m:=by unfold runEnd;split<;>omega
  have val:∀d,d<=runEnd m (lpP m h k).1-(lpP m h k).1->∀v,o[(lpP m h k).1+d]?=some v->o.getD ((lpP m h k).1+d) (some 0)=v:=fun d hd v hv=>by
   obtain⟨hv1,hv2⟩:=Array.getElem?_eq_some_iff.mp hv;simp[Array.getD,hv1,hv2]
  by_cases hc:N<=nsP m h k+(runEnd m (lpP m h k).1-(lpP m h k).1)
  ·have hd:N-nsP m h k<=runEnd m (lpP m h k).1-(lpP m h k).1:=by omega
   have e:(List.range (runEnd m (lpP m h k).1+1-(lpP m h k).1)).find? (fun d=>(o.getD ((lpP m h k).1+d) (some 0)).isNone)=some (N-nsP m h k):=by
    rw[List.find?_range_eq_some];refine⟨?_,List.mem_range.mpr (by omega),fun d hd2=>?_⟩
    ·rw[val _ hd none (by rw[←pos _ hd,show nsP m h k+(N-nsP m h k)=N by omega];exact hN)]
     rfl
    ·obtain⟨v,hv⟩:=hb (nsP m h k+d) (by omega)
     rw[pos d (by omega)] at hv
     rw[val d (by omega) _ hv]
     rfl
   rw[e];dsimp only;rw[←pos _ hd,show nsP m h k+(N-nsP m h k)=N by omega]
  ·have e:(List.range (runEnd m (lpP m h k).1+1-(lpP m h k).1)).find? (fun d=>(o.getD ((lpP m h k).1+d) (some 0)).isNone)=none:=by
    rw[List.find?_eq_none];intro d hd2;have hd3:=List.mem_range.mp hd2;obtain⟨v,hv⟩:=hb (nsP m h k+d) (by omega)
    rw[pos d (by omega)] at hv
    rw[val d (by omega) _ hv]
    simp
   rw[e];dsimp only;exact u7 hs hN hb fuel (k+1) (by rw[nsP];omega) (by rw[show k+1+fuel=k+(fuel+1) by omega];exact h2)
structure Own(m:Nat)(hs:List Int)(o:Array (Option Nat)):Prop where
 siz:o.size=m+1
 prm:(o.toList.filterMap id).Perm (List.range hs.length)
 rch:∀(j k:Nat)(h:Int),o[j]?=some (some k)->hs[k]?=some h->∃n,(aK m h n).j=j/\∀q,q<n->qr o (aK m h q).j
theorem rR{k:Nat}:∀(l:List (Option Nat)) (j:Nat),l[j]?=some none->((l.set j (some k)).filterMap id).Perm (k::l.filterMap id)
 | [],j,h=>by simp at h
 |x::l,0,h=>by
  simp only[List.getElem?_cons_zero,Option.some.injEq] at h;subst h;simp
 |x::l,j+1,h=>by
  have ih:=rR (k:=k) l j (by simpa using h)
  rw[List.set_cons_succ]
  cases x with
  |none=>simpa using ih
  |some y=>
   simp only[List.filterMap_cons,id];exact(ih.cons y).trans (List.Perm.swap ..)
theorem vd:∀(l:List (Option Nat)),(l.filterMap id).length<l.length->∃j:Nat,l[j]?=some none
 | [],h=>by simp at h
 |none::l,_=>⟨0,rfl⟩
 |some x::l,h=>by
  obtain⟨j,hj⟩:=vd l (by simp only[List.filterMap_cons,id,List.length_cons] at h;omega)
  exact⟨j+1,by simpa using hj⟩
theorem Own.step{m:Nat}(hm:m∈cL){hs:List Int}{o:Array (Option Nat)}(O:Own m hs o)(hl:hs.length<m+1)(h:Int):
  ∃j,layClean.free m o (turns m) (bits h%(m+1)) (bits h)=some j/\Own m (hs++[h]) (o.setIfInBounds j (some hs.length)):=by
 have hln:(o.toList.filterMap id).length=hs.length:=by rw[O.prm.length_eq,List.length_range]
 have hol:o.toList.length=m+1:=by rw[Array.length_toList];exact O.siz
 obtain⟨j0,hj0⟩:=vd o.toList (by omega)
 rw[Array.getElem?_toList] at hj0;have hj0m:j0<=m:=by have:=(Array.getElem?_eq_some_iff.mp hj0).1;have:=O.siz;omega
 obtain⟨N,a,b,c⟩:=rA hm (F:=fun j=>o[j]?=some none) hj0m hj0 h
 have own:∀q,q<N->qr o (aK m h q).j:=fun q hq=>by
  have hq1:(aK m h q).j<o.size:=by have:=oE m h q;have:=O.siz;omega
  have hc:=c q hq
  cases e:o[(aK m h q).j]? with
  |none=>rw[Array.getElem?_eq_none_iff] at e;omega
  |some v=>cases v with
   |none=>exact absurd e hc
   |some k=>exact⟨k,e⟩
 refine⟨(aK m h N).j,u7 O.siz b own (turns m) 0 (Nat.zero_le _) (by rw[Nat.zero_add];exact a),?_⟩
 have hlt:(aK m h N).j<o.size:=(Array.getElem?_eq_some_iff.mp b).1
 have grow:∀j,qr o j->qr (o.setIfInBounds (aK m h N).j (some hs.length)) j:=fun j ⟨k,hk⟩=>by
  by_cases e:(aK m h N).j=j
  ·rw[←e,b] at hk;cases hk
  ·exact⟨k,by rw[Array.getElem?_setIfInBounds_ne e];exact hk⟩
 refine⟨by rw[Array.size_setIfInBounds];exact O.siz,?_,fun j k h' hj hk=>?_⟩
 ·rw[Array.toList_setIfInBounds,List.length_append,List.length_singleton,List.range_succ]
  refine(rR _ _ (by rw[Array.getElem?_toList];exact b)).trans ?_
  exact(O.prm.cons _).trans (List.perm_append_singleton ..).symm
 ·by_cases e:(aK m h N).j=j
  ·subst e
   rw[Array.getElem?_setIfInBounds_self_of_lt hlt] at hj;injection hj with hj;injection hj with hj;subst hj;rw[List.getElem?_append_right (Nat.le_refl _),Nat.sub_self] at hk;injection hk with hk;subst hk;exact⟨N,rfl,fun q hq=>grow _ (own q hq)⟩
  ·rw[Array.getElem?_setIfInBounds_ne e] at hj
   have hk1:k<hs.length:=by
    have:k∈o.toList.filterMap id:=by
     rw[List.mem_filterMap];exact⟨some k,List.mem_of_getElem? (by rw[Array.getElem?_toList];exact hj),rfl⟩
    have:=(O.prm.mem_iff).mp this;exact List.mem_range.mp this
   rw[List.getElem?_append_left hk1] at hk;obtain⟨n,a,b⟩:=O.rch j k h' hj hk;exact⟨n,a,fun q hq=>grow _ (b q hq)⟩
theorem qZ{m:Nat}(hm:m∈cL):∀(bi done:List Int) (o:Array (Option Nat)),Own m done o->(done++bi).length<m+1->∃o',Own m (done++bi) o' /\
  bi.foldl (fun(acc:Option (Array (Option Nat)×Nat)) h=>do
   let (owner,k) ← acc
   let j ← layClean.free m owner (turns m) (bits h%(m+1)) (bits h)
   pure (owner.setIfInBounds j (some k),k+1)) (some (o,done.length))=some (o',(done++bi).length)
 | [],done,o,O,_=>⟨o,by rw[List.append_nil];exact O,by rw[List.append_nil];rfl⟩
 |h::bi,done,o,O,hl=>by
  obtain⟨j,e,O'⟩:=O.step hm (by rw[List.length_append,List.length_cons] at hl;omega) h
  obtain⟨o',a,b⟩:=qZ hm bi (done++[h]) _ O' (by rw[List.append_assoc];exact hl)
  rw[List.append_assoc] at a b;refine⟨o',a,?_⟩;rw[List.foldl_cons];rw[List.length_append,List.length_singleton] at b;rw[List.singleton_append] at b;rw[←b]
  congr 1
  show (layClean.free m o (turns m) (bits h%(m+1)) (bits h)).bind _=_;rw[e];rfl
theorem Bf(m:Nat):Own m [] (Array.replicate (m+1) none):=by
 refine⟨by simp,?_,fun j k h hj hk=>by simp at hk⟩
 rw[Array.toList_replicate]
 have:∀n,(List.replicate n (none:Option Nat)).filterMap id=[]:=fun n=>by induction n with
  |zero=>rfl
  |succ n ih=>rw[List.replicate_succ,List.filterMap_cons];exact ih
 rw[this];exact .refl _
theorem wX{m:Nat}(hm:m∈cL){hs:List Int}(hl:hs.length<m+1):∃o,layClean m hs.toArray=some o/\Own m hs o:=by
 obtain⟨o,a,b⟩:=qZ hm hs [] _ (Bf m) hl;refine⟨o,?_,a⟩;unfold layClean;rw[List.foldl_toArray];rw[List.length_nil] at b;rw[b];rfl
theorem At{m:Nat}(hm:m∈cL){hs:List Int}(hl:hs.length*5<m*3)(fi mo:Nat)(led pl:Bool):∃t order,SetTable.laid m fi mo led pl hs.toArray=some (t,order)/\t.led=led/\t.plain=pl/\t.mask=m/\order.toList.Perm (List.range hs.length) /\
  Tb t (order.toList.map fun k=>hs.getD k 0):=by
 obtain⟨o,e,O⟩:=wX hm (hs:=hs) (by omega)
 generalize hL:((List.range (m+1)).filterMap fun j=>(o.getD j none).map fun k=>(j,k))=L
 have hmem:∀j k,(j,k)∈L↔o[j]?=some (some k):=fun j k=>by
  rw[←hL,List.mem_filterMap]
  constructor
  ·rintro⟨j',h1,h2⟩
   have hj:j'<o.size:=by rw[O.siz];exact List.mem_range.mp h1
   rw[Option.map_eq_some_iff] at h2;obtain⟨k',h3,h4⟩:=h2;injection h4 with h5 h6;subst h5 h6;rw[Array.getElem?_eq_getElem hj];simpa[Array.getD,hj] using h3
  ·intro h
   obtain⟨h1,h2⟩:=Array.getElem?_eq_some_iff.mp h;exact⟨j,List.mem_range.mpr (by rw[←O.siz];exact h1),by simp[Array.getD,h1,h2]⟩
 have hf:(L.map (·.1)).Pairwise (· < ·):=by
  rw[←hL,List.map_filterMap]
  refine List.Pairwise.filterMap _ (fun a a' haa b hb b' hb'=>?_) (rX (m+1))
  have e1:b=a:=by
   cases h:o.getD a none with
   |none=>rw[h] at hb;simp at hb
   |some k=>rw[h] at hb;simpa using hb.symm
  have e2:b'=a':=by
   cases h:o.getD a' none with
   |none=>rw[h] at hb';simp at hb'
   |some k=>rw[h] at hb';simpa using hb'.symm
  rw[e1,e2];exact haa
 have hsnd:L.map (·.2)=o.toList.filterMap id:=by
  rw[←hL,List.map_filterMap]
  have:o.toList=(List.range (m+1)).map fun j=>o.getD j none:=by
   refine List.ext_getElem? fun i=>?_;rw[Array.getElem?_toList,List.getElem?_map];by_cases hi:i<o.size
   ·rw[List.getElem?_range (by rw[←O.siz];exact hi),Array.getElem?_eq_getElem hi]
    simp[Array.getD,hi]
   ·rw[Array.getElem?_eq_none (by omega),List.getElem?_eq_none (by rw[List.length_range,←O.siz];omega)]
    rfl
  rw[this,List.filterMap_map]
  congr 1
  funext j
  simp only[Function.comp_apply,id,Option.map_map];cases o.getD j none<;>rfl
 have hlen:L.length=hs.length:=by
  have:=congrArg List.length hsnd;rw[List.length_map] at this;rw[this,O.prm.length_eq,List.length_range]
 refine⟨{ mask:=m,place:=(L.map (·.1)).toArray,dummies:=#[],finger:=fi,led:=led,moves:=mo,plain:=pl },(L.map (·.2)).toArray,?_,rfl,rfl,rfl,by show (L.map (·.2)).Perm _;rw[hsnd];exact O.prm,?_⟩
 ·unfold SetTable.laid
  rw[e];show some _=some _;rw[←hL]
 ·refine⟨hf,rfl,by simp[hlen],hm,fun j hj=>?_,by simp[hlen];exact hl,fun i j h hi hh=>?_⟩
  ·obtain⟨⟨j',k⟩,h1,h2⟩:=List.mem_map.mp hj
   have:=(Array.getElem?_eq_some_iff.mp ((hmem j' k).mp h1)).1;rw[O.siz] at this;have h2:j'=j:=h2;show j<=m;omega
  ·simp only[List.getElem?_toArray,List.getElem?_map,Option.map_eq_some_iff] at hi hh
   obtain⟨⟨j',k⟩,h1,h2⟩:=hi;obtain⟨k',⟨⟨j'',k''⟩,h3,h4⟩,h5⟩:=hh;rw[h1] at h3;injection h3 with h3;injection h3 with h3 h6;subst h2 h4 h3 h6;have hm2:=(hmem j' k).mp (List.mem_of_getElem? h1)
   have hk:k<hs.length:=by
    have:k∈o.toList.filterMap id:=by
     rw[←hsnd]
     exact List.mem_map.mpr ⟨(j',k),List.mem_of_getElem? h1,rfl⟩
    exact List.mem_range.mp ((O.prm.mem_iff).mp this)
   have hg:hs[k]?=some h:=by
    rw[List.getElem?_eq_getElem hk];rw[List.getD_eq_getElem?_getD,List.getElem?_eq_getElem hk] at h5;exact congrArg some h5
   obtain⟨n,a,b⟩:=O.rch j' k h hm2 hg;refine⟨n,a,fun q hq=>?_⟩;obtain⟨k2,hk2⟩:=b q hq;exact List.mem_map.mpr ⟨(_,k2),(hmem _ _).mpr hk2,rfl⟩
end L2
namespace L2
open PySem PySem.Spec PyProof.Rows
open PySem.SetTable (below insertAt turns)
structure SK(prog:Program)(w:World)(K:Type)[DecidableEq K] where
 is:Heap->K->Addr->Prop
 hash:K->Int
 draws:K->Nat
 frame:∀ {h h':Heap} {k:K} {b:Addr},is h k b->(∀c o,h.get? c=some o->o.cls=.type "tuple"->h'.get? c=some o)->is h' k b
 pyHash:∀ {A:Around} {E:Value->Shared->Prop} {s:Shared} {Q:Int->Shared->Prop} {k:K} {b:Addr},A.units+100<cLine->is s.heap k b->Q (hash k) { s with toks:=s.toks+draws k }->wpAny (model prog w) A (pyHash (.ref b)) Q E s
 eqBool:∀ {A:Around} {E:Value->Shared->Prop} {s:Shared} {Q:Bool->Shared->Prop} {k l:K} {a b:Addr},A.units+100<cLine->is s.heap k a->is s.heap l b->Q (decide (k=l)) s->wpAny (model prog w) A (PySem.eqBool (.ref a) (.ref b)) Q E s
 quiet:∀ {A:Around} {E:Value->Shared->Prop} {s:Shared} {Q:Bool->Shared->Prop} {k:K} {b:Addr},is s.heap k b->Q true s->wpAny (model prog w) A (eqIsQuiet 8 (.ref b)) Q E s
 noCl:∀ {A:Around} {E:Value->Shared->Prop} {s:Shared} {Q:Bool->Shared->Prop} {k:K} {b:Addr},is s.heap k b->Q false s->wpAny (model prog w) A (ofAClassStatement 8 (.ref b)) Q E s
 byV:∀ {A:Around} {E:Value->Shared->Prop} {s:Shared} {Q:Bool->Shared->Prop} {k:K} {b:Addr},is s.heap k b->Q true s->wpAny (model prog w) A (hashByValue 8 (.ref b)) Q E s
section
variable{prog:Program}{w:World}{K:Type}[DecidableEq K](knd:SK prog w K)
inductive Els (h:Heap):List (Int×Value)->List K->Prop
 |nil:Els h [] []
 |cons {k:K} {b:Addr} {l:List (Int×Value)} {ks:List K}:knd.is h k b->Els h l ks->Els h ((knd.hash k,.ref b)::l) (k::ks)
variable{knd}
theorem Els.len{h:Heap}{l:List (Int×Value)}{ks:List K}(e:Els knd h l ks):l.length=ks.length:=by
 induction e with
 |nil=>rfl
 |cons _ _ ih=>simp[ih]
theorem Els.frame{h h':Heap}{l:List (Int×Value)}{ks:List K}(e:Els knd h l ks)(f:∀c o,h.get? c=some o->o.cls=.type "tuple"->h'.get? c=some o):Els knd h' l ks:=by
 induction e with
 |nil=>exact .nil
 |cons x _ ih=>exact .cons (knd.frame x f) ih
theorem Els.get{h:Heap}{l:List (Int×Value)}{ks:List K}(e:Els knd h l ks):∀ {i:Nat} {k:K},ks[i]?=some k->∃b,l[i]?=some (knd.hash k,.ref b)/\knd.is h k b:=by
 induction e with
 |nil=>intro i k hi;simp at hi
 | @cons k0 b l ks x _ ih=>
  intro i k hi
  cases i with
  |zero=>cases hi;exact⟨b,rfl,x⟩
  |succ i=>exact ih hi
theorem Els.take{h:Heap}{l:List (Int×Value)}{ks:List K}(e:Els knd h l ks):∀n,Els knd h (l.take n) (ks.take n):=by
 induction e with
 |nil=>intro n;simp;exact .nil
 |cons x _ ih=>
  intro n
  cases n with
  |zero=>exact .nil
  |succ n=>exact .cons x (ih n)
theorem Els.drop{h:Heap}{l:List (Int×Value)}{ks:List K}(e:Els knd h l ks):∀n,Els knd h (l.drop n) (ks.drop n):=by
 induction e with
 |nil=>intro n;simp;exact .nil
 |cons x y ih=>
  intro n
  cases n with
  |zero=>exact .cons x y
  |succ n=>exact ih n
theorem Els.app{h:Heap}{l l':List (Int×Value)}{ks ks':List K}(e:Els knd h l ks)(e':Els knd h l' ks'):Els knd h (l++l') (ks++ks'):=by
 induction e with
 |nil=>exact e'
 |cons x _ ih=>exact .cons x ih
theorem Els.hashes{h:Heap}{l:List (Int×Value)}{ks:List K}(e:Els knd h l ks):l.map (·.1)=ks.map knd.hash:=by
 induction e with
 |nil=>rfl
 |cons _ _ ih=>simp[ih]
theorem Els.pick{h:Heap}{l:List (Int×Value)}{ks:List K}(e:Els knd h l ks):∀(ns:List Nat),(∀n∈ns,n<ks.length)->Els knd h (ns.filterMap (l[·]?)) (ns.filterMap (ks[·]?))
 | [],_=>.nil
 |n::ns,hn=>by
  have h1:=Els.pick e ns fun m hm=>hn m (List.mem_cons_of_mem _ hm);have hk:=List.getElem?_eq_getElem (hn n (List.mem_cons_self ..));obtain⟨b,h3,h4⟩:=e.get hk;rw[List.filterMap_cons,h3,List.filterMap_cons,hk];exact .cons h4 h1
variable(knd) in
noncomputable def iV(h:Heap)(a:Addr)(led:Bool)(ks:List K):Prop:=∃o es ep t,h.get? a=some o/\o.ExactSet/\o.data=.set es ep t/\t.led=led/\t.plain=true/\Tb t (ks.map knd.hash)/\Els knd h es.toList ks/\ks.Nodup
theorem Tb.fits{t:SetTable}{hs:List Int}(T:Tb t hs):t.fits hs.length=true:=by
 have:=T.few;have h2:=T.siz;simp only[SetTable.fits,SetTable.fill,T.dum,Bool.and_eq_true,beq_iff_eq,decide_eq_true_eq];refine⟨h2,?_⟩;show t.place.size+0<=t.mask;omega
theorem Tb.Ga{t:SetTable}{hs:List Int}(T:Tb t hs):t.gaveWay=false:=by
 have:∀m∈cL,(m%2 == 0)=false:=by decide
 exact this _ T.msk
variable{A:Around}{E:Value->Shared->Prop}{s:Shared}
theorem Bz{k:K}{b:Addr}(hb:knd.is s.heap k b):∀ {l:List (Int×Value)} {ks:List K},Els knd s.heap l ks->∀ {Q:Bool->Shared->Prop},Q false s->wpAny (model prog w) A (searchCouldBeSeen (.ref b) (l.map (·.2))) Q E s:=by
 intro l ks el Q q;unfold searchCouldBeSeen;refine wpAny_bind ?_;refine wpAny_forIn_list _ (fun bi r s'=>r.1=none/\s'=s/\∃l ks,bi=l.map (·.2)/\Els knd s.heap l ks) _ ?_ ?_ _ _ ⟨rfl,rfl,l,ks,rfl,el⟩
 ·rintro v bi r s' ⟨hr,rfl,l,ks,hl,el⟩
  cases el with
  |nil=>simp at hl
  | @cons k' b' l ks x el=>
   simp only[List.map_cons,List.cons.injEq] at hl;obtain⟨rfl,rfl⟩:=hl;dsimp only;split
   ·exact wpAny_pure ⟨rfl,rfl,l,ks,rfl,el⟩
   ·refine wpAny_bind (knd.quiet hb ?_)
    simp only[Bool.not_true,Bool.false_eq_true,if_false];refine wpAny_bind (knd.quiet x ?_);simp only[Bool.not_true,Bool.false_eq_true,if_false];refine wpAny_bind (knd.noCl hb ?_);simp only[Bool.false_eq_true,if_false];refine wpAny_bind (knd.noCl x ?_);simp only[Bool.false_eq_true,if_false];exact wpAny_pure ⟨rfl,rfl,l,ks,rfl,el⟩
 ·rintro⟨r1,r2⟩ s' ⟨hr,rfl,_⟩
  simp only at hr;subst hr;exact wpAny_pure q
end
section
variable{prog:Program}{w:World}{K:Type}[DecidableEq K]{knd:SK prog w K}{A:Around}{E:Value->Shared->Prop}{s:Shared}
noncomputable def Fz(t:SetTable)(ks:List K)(hash:K->Int)(k:K)(r:SetFound):Prop:=
 (k∈ks/\r=.there none)\/(k ∉ ks/\∃N,(aK t.mask (hash k) N).j ∉ t.place.toList/\(∀q,q<N->(aK t.mask (hash k) q).j∈t.place.toList)/\r=.free (aK t.mask (hash k) N).j false)
theorem nI{a b:Addr}{k:K}{ks:List K}{o:Obj}{es:Array (Int×Value)}{ep:Nat}{t:SetTable}{Q:SetFound->Shared->Prop}(hu:A.units+100<cLine)(hb:knd.is s.heap k b)(ho:s.heap.get? a=some o)(hd:o.data=.set es ep t)(T:Tb t (ks.map knd.hash))(el:Els knd s.heap es.toList ks)(nd:ks.Nodup){N:Nat}(hN:(aK t.mask (knd.hash k) N).j ∉ t.place.toList)(hbf:∀q,q<N->(aK t.mask (knd.hash k) q).j∈t.place.toList)(hNb:N<10*turns t.mask)(q:∀r,Fz t ks knd.hash k r->Q r s):∀(fuel n:Nat)(st:Option SetTable.Probe),st.getD (t.probeStart (knd.hash k))=aK t.mask (knd.hash k) n->n<=N->N-n<fuel ->
   (∀p,p<n->∀i:Nat,t.place[i]?=some (aK t.mask (knd.hash k) p).j->ks[i]?≠some k)->wpAny (model prog w) A (setSearchFrom a (.ref b) (knd.hash k) true fuel st) Q E s
 |0,n,st,_,_,h3,_=>by omega
 |fuel+1,n,st,h1,h2,h3,h4=>by
  have hsz:es.size=ks.length:=by rw[←Array.length_toList];exact el.len
  have hf:t.fits es.size=true:=by have:=T.fits;rwa [List.length_map,←hsz] at this
  unfold setSearchFrom;refine wpAny_bind (wpAny_setState_of ho hd hf ?_);dsimp only;rw[T.Ga,h1];simp only[Bool.false_eq_true,if_false]
  have P:=qk T (g:=fun i=>(es[i]?.map (·.1)).getD 0) (h:=knd.hash k) (fun i h hi=>by
   rw[List.getElem?_map,Option.map_eq_some_iff] at hi;obtain⟨k',hk',rfl⟩:=hi;obtain⟨b',h5,_⟩:=el.get hk';rw[Array.getElem?_toList] at h5
   rw[h5];rfl) hN hbf (10*turns t.mask) n h2 (by omega)
  rcases P with⟨e,nos⟩|⟨m,i,m1,m2,m3,m4,e,nos⟩
  ·erw [show SetTable.probe t (fun i=>(es[i]?.map (·.1)).getD 0) (knd.hash k) (aK t.mask (knd.hash k) n)=_ from e]
   dsimp only;refine wpAny_pure (q _ (.inr ⟨fun hk=>?_,N,hN,hbf,rfl⟩));obtain⟨i,hi⟩:=List.mem_iff_getElem?.mp hk;have hil:i<t.place.size:=by rw[T.siz,List.length_map];exact(List.getElem?_eq_some_iff.mp hi).1
   obtain⟨n',r1,r2⟩:=T.rch i _ _ (Array.getElem?_eq_getElem hil) (by rw[List.getElem?_map,hi];rfl)
   have hn':n'<N:=by
    rcases Nat.lt_trichotomy n' N with h|h|h
    ·exact h
    ·subst h;exact absurd (by rw[r1,←Array.getElem_toList hil];exact List.getElem_mem _) hN
    ·exact absurd (r2 N h) hN
   rcases Nat.lt_or_ge n' n with h|h
   ·exact h4 n' h i (by rw[r1];exact Array.getElem?_eq_getElem hil) hi
   ·exact nos n' h hn' i (by rw[r1];exact Array.getElem?_eq_getElem hil) (by rw[List.getElem?_map,hi];rfl)
  ·erw [show SetTable.probe t (fun i=>(es[i]?.map (·.1)).getD 0) (knd.hash k) (aK t.mask (knd.hash k) n)=_ from e]
   dsimp only;rw[List.getElem?_map,Option.map_eq_some_iff] at m4;obtain⟨k',hk',hhk⟩:=m4;obtain⟨b',h5,h6⟩:=el.get hk';rw[Array.getElem?_toList] at h5
   have bi:wpAny (model prog w) A (do
     let some (_,y):=es[i]?|unsupported "internal:set-entry"
     let equal ← holding [y] (eqBool y (.ref b))
     let (es',_,t') ← setState a
     if true && equal then return .there none
     let some same:=t'.sameMemory t.moves t.mask|unsupported "set.changed-during-lookup:is-the-new-block-at-the-old-address"
     let still ← match (if same then t'.slot (aK t.mask (knd.hash k) m).j else .empty) with
      |.live i'=>match es'[i']? with
       |some (_,y')=>do pure (if ← isSame y' y then some i' else none)
       |none=>pure none
      |_=>pure none
     match still with
     |none=>rule "set.search.anew";setSearchFrom a (.ref b) (knd.hash k) true fuel none
     |some i'=>if equal then return .there (some i') else setSearchFrom a (.ref b) (knd.hash k) true fuel (some (aK t.mask (knd.hash k) (m+1)))) Q E s:=by
    rw[h5];dsimp only;refine wpAny_bind (wpAny_holding (knd.eqBool hu h6 hb ?_));refine wpAny_bind (wpAny_setState_of ho hd hf ?_);dsimp only;by_cases hkk:k'=k
    ·rw[decide_eq_true hkk]
     simp only[Bool.and_self,if_true];exact wpAny_pure (q _ (.inl ⟨hkk ▸ List.mem_of_getElem? hk',rfl⟩))
    ·rw[decide_eq_false hkk]
     simp only[Bool.and_false,Bool.false_eq_true,if_false];have hsm:t.sameMemory t.moves t.mask=some true:=by unfold SetTable.sameMemory;simp
     rw[hsm];dsimp only;rw[if_pos rfl,fR T.ris m3];dsimp only;rw[h5];dsimp only;refine wpAny_bind (wpAny_isSame_ref_self (wpAny_bind (wpAny_pure ?_)));simp only[if_true];refine nI hu hb ho hd T el nd hN hbf hNb q fuel (m+1) _ rfl (by omega) (by omega) fun p hp i' hi'=>?_
     rcases Nat.lt_or_ge p n with h|h
     ·exact h4 p h i' hi'
     ·rcases Nat.lt_or_ge p m with h'|h'
      ·intro z
       exact nos p h h' i' hi' (by rw[List.getElem?_map,z];rfl)
      ·obtain rfl:p=m:=by omega
       have h7:=fR T.ris m3;rw[fR T.ris hi'] at h7;injection h7 with h7;subst h7;rw[hk'];intro z;exact hkk (Option.some.inj z)
   by_cases hl:t.led=true
   ·rw[hl]
    simp only[Bool.not_true,Bool.false_eq_true,if_false];exact bi
   ·rw[Bool.not_eq_true] at hl
    rw[hl];simp only[Bool.not_false,if_true];refine wpAny_bind ?_
    have hfl:∀l:List (Int×Value),∀ks:List K,Els knd s.heap l ks->∃ks',Els knd s.heap (l.filter fun e=>e.1 == knd.hash k) ks':=fun l ks h=>by
     induction h with
     |nil=>exact⟨[],.nil⟩
     | @cons k0 b0 l0 ks0 x _ ih=>
      obtain⟨ks',ih⟩:=ih;rw[List.filter_cons];split
      ·exact⟨_,.cons x ih⟩
      ·exact⟨_,ih⟩
    obtain⟨ks',hks⟩:=hfl _ _ el;rw[Array.toList_filter];refine Bz hb hks ?_;simp only[Bool.false_eq_true,if_false];exact bi
end
section
variable{prog:Program}{w:World}{K:Type}[DecidableEq K]{knd:SK prog w K}{A:Around}{E:Value->Shared->Prop}{s:Shared}
theorem mS{h:Heap}{a:Addr}{o:Obj}{es:Array (Int×Value)}{ep:Nat}{t:SetTable}(es':Array (Int×Value))(t':SetTable)(ho:h.get? a=some o)(hd:o.data=.set es ep t):
  (h.update a (Obj.putSet es' t')).get? a=some { o with data:=.set es' (ep+1) t' }:=by
 have:=Heap.get?_update_self (Obj.putSet es' t') ho (by rw[putSet_of es' t' hd];rfl)
 rwa [putSet_of es' t' hd] at this
theorem iT{h h':Heap}{a:Addr}{o:Obj}(ho:h.get? a=some o)(hx:o.ExactSet)(b:Heap.SameBut a h h'):∀c o',h.get? c=some o'->o'.cls=.type "tuple"->h'.get? c=some o':=fun c o' hc ht=>by
 have:c≠a:=fun e=>by
  subst e;rw[ho] at hc;cases hc;rw[hx.1] at ht;simp at ht
 rw[b.2 c this];exact hc
theorem og{ks:List K}{f:K->Int}:∀(ns:List Nat),(∀n∈ns,n<ks.length)->ns.map (fun i=>(ks.map f).getD i 0)=(ns.filterMap (ks[·]?)).map f
 | [],_=>rfl
 |n::ns,h=>by
  have hn:=h n (List.mem_cons_self ..);rw[List.map_cons,og ns fun m hm=>h m (List.mem_cons_of_mem _ hm),List.filterMap_cons,List.getElem?_eq_getElem hn,List.map_cons]
  congr 1
  rw[List.getD_eq_getElem?_getD,List.getElem?_map,List.getElem?_eq_getElem hn];rfl
theorem kf{ks:List K}{ns:List Nat}(h:ns.Perm (List.range ks.length)):(ns.filterMap (ks[·]?)).Perm ks:=by
 have:=h.filterMap (ks[·]?)
 rwa [List.filterMap_getElem?_range_length] at this
theorem yQ{a:Addr}{ks:List K}{o:Obj}{es:Array (Int×Value)}{ep:Nat}{t:SetTable}{m wn:Nat}{Q:Unit->Shared->Prop}(ho:s.heap.get? a=some o)(hx:o.ExactSet)(hd:o.data=.set es ep t)(hf:t.fits es.size=true)(el:Els knd s.heap es.toList ks)(nd:ks.Nodup)(hp:t.plain=true)(hw:SetTable.sizeAbove wn-1=m)(hw2:SetTable.sizeAbove wn<=sizeLine)(hm:m∈cL)(hl:ks.length*5<m*3)(q:∀h' ks',Heap.SameBut a s.heap h'->iV knd h' a t.led ks'->ks'.Perm ks->Q () { s with heap:=h' }):wpAny (model prog w) A (setRelay a wn) Q E s:=by
 unfold setRelay;refine wpAny_bind (wpAny_setState_of ho hd hf ?_);dsimp only;rw[if_neg (by omega)]
 have hsz:es.size=ks.length:=by rw[←Array.length_toList];exact el.len
 obtain⟨t',order,e,l1,l2,l3,pm,T'⟩:=At hm (hs:=ks.map knd.hash) (by rw[List.length_map];exact hl) t.finger (t.movedTo m) t.led t.plain
 have er:t.relaid (es.map (·.1)) wn=some (t',order):=by
  unfold SetTable.relaid;rw[hw,show es.map (·.1)=(ks.map knd.hash).toArray from by rw[←el.hashes];exact Array.toList_inj.mp (by rw[Array.toList_map]),e]
 rw[List.length_map] at pm;have hlt:∀n∈order.toList,n<ks.length:=fun n hn=>List.mem_range.mp ((pm.mem_iff).mp hn);have el':=el.pick order.toList hlt
 have ee:(order.filterMap (es[·]?)).toList=order.toList.filterMap (es.toList[·]?):=by
  rw[Array.toList_filterMap]
  congr 1
  funext i
  rw[Array.getElem?_toList]
 have es':(order.filterMap (es[·]?)).size=es.size:=by
  rw[←Array.length_toList,ee,el'.len,(kf pm).length_eq,hsz]
 rw[er];refine wpAny_bind (m:=(if ((order.filterMap (es[·]?)).size != es.size)=true then (do unsupported "internal:set-table-lost-an-element";pure (order.filterMap (es[·]?),t')) else pure (order.filterMap (es[·]?),t'):Sem (Array (Int×Value)×SetTable))) ?_
 rw[if_neg (by rw[es'];simp)]
 refine wpAny_pure ?_;dsimp only;refine wpAny_storeSet_of ho hd ?_ ?_
 ·have hb:=Heap.SameBut.update s.heap a (Obj.putSet (order.filterMap (es[·]?)) t')
  refine q _ (order.toList.filterMap (ks[·]?)) hb ⟨_,_,_,t',mS _ _ ho hd,hx,rfl,l1,by rw[l2,hp],?_,?_,(kf pm).nodup_iff.mpr nd⟩ (kf pm)
  ·rw[←og _ hlt];exact T'
  ·rw[ee];exact el'.frame (iT ho hx hb)
 ·rw[es',hsz]
  have:∀m∈cL,m*3<=1000:=by decide
  have:=this m hm;have:(1000:Nat)<=sizeLine:=by decide
  omega
theorem tZ{n m:Nat}(hm:m∈cL)(h1:n*5<m*3)(h2:m*3<=(n+1)*5)(h3:n+1<=76):∃m',m'∈cL/\SetTable.sizeAbove (SetTable.grown (n+1))-1=m'/\SetTable.sizeAbove (SetTable.grown (n+1))<=sizeLine/\(n+1)*5<m'*3:=by
 have hm':m=7\/m=31\/m=127:=by simpa[cL] using hm
 rcases hm' with rfl|rfl|rfl
 ·obtain rfl:n=4:=by omega
  exact⟨31,by decide,by decide,by decide,by decide⟩
 ·obtain rfl:n=18:=by omega
  exact⟨127,by decide,by decide,by decide,by decide⟩
 ·omega
theorem CI{a b:Addr}{k:K}{ks:List K}{led:Bool}{Q:Bool->Shared->Prop}(hu:A.units+100<cLine)(hb:knd.is s.heap k b)(S:iV knd s.heap a led ks)(hn:ks.length+1<=76)(q:∀r h' ks',Heap.SameBut a s.heap h'->iV knd h' a led ks'->(k∈ks/\ks'=ks)\/(k ∉ ks/\ks'.Perm (k::ks))->Q r { s with heap:=h' }):wpAny (model prog w) A (setAddHashed a (.ref b) (knd.hash k)) Q E s:=by
 obtain⟨o,es,ep,t,ho,hx,hd,hled,hpl,T,el,nd⟩:=S;have hsz:es.size=ks.length:=by rw[←Array.length_toList];exact el.len
 have hf:t.fits es.size=true:=by have:=T.fits;rwa [List.length_map,←hsz] at this
 unfold setAddHashed setAddHashedIn;refine wpAny_holding (wpAny_bind (wpAny_setState_of ho hd hf ?_));dsimp only;rw[show byScan (.ref b) es=false from by simp[byScan,Value.scannable]]
 simp only[Bool.false_eq_true,if_false];have hbig:10*(t.mask+13)<100000:=(by decide:∀m∈cL,10*(m+13)<100000) _ T.msk
 obtain⟨N,n1,n2,n3⟩:=uf T.msk T.ris T.F7 (knd.hash k);refine wpAny_bind (nI hu hb ho hd T el nd n2 n3 (by unfold SetTable.turns;omega) (fun r hr=>?_) 100000 0 none rfl (Nat.zero_le _) (by omega) (fun p hp=>by omega))
 rcases hr with⟨hk,rfl⟩|⟨hk,N',m1,m2,rfl⟩
 ·dsimp only
  refine wpAny_pure ?_;have e:s={ s with heap:=s.heap }:=by cases s;rfl
  rw[e];exact q false s.heap ks (Heap.SameBut.refl a s.heap) ⟨o,es,ep,t,ho,hx,hd,hled,hpl,T,el,nd⟩ (.inl ⟨hk,rfl⟩)
 ·dsimp only
  refine wpAny_bind (wpAny_setState_of ho hd hf ?_);dsimp only;have hp1:((t.put (aK t.mask (knd.hash k) N').j).1).plain=true:=hpl;rw[hp1];simp only[if_true];refine wpAny_bind (knd.byV hb ?_);simp only[if_true]
  have hps:(t.put (aK t.mask (knd.hash k) N').j).2<=ks.length:=by
   have:=(cX T.ris (aK t.mask (knd.hash k) N').j).1;have h2:=T.siz;rw[List.length_map] at h2;show below t.place _<=_;omega
  generalize hput:t.put (aK t.mask (knd.hash k) N').j=P at *
  have hs1:(insertAt es P.2 (knd.hash k,.ref b)).size=ks.length+1:=by
   rw[←Array.length_toList,bV]
   have:=el.len;simp only[List.length_append,List.length_cons,List.length_take,List.length_drop];omega
  have hz:(100000:Nat)<=sizeLine:=by decide
  refine wpAny_bind (wpAny_storeSet_of ho hd ?_ (by rw[hs1];omega))
  have hb1:=Heap.SameBut.update s.heap a (Obj.putSet (insertAt es P.2 (knd.hash k,.ref b)) P.1);have ho1:=mS (insertAt es P.2 (knd.hash k,.ref b)) P.1 ho hd;have fr:=iT ho hx hb1
  have el1:Els knd (s.heap.update a (Obj.putSet (insertAt es P.2 (knd.hash k,.ref b)) P.1)) (insertAt es P.2 (knd.hash k,.ref b)).toList (ks.take P.2++k::ks.drop P.2):=by
   rw[bV];exact((el.take P.2).app (.cons hb (el.drop P.2))).frame fr
  have pm:(ks.take P.2++k::ks.drop P.2).Perm (k::ks):=by
   have:=List.perm_middle (a:=k) (l₁:=ks.take P.2) (l₂:=ks.drop P.2)
   rwa [List.take_append_drop] at this
  have nd1:(ks.take P.2++k::ks.drop P.2).Nodup:=pm.nodup_iff.mpr (List.nodup_cons.mpr ⟨hk,nd⟩);have few:=T.few;rw[List.length_map] at few
  have hpl1:P.1.place.size=ks.length+1:=by
   have h2:=T.siz;rw[List.length_map] at h2;rw[←hput]
   show (insertAt t.place _ _).size=_;rw[←Array.length_toList,bV]
   have:=(cX T.ris (aK t.mask (knd.hash k) N').j).1;simp only[List.length_append,List.length_cons,List.length_take,List.length_drop,Array.length_toList];omega
  have hdm:P.1.dummies=#[]:=by
   rw[←hput]
   show (if SetTable.has t.dummies _ then _ else t.dummies)=#[]
   rw[T.dum];rfl
  have hmk:P.1.mask=t.mask:=by rw[←hput];rfl
  have hfill:P.1.fill=ks.length+1:=by unfold SetTable.fill;rw[hpl1,hdm];rfl
  by_cases hfull:P.1.tooFull=true
  ·rw[hfull]
   simp only[Bool.not_false,Bool.and_self,if_true]
   have hge:t.mask*3<=(ks.length+1)*5:=by
    unfold SetTable.tooFull at hfull;rw[hfill,hmk] at hfull;simpa using hfull
   obtain⟨m',g1,g2,g3,g4⟩:=tZ T.msk few hge hn;have e1:es.size+1=ks.length+1:=by rw[hsz]
   rw[e1];refine wpAny_bind (yQ (s:={ s with heap:=_ }) ho1 hx rfl ?_ el1 nd1 hp1 g2 g3 g1 (by rw[pm.length_eq,List.length_cons];exact g4) fun h' ks' hb2 S2 pm2=>?_)
   ·rw[hs1]
    unfold SetTable.fits;rw[hpl1,hfill,hmk];simp only[beq_self_eq_true,Bool.true_and,decide_eq_true_eq];have:∀m∈cL,7<=m:=by decide
    have:=this _ T.msk;omega
   ·refine wpAny_pure (q true h' ks' (hb1.trans hb2) ?_ (.inr ⟨hk,pm2.trans pm⟩))
    have hl2:P.1.led=led:=by rw[←hput];exact hled
    rwa [hl2] at S2
  ·rw[Bool.not_eq_true] at hfull
   rw[hfull];simp only[Bool.and_false,Bool.false_eq_true,if_false]
   have hlt:(ks.length+1)*5<t.mask*3:=by
    unfold SetTable.tooFull at hfull;rw[hfill,hmk] at hfull;simpa using hfull
   refine wpAny_pure (q true _ (ks.take P.2++k::ks.drop P.2) hb1 ⟨_,_,_,P.1,ho1,hx,rfl,by rw[←hput];exact hled,hp1,?_,el1,nd1⟩ (.inr ⟨hk,pm⟩))
   have:=T.put m1 m2 (by rw[List.length_map];exact hlt)
   rw[hput] at this;rw[List.map_append,List.map_cons,List.map_take,List.map_drop];exact this
end
end L2
set_option maxRecDepth 1000000
set_option maxHeartbeats 4000000
namespace L2
open PySem PySem.Spec PyProof.Rows
open PySem.SetTable (below)
theorem jj:Manifest.owners.lookup (String.ofList ['r','o','t','a','r','e','t','i','_','t','e','s'].reverse)=some Manifest.sig_set_iterator:=by kernel_rfl
theorem cn:Slot "set_iterator" "__next__" "set_iterator.__next__":=
 .of (owner:="set_iterator") (n:="__next__") (by rw[typeLookup_type,builtinLookup_eq_fast];kernel_rfl) (by decide +kernel) (by decide +kernel) (by decide +kernel)
  (by first|exact .inl (by decide +kernel)|exact .inr (by decide +kernel)) (by rw[isSubtype_type];kernel_rfl)
theorem gR:entryFor table "set_iterator.__next__"=some Builtin.«set_iterator.__next__»:=entryFor_of_tree (by kernel_rfl)
theorem iC(a:Value):argsOk "set_iterator.__next__" ⟨[a],[]⟩:=by
 unfold argsOk;rw[signature?_of (id:="set_iterator.__next__") (n:=['_','_','t','x','e','n','_','_']) (o:=['r','o','t','a','r','e','t','i','_','t','e','s']) (by kernel_rfl) jj];kernel_rfl
theorem m6{α:Type}:∀(l:List α)(i:Nat)(h:i<l.length),(l[i]::l.eraseIdx i).Perm l
 |a::l,0,_=>.refl _
 |a::l,i+1,h=>by
  have ih:=m6 l i (by simpa using h)
  rw[List.eraseIdx_cons_succ];exact(List.Perm.swap ..).trans (ih.cons a)
theorem vt{α:Type}(f:Nat->Nat):∀(fuel k:Nat)(left:List α)(out:Array α),left.length<=fuel->(pickOrder.go f fuel k left out).toList.Perm (out.toList++left)
 |0,k,left,out,h=>by
  have:left=[]:=List.length_eq_zero_iff.mp (by omega)
  subst this;rw[List.append_nil];exact .refl _
 |fuel+1,k,left,out,h=>by
  rw[pickOrder.go]
  cases e:left[f k%left.length]? with
  |none=>
   dsimp only
   have:left=[]:=by
    rw[List.getElem?_eq_none_iff] at e
    cases left with
    |nil=>rfl
    |cons a l=>have:=Nat.mod_lt (f k) (show 0<(a::l).length by simp);omega
   subst this;simp
  |some x=>
   dsimp only;have hlt:=(List.getElem?_eq_some_iff.mp e).1;have hx:=(List.getElem?_eq_some_iff.mp e).2;have ih:=vt f fuel (k+1) (left.eraseIdx (f k%left.length)) (out.push x) (by rw[List.length_eraseIdx_of_lt hlt];omega)
   rw[Array.toList_push,List.append_assoc] at ih;refine ih.trans (List.Perm.append_left _ ?_);have:=m6 left _ hlt;rw[hx] at this;exact this
theorem tO{α:Type}(f:Nat->Nat)(xs:Array α):(pickOrder f xs).toList.Perm xs.toList:=by
 have:=vt f xs.size 0 xs.toList #[] (by simp)
 simpa[pickOrder] using this
section
variable{prog:Program}{w:World}{K:Type}[DecidableEq K]{knd:SK prog w K}{A:Around}{E:Value->Shared->Prop}{s:Shared}
noncomputable def dw(w:World)(a:Addr)(es:Array (Int×Value))(ep:Nat):Array (Int×Value):=if w.params.followText "set-order"=true then pickOrder (w.params.setOrder a ep) es else es
theorem hW(w:World)(a:Addr)(es:Array (Int×Value))(ep:Nat):(dw w a es ep).toList.Perm es.toList:=by
 unfold dw;split
 ·exact tO _ _
 ·exact .refl _
noncomputable def bv(w:World)(h:Heap)(it S:Addr)(t:SetTable)(i n ep:Nat):Prop:=
 ∃(o:Obj)(sl:Nat),h.get? it=some o/\o.cls=.type "set_iterator"/\o.data=.fields #[.int sl 0,.int i 0,.ref S,.int n 0,.int ep 0]/\(w.params.followText "set-order"=false->below t.place sl=i)
theorem bv.typeIs{h:Heap}{it S:Addr}{t:SetTable}{i n ep:Nat}{s:Shared}(x:bv w s.heap it S t i n ep):s.TypeIs (.ref it) "set_iterator":=let ⟨o,_,ho,hc,_⟩:=x;⟨o,ho,hc⟩
theorem sW{xs:Array Nat}(hr:iL xs){i j:Nat}(h:xs[i]?=some j):below xs (j+1)=i+1:=by
 obtain⟨hi,hj⟩:=Array.getElem?_eq_some_iff.mp h;obtain⟨b1,b2,b3⟩:=cX hr (j+1);have e:xs.getD i 0=j:=by simp[Array.getD,hi,hj]
 rcases Nat.lt_trichotomy (below xs (j+1)) (i+1) with h1|h1|h1
 ·have:=b3 i (by omega) hi
  omega
 ·exact h1
 ·have h2:=b2 (i+1) (by omega)
  have h3:=hr.get (show i<i+1 by omega) (show i+1<xs.size by omega)
  omega
theorem mJ{S:Addr}{o:Obj}{es:Array (Int×Value)}{ep i sl:Nat}{t:SetTable}{hs:List Int}{Q:Option (Value×Nat)->Shared->Prop}(ho:s.heap.get? S=some o)(hd:o.data=.set es ep t)(T:Tb t hs)(hsz:es.size=hs.length)(hled:t.led=!w.params.followText "set-order")(hpl:t.plain=true)(hbl:w.params.followText "set-order"=false->below t.place sl=i)(q1:∀e,(dw w S es ep)[i]?=some e->∀nx,(w.params.followText "set-order"=false->below t.place nx=i+1)->Q (some (e.2,nx)) s)(q2:(dw w S es ep)[i]?=none->Q none s):wpAny (model prog w) A (setNext S sl i ep) Q E s:=by
 have hf:t.fits es.size=true:=by rw[hsz];exact T.fits
 unfold setNext;refine wpAny_bind (wpAny_setState_of ho hd hf ?_);dsimp only;unfold setsByText;refine wpAny_bind (wpAny_bind (wpAny_askSetting (wpAny_pure ?_)))
 cases hft:w.params.followText "set-order" with
 |true=>
  have hw:dw w S es ep=pickOrder (w.params.setOrder S ep) es:=by unfold dw;rw[hft];rfl
  rw[show (⟨(model prog w).prog,(model prog w).w.params⟩:Setting).params.followText "set-order"=true from hft]
  simp only[if_true,bne_self_eq_false,Bool.false_eq_true,if_false];refine wpAny_bind ?_;unfold setWalk;refine wpAny_bind (wpAny_setState_of ho hd hf ?_);dsimp only;unfold setsByText;refine wpAny_bind (wpAny_bind (wpAny_askSetting (wpAny_pure ?_)));rw[show (⟨(model prog w).prog,(model prog w).w.params⟩:Setting).params.followText "set-order"=true from hft]
  simp only[if_true];refine wpAny_bind (wpAny_askSetting (wpAny_pure (wpAny_pure ?_)));show Q (((pickOrder (w.params.setOrder S ep) es)[i]?).map fun e=>(e.2,sl)) s;rw[←hw]
  cases he:(dw w S es ep)[i]? with
  |none=>exact q2 he
  |some e=>exact q1 e he sl fun z=>by rw[hft] at z;cases z
 |false=>
  have hw:dw w S es ep=es:=by unfold dw;rw[hft];rfl
  rw[show (⟨(model prog w).prog,(model prog w).w.params⟩:Setting).params.followText "set-order"=false from hft]
  simp only[Bool.false_eq_true,if_false];have hl:t.led=true:=by rw[hled,hft];rfl
  split
  ·rename_i hdr
   have:(!t.plain && decide (es.size>1))=true:=hdr;rw[hpl] at this;simp at this
  ·refine wpAny_bind ?_
   show wpAny _ _ (if (!t.led && !es.isEmpty)=true then unsupported _ else pure ()) _ _ _
   rw[hl];simp only[Bool.not_true,Bool.false_and,Bool.false_eq_true,if_false];refine wpAny_pure (wpAny_pure ?_);rw[hbl hft];have hps:t.place.size=es.size:=by rw[hsz];exact T.siz
   cases he:es[i]? with
   |none=>exact q2 (by rw[hw];exact he)
   |some e=>
    have hi:=(Array.getElem?_eq_some_iff.mp he).1;rw[Array.getElem?_eq_getElem (show i<t.place.size by omega)]
    exact q1 e (by rw[hw];exact he) _ fun _=>sW T.ris (Array.getElem?_eq_getElem (show i<t.place.size by omega))
theorem wI{it S:Addr}{o:Obj}{es:Array (Int×Value)}{ep i:Nat}{t:SetTable}{hs:List Int}{e:Int×Value}{Q:Option Value->Shared->Prop}(hit:bv w s.heap it S t i es.size ep)(ho:s.heap.get? S=some o)(hd:o.data=.set es ep t)(T:Tb t hs)(hsz:es.size=hs.length)(hled:t.led=!w.params.followText "set-order")(hpl:t.plain=true)(he:(dw w S es ep)[i]?=some e)(q:∀h',bv w h' it S t (i+1) es.size ep->Heap.SameBut it s.heap h'->Q (some e.2) { s with heap:=h' }):wpAny (model prog w) A (pyNext (.ref it)) Q E s:=by
 obtain⟨oi,sl,hoi,hci,hdi,hbl⟩:=id hit;have hf:t.fits es.size=true:=by rw[hsz];exact T.fits
 unfold pyNext
 refine wpAny_bind (wpAny_attempt (wpAny_callSpecial?_slot (name:=Str.ofString "__next__") (bv.typeIs hit (h:=s.heap)) cn
  (wpAny_call_entry cn (bv.typeIs hit (h:=s.heap)) gR ?_ (iC _))))
 unfold Builtin.«set_iterator.__next__»;refine wpAny_bind (wpAny_pure ?_);refine wpAny_bind (wpAny_fieldsOf hoi hdi ?_);dsimp only;refine wpAny_bind (wpAny_setEntries_of ho hd hf ?_);simp only[bne_self_eq_false,Bool.false_eq_true,if_false,Int.toNat_natCast];refine wpAny_bind (mJ ho hd T hsz hled hpl hbl (fun e' he' nx hnx=>?_) fun z=>by rw[z] at he;cases he)
 rw[he] at he';cases he';dsimp only;have g1:(s.heap.update it (Obj.mapFields fun x=>x.setIfInBounds 0 (rawInt nx))).get? it=some (Obj.mapFields (fun x=>x.setIfInBounds 0 (rawInt nx)) oi):=Heap.get?_update_self _ hoi (Obj.isFreed_of_fields (Obj.data_mapFields hdi _));have d1:=Obj.data_mapFields hdi (fun x=>x.setIfInBounds 0 (rawInt nx));refine wpAny_bind (wpAny_setField hoi hdi (by simp) ?_)
 refine wpAny_bind (wpAny_setField g1 d1 (by simp) (wpAny_pure ⟨e.2,rfl,wpAny_pure (q _ ?_ ((Heap.SameBut.update ..).trans (Heap.SameBut.update ..)))⟩))
 refine⟨_,nx,Heap.get?_update_self _ g1 (Obj.isFreed_of_fields (Obj.data_mapFields d1 _)),?_,?_,hnx⟩
 ·rw[Obj.cls_mapFields,Obj.cls_mapFields];exact hci
 ·rw[Obj.data_mapFields d1]
  simp[rawInt]
theorem xz{it S:Addr}{o:Obj}{es:Array (Int×Value)}{ep i:Nat}{t:SetTable}{hs:List Int}{Q:Option Value->Shared->Prop}(hh:A.handled=none)(hit:bv w s.heap it S t i es.size ep)(ho:s.heap.get? S=some o)(hd:o.data=.set es ep t)(T:Tb t hs)(hsz:es.size=hs.length)(hled:t.led=!w.params.followText "set-order")(hpl:t.plain=true)(he:(dw w S es ep)[i]?=none)(q:∀h',Heap.ExtBut it s.heap h'->Q none { s with heap:=h' }):wpAny (model prog w) A (pyNext (.ref it)) Q E s:=by
 obtain⟨oi,sl,hoi,hci,hdi,hbl⟩:=id hit;have hf:t.fits es.size=true:=by rw[hsz];exact T.fits
 unfold pyNext
 refine wpAny_bind (wpAny_attempt (wpAny_callSpecial?_slot (name:=Str.ofString "__next__") (bv.typeIs hit (h:=s.heap)) cn
  (wpAny_call_entry cn (bv.typeIs hit (h:=s.heap)) gR ?_ (iC _))))
 unfold Builtin.«set_iterator.__next__»;refine wpAny_bind (wpAny_pure ?_);refine wpAny_bind (wpAny_fieldsOf hoi hdi ?_);dsimp only;refine wpAny_bind (wpAny_setEntries_of ho hd hf ?_);simp only[bne_self_eq_false,Bool.false_eq_true,if_false,Int.toNat_natCast];refine wpAny_bind (mJ ho hd T hsz hled hpl hbl (fun e' he' nx hnx=>by rw[he] at he';cases he') fun z=>?_)
 dsimp only;refine wpAny_bind (wpAny_setField hoi hdi (by simp) ?_)
 show wpAny _ _ (newExc (.type "StopIteration") [] >>= _) _ _ _;refine wpAny_bind ?_;simp only[newExc,newTuple];refine wpAny_bind (wpAny_newObj_type ?_ (by size_fits))
 refine wpAny_bind (m:=firstArgMember _ _) (wpAny_of_eq (a:=Value.none) (by first|rfl|(simp only[firstArgMember];rfl)) ?_)
 refine wpAny_newObj_type ?_ (by size_fits)
 simp only[raiseNew];refine wpAny_bind (wpAny_handled ?_);rw[show A.in1.handled=none from hh]
 refine wpAny_bind (wpAny_pure (wpAny_throw ?_));refine wpAny_bind (wpAny_isInstance (T:="StopIteration") (b:=true) ⟨_,Heap.get?_push_size _ rfl,rfl⟩ isSubtype_stop ?_);exact wpAny_pure (q _ (((Heap.SameBut.update ..).extBut.push _).push _))
end
theorem lS:entryFor table "set.__iter__"=some Builtin.«frozenset.__iter__»:=entryFor_alias (id':="frozenset.__iter__") (by kernel_rfl) rfl (by decide +kernel) (by kernel_rfl)
theorem kS:Slot "set_iterator" "__iter__" "set_iterator.__iter__":=
 .of (owner:="set_iterator") (n:="__iter__") (by rw[typeLookup_type,builtinLookup_eq_fast];kernel_rfl) (by decide +kernel) (by decide +kernel) (by decide +kernel)
  (by first|exact .inl (by decide +kernel)|exact .inr (by decide +kernel)) (by rw[isSubtype_type];kernel_rfl)
theorem pP:entryFor table "set_iterator.__iter__"=some Builtin.«dict_keyiterator.__iter__»:=entryFor_alias (id':="dict_keyiterator.__iter__") (by kernel_rfl) rfl (by decide +kernel) (by kernel_rfl)
theorem qI(a:Value):argsOk "set_iterator.__iter__" ⟨[a],[]⟩:=by
 unfold argsOk;rw[signature?_of (id:="set_iterator.__iter__") (n:=['_','_','r','e','t','i','_','_']) (o:=['r','o','t','a','r','e','t','i','_','t','e','s']) (by kernel_rfl) jj];kernel_rfl
section
variable{prog:Program}{w:World}{K:Type}[DecidableEq K]{knd:SK prog w K}{A:Around}{E:Value->Shared->Prop}{s:Shared}
theorem t6{xs:Array Nat}(hr:iL xs):below xs 0=0:=by
 obtain⟨b1,b2,b3⟩:=cX hr 0;rcases Nat.eq_zero_or_pos (below xs 0) with h|h
 ·exact h
 ·have:=b2 0 h
  omega
theorem yw{S:Addr}{o:Obj}{es:Array (Int×Value)}{ep:Nat}{t:SetTable}{hs:List Int}{Q:Value->Shared->Prop}(ho:s.heap.get? S=some o)(hx:o.ExactSet)(hd:o.data=.set es ep t)(T:Tb t hs)(hsz:es.size=hs.length)(hpl:t.plain=true)(q:bv w (s.heap.push { cls:=.type "set_iterator",data:=.fields #[.int 0 0,.int 0 0,.ref S,.int es.size 0,.int ep 0] }) s.heap.objs.size S t 0 es.size ep->Q (.ref s.heap.objs.size) { s with heap:=s.heap.push { cls:=.type "set_iterator",data:=.fields #[.int 0 0,.int 0 0,.ref S,.int es.size 0,.int ep 0] } }):
  wpAny (model prog w) A (pyIter (.ref S)) Q E s:=by
 have hf:t.fits es.size=true:=by rw[hsz];exact T.fits
 have hT:s.TypeIs (.ref S) "set":=⟨o,ho,hx.1⟩;refine wpAny_pyIter_slot hT F.slot_set_iter (wpAny_call_entry F.slot_set_iter hT lS ?_ (F.args_set_iter_1 _));unfold Builtin.«frozenset.__iter__»;refine wpAny_bind (m:=Builtin.Frozenset.slot0 "__iter__" ⟨[.ref S],[]⟩) (wpAny_pure ?_);unfold Builtin.Frozenset.sizeOf;refine wpAny_bind (wpAny_bind (wpAny_setEntries_of ho hd hf (wpAny_pure ?_)));unfold setDrawn
 refine wpAny_bind (wpAny_bind (wpAny_setState_of ho hd hf ?_));dsimp only;unfold setsByText;refine wpAny_bind (wpAny_bind (wpAny_askSetting (wpAny_pure ?_)));refine wpAny_pure ?_;split
 ·rename_i hdr
  rw[Bool.and_eq_true] at hdr;have:(!t.plain && decide (es.size>1))=true:=hdr.2;rw[hpl] at this;simp at this
 ·refine wpAny_bind (wpAny_pure ?_)
  refine wpAny_bind (wpAny_bind (wpAny_setState_of ho hd hf (wpAny_pure ?_)));refine wpAny_bind (wpAny_newObj_type (wpAny_pure ⟨_,rfl,"set_iterator",_,⟨_,Heap.get?_push_size _ rfl,rfl⟩,cn.lookup,?_⟩));refine q ⟨_,0,Heap.get?_push_size _ rfl,rfl,rfl,fun _=>t6 T.ris⟩
theorem w9{it S:Addr}{t:SetTable}{i n ep:Nat}{Q:Value->Shared->Prop}(hit:bv w s.heap it S t i n ep)(h:Q (.ref it) s):wpAny (model prog w) A (pyIter (.ref it)) Q E s:=by
 have hT:=bv.typeIs (s:=s) hit (h:=s.heap);refine wpAny_pyIter_slot hT kS (wpAny_call_entry kS hT pP ?_ (qI _));show wpAny _ _ (ret (.ref it)) _ _ s;exact wpAny_pure ⟨_,rfl,"set_iterator",_,hT,cn.lookup,h⟩
theorem bv.keep{h h':Heap}{it S:Addr}{t:SetTable}{i n ep:Nat}(x:bv w h it S t i n ep)(e:∀o,h.get? it=some o->h'.get? it=some o):bv w h' it S t i n ep:=let ⟨o,sl,ho,r⟩:=x;⟨o,sl,e _ ho,r⟩
theorem wT(hh:A.handled=none){I S:Addr}(hne:S≠I){o:Obj}{es:Array (Int×Value)}{ep:Nat}{t:SetTable}{hs:List Int}(hd:o.data=.set es ep t)(T:Tb t hs)(hsz:es.size=hs.length)(hled:t.led=!w.params.followText "set-order")(hpl:t.plain=true):
  Walks prog w A I [I,S] [I] es.size (fun i v=>((dw w S es ep)[i]?).map (·.2)=some v) (fun i h=>bv w h I S t i es.size ep/\h.get? S=some o) where
 sub:=fun b hb=>by simp at hb;simp[hb]
 frame:=fun _ _ _ st hk=>⟨st.1.keep fun o e=>hk I (by simp) o e,hk S (by simp) o st.2⟩
 item:=fun i s Q E hi st hQ=>by
  have hwl:(dw w S es ep).size=es.size:=by rw[←Array.length_toList,(hW w S es ep).length_eq,Array.length_toList]
  have he:=Array.getElem?_eq_getElem (show i<(dw w S es ep).size by omega)
  refine wI st.1 st.2 hd T hsz hled hpl he fun h' hit' hs'=>?_;exact hQ _ h' s.toks (by rw[he];rfl) ⟨hit',by rw[hs'.2 S hne];exact st.2⟩ fun b o hb e=>hs'.extBut b o (fun h=>hb (by simp[h])) e
 done:=fun s Q E st hQ=>by
  have hwl:(dw w S es ep).size=es.size:=by rw[←Array.length_toList,(hW w S es ep).length_eq,Array.length_toList]
  exact xz hh st.1 st.2 hd T hsz hled hpl (Array.getElem?_eq_none (by omega)) fun h' he'=>hQ h' s.toks fun b o hb e=>he' b o (fun h=>hb (by simp[h])) e
 self:=fun _ _ _ _ st hQ=>w9 st.1 hQ
theorem yO{S:Addr}{Q:Bool->Shared->Prop}(hT:s.TypeIs (.ref S) "set")(q:Q false s):wpAny (model prog w) A (Builtin.List.listLengthHint (.ref S)) Q E s:=by
 unfold Builtin.List.listLengthHint;refine wpAny_bind (wpAny_specialOf hT F.slot_set_len.lookup ?_)
 (generalize hid:("set.__len__":String)=id0;(fail_if_success (clear hid id0));wp_delta;rw[show splitId id0=some ("set","__len__") from by subst hid;decide +kernel];subst hid)
 refine wpAny_bind (wpAny_isInstance (b:=true) hT (by rw[isSubtype_type];kernel_rfl) ?_)
 rw[if_neg (by decide)]
 refine wpAny_ite_true (by decide +kernel) ?_
 refine wpAny_bind (wpAny_typeOf hT ?_);exact wpAny_pure q
end
end L2
namespace L2
open PySem PySem.Spec PyProof.Rows
section
variable{prog:Program}{w:World}{K:Type}[DecidableEq K]{knd:SK prog w K}{A:Around}{E:Value->Shared->Prop}{s:Shared}
theorem sd(hh:A.handled=none){S:Addr}{o:Obj}{es:Array (Int×Value)}{ep:Nat}{t:SetTable}{hs:List Int}{Q:List Value->Shared->Prop}(ho:s.heap.get? S=some o)(hx:o.ExactSet)(hd:o.data=.set es ep t)(T:Tb t hs)(hsz:es.size=hs.length)(hled:t.led=!w.params.followText "set-order")(hpl:t.plain=true)(q:∀s':Shared,(∀b o,s.heap.get? b=some o->s'.heap.get? b=some o)->s'.gens=s.gens->s'.drawn=s.drawn->s'.os=s.os->s.toks<=s'.toks->s.heap.objs.size<=s'.heap.objs.size->Q ((dw w S es ep).toList.map (·.2)) s'):wpAny (model prog w) A (collect (.ref S)) Q E s:=by
 have hT:∀s':Shared,s'.heap.get? S=some o->s'.TypeIs (.ref S) "set":=fun s' h=>⟨o,h,hx.1⟩;have hS:=Heap.lt_size ho;unfold collect;refine wpAny_bind (wpAny_runValue (codeAny_builtin F.entry_proto_collect ?_));rw[Around.under_plainId F.plain_proto_collect _];show wpAny _ A.in1 (newList [] >>= fun l=>again (.builtin "list.__iadd__" ⟨[l,.ref S],[]⟩)) _ _ s;refine wpAny_bind (wpAny_newObj_type ?_)
 refine wpAny_pure ⟨plainId_quiet F.plain_list_iadd _,codeAny_builtin F.entry_list_iadd ?_⟩;rw[Around.under_plainId F.plain_list_iadd _];have ho1:(s.heap.push { cls:=.type "list",data:=.seq ([]:List Value).toArray }).get? S=some o:=Heap.get?_push_of_some _ ho;have hS₁:(s.heap.push { cls:=.type "list",data:=.seq ([]:List Value).toArray }).get? s.heap.objs.size=some { cls:=.type "list",data:=.seq ([]:List Value).toArray }:=Heap.get?_push_size _ rfl
 have h1:Builtin.List.listSameRef (.ref s.heap.objs.size) (.ref S)=false:=by simp[Builtin.List.listSameRef,Nat.ne_of_gt hS]
 show wpAny _ A.in1 (Builtin.List.listExtendWith (.ref s.heap.objs.size) (.ref S) (.ref s.heap.objs.size)) _ _ _;unfold Builtin.List.listExtendWith;refine wpAny_bind (wpAny_typeOf (hT _ ho1) ?_);rw[if_neg (by rw[h1];decide)]
 refine wpAny_bind (yw ho1 hx hd T hsz hpl fun hit=>?_);have ho2:((s.heap.push { cls:=.type "list",data:=.seq ([]:List Value).toArray }).push { cls:=.type "set_iterator",data:=.fields #[.int 0 0,.int 0 0,.ref S,.int es.size 0,.int ep 0] }).get? S=some o:=Heap.get?_push_of_some _ ho1;refine wpAny_bind (wpAny_holding (yO (hT _ ho2) ?_));rw[if_pos (by decide +kernel)]
 rw[size_push'] at hit ⊢;have hne:S≠s.heap.objs.size+1:=fun e=>by rw[e] at hS;exact absurd hS (Nat.not_lt.mpr (Nat.le_succ _))
 have W:=wT (prog:=prog) (w:=w) (A:=A.in1) (by show A.handled=none;exact hh) hne hd T hsz hled hpl
 have hzz:es.size<=sizeLine:=by
  have h1:=T.few;have h2:=(by decide:∀m∈cL,m*3<=1000) _ T.msk
  have h3:(1000:Nat)<=sizeLine:=by decide
  rw[hsz];omega
 refine wpAny_bind (wpAny_rule ?_);refine wpAny_bind ?_;have hS2:((s.heap.push { cls:=.type "list",data:=.seq ([]:List Value).toArray }).push { cls:=.type "set_iterator",data:=.fields #[.int 0 0,.int 0 0,.ref S,.int es.size 0,.int ep 0] }).get? s.heap.objs.size=some { cls:=.type "list",data:=.seq ([]:List Value).toArray }:=Heap.get?_push_of_some _ hS₁;show wpAny _ A.in1 (updateSeq s.heap.objs.size (·.push .none) >>= fun _=>updateSeq s.heap.objs.size (·.pop)) _ _ _
 refine wpAny_bind (wpAny_updateSeq hS2 rfl ?_);have hS3:=Heap.get?_update_self (Obj.mapSeq (·.push Value.none)) hS2 rfl
 refine wpAny_updateSeq hS3 rfl ?_;have hS4:=Heap.get?_update_self (Obj.mapSeq (·.pop)) hS3 rfl
 generalize hH:((s.heap.push { cls:=.type "list",data:=.seq ([]:List Value).toArray }).push { cls:=.type "set_iterator",data:=.fields #[.int 0 0,.int 0 0,.ref S,.int es.size 0,.int ep 0] })=H1 at *
 have oth:∀b o,b≠s.heap.objs.size->H1.get? b=some o->((H1.update s.heap.objs.size (Obj.mapSeq (·.push Value.none))).update s.heap.objs.size (Obj.mapSeq (·.pop))).get? b=some o:=
  fun b o hb e=>(Heap.get?_update_other _ _ (Ne.symm hb)).trans ((Heap.get?_update_other _ _ (Ne.symm hb)).trans e)
 refine wpAny_pure ⟨plainId_quiet F.plain_extend_loop _,codeAny_extend_loopS W.toS hzz s.heap.objs.size (by simp;exact fun e=>Nat.ne_of_gt hS e) _ es.size 0 _ _ _ rfl (Nat.zero_le _) ⟨hit.keep fun o e=>oth _ o (by omega) e,oth _ _ (Nat.ne_of_lt hS) ho2⟩ hS4 (ItemsOf.nil _) fun s' acc' c' hm hS' hacc=>?_⟩
 show wpAny _ A (load s.heap.objs.size >>= _) _ _ s';refine wpAny_bind (wpAny_load hS' ?_);have hwl:(dw w S es ep).size=es.size:=by rw[←Array.length_toList,(hW w S es ep).length_eq,Array.length_toList]
 have e:acc'.toList=(dw w S es ep).toList.map (·.2):=by
  refine List.ext_getElem? fun i=>?_;rw[Array.getElem?_toList,List.getElem?_map,Array.getElem?_toList];by_cases hi:i<acc'.size
  ·have:=hacc.2 i _ (Array.getElem?_eq_getElem hi)
   rw[Array.getElem?_eq_getElem hi];exact this.symm
  ·have h5:=hacc.1
   rw[Array.getElem?_eq_none (by omega),Array.getElem?_eq_none (by rw[hwl,←h5];omega)]
   rfl
 rw[←e] at q
 refine wpAny_pure (q s' (fun b o hb=>?_) ?_ ?_ ?_ ?_ (Nat.le_of_lt (Heap.lt_size hS')))
 ·have hlt:=Heap.lt_size hb
  exact hm.heap b o (fun h=>by rcases List.mem_cons.mp h with h|h;exact Nat.ne_of_lt hlt h;rw[List.mem_singleton] at h;exact Nat.ne_of_lt (Nat.lt_succ_of_lt hlt) h) (oth b o (Nat.ne_of_lt hlt) (by rw[←hH];exact Heap.get?_push_of_some _ (Heap.get?_push_of_some _ hb)))
 ·exact hm.gens
 ·exact hm.drawn
 ·exact hm.os
 ·exact hm.toks
end
section
variable{prog:Program}{w:World}{K:Type}[DecidableEq K]{knd:SK prog w K}{A:Around}{E:Value->Shared->Prop}{s:Shared}
theorem iV.frame{h h':Heap}{a:Addr}{led:Bool}{ks:List K}(x:iV knd h a led ks)(h1:∀o,h.get? a=some o->h'.get? a=some o)(h2:∀c o,h.get? c=some o->o.cls=.type "tuple"->h'.get? c=some o):iV knd h' a led ks:=by
 obtain⟨o,es,ep,t,ho,hx,hd,r1,r2,T,el,nd⟩:=x;exact⟨o,es,ep,t,h1 o ho,hx,hd,r1,r2,T,el.frame h2,nd⟩
theorem qU{I S:Addr}{fp wr:List Addr}{G:Array GenState->Array GenState->Prop}{n:Nat}{items:Array Value}{St:Nat->Shared->Prop}{R:Result->Shared->Prop}{led:Bool}(W:WalksS prog w A.in1 I fp wr G n (fun i v=>items[i]?=some v) St)(hSf:S ∉ fp)(hwr:∀i (s:Shared),St i s->∀b∈wr,∀o,s.heap.get? b=some o->o.cls≠.type "tuple"){keys:List K}(hn:n=keys.length)(hn75:n<=75)(hu:A.in1.units+100<cLine):
  ∀(k i:Nat)(s:Shared)(ks:List K),n-i=k->i<=n->St i s->iV knd s.heap S led ks->(∀x,x∈ks↔x∈keys.take i)->ks.length<=i->(∀(j:Nat)(x:K),keys[j]?=some x->∃b,items[j]?=some (.ref b)/\knd.is s.heap x b) ->
   (∀s' ks',Moved (S::wr) G s s'->iV knd s'.heap S led ks'->(∀x,x∈ks'↔x∈keys)->R (.ok (.ret .none)) s') ->
   codeAny (model prog w) A (.builtin "set.update.loop" ⟨[.ref S,.ref I],[]⟩) R s:=by
 have hSw:S ∉ wr:=fun h=>hSf (W.sub _ h);have hsub:∀b∈wr,b∈S::wr:=fun b hb=>List.mem_cons_of_mem _ hb;intro k
 induction k with
 |zero=>
  intro i s ks hk hi hst hS hm _ _ hR;have hin:i=n:=by omega
  subst hin;refine codeAny_builtin F.entry_set_update_loop ?_;rw[Around.under_plainId F.plain_set_update_loop _];show wpAny _ A.in1 (pyNext (.ref I) >>= _) _ _ s;refine wpAny_bind (W.done s _ _ hst fun s' hmv=>?_);show wpAny _ A.in1 (ret Value.none) _ _ s';refine wpAny_pure (hR s' ks (hmv.mono hsub) (hS.frame (fun o e=>hmv.heap S o hSw e) fun c o e ht=>hmv.heap c o (fun hc=>hwr _ _ hst c hc o e ht) e) fun x=>?_)
  rw[hm x,hn,List.take_length]
 |succ k ih=>
  intro i s ks hk hi hst hS hm hlen hit hR;have hlt:i<n:=by omega
  obtain⟨x,hx⟩:∃x,keys[i]?=some x:=⟨_,List.getElem?_eq_getElem (by omega)⟩
  refine codeAny_builtin F.entry_set_update_loop ?_;rw[Around.under_plainId F.plain_set_update_loop _];show wpAny _ A.in1 (pyNext (.ref I) >>= _) _ _ s;refine wpAny_bind (W.item i s _ _ hlt hst fun v s' hP hst' hmv=>?_);have fr:∀c o,s.heap.get? c=some o->o.cls=.type "tuple"->s'.heap.get? c=some o:=fun c o e ht=>hmv.heap c o (fun hc=>hwr _ _ hst c hc o e ht) e;obtain⟨b,hb1,hb2⟩:=hit i x hx
  rw[hb1] at hP;cases hP;have hb:=knd.frame hb2 fr;have hS':=hS.frame (h':=s'.heap) (fun o e=>hmv.heap S o hSw e) fr;show wpAny _ A.in1 (holding [Value.ref b] (setAdd S (.ref b)) >>= _) _ _ s';refine wpAny_bind (wpAny_holding ?_);unfold setAdd;refine wpAny_holding ?_;refine wpAny_bind (knd.pyHash hu hb ?_);refine CI (s:={ s' with toks:=s'.toks+knd.draws x }) hu hb hS' (by omega) fun r h' ks' hsb hS2 hks=>?_
  obtain⟨oS,_,_,_,hoS,hxS,_⟩:=id hS';have fr2:=iT hoS hxS hsb;refine wpAny_pure ⟨plainId_quiet F.plain_set_update_loop _,ih (i+1) _ ks' (by omega) hlt (W.frame _ s' _ _ hst' (Nat.le_add_right _ _) fun b hb o e=>?_) hS2 (fun y=>?_) ?_ (fun j y hy=>?_) fun s'' ks'' hm'' hS'' hk''=>?_⟩
  ·rw[hsb.2 b (fun h:b=S=>hSf (by rw[←h];exact hb))];exact e
  ·rw[List.take_succ,hx]
   simp only[List.mem_append,Option.toList_some,List.mem_singleton];rcases hks with⟨h1,rfl⟩|⟨h1,h2⟩
   ·rw[hm y]
    constructor
    ·exact .inl
    ·rintro(h|rfl)
     ·exact h
     ·exact(hm _).mp h1
   ·rw[h2.mem_iff,List.mem_cons,hm y]
    exact Or.comm
  ·rcases hks with⟨h1,rfl⟩|⟨h1,h2⟩
   ·omega
   ·rw[h2.length_eq,List.length_cons];omega
  ·obtain⟨c,hc1,hc2⟩:=hit j y hy
   exact⟨c,hc1,knd.frame (knd.frame hc2 fr) fr2⟩
  ·refine hR s'' ks'' (Moved.trans W.gtrans ((hmv.mono hsub).then_heap (Nat.le_add_right _ _) fun b o hb e=>?_) hm'') hS'' hk''
   rw[hsb.2 b (fun h:b=S=>hb (by rw[h];exact List.mem_cons_self))];exact e
theorem ux(a:Value){Q₁:Value->Shared->Prop}(h:Q₁ (.ref s.heap.objs.size) { s with heap:=s.heap.push { cls:=.type "set",dict:=none,data:=.set #[] 0 (.fresh 0 0 (!w.params.followText "set-order")) } }):
  codeAny (model prog w) A (.call (.builtin "set.__new__") ⟨[.type "set",a],[]⟩) (wants Q₁ E) s:=by
 refine codeAny_of_tree ?_;show wpAny _ A.in1 (do checkBuiltinCall "set.__new__" ⟨[.type "set",a],[]⟩;again (.builtin "set.__new__" ⟨[.type "set",a],[]⟩)) _ _ s
 refine wpAny_bind (wpAny_of_eq (F.newCall_set_1 a) (wpAny_pure ⟨plainId_quiet F.plain_set_new _,codeAny_builtin F.entry_set_new ?_⟩));rw[Around.under_plainId F.plain_set_new _];unfold Builtin.«set.__new__» Builtin.Frozenset.newClass;have hsub:=sub_set_self;obtain⟨hp,g,d,tk,os⟩:=s;dsimp only
 wp_walk
 refine wpAny_askSetting (wpAny_pure ?_);dsimp only;simp only[newObj];refine wpAny_bind (wpAny_alloc (wpAny_pure ?_));exact wpAny_pure h
theorem oh{a:Addr}{h:Heap}{led:Bool}(ho:h.get? a=some { cls:=.type "set",dict:=none,data:=.set #[] 0 (.fresh 0 0 led) }):iV knd h a led []:=by
 have m7:(7:Nat)∈cL:=by decide
 refine⟨_,#[],0,.fresh 0 0 led,ho,⟨rfl,rfl,rfl⟩,rfl,rfl,rfl,⟨List.Pairwise.nil,rfl,rfl,m7,fun j hj=>(by cases hj),(by show 0*5<7*3;decide),fun i j h hi=>?_⟩,.nil,List.nodup_nil⟩
 simp[SetTable.fresh] at hi
end
end L2
set_option maxHeartbeats 8000000
namespace L2
open PySem PySem.Spec PyProof.Rows
section
variable{prog:Program}{w:World}{K:Type}[DecidableEq K]{knd:SK prog w K}{A:Around}{E:Value->Shared->Prop}{s:Shared}
theorem sh{l:Addr}{items:Array Value}{keys:List K}{Q:Value->Shared->Prop}(hh:A.handled=none)(hu:A.units+120<cLine)(hl:s.heap.IsList l items)(hn:items.size=keys.length)(hn75:items.size<=75)(hi:∀(j:Nat)(x:K),keys[j]?=some x->∃b,items[j]?=some (.ref b)/\knd.is s.heap x b)
  (h:∀(h':Heap)(tk:Nat)(ks:List K),iV knd h' s.heap.objs.size (!w.params.followText "set-order") ks->(∀x,x∈ks↔x∈keys)->s.toks<=tk ->
   (∀b o,b<s.heap.objs.size->s.heap.get? b=some o->h'.get? b=some o)->Q (.ref s.heap.objs.size) { s with heap:=h',toks:=tk }) :
  wpAny (model prog w) A (call (.type "set") [.ref l]) Q E s:=by
 obtain⟨c,tl,hmro⟩:=F.called_set.mro;have hmade:=F.called_set.made;have hsub:=F.called_set.sub;refine wpAny_call (codeAny_of_tree ?_);show wpAny _ _ (callAny (.type "set") _) _ _ _;refine wpAny_pure ⟨Code.quiet_builtin _ (by decide +kernel),codeAny_builtin F.entry_type_call ?_⟩
 rw[Around.under_plain (weight_type_call_type "set" [.ref l] []) rfl];have h1:=F.called_set.notType;have h2:=F.called_set.canCreate;have hct:=F.typeCall_set_1 (.ref l)
 repeat (any_goals (first|assumption|wp_step))
 refine codeAny_mono (ux (.ref l) (E:=E) (Q₁:=fun obj s₁=>obj=.ref s.heap.objs.size/\s₁={ s with heap:=s.heap.push { cls:=.type "set",dict:=none,data:=.set #[] 0 (.fresh 0 0 (!w.params.followText "set-order")) } }) ⟨rfl,rfl⟩) fun r s₁ hr=>?_
 cases r with
 |error e=>exact hr
 |ok fl=>
  cases fl with
  |ret obj=>
   obtain⟨rfl,rfl⟩:=hr;have hS:(s.heap.push { cls:=.type "set",dict:=none,data:=.set #[] 0 (.fresh 0 0 (!w.params.followText "set-order")) }).get? s.heap.objs.size=some { cls:=.type "set",dict:=none,data:=.set #[] 0 (.fresh 0 0 (!w.params.followText "set-order")) }:=Heap.get?_push_size _ rfl;have hT:Shared.TypeIs { s with heap:=s.heap.push { cls:=.type "set",dict:=none,data:=.set #[] 0 (.fresh 0 0 (!w.params.followText "set-order")) } } (.ref s.heap.objs.size) "set":=⟨_,hS,rfl⟩
   have hli:=F.called_set.init.lookup;have hbi:=F.called_set.init.bind (.ref s.heap.objs.size)
   repeat (any_goals (first|assumption|wp_step))
   refine codeAny_mono (codeAny_call_builtin (R:=wants (fun r s₂=>r=.none/\∃h' tk ks,s₂={ s with heap:=h',toks:=tk } /\
     iV knd h' s.heap.objs.size (!w.params.followText "set-order") ks/\(∀x,x∈ks↔x∈keys)/\s.toks<=tk /\
     (∀b o,b<s.heap.objs.size->s.heap.get? b=some o->h'.get? b=some o)) E) F.called_set.init.plain F.entry_set_init (check_set_init_1 hT ?_)) fun r₂ s₂ hr₂=>?_
   ·obtain⟨ol,hol,hcl,nl,hdl⟩:=hl
    obtain⟨ocls,odict,odata,oslots⟩:=ol;simp only at hcl hdl;subst hcl;subst hdl;have hol':(s.heap.push { cls:=.type "set",dict:=none,data:=.set #[] 0 (.fresh 0 0 (!w.params.followText "set-order")) }).get? l=some { cls:=.type "list",dict:=odict,data:=.seq items nl,slots:=oslots }:=Heap.get?_push_of_some _ hol;have hsls:=F.sub_list_set;have hslf:=F.sub_list_frozenset;have hne:(Value.type "list" == Value.type "dict")=false:=by decide
    have hl1:(s.heap.push { cls:=.type "set",dict:=none,data:=.set #[] 0 (.fresh 0 0 (!w.params.followText "set-order")) }).IsList l items:=⟨_,hol',rfl,nl,rfl⟩;unfold Builtin.«set.__init__» noKeywords Builtin.Frozenset.updateFrom;generalize hPI:pyIter=PI
    wp_walk
    subst hPI;refine wpAny_pyIter_list hl1 ?_;refine wpAny_bind (wpAny_runValue ?_);have hlS:l<s.heap.objs.size:=Heap.lt_size hol;have hh3:A.in1.in1.in1.handled=none:=by simp[hh]
    have hneI:l≠(s.heap.push { cls:=.type "set",dict:=none,data:=.set #[] 0 (.fresh 0 0 (!w.params.followText "set-order")) }).objs.size:=by
     rw[Heap.size_push];exact Nat.ne_of_lt (Nat.lt_succ_of_lt hlS)
    have hSf:s.heap.objs.size ∉ [(s.heap.push { cls:=.type "set",dict:=none,data:=.set #[] 0 (.fresh 0 0 (!w.params.followText "set-order")) }).objs.size,l]:=by
     rw[Heap.size_push];simp only[List.mem_cons,List.mem_singleton,List.not_mem_nil,or_false,not_or];exact⟨Nat.ne_of_lt (Nat.lt_succ_self _),Nat.ne_of_gt hlS⟩
    have kp:∀b o,s.heap.get? b=some o->((s.heap.push { cls:=.type "set",dict:=none,data:=.set #[] 0 (.fresh 0 0 (!w.params.followText "set-order")) }).push { cls:=.type "list_iterator",data:=.fields #[.ref l,.int 0 0] }).get? b=some o:=fun b o e=>Heap.get?_push_of_some _ (Heap.get?_push_of_some _ e)
    refine qU (knd:=knd) (led:=!w.params.followText "set-order") ((Walks.list hh3 _ l hneI items).toS) hSf (fun i s' st b hb o ho=>?_) hn hn75 ?_ (items.size-0) 0 _ [] (by omega) (Nat.zero_le _)
     ⟨⟨_,Heap.get?_push_size _ rfl,rfl,rfl⟩,(hl1.push _)⟩ (oh (Heap.get?_push_of_some _ hS)) (fun x=>by simp) (Nat.zero_le _) (fun j x hx=>?_) ?_
    ·rw[List.mem_singleton] at hb
     subst hb;obtain⟨⟨oi,h3,h4,_⟩,_⟩:=st;rw[h3] at ho;cases ho;rw[h4];simp
    ·show A.units+1+1+1+100<cLine
     omega
    ·obtain⟨b,h3,h4⟩:=hi j x hx
     exact⟨b,h3,knd.frame h4 fun c o e _=>kp c o e⟩
    ·intro s' ks' hm hS' hks
     obtain⟨h',g',d',tk',os'⟩:=s';have eg:g'=s.gens:=hm.gens;have ed:d'=s.drawn:=hm.drawn;have eo:os'=s.os:=hm.os;subst eg;subst ed;subst eo;show wpAny _ _ _ _ _ _;refine wpAny_pure ?_;show wpAny _ _ (ret Value.none) _ _ _;refine wpAny_pure ⟨rfl,h',tk',ks',rfl,hS',hks,hm.toks,fun b o hb e=>?_⟩;have hb1:b≠s.heap.objs.size:=Nat.ne_of_lt hb
     have hb2:b≠(s.heap.push { cls:=.type "set",dict:=none,data:=.set #[] 0 (.fresh 0 0 (!w.params.followText "set-order")) }).objs.size:=by
      rw[Heap.size_push];exact Nat.ne_of_lt (Nat.lt_succ_of_lt hb)
     exact hm.heap b o (by simp only[List.mem_cons,List.mem_singleton,List.not_mem_nil,or_false,not_or];exact⟨hb1,hb2⟩) (kp b o e)
   ·cases r₂ with
    |error e=>exact hr₂
    |ok fl₂=>
     cases fl₂ with
     |ret r=>
      obtain⟨rfl,h',tk,ks,rfl,hS',hks,htk,hk'⟩:=hr₂
      repeat (any_goals (first|assumption|wp_step))
      exact h _ _ _ hS' hks htk hk'
     |_=>exact hr₂.elim
  |_=>exact hr.elim
end
theorem nh:isSubtype (.type "tuple") (.type "set")=pure false:=by rw[isSubtype_type];kernel_rfl
theorem iu:isSubtype (.type "tuple") (.type "frozenset")=pure false:=by rw[isSubtype_type];kernel_rfl
section
variable{prog:Program}{w:World}{K:Type}[DecidableEq K]{knd:SK prog w K}{A:Around}{E:Value->Shared->Prop}{s:Shared}
theorem um{l:Addr}{items:Array Value}{keys:List K}{Q:Value->Shared->Prop}(hh:A.handled=none)(hu:A.units+120<cLine)(hl:s.heap.IsTuple l items)(hn:items.size=keys.length)(hn75:items.size<=75)(hi:∀(j:Nat)(x:K),keys[j]?=some x->∃b,items[j]?=some (.ref b)/\knd.is s.heap x b)
  (h:∀(h':Heap)(tk:Nat)(ks:List K),iV knd h' s.heap.objs.size (!w.params.followText "set-order") ks->(∀x,x∈ks↔x∈keys)->s.toks<=tk ->
   (∀b o,b<s.heap.objs.size->s.heap.get? b=some o->h'.get? b=some o)->Q (.ref s.heap.objs.size) { s with heap:=h',toks:=tk }) :
  wpAny (model prog w) A (call (.type "set") [.ref l]) Q E s:=by
 obtain⟨c,tl,hmro⟩:=F.called_set.mro;have hmade:=F.called_set.made;have hsub:=F.called_set.sub;refine wpAny_call (codeAny_of_tree ?_);show wpAny _ _ (callAny (.type "set") _) _ _ _;refine wpAny_pure ⟨Code.quiet_builtin _ (by decide +kernel),codeAny_builtin F.entry_type_call ?_⟩
 rw[Around.under_plain (weight_type_call_type "set" [.ref l] []) rfl];have h1:=F.called_set.notType;have h2:=F.called_set.canCreate;have hct:=F.typeCall_set_1 (.ref l)
 repeat (any_goals (first|assumption|wp_step))
 refine codeAny_mono (ux (.ref l) (E:=E) (Q₁:=fun obj s₁=>obj=.ref s.heap.objs.size/\s₁={ s with heap:=s.heap.push { cls:=.type "set",dict:=none,data:=.set #[] 0 (.fresh 0 0 (!w.params.followText "set-order")) } }) ⟨rfl,rfl⟩) fun r s₁ hr=>?_
 cases r with
 |error e=>exact hr
 |ok fl=>
  cases fl with
  |ret obj=>
   obtain⟨rfl,rfl⟩:=hr;have hS:(s.heap.push { cls:=.type "set",dict:=none,data:=.set #[] 0 (.fresh 0 0 (!w.params.followText "set-order")) }).get? s.heap.objs.size=some { cls:=.type "set",dict:=none,data:=.set #[] 0 (.fresh 0 0 (!w.params.followText "set-order")) }:=Heap.get?_push_size _ rfl;have hT:Shared.TypeIs { s with heap:=s.heap.push { cls:=.type "set",dict:=none,data:=.set #[] 0 (.fresh 0 0 (!w.params.followText "set-order")) } } (.ref s.heap.objs.size) "set":=⟨_,hS,rfl⟩
   have hli:=F.called_set.init.lookup;have hbi:=F.called_set.init.bind (.ref s.heap.objs.size)
   repeat (any_goals (first|assumption|wp_step))
   refine codeAny_mono (codeAny_call_builtin (R:=wants (fun r s₂=>r=.none/\∃h' tk ks,s₂={ s with heap:=h',toks:=tk } /\
     iV knd h' s.heap.objs.size (!w.params.followText "set-order") ks/\(∀x,x∈ks↔x∈keys)/\s.toks<=tk /\
     (∀b o,b<s.heap.objs.size->s.heap.get? b=some o->h'.get? b=some o)) E) F.called_set.init.plain F.entry_set_init (check_set_init_1 hT ?_)) fun r₂ s₂ hr₂=>?_
   ·obtain⟨ol,hol,hcl,nl,hdl⟩:=hl
    obtain⟨ocls,odict,odata,oslots⟩:=ol;simp only at hcl hdl;subst hcl;subst hdl;have hol':(s.heap.push { cls:=.type "set",dict:=none,data:=.set #[] 0 (.fresh 0 0 (!w.params.followText "set-order")) }).get? l=some { cls:=.type "tuple",dict:=odict,data:=.seq items nl,slots:=oslots }:=Heap.get?_push_of_some _ hol;have hsls:=nh;have hslf:=iu;have hne:(Value.type "tuple" == Value.type "dict")=false:=by decide
    have hl1:(s.heap.push { cls:=.type "set",dict:=none,data:=.set #[] 0 (.fresh 0 0 (!w.params.followText "set-order")) }).IsTuple l items:=⟨_,hol',rfl,nl,rfl⟩;unfold Builtin.«set.__init__» noKeywords Builtin.Frozenset.updateFrom;generalize hPI:pyIter=PI
    wp_walk
    subst hPI;refine wpAny_pyIter_tuple hl1 ?_;refine wpAny_bind (wpAny_runValue ?_);have hlS:l<s.heap.objs.size:=Heap.lt_size hol;have hh3:A.in1.in1.in1.handled=none:=by simp[hh]
    have hneI:l≠(s.heap.push { cls:=.type "set",dict:=none,data:=.set #[] 0 (.fresh 0 0 (!w.params.followText "set-order")) }).objs.size:=by
     rw[Heap.size_push];exact Nat.ne_of_lt (Nat.lt_succ_of_lt hlS)
    have hSf:s.heap.objs.size ∉ [(s.heap.push { cls:=.type "set",dict:=none,data:=.set #[] 0 (.fresh 0 0 (!w.params.followText "set-order")) }).objs.size,l]:=by
     rw[Heap.size_push];simp only[List.mem_cons,List.mem_singleton,List.not_mem_nil,or_false,not_or];exact⟨Nat.ne_of_lt (Nat.lt_succ_self _),Nat.ne_of_gt hlS⟩
    have kp:∀b o,s.heap.get? b=some o->((s.heap.push { cls:=.type "set",dict:=none,data:=.set #[] 0 (.fresh 0 0 (!w.params.followText "set-order")) }).push { cls:=.type "tuple_iterator",data:=.fields #[.ref l,.int 0 0] }).get? b=some o:=fun b o e=>Heap.get?_push_of_some _ (Heap.get?_push_of_some _ e)
    refine qU (knd:=knd) (led:=!w.params.followText "set-order") ((Walks.tuple hh3 _ l hneI items).toS) hSf (fun i s' st b hb o ho=>?_) hn hn75 ?_ (items.size-0) 0 _ [] (by omega) (Nat.zero_le _)
     ⟨⟨_,Heap.get?_push_size _ rfl,rfl,rfl⟩,(hl1.push _)⟩ (oh (Heap.get?_push_of_some _ hS)) (fun x=>by simp) (Nat.zero_le _) (fun j x hx=>?_) ?_
    ·rw[List.mem_singleton] at hb
     subst hb;obtain⟨⟨oi,h3,h4,_⟩,_⟩:=st;rw[h3] at ho;cases ho;rw[h4];simp
    ·show A.units+1+1+1+100<cLine
     omega
    ·obtain⟨b,h3,h4⟩:=hi j x hx
     exact⟨b,h3,knd.frame h4 fun c o e _=>kp c o e⟩
    ·intro s' ks' hm hS' hks
     obtain⟨h',g',d',tk',os'⟩:=s';have eg:g'=s.gens:=hm.gens;have ed:d'=s.drawn:=hm.drawn;have eo:os'=s.os:=hm.os;subst eg;subst ed;subst eo;show wpAny _ _ _ _ _ _;refine wpAny_pure ?_;show wpAny _ _ (ret Value.none) _ _ _;refine wpAny_pure ⟨rfl,h',tk',ks',rfl,hS',hks,hm.toks,fun b o hb e=>?_⟩;have hb1:b≠s.heap.objs.size:=Nat.ne_of_lt hb
     have hb2:b≠(s.heap.push { cls:=.type "set",dict:=none,data:=.set #[] 0 (.fresh 0 0 (!w.params.followText "set-order")) }).objs.size:=by
      rw[Heap.size_push];exact Nat.ne_of_lt (Nat.lt_succ_of_lt hb)
     exact hm.heap b o (by simp only[List.mem_cons,List.mem_singleton,List.not_mem_nil,or_false,not_or];exact⟨hb1,hb2⟩) (kp b o e)
   ·cases r₂ with
    |error e=>exact hr₂
    |ok fl₂=>
     cases fl₂ with
     |ret r=>
      obtain⟨rfl,h',tk,ks,rfl,hS',hks,htk,hk'⟩:=hr₂
      repeat (any_goals (first|assumption|wp_step))
      exact h _ _ _ hS' hks htk hk'
     |_=>exact hr₂.elim
  |_=>exact hr.elim
end
end L2
set_option maxHeartbeats 4000000
namespace L2
open PySem PySem.Spec PyProof.Rows
section
variable{prog:Program}{w:World}{A:Around}{E:Value->Shared->Prop}{s:Shared}
theorem xZ(n:Nat){k:Int}{v:Value}(h:(intKind prog w).is k v=true):ofAClassStatement n v=pure false:=by
 cases v with
 |ref a=>exact absurd ((intKind prog w).byValue _ _ h) (by simp[carriedByValue])
 |_=>cases n<;>rfl
theorem AR(n:Nat){k:Int}{v:Value}(h:(intKind prog w).is k v=true):hashByValue n v=pure true:=by
 have:∃t,v=.int k t:=by
  cases v<;>simp[intKind,Value.isInt] at h
  subst h;exact⟨_,rfl⟩
 obtain⟨t,rfl⟩:=this;cases n<;>rfl
theorem xO{ks:List Int}{a:Addr}{Q:Bool->Shared->Prop}(hk:IsTupleKey (intKind prog w) s.heap ks a)(h:Q false s):wpAny (model prog w) A (ofAClassStatement 8 (.ref a)) Q E s:=by
 have hT:=hk.typeIs;obtain⟨o,items,n,ho,_,hd,hi⟩:=hk;unfold ofAClassStatement;refine wpAny_bind (wpAny_typeOf hT ?_);dsimp only;rw[if_pos (by decide)]
 refine wpAny_bind (wpAny_pure ?_);simp only[Bool.not_true,Bool.false_eq_true,if_false];refine wpAny_bind (wpAny_seqItems ho hd ?_);dsimp only;refine wpAny_bind ?_;rw[←Array.forIn_toList]
 refine wpAny_forIn_list _ (fun bi r s'=>r.1=none/\s'=s/\∃ks,ItemsAre (intKind prog w) ks bi) _ ?_ ?_ _ _ ⟨rfl,rfl,ks,hi⟩
 ·rintro v bi r s' ⟨hr,rfl,ks,hall⟩
  cases hall with
  |cons h1 h2=>
   rw[xZ _ h1];refine wpAny_bind (wpAny_pure ?_);simp only[Bool.false_eq_true,if_false];exact wpAny_pure ⟨rfl,rfl,_,h2⟩
 ·rintro⟨r1,r2⟩ s' ⟨hr,rfl,_⟩
  simp only at hr;subst hr;exact wpAny_pure h
theorem Bb{ks:List Int}{a:Addr}{Q:Bool->Shared->Prop}(hk:IsTupleKey (intKind prog w) s.heap ks a)(h:Q true s):wpAny (model prog w) A (hashByValue 8 (.ref a)) Q E s:=by
 have hT:=hk.typeIs;obtain⟨o,items,n,ho,_,hd,hi⟩:=hk;unfold hashByValue;refine wpAny_bind (wpAny_specialOf hT F.slot_tuple_hash.lookup ?_);dsimp only;refine wpAny_bind (wpAny_seqItems ho hd ?_);refine wpAny_bind ?_;show wpAny _ _ (forIn items _ _) _ _ s;rw[←Array.forIn_toList]
 refine wpAny_forIn_list _ (fun bi r s'=>r.1=none/\s'=s/\∃ks,ItemsAre (intKind prog w) ks bi) _ ?_ ?_ _ _ ⟨rfl,rfl,ks,hi⟩
 ·rintro v bi r s' ⟨hr,rfl,ks,hall⟩
  cases hall with
  |cons h1 h2=>
   rw[AR _ h1];refine wpAny_bind (wpAny_pure ?_);simp only[Bool.not_true,Bool.false_eq_true,if_false];exact wpAny_pure ⟨rfl,rfl,_,h2⟩
 ·rintro⟨r1,r2⟩ s' ⟨hr,rfl,_⟩
  simp only at hr;subst hr;exact wpAny_pure h
noncomputable def wdK(prog:Program)(w:World):SK prog w (List Int) where
 is:=IsTupleKey (intKind prog w)
 hash:=tupleKeyHash (intKind prog w)
 draws:=fun ks=>ks.length+1
 frame:=fun⟨o,items,n,ho,hc,hd,hi⟩ f=>⟨o,items,n,f _ _ ho hc,hc,hd,hi⟩
 pyHash:=fun hu hk h=>wpAny_pyHash_tuple (by omega) hk h
 eqBool:=fun hu hx hy h=>wpAny_eqBool_tuple (by omega) hx hy h
 quiet:=fun hk h=>wpAny_eqIsQuiet_tuple hk h
 noCl:=fun hk h=>xO hk h
 byV:=fun hk h=>Bb hk h
end
noncomputable def wD(prog:Program)(w:World)(P:List Int->Addr->Prop):SK prog w (List Int) where
 is:=fun h k b=>IsTupleKey (intKind prog w) h k b/\P k b
 hash:=tupleKeyHash (intKind prog w)
 draws:=fun ks=>ks.length+1
 frame:=fun⟨x,p⟩ f=>⟨(wdK prog w).frame x f,p⟩
 pyHash:=fun hu hk h=>(wdK prog w).pyHash hu hk.1 h
 eqBool:=fun hu hx hy h=>(wdK prog w).eqBool hu hx.1 hy.1 h
 quiet:=fun hk h=>(wdK prog w).quiet hk.1 h
 noCl:=fun hk h=>(wdK prog w).noCl hk.1 h
 byV:=fun hk h=>(wdK prog w).byV hk.1 h
section
variable{prog:Program}{w:World}{A:Around}{E:Value->Shared->Prop}{s:Shared}
theorem Els.perm{K:Type}[DecidableEq K]{knd:SK prog w K}{h:Heap}{l l':List (Int×Value)}(p:l'.Perm l):∀ {ks:List K},Els knd h l ks->∃ks',Els knd h l' ks'/\ks'.Perm ks:=by
 induction p with
 |nil=>exact fun {ks} e=>⟨ks,e,.refl _⟩
 |cons a _ ih=>
  intro ks e
  rename_i l1 l2 hp
  cases e with
  |cons x e=>
   obtain⟨ks',e',q⟩:=ih e;exact⟨_,.cons x e',q.cons _⟩
 |swap a b l=>
  intro ks e
  cases e with
  |cons x e=>
   cases e with
   |cons y e=>exact⟨_,.cons y (.cons x e),.swap ..⟩
 |trans _ _ ih1 ih2=>
  intro ks e;obtain⟨k1,e1,q1⟩:=ih2 e;obtain⟨k2,e2,q2⟩:=ih1 e1;exact⟨k2,e2,q2.trans q1⟩
theorem kz:∀ {x:List Int} {vs:List Value},ItemsAre (intKind prog w) x vs->Zs vs x
 | [],[],_=>trivial
 |n::ns,v::vs,h=>by
  cases h with
  |cons h1 h2=>
   refine⟨?_,kz h2⟩;cases v<;>simp[intKind,Value.isInt] at h1
   subst h1;exact⟨_,rfl⟩
 | [],_::_,h=>by cases h
 |_::_,[],h=>by cases h
theorem kC:∀ {x:List Int} {vs:List Value},Zs vs x->ItemsAre (intKind prog w) x vs
 | [],[],_=>.nil
 |n::ns,v::vs,h=>by
  obtain⟨⟨t,rfl⟩,h2⟩:=h;exact .cons (by simp[intKind,Value.isInt]) (kC h2)
 | [],_::_,h=>h.elim
 |_::_,[],h=>h.elim
theorem Els.tw{P:List Int->Addr->Prop}{h:Heap}:∀ {l:List (Int×Value)} {ks:List (List Int)},Els (wD prog w P) h l ks->TW h (l.map (·.2)) ks
 |_,_,.nil=>trivial
 |_,_,.cons ⟨⟨o,items,n,h1,h2,h3,h4⟩,_⟩ e=>⟨⟨_,o,items,n,rfl,h1,h2,h3,kz h4⟩,Els.tw e⟩
theorem Els.ps{P:List Int->Addr->Prop}{h:Heap}:∀ {l:List (Int×Value)} {ks:List (List Int)},Els (wD prog w P) h l ks->∃bs:List Addr,l.map (·.2)=bs.map Value.ref/\bs.length=ks.length/\∀(i:Nat)(b:Addr)(k:List Int),bs[i]?=some b->ks[i]?=some k->P k b
 |_,_,.nil=>⟨[],rfl,rfl,fun i b k hb=>by simp at hb⟩
 |_,_,.cons (b:=b0) ⟨_,p⟩ e=>by
  obtain⟨bs,h1,h2,h3⟩:=Els.ps e;refine⟨b0::bs,by simp[h1],by simp[h2],fun i b k hb hk=>?_⟩
  cases i with
  |zero=>cases hb;cases hk;exact p
  |succ i=>exact h3 i b k hb hk
theorem sP(hh:A.handled=none){P:List Int->Addr->Prop}{S:Addr}{ks:List (List Int)}{Q:Value->Shared->Prop}(x:iV (wD prog w P) s.heap S (!w.params.followText "set-order") ks)(ne:∀k∈ks,k≠[])(h64:ks.length<64)
  (q:∀(s':Shared)(a:Addr)(bs:List Addr) (W:List (List Int)),W.Perm ks->bs.length=W.length->(∀(i:Nat)(b:Addr)(k:List Int),bs[i]?=some b->W[i]?=some k->P k b)->(∀b o,s.heap.get? b=some o->s'.heap.get? b=some o)->s'.gens=s.gens->s'.drawn=s.drawn->s'.os=s.os->s.heap.objs.size<=a ->
   (∃e,s'.heap.get? a=some (seqObj "list" (qi (bs.map Value.ref) W) e))->Q (.ref a) s'):wpAny (model prog w) A (call (.builtin "sorted") [.ref S]) Q E s:=by
 obtain⟨o,es,ep,t,ho,hx,hd,hled,hpl,T,el,nd⟩:=x;have hsz:es.size=(ks.map (wD prog w P).hash).length:=by rw[List.length_map,←Array.length_toList];exact el.len
 have z64:64<=sizeLine:=by rw[sizeLine_eq];omega
 refine Calls.call_function_entry kind_sorted plain_sorted entry_sorted (args_sorted1 _) ?_;unfold Builtin.«sorted»;refine wpAny_bind (m:=checkCount "sorted" 1 1 _) (wpAny_pure (wpAny_bind (sd (prog:=prog) (A:=A.in1) (show A.handled=none from hh) ho hx hd T hsz hled hpl fun s' k1 k2 k3 k4 k5 k6=>?_)))
 obtain⟨W,el',pm⟩:=Els.perm (hW w S es ep) el;have el2:=el'.frame (h':=s'.heap) fun c o hc _=>k1 c o hc;obtain⟨bs,b1,b2,b3⟩:=el2.ps;have tw:=el2.tw;rw[b1] at tw ⊢;have hlen:(bs.map Value.ref).length<64:=by rw[List.length_map,b2,pm.length_eq];exact h64
 refine wpAny_bind (wpAny_newList ?_ (by omega))
 have g2:(s'.heap.push (seqObj "list" (bs.map Value.ref).toArray 0)).get? s'.heap.objs.size=some (seqObj "list" (bs.map Value.ref).toArray 0):=Heap.get?_push_size _ rfl;have tw2:TW (s'.heap.push (seqObj "list" (bs.map Value.ref).toArray 0)) (bs.map Value.ref) W:=tw.keep fun b o e _=>Heap.get?_push_of_some _ e;refine wpAny_bind (wpAny_holding (wpAny_call_entry slot_list_sort ⟨_,g2,rfl⟩ entry_list_sort (wy g2 tw2 (fun _ k hk=>ne k ((pm.mem_iff).mp hk)) hlen ⟨_,rfl,wpAny_pure ⟨_,rfl,?_⟩⟩) (args_list_sort _)))
 refine q _ s'.heap.objs.size bs W pm b2 b3 (fun b o e=>?_) k2 k3 k4 k6 (sortedHeap_at (n:=0) g2)
 ·have lt:=Heap.lt_size (k1 b o e)
  rw[show _=_ from sortedHeap_old (Nat.ne_of_lt lt) (by rw[size_push'];exact Nat.lt_succ_of_lt lt)]
  exact Heap.get?_push_of_some _ (k1 b o e)
end
theorem eB.Gc{k:Nat}{A:Around}(r:eB k A):A.units+130<cLine:=by have:=r.un;omega
theorem TWv.get{H:Hp}:∀ {xs:List V} {W:List (List Int)} {j:Nat} {x:List Int},TWv H xs W->W[j]?=some x->∃a,xs[j]?=some (.ref a)/\H a=some (.tup (x.map V.int))
 | [],[],j,x,_,h=>by simp at h
 |v::vs,y::ys,0,x,⟨⟨a,e1,e2⟩,_⟩,h=>by
  cases h;exact⟨a,by rw[e1];rfl,e2⟩
 |v::vs,y::ys,j+1,x,⟨_,q⟩,h=>TWv.get (xs:=vs) (W:=ys) q h
 | [],_::_,_,_,q,_=>q.elim
 |_::_,[],_,_,q,_=>q.elim
theorem nF:∀bs:List Addr,aQ (bs.map V.ref) (bs.map Value.ref)
 | []=>.nil
 |b::bs=>.cons rfl (nF bs)
noncomputable def PLs(P:List Int->Addr->Prop)(bs:List Addr)(W:List (List Int)):Prop:=bs.length=W.length/\∀(i:Nat)(b:Addr)(k:List Int),bs[i]?=some b->W[i]?=some k->P k b
theorem Do{P:List Int->Addr->Prop}{bs:List Addr}{W:List (List Int)}(h:PLs P bs W):∃bs',srt (bs.map V.ref) W=bs'.map V.ref/\PLs P bs' (kl W):=by
 obtain⟨hl,hp⟩:=h;refine⟨(d5 W).toList.map fun i=>bs.getD i 0,?_,by simp[kl],fun i b k hb hk=>?_⟩
 ·unfold srt
  rw[List.map_map];refine List.map_congr_left fun i hi=>?_;have hi':=(dI W).mem hi;simp only[Function.comp_apply,List.getD_eq_getElem?_getD,List.getElem?_map];rw[List.getElem?_eq_getElem (show i<bs.length by omega)]
  rfl
 ·unfold kl at hk
  rw[List.getElem?_map,Option.map_eq_some_iff] at hb hk;obtain⟨j,hj,rfl⟩:=hb;obtain⟨j',hj',rfl⟩:=hk;rw[hj] at hj';cases hj';have hjl:=(dI W).mem (List.mem_of_getElem? hj);rw[List.getD_eq_getElem?_getD,List.getD_eq_getElem?_getD,List.getElem?_eq_getElem hjl,List.getElem?_eq_getElem (show j<bs.length by omega)]
  exact hp j _ _ (List.getElem?_eq_getElem (show j<bs.length by omega)) (List.getElem?_eq_getElem hjl)
theorem nU:∀ {ks ws:List (List Int)},ks.Nodup->(∀x∈ks,x∈ws)->ks.length<=ws.length
 | [],ws,_,_=>Nat.zero_le _
 |k::ks,ws,nd,h=>by
  rw[List.nodup_cons] at nd;have hk:=h k (List.mem_cons_self ..);have ih:=nU (ws:=ws.erase k) nd.2 fun x hx=>(List.mem_erase_of_ne (fun(e:x=k)=>nd.1 (e ▸ hx))).mpr (h x (List.mem_cons_of_mem _ hx));rw[List.length_erase_of_mem hk] at ih;have:=List.length_pos_of_mem hk;rw[List.length_cons];omega
noncomputable def rJ(K:W.Frag)(ta:TA):TE:=fun σ H Q=>ta σ H fun vs H1=>∃(l:Addr) (ws:List (List Int)) (xs:List V) (P:List Int->Addr->Prop),vs=[.ref l]/\(SqL K H1 l xs\/SqT K H1 l xs)/\TWv H1 xs ws/\(∀(j:Nat)(b:Addr)(k:List Int),xs[j]?=some (.ref b)->ws[j]?=some k->P k b)/\(∀x∈ws,x≠[])/\ws.length<=63 /\
 ∀p r bs,H1 p=none->Ris r->r.Nodup->(∀x,x∈r↔x∈ws)->PLs P bs r->Q (.ref p) (upd H1 p (.lst (bs.map V.ref)))
theorem sS{X:Cx}{a:Expr}{ta:TA}{p p2 pos pos2:Pos}(K:PySem.W.Frag)(hK:X.K=K)(hc:X.calm=true)(hu:X.A.units+130<cLine)(hg:Gl X "sorted")(hm:X.mg "sorted"=none)(hg2:Gl X "set")(hm2:X.mg "set"=none)(ha:PA X [a] ta)(hs:starEach [a] X.env=[(false,eval a X.env)]:=by rfl)(hs2:starEach [.Call (.Name "set" p2) [a] [] pos2] X.env=[(false,eval (.Call (.Name "set" p2) [a] [] pos2) X.env)]:=by rfl):PE X (.Call (.Name "sorted" p) [.Call (.Name "set" p2) [a] [] pos2] [] pos) (rJ K ta):=.mk <| by
 subst hK;intro pins s σ H Q I h;refine wpAny_Call_Name_kw (jT I hg hm PyProof.Rows.boot_sorted ?_ (by decide) (by decide))
 refine PyProof.Rows.callWith_builtin1 ?_ hs2 rfl;rw[hs2];show wpAny _ _ (spliced [(false,eval (.Call (.Name "set" p2) [a] [] pos2) X.env)]) _ _ s;refine Calls.spliced_cons (Call_ (jT I hg2 hm2 PyProof.Rows.boot_set (PyProof.Rows.callWith_type1 (thn (ha pos2 pins s σ H _ I h) fun us s1 ⟨vs,H1,I1,r1,q1⟩=>?_) hs rfl) (by decide) (by decide)))
 obtain⟨l,ws,xs,P,e,hq,tw,hP,hne,hn,q⟩:=q1;subst e;obtain⟨u,rfl,rx⟩:=gE r1;cases rx;have hd:=I1.ok.hd hc;have tl:=tw.len
 have go:∀its:List Value,aQ xs its->(∀(Q2:Value->Shared->Prop),(∀(j:Nat)(x:List Int),ws[j]?=some x->∃b,its.toArray[j]?=some (.ref b)/\(wD X.prog X.w P).is s1.heap x b)->(∀(h':Heap)(tk:Nat) (ks:List (List Int)),iV (wD X.prog X.w P) h' s1.heap.objs.size (!X.w.params.followText "set-order") ks->(∀x,x∈ks↔x∈ws)->s1.toks<=tk ->
   (∀b o,b<s1.heap.objs.size->s1.heap.get? b=some o->h'.get? b=some o)->Q2 (.ref s1.heap.objs.size) { s1 with heap:=h',toks:=tk })->wpAny (model X.prog X.w) X.A (call (.type "set") [.ref l]) Q2 X.xe s1)->wpAny (model X.prog X.w) X.A (call (.type "set") [.ref l]) (fun v s'=>wpAny (model X.prog X.w) X.A (spliced []) (fun vs s2=>wpAny (model X.prog X.w) X.A (call (.builtin "sorted") (v::vs)) (EP X pins σ Q) X.xe s2) X.xe s') X.xe s1:=fun its rv cs=>by
  refine cs _ (fun j x hx=>?_) fun h' tk ks S hks htk kk=>?_
  ·obtain⟨b,hb1,hb2⟩:=tw.get hx
   obtain⟨v,hv1,hv2⟩:=rv.get hb1;cases hv2;obtain⟨_,its',e4,⟨o,e5,e6,n,e7⟩,_⟩:=I1.hok b _ hb2;exact⟨b,by rw[List.getElem?_toArray];exact hv1,⟨o,its'.toArray,n,e5,e6,e7,kC (Zs.of e4)⟩,hP j b x hb1 hx⟩
  ·refine Calls.spliced_nil ?_
   obtain⟨oS,_,_,_,hoS,_,_,_,_,_,_,nd⟩:=id S
   have kld:ks.length<64:=by
    have:=nU nd fun x hx=>(hks x).mp hx;omega
   have hsz:s1.heap.objs.size<h'.objs.size:=Heap.lt_size hoS;refine sP hd S (fun k hk=>hne k ((hks k).mp hk)) kld fun s' a bs W pm bl bP k1 k2 k3 k4 k5 k6=>?_;obtain⟨e,he⟩:=k6;obtain⟨bs',hbs,hpl⟩:=Do (P:=P) ⟨bl,bP⟩;have kp:∀b o,s1.heap.get? b=some o->s'.heap.get? b=some o:=fun b o hb=>k1 b o (kk b o (Heap.lt_size hb) hb);have r':=nF bs
   have hv:aQ (srt (bs.map V.ref) W) ((d5 W).toList.map fun i=>(bs.map Value.ref).getD i Value.none):=qf fun i hi=>by
    have hi':=(dI W).mem hi;obtain⟨u,hu,ru⟩:=r'.get (List.getElem?_eq_getElem (by rw[List.length_map];omega:i<(bs.map V.ref).length))
    rw[List.getD_eq_getElem?_getD,List.getD_eq_getElem?_getD,hu,List.getElem?_eq_getElem (by rw[List.length_map];omega:i<(bs.map V.ref).length)]
    exact ru
   have hl:(srt (bs.map V.ref) W).length<=sizeLine:=by
    have a:=(dI W).size_eq;have b:64<=sizeLine:=by rw[sizeLine_eq];omega
    have c:=pm.length_eq;simp[srt] at a ⊢;omega
   have I3:=I1.laid (t':=s'.toks) (h':=s'.heap) (a:=a) (o:=.lst (srt (bs.map V.ref) W)) kp (Nat.le_trans (Nat.le_of_lt hsz) k5) (show cI X.prog X.w _ _ _ (.lst (srt (bs.map V.ref) W)) from ⟨hl,_,e,hv,he⟩)
   have es:s'={ s1 with heap:=s'.heap,toks:=s'.toks }:=by
    cases s';simp only at k2 k3 k4;subst k2 k3 k4;rfl
   rw[es];rw[hbs] at I3;exact⟨.ref a,_,I3,rfl,q a (kl W) bs' (I1.hok.fresh (Nat.le_trans (Nat.le_of_lt hsz) k5)) (x8 W) ((jX W).nodup_iff.mpr (pm.nodup_iff.mpr nd)) (fun x=>by rw[zf,pm.mem_iff,hks]) hpl⟩
 rcases hq with hq|hq
 ·obtain⟨its,rv,pl,hz⟩:=I1.list hq
  have hlen:=rv.length;exact go its rv fun Q2 c1 c2=>sh hd (by omega) pl.isList (by rw[List.size_toArray];omega) (by rw[List.size_toArray];omega) c1 c2
 ·obtain⟨its,rv,pl,hz⟩:=I1.tuple hq
  have hlen:=rv.length;exact go its rv fun Q2 c1 c2=>um hd (by omega) pl (by rw[List.size_toArray];omega) (by rw[List.size_toArray];omega) c1 c2
noncomputable def p7(ta:AA):AE:=fun ρ Z Q=>ta ρ Z fun xs Z1=>∃(x:AV)(d:D) (ws:List (List Int)),xs=[x]/\bu Z1 x=some d/\p6 d=some (ws.map wdD)/\(∀w∈ws,w≠[])/\ws.length<=63/\∀r,Ris r->r.Nodup->(∀x,x∈r↔x∈ws)->Q (.d (.lst (r.map wdD))) Z1
theorem kB(ta:AA)(ρ:SA)(Z:Om)(Q:AV->Om->Prop):p7 ta ρ Z Q=(ta ρ Z fun xs Z1=>∃(x:AV)(d:D) (ws:List (List Int)),xs=[x]/\bu Z1 x=some d/\p6 d=some (ws.map wdD)/\(∀w∈ws,w≠[])/\ws.length<=63/\∀r,Ris r->r.Nodup->(∀x,x∈r↔x∈ws)->Q (.d (.lst (r.map wdD))) Z1):=rfl
theorem vc{G:Hp}:∀ {bs:List Addr} {r:List (List Int)},PLs (fun k b=>Dat G (wdD k) (.ref b)) bs r->aG G (r.map wdD) (bs.map V.ref)
 | [],[],_=>rfl
 |b::bs,k::r,⟨hl,h⟩=>⟨_,_,rfl,h 0 b k rfl rfl,vc ⟨by simpa using hl,fun i b' k' hb hk=>h (i+1) b' k' hb hk⟩⟩
 | [],_::_,⟨hl,_⟩=>by simp at hl
 |_::_,[],⟨hl,_⟩=>by simp at hl
theorem uX{G:Hp}:∀ {ds:List D} {xs:List V},aG G ds xs->∀ {j:Nat} {v:V} {d:D},xs[j]?=some v->ds[j]?=some d->Dat G d v
 | [],xs,h,j,v,d,_,hd=>by simp at hd
 |e::ds,xs,h,j,v,d,hv,hd=>by
  simp only[aG] at h;obtain⟨x,xr,rfl,h1,h2⟩:=h
  cases j with
  |zero=>cases hv;cases hd;exact h1
  |succ j=>exact uX h2 hv hd
theorem xf{K:W.Frag}{ta:TA}{ta':AA}(h:k7 ta ta'):bw (rJ K ta) (p7 ta'):=⟨fun F H Z σ ρ Q Q' rp rs w k=>h.go rp rs w fun xs Z1 vs H1 rp1 fr1 rs1 rv ⟨x,d,ws,e,hd,hs,hne,hn,q⟩=>by
 subst e;obtain⟨v,rfl,r1⟩:=kY rv
 have key:∀a us,v=.ref a->(SqL K H1 a us\/SqT K H1 a us)->aG (cut F H1 Z1) (ws.map wdD) us->∃(l:Addr) (ws:List (List Int)) (xs:List V) (P:List Int->Addr->Prop),[v]=[.ref l]/\(SqL K H1 l xs\/SqT K H1 l xs)/\TWv H1 xs ws/\(∀(j:Nat)(b:Addr)(k:List Int),xs[j]?=some (.ref b)->ws[j]?=some k->P k b)/\(∀x∈ws,x≠[])/\ws.length<=63 /\
   ∀p r bs,H1 p=none->Ris r->r.Nodup->(∀x,x∈r↔x∈ws)->PLs P bs r->Q (.ref p) (upd H1 p (.lst (bs.map V.ref))):=fun a us ea hq hds=>by
  refine⟨a,ws,us,fun k b=>Dat (cut F H1 Z1) (wdD k) (.ref b),by rw[ea],hq,?_,fun j b k hb hk=>uX hds hb (by rw[List.getElem?_map,hk];rfl),hne,hn,fun p r bs hp hr hnd hm hpl=>?_⟩
  ·exact TWv.of (hds.same ba)
  ·exact(k.fr fr1).lst rp1 (vc hpl) (q r hr hnd hm) p hp
 cases d with
 |lst es=>
  cases hs;obtain⟨a,us,rfl,z1,z2⟩:=dW rp1 r1 hd;exact key a us rfl (.inl (.inl (.inl z1))) z2
 |tup es=>
  cases hs
  have hx:x=.d (.tup (ws.map wdD)):=by
   cases x with
   |d d=>simp only[bu,Option.some.injEq] at hd;rw[hd]
   |r v=>
    cases v with
    |ref l=>
     simp only[bu] at hd;split at hd
     ·rw[Option.map_eq_some_iff] at hd
      obtain⟨_,_,h⟩:=hd;cases h
     ·cases hd
     ·cases hd
    |_=>simp[bu] at hd
   |p v P=>simp[bu] at hd
  subst hx;simp only[RV,Dat] at r1;obtain⟨a,us,rfl,z1,z2⟩:=r1;exact key a us rfl (.inr (.inl (.inl (ba _ _ z1)))) z2
 |_=>cases hs⟩
end L2
set_option maxRecDepth 100000
set_option maxHeartbeats 1000000
namespace L2
open PySem PySem.Spec PySem.Calls PyProof PyProof.Rows
section
variable{prog:Program}{w:World}{A:Around}{E:Value->Shared->Prop}{s:Shared}{κ:SortKind}{it:Array Keyed}{c:Nat->Nat->Bool}{n:Nat}
structure Stt(κ:SortKind)(it:Array Keyed)(p:Array Nat)(st:SortSt):Prop where
 k:kindOf st=κ
 a:arrOf st=p.map (W.kas_item it)
 f:failedOf st=none
noncomputable def gB(c:Nat->Nat->Bool)(left:Bool)(x:Nat)(q:Array Nat)(base i:Nat):Bool:=if left then c (q.getD (base+i) 0) x else !c x (q.getD (base+i) 0)
end
section
variable{prog:Program}{w:World}{A:Around}{E:Value->Shared->Prop}{s:Shared}{κ:SortKind}{it:Array Keyed}{c:Nat->Nat->Bool}{n:Nat}
noncomputable def Sg(c:Nat->Nat->Bool)(p:Array Nat)(a b:Nat):Prop:=∀i j,a<=i->i<=j->j<b->c (p.getD j 0) (p.getD i 0)=false
structure Nx(κ:SortKind)(it:Array Keyed)(n lo:Nat)(p:Array Nat)(st:SortSt)(p':Array Nat)(st':SortSt):Prop where
 o:Ord n p'
 s:Stt κ it p' st'
 d:pendingOf st'=pendingOf st
 l:∀k,k<lo->p'.getD k 0=p.getD k 0
end
section
variable{c:Nat->Nat->Bool}
noncomputable abbrev Up2(c:Nat->Nat->Bool)(l:List Nat):Prop:=l.Pairwise fun x y=>c y x=false
noncomputable def Bel(c:Nat->Nat->Bool)(l m:List Nat):Prop:=∀x∈l,∀y∈m,c y x=false
structure ML(c:Nat->Nat->Bool)(a b out:List Nat)(ia ib:Nat):Prop where
 pm:(out++(a.drop ia++b.drop ib)).Perm (a++b)
 so:Up2 c out
 la:Bel c out (a.drop ia)
 lb:Bel c out (b.drop ib)
end
section
variable{prog:Program}{w:World}{A:Around}{E:Value->Shared->Prop}{s:Shared}{κ:SortKind}{it:Array Keyed}{c:Nat->Nat->Bool}{n:Nat}
structure Sm(st st':SortSt):Prop where
 k:kindOf st'=kindOf st
 a:arrOf st'=arrOf st
 d:pendingOf st'=pendingOf st
 f:failedOf st'=failedOf st
end
section
variable{c:Nat->Nat->Bool}
noncomputable abbrev flp(c:Nat->Nat->Bool):Nat->Nat->Bool:=fun x y=>c y x
structure MH(c:Nat->Nat->Bool)(a b out:List Nat)(na nb:Nat):Prop where
 m:ML (flp c) a.reverse b.reverse out (a.length-na) (b.length-nb)
 ha:na<=a.length
 hb:nb<=b.length
end
section
variable{prog:Program}{w:World}{A:Around}{E:Value->Shared->Prop}{s:Shared}{κ:SortKind}{it:Array Keyed}{c:Nat->Nat->Bool}{n:Nat}
structure Mg(κ:SortKind)(it:Array Keyed)(n:Nat)(c:Nat->Nat->Bool)(p p':Array Nat)(st':SortSt)(a b:Nat):Prop where
 o:Ord n p'
 s:Stt κ it p' st'
 lo:∀k,k<a->p'.getD k 0=p.getD k 0
 hi:∀k,b<=k->p'.getD k 0=p.getD k 0
 g:Sg c p' a b
end
section
variable{c:Nat->Nat->Bool}
noncomputable def EQ(c:Nat->Nat->Bool)(p:Array Nat):List (Nat×Nat×Nat)->Nat->Nat->Prop
 | [],a,b=>a=b
 |x::r,a,b=>x.1=a/\1<=x.2.1/\Sg c p a (a+x.2.1)/\EQ c p r (a+x.2.1) b
end
section
variable{prog:Program}{w:World}{A:Around}{E:Value->Shared->Prop}{s:Shared}{κ:SortKind}{it:Array Keyed}{c:Nat->Nat->Bool}{n:Nat}
structure Rn(κ:SortKind)(it:Array Keyed)(n:Nat)(c:Nat->Nat->Bool)(p:Array Nat)(l:List (Nat×Nat×Nat))(lo:Nat)(st:SortSt):Prop where
 o:Ord n p
 s:Stt κ it p st
 d:pendingOf st=l.toArray
 r:EQ c p l 0 lo
end
end L2
namespace L2
open PySem PySem.Spec PySem.Calls PyProof PyProof.Rows PySem.SeqAt
mutual
noncomputable def enc:D->List Int
 |.int i=>[i]
 |.tup ds=>E9 ds
 |_=>[]
noncomputable def E9:List D->List Int
 | []=>[0]
 |d::ds=>1::(enc d++E9 ds)
end
mutual
noncomputable def nu:D->Bool
 |.int _=>true
 |.tup ds=>nus ds
 |_=>false
noncomputable def nus:List D->Bool
 | []=>true
 |d::ds=>nu d && nus ds
end
noncomputable def Fj(d:D):Prop:=∃ds r,d=.tup (.tup ds::r)
structure Rows(W:List D):Prop where
 nu:∀d∈W,nu d=true
 cm:∀d∈W,∀e∈W,cmD d e=true
 kd:(∀d∈W,E3 false d)\/∀d∈W,Fj d
end L2
namespace L2
open PySem PySem.Spec PyProof PyProof.Rows
section
variable{X:Cx}
theorem mi(hg:X.A.guards=some [])(hu:X.A.units+100<cLine)(hs:(X.K.lookup sysModules).isSome=true):de X (.builtin "repr") (fun xs H Q=>∃(x:V)(d:D),xs=[x]/\Dat H d x/\(pyD d).depth<=90/\fit d=true/\wt d<=1000000/\Q (.str (io d)) H):=by
 intro pins s σ H xs us Q I r h;obtain⟨x,d,rfl,hd,hdp,hf,hw,q⟩:=h;by_cases hn:DF d=true
 ·exact uu hg hu hs pins s σ H [x] us Q I r ⟨x,d,rfl,hd,hn,hdp,hf,hw,q⟩
 ·obtain⟨u,rfl,ru⟩:=gE r
  cases d with
  |str b=>
   simp only[Dat] at hd;subst hd;obtain⟨t,rfl⟩:=ru;exact PySem.P.repr_of_str ⟨.str (io (.str b)),H,I.tok _,⟨_,rfl⟩,q⟩ (Nat.le_trans hw (by decide))
  |_=>exact absurd rfl hn
end
noncomputable def zz:AC:=fun xs Z Q=>∃x d,xs=[x]/\bu Z x=some d/\(pyD d).depth<=90/\fit d=true/\wt d<=1000000/\Q (.d (.str (io d))) Z
theorem nL(xs:List AV)(Z:Om)(Q:AV->Om->Prop):zz xs Z Q=(∃x d,xs=[x]/\bu Z x=some d/\(pyD d).depth<=90/\fit d=true/\wt d<=1000000/\Q (.d (.str (io d))) Z):=rfl
theorem uy:no (fun xs H Q=>∃(x:V)(d:D),xs=[x]/\Dat H d x/\(pyD d).depth<=90/\fit d=true/\wt d<=1000000/\Q (.str (io d)) H) zz:=⟨fun F H Z vs xs Q Q' rp rv ⟨x,d,e1,e2,h1,h2,h3,q⟩ k=>by
 subst e1;obtain⟨v,rfl,r⟩:=kY rv
 exact⟨v,d,rfl,gj rp r e2,h1,h2,h3,k.str rp q⟩⟩
end L2
set_option maxRecDepth 1000000
set_option maxHeartbeats 4000000
namespace L2
open PySem PySem.Spec PyProof.Rows
structure NK(prog:Program)(w:World)(K:Type)[DecidableEq K] where
 rank:Nat
 is:Heap->K->Addr->Prop
 hash:K->Int
 draws:K->Nat
 tup:∀ {h:Heap} {k:K} {b:Addr},is h k b->∃o items n,h.get? b=some o/\o.cls=.type "tuple"/\o.data=.seq items n
 inj:∀ {h:Heap} {a:Addr} {x y:K},is h x a->is h y a->x=y
 frame:∀ {h h':Heap} {k:K} {b:Addr},is h k b->(∀c o items n,h.get? c=some o->o.cls=.type "tuple"->o.data=.seq items n->h'.get? c=some o)->is h' k b
 pyHash:∀ {A:Around} {E:Value->Shared->Prop} {s:Shared} {Q:Int->Shared->Prop} {k:K} {b:Addr},A.units+rank<cLine->is s.heap k b->Q (hash k) { s with toks:=s.toks+draws k }->wpAny (model prog w) A (pyHash (.ref b)) Q E s
 eqBool:∀ {A:Around} {E:Value->Shared->Prop} {s:Shared} {Q:Bool->Shared->Prop} {k l:K} {a b:Addr},A.units+rank<cLine->is s.heap k a->is s.heap l b->Q (decide (k=l)) s->wpAny (model prog w) A (PySem.eqBool (.ref a) (.ref b)) Q E s
 quiet:∀ {A:Around} {E:Value->Shared->Prop} {s:Shared} {Q:Bool->Shared->Prop} {k:K} {b:Addr} {n:Nat},rank<=n->is s.heap k b->Q true s->wpAny (model prog w) A (eqIsQuiet n (.ref b)) Q E s
 noCl:∀ {A:Around} {E:Value->Shared->Prop} {s:Shared} {Q:Bool->Shared->Prop} {k:K} {b:Addr} {n:Nat},rank<=n->is s.heap k b->Q false s->wpAny (model prog w) A (ofAClassStatement n (.ref b)) Q E s
 byV:∀ {A:Around} {E:Value->Shared->Prop} {s:Shared} {Q:Bool->Shared->Prop} {k:K} {b:Addr} {n:Nat},rank<=n->is s.heap k b->Q true s->wpAny (model prog w) A (hashByValue n (.ref b)) Q E s
section
variable{prog:Program}{w:World}{K:Type}[DecidableEq K](knd:NK prog w K)
inductive ItN (h:Heap):List K->List Value->Prop
 |nil:ItN h [] []
 |cons {k:K} {b:Addr} {ks:List K} {vs:List Value}:knd.is h k b->ItN h ks vs->ItN h (k::ks) (.ref b::vs)
variable{knd}
variable{A:Around}{E:Value->Shared->Prop}{s:Shared}
end
noncomputable def NK.hk{prog:Program}{w:World}{K:Type}[DecidableEq K](knd:NK prog w K)(hr:knd.rank<=8):HeapKind prog w K where
 is:=knd.is
 hash:=knd.hash
 draws:=knd.draws
 room:=fun A=>A.units+knd.rank<cLine
 inj:=fun hx hy=>knd.inj hx hy
 keeps:=fun x ho hd hs=>knd.frame x fun c oc items n h1 h2 h3=>(hs.2 c (fun e=>by
  rw[e,ho] at h1;cases h1;rw[hd] at h3
  cases h3)).trans h1
 pyHash:=fun hu hk h=>knd.pyHash hu hk h
 eqBool:=fun hu hx hy h=>knd.eqBool hu hx hy h
 quiet:=fun hk h=>knd.quiet hr hk h
noncomputable def Kn:Nat->Type
 |0=>List Int
 |n+1=>List (Kn n)
noncomputable def BJ:∀n,DecidableEq (Kn n)
 |0=>inferInstanceAs (DecidableEq (List Int))
 |n+1=>by
  have:=BJ n;exact inferInstanceAs (DecidableEq (List (Kn n)))
noncomputable instance knI (n:Nat):DecidableEq (Kn n):=BJ n
end L2
namespace L2
open PySem PySem.Spec PyProof PyProof.Rows
end L2
namespace L2
open PySem PySem.Spec PyProof.Rows
end L2
set_option maxRecDepth 100000
set_option maxHeartbeats 1000000
namespace L2
open PySem PySem.Spec PySem.Calls PyProof PyProof.Rows PySem.SeqAt
noncomputable def hdD:D->D
 |.tup (k::_)=>k
 |_=>.non
structure FF(W:List D):Prop where
 row:∀d∈W,∃ds r,d=.tup (.tup ds::r)/\nus ds=true
 cm:∀d∈W,∀e∈W,cmD (hdD d) (hdD e)=true
 df:(W.map hdD).Nodup
end L2
set_option maxRecDepth 1000000
set_option maxHeartbeats 4000000
namespace L2
open PySem PySem.Spec PyProof PyProof.Rows
end L2
namespace My
open PySem PySem.Spec L2
noncomputable def top(i:Nat):Stmt:=PySem.Challenge.pw_unlikeplace_k14_talks_known.main.body.getD i (.Pass ⟨0,0,0,0⟩)
noncomputable abbrev iY:Stmt:=top 2
noncomputable abbrev ml:Stmt:=top 3
noncomputable abbrev fX:Stmt:=top 4
noncomputable abbrev iQ:Stmt:=top 5
noncomputable abbrev hV:Stmt:=top 6
noncomputable abbrev fk:Stmt:=top 7
noncomputable abbrev j7:Stmt:=top 9
noncomputable abbrev mw:Stmt:=top 10
noncomputable abbrev kt:Stmt:=top 11
noncomputable abbrev gg:Stmt:=top 12
noncomputable abbrev oU:Stmt:=top 14
noncomputable abbrev mn:Stmt:=top 15
noncomputable abbrev p5:Stmt:=top 16
noncomputable abbrev jC:Stmt:=top 17
noncomputable abbrev gx:Stmt:=top 18
noncomputable abbrev jY:Stmt:=top 19
noncomputable abbrev jp:Stmt:=top 20
noncomputable abbrev eP:Stmt:=top 21
noncomputable abbrev iI:Stmt:=top 22
noncomputable abbrev fv:Stmt:=top 23
noncomputable abbrev fj:Stmt:=top 24
noncomputable abbrev gk:Stmt:=top 25
noncomputable abbrev fm:Stmt:=top 26
noncomputable abbrev cB:Stmt:=top 27
noncomputable abbrev gf:Stmt:=top 28
noncomputable abbrev i6:Stmt:=top 29
noncomputable abbrev f9:Stmt:=top 30
noncomputable abbrev ki:Stmt:=top 31
noncomputable abbrev nX:Stmt:=top 32
theorem qK:aV ["thing"] ["thing"] (defScope iY):=fsc rfl rfl rfl (by decide +kernel)
theorem xh:aV ["thing"] ["thing"] (defScope ml):=fsc rfl rfl rfl (by decide +kernel)
theorem ny:aV ["thing"] ["thing"] (defScope fX):=fsc rfl rfl rfl (by decide +kernel)
theorem qP:aV ["places","thing"] ["places","thing"] (defScope iQ):=fsc rfl rfl rfl (by decide +kernel)
theorem sk:aV ["places","thing"] ["places","thing"] (defScope hV):=fsc rfl rfl rfl (by decide +kernel)
theorem pG:aV ["some"] ["some"] (defScope fk):=fsc rfl rfl rfl (by decide +kernel)
theorem iS:aV ["places","thing","waiting","part"] ["places","thing"] (defScope j7):=fsc rfl rfl rfl (by decide +kernel)
theorem vW:aV ["places","thing"] ["places","thing"] (defScope mw):=fsc rfl rfl rfl (by decide +kernel)
theorem tT:aV ["places","thing"] ["places","thing"] (defScope kt):=fsc rfl rfl rfl (by decide +kernel)
theorem qT:aV ["places","thing"] ["places","thing"] (defScope gg):=fsc rfl rfl rfl (by decide +kernel)
theorem lQ:aV ["_law_script","_law_k","_law_cell"] ["_law_script","_law_k"] (defScope oU):=fsc rfl rfl rfl (by decide +kernel)
theorem hZ:aV ["_law_pen_here","_law_many","_law_found","_law_number"] ["_law_pen_here","_law_many"] (defScope mn):=fsc rfl rfl rfl (by decide +kernel)
theorem fQ:aV ["_law_places_here","_law_found","_law_k","_law_longer","_law_word"] ["_law_places_here"] (defScope p5):=fsc rfl rfl rfl (by decide +kernel)
theorem j8:aV ["_law_pen_here","_law_places_here","_law_some","_law_share"] ["_law_pen_here","_law_places_here"] (defScope jC):=fsc rfl rfl rfl (by decide +kernel)
theorem dX:aV ["_law_pen_here","_law_places_here","_law_left","_law_hand","_law_says_here","_law_first"] ["_law_pen_here","_law_places_here","_law_left"] (defScope gx):=fsc rfl rfl rfl (by decide +kernel)
theorem dD:aV ["_law_pen_here","_law_places_here","_law_many","_law_talk","_law_k","_law_end","_law_pair"] ["_law_pen_here","_law_places_here","_law_many"] (defScope jY):=fsc rfl rfl rfl (by decide +kernel)
theorem ii:aV ["_law_pen_here","_law_places_here","_law_many","_law_hand","_law_says_here","_law_first"] ["_law_pen_here","_law_places_here","_law_many"] (defScope jp):=fsc rfl rfl rfl (by decide +kernel)
theorem gG:aV ["_law_pen_here","_law_places_here","_law_way"] ["_law_pen_here","_law_places_here"] (defScope eP):=fsc rfl rfl rfl (by decide +kernel)
theorem qo:aV ["_law_pen_here"] ["_law_pen_here"] (defScope iI):=fsc rfl rfl rfl (by decide +kernel)
theorem mj:aV ["_law_thing","_law_most"] ["_law_thing","_law_most"] (defScope fv):=fsc rfl rfl rfl (by decide +kernel)
theorem oQ:aV ["_law_places_here","_law_thing"] ["_law_places_here","_law_thing"] (defScope fj):=fsc rfl rfl rfl (by decide +kernel)
theorem gX:aV ["_law_places_here","_law_thing","_law_pile","_law_one"] ["_law_places_here","_law_thing"] (defScope gk):=fsc rfl rfl rfl (by decide +kernel)
theorem dq:aV ["_law_pen_here","_law_says_here","_law_found","_law_at","_law_to"] ["_law_pen_here","_law_says_here"] (defScope fm):=fsc rfl rfl rfl (by decide +kernel)
theorem bA:aV ["_law_pen_here","_law_places_here","_law_says_here","_law_word","_law_some","_law_odd","_law_more"] ["_law_pen_here","_law_places_here","_law_says_here"] (defScope cB):=fsc rfl rfl rfl (by decide +kernel)
theorem aW:aV ["_law_pen_here","_law_places_here","_law_talk","_law_end","_law_kinds","_law_hand","_law_says_here","_law_first","_law_second"] ["_law_pen_here","_law_places_here","_law_talk"] (defScope gf):=fsc rfl rfl rfl (by decide +kernel)
theorem da:aV ["_law_pen_here","_law_places_here","_law_talk","_law_hand","_law_says_here","_law_first","_law_second","_law_way"] ["_law_pen_here","_law_places_here","_law_talk"] (defScope i6):=fsc rfl rfl rfl (by decide +kernel)
theorem bJ:aV ["_law_talk","_law_end","_law_path","_law_side","_law_found","_law_one"] ["_law_talk","_law_end"] (defScope f9):=fsc rfl rfl rfl (by decide +kernel)
theorem iR:aV ["_law_places_here","_law_thing","_law_kept","_law_found"] ["_law_places_here","_law_thing"] (defScope ki):=fsc rfl rfl rfl (by decide +kernel)
theorem ft:aV ["_law_script","_law_k","_law_pen_here","_law_places_here","_law_talk","_law_turn","_law_other","_law_deep_one","_law_end","_law_broad"] ["_law_script"] (defScope nX):=fsc rfl rfl rfl (by decide +kernel)
set_option genInjectivity false in
structure Adr where
 cW:Addr
 i3:FuncData
 eM:Addr
 mC:FuncData
 cb:Addr
 f6:FuncData
 cV:Addr
 iU:FuncData
 dE:Addr
 jO:FuncData
 cx:Addr
 gQ:FuncData
 dQ:Addr
 jQ:FuncData
 eU:Addr
 mT:FuncData
 dG:Addr
 jZ:FuncData
 cP:Addr
 iJ:FuncData
 fg:Addr
 ld:FuncData
 eQ:Addr
 mK:FuncData
 gv:Addr
 pZ:FuncData
 eX:Addr
 mN:FuncData
 bB:Addr
 cE:FuncData
 dO:Addr
 jP:FuncData
 dm:Addr
 gL:FuncData
 bN:Addr
 eK:FuncData
 cQ:Addr
 iK:FuncData
 bW:Addr
 fw:FuncData
 cy:Addr
 gY:FuncData
 cR:Addr
 jb:FuncData
 bT:Addr
 fz:FuncData
 cc:Addr
 gc:FuncData
 b7:Addr
 gr:FuncData
 b9:Addr
 eL:FuncData
 ce:Addr
 fY:FuncData
 dB:Addr
 kw:FuncData
 jf:Addr
 uY:FuncData
 dZ:Tok
structure Txt(K:W.Frag)(mg:Str->Option Value)(t:Adr):Prop where
 jc:mg "is_whole"=some (.ref t.cW)
 tq:Fun K "is_whole" "is_whole" iY t.cW t.i3
 iW:W.keepIn K (.ref t.cW)=true
 iM:bx K t.i3 ["thing"] []
 xk:mg "is_bit"=some (.ref t.eM)
 yN:Fun K "is_bit" "is_bit" ml t.eM t.mC
 zD:W.keepIn K (.ref t.eM)=true
 zN:bx K t.mC ["thing"] []
 jB:mg "are_places"=some (.ref t.cb)
 pd:Fun K "are_places" "are_places" fX t.cb t.f6
 jE:W.keepIn K (.ref t.cb)=true
 jH:bx K t.f6 ["thing"] []
 sq:mg "is_place"=some (.ref t.cV)
 sM:Fun K "is_place" "is_place" iQ t.cV t.iU
 tJ:W.keepIn K (.ref t.cV)=true
 sE:bx K t.iU ["places","thing"] []
 xb:mg "is_word"=some (.ref t.dE)
 wk:Fun K "is_word" "is_word" hV t.dE t.jO
 vV:W.keepIn K (.ref t.dE)=true
 wq:bx K t.jO ["places","thing"] []
 qW:mg "is_rising"=some (.ref t.cx)
 rd:Fun K "is_rising" "is_rising" fk t.cx t.gQ
 rm:W.keepIn K (.ref t.cx)=true
 qS:bx K t.gQ ["some"] []
 dH:mg "is_talk"=some (.ref t.dQ)
 vY:Fun K "is_talk" "is_talk" j7 t.dQ t.jQ
 dJ:W.keepIn K (.ref t.dQ)=true
 dC:bx K t.jQ ["places","thing"] []
 zH:mg "is_end"=some (.ref t.eU)
 x9:Fun K "is_end" "is_end" mw t.eU t.mT
 yH:W.keepIn K (.ref t.eU)=true
 xY:bx K t.mT ["places","thing"] []
 wo:mg "is_turn"=some (.ref t.dG)
 w6:Fun K "is_turn" "is_turn" kt t.dG t.jZ
 wz:W.keepIn K (.ref t.dG)=true
 wf:bx K t.jZ ["places","thing"] []
 sK:mg "are_says"=some (.ref t.cP)
 uv:Fun K "are_says" "are_says" gg t.cP t.iJ
 sJ:W.keepIn K (.ref t.cP)=true
 sn:bx K t.iJ ["places","thing"] []
 Am:mg "_law_pen"=some (.ref t.fg)
 AH:Fun K "_law_pen" "_law_pen" oU t.fg t.ld
 Bk:W.keepIn K (.ref t.fg)=true
 Aq:bx K t.ld ["_law_script","_law_k"] []
 a7:mg "_law_draw"=some (.ref t.eQ)
 z9:Fun K "_law_draw" "_law_draw" mn t.eQ t.mK
 aZ:W.keepIn K (.ref t.eQ)=true
 a0:bx K t.mK ["_law_pen_here","_law_many"] []
 oX:mg "_law_all"=some (.ref t.gv)
 AZ:Fun K "_law_all" "_law_all" p5 t.gv t.pZ
 pY:W.keepIn K (.ref t.gv)=true
 ph:bx K t.pZ ["_law_places_here"] []
 qM:mg "_law_says"=some (.ref t.eX)
 yU:Fun K "_law_says" "_law_says" jC t.eX t.mN
 rY:W.keepIn K (.ref t.eX)=true
 rk:bx K t.mN ["_law_pen_here","_law_places_here"] []
 fZ:mg "_law_any_talk"=some (.ref t.bB)
 o6:Fun K "_law_any_talk" "_law_any_talk" gx t.bB t.cE
 gq:W.keepIn K (.ref t.bB)=true
 gp:bx K t.cE ["_law_pen_here","_law_places_here","_law_left"] []
 nC:mg "_law_chain"=some (.ref t.dO)
 ww:Fun K "_law_chain" "_law_chain" jY t.dO t.jP
 nO:W.keepIn K (.ref t.dO)=true
 nR:bx K t.jP ["_law_pen_here","_law_places_here","_law_many"] []
 jt:mg "_law_wide"=some (.ref t.dm)
 zB:Fun K "_law_wide" "_law_wide" jp t.dm t.gL
 jv:W.keepIn K (.ref t.dm)=true
 jy:bx K t.gL ["_law_pen_here","_law_places_here","_law_many"] []
 m8:mg "_law_drawn_talk"=some (.ref t.bN)
 lM:Fun K "_law_drawn_talk" "_law_drawn_talk" eP t.bN t.eK
 lJ:W.keepIn K (.ref t.bN)=true
 mE:bx K t.eK ["_law_pen_here","_law_places_here"] []
 sZ:mg "_law_places"=some (.ref t.cQ)
 tF:Fun K "_law_places" "_law_places" iI t.cQ t.iK
 tI:W.keepIn K (.ref t.cQ)=true
 tW:bx K t.iK ["_law_pen_here"] []
 iy:mg "_law_is_number"=some (.ref t.bW)
 nA:Fun K "_law_is_number" "_law_is_number" fv t.bW t.fw
 iD:W.keepIn K (.ref t.bW)=true
 iw:bx K t.fw ["_law_thing","_law_most"] []
 r9:mg "_law_is_word"=some (.ref t.cy)
 qA:Fun K "_law_is_word" "_law_is_word" fj t.cy t.gY
 qJ:W.keepIn K (.ref t.cy)=true
 qY:bx K t.gY ["_law_places_here","_law_thing"] []
 ur:mg "_law_looked"=some (.ref t.cR)
 tR:Fun K "_law_looked" "_law_looked" gk t.cR t.jb
 t0:W.keepIn K (.ref t.cR)=true
 sA:bx K t.jb ["_law_places_here","_law_thing"] []
 iA:mg "_law_exchanged"=some (.ref t.bT)
 nz:Fun K "_law_exchanged" "_law_exchanged" fm t.bT t.fz
 iG:W.keepIn K (.ref t.bT)=true
 iH:bx K t.fz ["_law_pen_here","_law_says_here"] []
 pj:mg "_law_odd_says"=some (.ref t.cc)
 o8:Fun K "_law_odd_says" "_law_odd_says" cB t.cc t.gc
 pf:W.keepIn K (.ref t.cc)=true
 pp:bx K t.gc ["_law_pen_here","_law_places_here","_law_says_here"] []
 pJ:mg "_law_odd_talk"=some (.ref t.b7)
 o5:Fun K "_law_odd_talk" "_law_odd_talk" gf t.b7 t.gr
 pi:W.keepIn K (.ref t.b7)=true
 px:bx K t.gr ["_law_pen_here","_law_places_here","_law_talk"] []
 eZ:mg "_law_spoilt"=some (.ref t.b9)
 ue:Fun K "_law_spoilt" "_law_spoilt" i6 t.b9 t.eL
 eR:W.keepIn K (.ref t.b9)=true
 fb:bx K t.eL ["_law_pen_here","_law_places_here","_law_talk"] []
 pO:mg "_law_ended_so"=some (.ref t.ce)
 pc:Fun K "_law_ended_so" "_law_ended_so" f9 t.ce t.fY
 oZ:W.keepIn K (.ref t.ce)=true
 oV:bx K t.fY ["_law_talk","_law_end"] []
 fT:mg "_law_right"=some (.ref t.dB)
 wL:Fun K "_law_right" "_law_right" ki t.dB t.kw
 fD:W.keepIn K (.ref t.dB)=true
 fG:bx K t.kw ["_law_places_here","_law_thing"] []
 Fe:mg "law"=some (.ref t.jf)
 DV:Fun K "law" "law" nX t.jf t.uY
 FG:W.keepIn K (.ref t.jf)=true
 FH:bx K t.uY ["_law_script"] []
 C7:∀(s:Shared)(v:Value),BindsTo s t.uY ⟨[v],[]⟩ [("_law_script",v)]
 Cn:mg "abs"=none
 rN:mg "all"=none
 s0:mg "bool"=none
 yk:mg "int"=none
 bf:mg "isinstance"=none
 ek:mg "len"=none
 j9:mg "list"=none
 EZ:mg "max"=none
 jL:mg "range"=none
 y3:mg "repr"=none
 ED:mg "set"=none
 zQ:mg "sorted"=none
 Ez:mg "str"=none
 cO:mg "tuple"=none
 nn:mg "MOST_PLACES"=some (.int 5 t.dZ)
 sm:(K.lookup sysModules).isSome=true
set_option hygiene false
local macro_rules | `(tactic| walk_at "rd")=>`(tactic| simp only[nD,DK,CY,xU,tOp,rI0,rI,zJ,tC,C3,Aa,Ai,u4,C8,om,tCB,E6,Ab,V.ty.injEq,L2.start,List.map_cons,List.map_nil,List.cons_append,List.nil_append,List.length_cons,List.length_nil,List.replicate,List.getElem?_cons_zero,List.getElem?_cons_succ,List.set_cons_zero,List.set_cons_succ,Option.some.injEq,exists_eq_left',V.int.injEq,V.bl.injEq,V.ref.injEq,List.cons.injEq,and_true,true_and,and_assoc,exists_and_left,exists_and_right,Nat.sub_self,Nat.reduceAdd,Nat.reduceSub,decide_eq_true_eq,oR,A7,List.length_append,List.length_map,Bool.not_eq_true,Bool.not_true,Bool.not_false,if_true,if_false,Bool.false_eq_true,reduceCtorEq,false_and,and_false,or_false,false_or])
local macro_rules | `(tactic| walk_at "ab")=>`(tactic| simp only[ra,fh,m5,uS,pR,jN,dz,mR,jV,pF,lq,rZ,vJ,tp,lp,jk,ll,lH,jg,q9,lW,xS,uR,vn,uW,xn,Cf,vm,za,y6,vM,vE,vq,yv,uT,nV,ja,oe,nB,mU,rl,jR,kj,uF,iZ,mD,qp,kD,jA,uP,nZ,vB,qt,rO,qu,kB,nL,lD,qR,rq,o7,ug,uU,je,fS,u5,uw,sI,oO,qq,rW,sR,ji,zW,yM,tf,zn,xv,xW,lR,zR,yX,yj,y9,zp,rP,vG,cw,gP,zw,yK,yg,yc,iX,rg,Om.FR,Om.FT,sz1,sz2,sz3,sz4,sz5,sz6,sz7,sz8,sz9,By,Int.toNat_natCast,zX,yd,BI,BZ,B2,Cm,jI,gh,tH,uB,vT,vv,Nat.zero_le,AV.d.injEq,AV.r.injEq,D.int.injEq,D.bl.injEq,D.tup.injEq,D.lst.injEq,OC.own.injEq,V.ref.injEq,V.ty.injEq,V.int.injEq,V.bl.injEq,List.map_cons,List.map_nil,List.cons_append,List.nil_append,List.length_cons,List.length_nil,List.length_map,List.length_append,List.replicate,List.getElem?_cons_zero,List.getElem?_cons_succ,List.set_cons_zero,List.set_cons_succ,Option.some.injEq,Option.map_some,Option.join_some,exists_eq',exists_eq_left',exists_eq_right',List.cons.injEq,and_true,true_and,and_assoc,exists_and_left,exists_and_right,Nat.sub_self,Nat.reduceAdd,Nat.reduceSub,Nat.reduceLeDiff,Int.reduceLT,Int.reduceAdd,Int.reduceToNat,Nat.reduceLT,decide_eq_true_eq,Bool.not_eq_true,Bool.not_true,Bool.not_false,if_true,if_false,Bool.false_eq_true,reduceCtorEq,false_and,and_false,or_false,false_or,beq_iff_eq,bne_iff_ne,ne_eq,Bool.true_eq_false])
local macro_rules | `(tactic| walk_at "a1")=>`(tactic| simp only[ra,m5,uS,pR,jN,dz,mR,jV,pF,lq,rZ,vJ,tp,lp,jk,ll,lH,jg,q9,lW,xS,uR,vn,uW,xn,Cf,vm,za,y6,vM,vE,vq,yv,uT,nV,ja,oe,nB,mU,rl,jR,kj,uF,iZ,mD,qp,kD,jA,uP,nZ,vB,qt,rO,qu,kB,nL,lD,qR,rq,o7,ug,uU,je,fS,u5,uw,sI,oO,qq,rW,sR,ji,zW,yM,tf,zn,xv,xW,lR,zR,yX,yj,y9,zp,rP,vG,cw,gP,zw,yK,yg,yc,iX,rg,Om.FR,Om.FT,sz1,sz2,sz3,sz4,sz5,sz6,sz7,sz8,sz9,By,Int.toNat_natCast,zX,yd,BI,BZ,B2,Cm,jI,gh,tH,uB,vT,vv,Nat.zero_le,AV.d.injEq,AV.r.injEq,D.int.injEq,D.bl.injEq,D.tup.injEq,D.lst.injEq,OC.own.injEq,V.ref.injEq,V.ty.injEq,V.int.injEq,V.bl.injEq,List.map_cons,List.map_nil,List.cons_append,List.nil_append,List.length_cons,List.length_nil,List.length_map,List.length_append,List.replicate,List.getElem?_cons_zero,List.getElem?_cons_succ,List.set_cons_zero,List.set_cons_succ,Option.some.injEq,Option.map_some,Option.join_some,exists_eq',exists_eq_left',exists_eq_right',List.cons.injEq,and_true,true_and,and_assoc,exists_and_left,exists_and_right,Nat.sub_self,Nat.reduceAdd,Nat.reduceSub,Nat.reduceLeDiff,Int.reduceLT,Int.reduceAdd,Int.reduceToNat,Nat.reduceLT,decide_eq_true_eq,Bool.not_eq_true,Bool.not_true,Bool.not_false,if_true,if_false,Bool.false_eq_true,reduceCtorEq,false_and,and_false,or_false,false_or,beq_iff_eq,bne_iff_ne,ne_eq,Bool.true_eq_false])
local macro_rules | `(tactic| walk_at "s1")=>`(tactic| (try walk_at "a1");(first|rw[fh]|rw[y8]);walk_at "a1")
set_option hygiene true
section
variable{P:Program}{w:World}{K:W.Frag}{mg:Str->Option Value}{base:Heap}{t:Adr}
noncomputable def oG:ASp:=fun xs Z Q=>∃(p:Addr)(m:Int),xs=[.r (.ref p),.d (.int m)]/\cZ Z p/\0<m/\m<1073741824/\∀(r:Int)(c:Pn),0<=r->r<m->Q (.d (.int r)) (Z.put p (bC c))
theorem dn(T:Txt K mg t):aO P w K mg base CX0 1 t.eQ t.mK ["_law_pen_here","_law_many"] (ca oG):=by
 refine T.z9.okA hZ (fun xs Z Q h=>by obtain⟨p,m,rfl,_⟩:=h;rfl) (fun cdv A outer s H E hr=>⟨_,_,(ai (bM (aX BS (bd (aE K rfl) (pv 0) ah (fun _ _=>rfl)) ah (a8 _)) (ai (aD (i:=2) hZ.nd rfl (Or.inl rfl) (aA f8 (bd (aE K rfl) (pv 0) ah (fun _ _=>rfl)) (pv 1)))
   (ai (mF (aA js (bd (aE K rfl) (pv 0) ah (fun _ _=>rfl)) (pv 1)) (pT (pv 0) ah jo))
   (ap (aM (pv 2))))) bc)
   (ai (mF (aA (ak aH (ak ay aN)) (bd (aE K rfl) (pv 0) ah (fun _ _=>rfl)) ah) (pT (pv 0) ah jo))
   (ai (aD (i:=3) hZ.nd rfl (Or.inl rfl) (aA f8 (aA (ak aH (ak ay aN)) (aA (ak aH (ak ay aN)) (aA (ak jW t8) (bd (aE K rfl) (pv 0) ah (fun _ _=>rfl)) ah) (aA (ak jW t8) (bd (aE K rfl) (pv 0) ah (fun _ _=>rfl)) ah)) ah) ah))
   (ai (aD (i:=3) hZ.nd rfl (Or.inl rfl) (aA f8 (aA (ak jW t8) (pv 3) (aA (ak aH (ak ay aN)) (aA f8 (pv 3) ah) (bd (aE K rfl) (pv 0) ah (fun _ _=>rfl)))) ah))
   (ap (aM (aA f8 (aA js (pv 3) ah) (pv 1)))))))),(ax (dg (bn (au iF (au bO ac aj) aj)) (ax (aR (au nc (au bO ac aj) ac) aq)
   (ax (aR (au nc (au bO ac aj) ac) (u9 ac aj))
   (a9 ac))) bz)
   (ax (aR (au be (au bO ac aj) aj) (u9 ac aj))
   (ax (aR (au nc (au be (au be (au x5 (au bO ac aj) aj) (au x5 (au bO ac aj) aj)) aj) aj) aq)
   (ax (aR (au nc (au x5 ac (au be (au nc ac aj) (au bO ac aj))) aj) aq)
   (a9 (au nc (au nc ac aj) ac)))))),fun xs Z Q h=>?_⟩)
 obtain⟨p,m,rfl,⟨c,hp⟩,hm,hm2,k⟩:=h;have fin:∀(r:Int)(c:Pn),Q (.d (.int (r%m))) (Z.put p (bC c)):=fun r c=>k _ c (Int.emod_nonneg _ (by omega)) (Int.emod_lt_of_pos _ hm)
 unfold bC at hp;walk_at "ab";simp only[hp];walk_at "ab";refine i9 (fun h1=>⟨hm,⟨hm,hm2⟩,fin _ ⟨c.f / m,c.x,c.i,Int.ediv_nonneg c.h (by omega)⟩⟩) (fun h1=>?_)
 simp only[hp];walk_at "ab";exact⟨sC (by decide),sC (by decide),zC (by decide) (by decide),⟨by decide,by decide⟩,hm,fin _ ⟨c.f,c.x,c.i+1,c.h⟩⟩
noncomputable def Bc(K:W.Frag):Sp:=fun vs H Q _=>∃(a:Addr)(ns:List Int)(i:Int),vs=[.ref a,.int i]/\0<=i/\SqL K H a (ns.map V.int)/\ns.length<=1000/\∀p (c:Pn),H p=none->Q (.ref p) (upd H p (.lst [.int c.f,.int c.x,.int c.i]))
theorem Bu(T:Txt K mg t):aO P w K mg base CX0 1 t.fg t.ld ["_law_script","_law_k"] (Bc K):=by
 refine T.AH.ok lQ (fun vs H Q E h=>?_) (fun cdv A outer s H vs Q E hr h=>?_)
 ·obtain⟨a,ns,i,rfl,_⟩:=h;rfl
 ·obtain⟨a,ns,i,rfl,hi,hS,hnl,k⟩:=h
  have absn:∀z:Int,0<=(if z<0 then -z else z):=fun z=>by split<;>omega
  have fin:∀(f x y:Int)(p:Addr),0<=f->H p=none->Q (.ref p) (upd H p (.lst [.int f,.int x,.int y])):=fun f x y p hf hp=>k p ⟨f,x,y,hf⟩ hp
  refine⟨_,(ai (aD (i:=2) lQ.nd rfl (Or.inl rfl) (aA aH (aA jW ah (pv 1)) ah))
   (ai (bM (aX BS (aF gN (by rfl) T.ek (by kernel_rfl) (ab (pv 0) ae)) ah (a8 _)) (ap (aD (i:=2) lQ.nd rfl (Or.inl rfl) (aA aH (bd vo (pv 0) (aA f8 (pv 1) (aF gN (by rfl) T.ek (by kernel_rfl) (ab (pv 0) ae))) (fun _ _=>rfl)) (aA jW (aA js (pv 1) (aF gN (by rfl) T.ek (by kernel_rfl) (ab (pv 0) ae))) ah)))) bc)
   (ai (bM (PW.pt (Dw (aX uO (pv 1) (aF gN (by rfl) T.ek (by kernel_rfl) (ab (pv 0) ae)) (a8 _)) (An (aX Ey (aF qh (by rfl) T.Cn (by kernel_rfl) (ab (pv 2) ae)) (aA Dm ah ah) (a8 _))))) (ap (aM (aP (ab (aF qh (by rfl) T.Cn (by kernel_rfl) (ab (pv 2) ae)) (ab (aA f8 (pv 2) ah) (af ah ae)))))) bc)
   (ap (aM (aP (af ah (ab (aA aH (aA f8 (pv 2) ah) (aA jW ah (pv 1))) (af ah ae))))))))),?_⟩
  walk_at "rd";refine⟨mI (by decide),_,jr hS,i9 (fun h1=>?_) (fun h1=>?_)⟩
  ·rw[List.length_map] at h1
   have hx1:0<=i%(ns.length:Int):=Int.emod_nonneg _ (by omega)
   have hx2:i%(ns.length:Int)<(ns.length:Int):=Int.emod_lt_of_pos _ (by omega)
   obtain⟨x,hx⟩:=y4 (ns:=ns) hx1 hx2;refine⟨_,jr hS,by rw[List.length_map];omega,_,hS,_,by rw[List.length_map];exact hx,_,jr hS,⟨by rw[List.length_map];omega,by rw[List.length_map];omega⟩,sC (by decide),_,rfl,_,jr hS,i9 (fun h2=>⟨⟨by decide,by decide,by decide⟩,i9 (fun h3=>?_) (fun h3=>?_)⟩) (fun h2=>?_)⟩
   ·exact⟨by decide,by decide,fun p hp=>fin _ _ _ p (absn _) hp⟩
   ·exact⟨by decide,mI (by decide),by decide,fun p hp=>fin _ _ _ p (by decide) hp⟩
   ·exact⟨by decide,mI (by decide),by decide,fun p hp=>fin _ _ _ p (by decide) hp⟩
  ·refine⟨_,jr hS,i9 (fun h2=>⟨⟨by decide,by decide,by decide⟩,i9 (fun h3=>?_) (fun h3=>?_)⟩) (fun h2=>?_)⟩
   ·exact⟨by decide,by decide,fun p hp=>fin _ _ _ p (absn _) hp⟩
   ·exact⟨by decide,mI (by decide),by decide,fun p hp=>fin _ _ _ p (by decide) hp⟩
   ·exact⟨by decide,mI (by decide),by decide,fun p hp=>fin _ _ _ p (by decide) hp⟩
noncomputable def scr(K:W.Frag)(a:Addr)(ns:List Int):AV:=.p (.ref a) (fun H=>SqL K H a (ns.map V.int))
noncomputable def Dz(K:W.Frag):ASp:=fun xs Z Q=>∃(a:Addr)(ns:List Int)(i:Int),xs=[scr K a ns,.d (.int i)]/\0<=i/\ns.length<=1000/\∀p c,Z p=none->Q (.r (.ref p)) (Z.put p (bC c))
theorem Da(T:Txt K mg t):aO P w K mg base CX0 1 t.fg t.ld ["_law_script","_law_k"] (ca (Dz K)):=(Bu T).imp fun vs H Q E h=>by
 obtain⟨F,xs,Z,Q',rp,rv,⟨a,ns,i,rfl,hi,hn,q⟩,k⟩:=h;obtain⟨v,u,rfl,r1,r2⟩:=DJ rv;obtain⟨rfl,r1⟩:=r1;cases bG r2;refine⟨a,ns,i,rfl,hi,r1 _ ba,hn,fun p c hp=>?_⟩;obtain⟨rp2,fr2⟩:=rp.mk' (xs:=[.d (.int c.f),.d (.int c.x),.d (.int c.i)]) (vs:=[.int c.f,.int c.x,.int c.i]) hp ⟨_,_,rfl,by simp[RV,Dat],_,_,rfl,by simp[RV,Dat],_,_,rfl,by simp[RV,Dat],rfl⟩
 exact k (.r (.ref p)) _ _ _ rp2 fr2 rfl (q p c (rp.free hp).1)
theorem wH{H:Hp}{a:Addr}{ns:List Int}(h:SqL K H a (ns.map V.int)):RV (cut (fun _=>false) H (fun _=>none)) (scr K a ns) (.ref a):=by
 refine⟨rfl,fun G' s=>?_⟩;have s2:dj H G':=fun b o e=>s b o (bY.mpr ⟨rfl,rfl,e⟩);rcases h with(h|⟨o,h⟩)|h
 ·exact .inl (.inl (s2 _ _ h))
 ·exact .inl (.inr ⟨o,s2 _ _ h⟩)
 ·exact .inr h
theorem Ff{H:Hp}:Rep (fun _=>false) H (fun _=>none):=⟨fun _ _ h=>by simp at h,fun _ _ h=>by simp at h,fun _ h=>by simp at h,fun _ _ h=>by simp at h,fun _ _ h=>by simp at h⟩
noncomputable def A5(K:W.Frag):ASp:=fun xs Z Q=>∃(a:Addr)(ns:List Int),xs=[scr K a ns]/\ns.length<=63/\Z=(fun _=>none)/\∀Z',Q (.d (.bl true)) Z'
noncomputable def tz(K:W.Frag):Sp:=ca (A5 K)
theorem wE{K:W.Frag}{H:Hp}{a:Addr}{ns:List Int}(hl:ns.length<=63)(hO:DL H)(hS:SqL K H a (ns.map V.int)):tz K [.ref a] H (fun v _=>v=.bl true) fun _ _ _=>False:=
 ⟨fun _=>false,[scr K a ns],fun _=>none,fun a _=>a=.d (.bl true),Ff,⟨_,_,rfl,wH hS,rfl⟩,⟨a,ns,rfl,hl,rfl,fun _=>rfl⟩,fun a Z' v H' _ _ rv q=>by subst q;exact rE rv⟩
noncomputable def CN:ASp:=fun xs Z Q=>∃n:Nat,xs=[.d (.int n)]/\n<=5/\Q (.d (.lst ((wl n).map wdD))) Z
theorem sw(T:Txt K mg t):aO P w K mg base CX0 1 t.gv t.pZ ["_law_places_here"] (ca CN):=by
 refine T.AZ.okD fQ (fun xs Z Q h=>by obtain⟨n,rfl,_⟩:=h;rfl) (fun cdv A outer s H E hr=>⟨_,_,(ai (aD (i:=1) fQ.nd rfl (Or.inl rfl) (aP (av (ao ae) ae)))
   (ai (i5 PassesOwn.never rfl (fL rfl T.jL (ab (pv 0) ae)) (bg (i:=2) fQ.nd rfl (Or.inl rfl)) (ai (aD (i:=3) fQ.nd rfl (Or.inl rfl) (aP ae))
   (ai (i5 PassesOwn.never rfl (d9 K rfl (pv 1)) (bg (i:=4) fQ.nd rfl (Or.inl rfl)) (ap (ic (oa PySem.F.plainAttrs_list PySem.F.slot_list_extend PySem.F.type_list_extend n6 (pv 3) (bL (aP (ab (aA (ak aH (ak ay aN)) (pv 4) (ao (af ah ae))) (ab (aA (ak aH (ak ay aN)) (pv 4) (ao (af ah ae))) ae))) ae)))))
   (ap (aD (i:=1) fQ.nd rfl (Or.inl rfl) (pv 3))))))
   (ap (aM (pv 1))))),(ax (aR (bq (aa (aw ag) ag)) aq)
   (ax (mW (lK (aa ac ag)) aq (ax (aR (kg ag) aq)
   (ax (mW (gD ac) aq (ka (rV ac (aa (bq (aa (au be ac (aw (aa aj ag))) (aa (au be ac (aw (aa aj ag))) ag))) ag))))
   (aR DE aq))))
   (a9 ac))),fun xs Z Q h=>?_⟩)
 obtain⟨n,rfl,hn,k⟩:=h;walk_at "ab";refine⟨by omega,by omega,?_⟩
 refine lF (fun i ρ Z'=>∃v2 v3 v4,ρ=[some (.d (.int n)),some (.d (.lst ((wl i).map wdD))),v2,v3,v4]/\Ex Z Z') ⟨_,_,_,rfl,Ex.refl _⟩ ?_ ?_
 ·rintro i ρ Z1 N hi ⟨v2,v3,v4,rfl,ex⟩ kN
  have hw:=kE (n:=i) (by omega)
  walk_at "ab";refine fun l hl=>?_;refine x4 (fun j ρ Z2=>∃v4,ρ=[some (.d (.int n)),some (.d (.lst ((wl i).map wdD))),some (.d (.int (0+i))),some (.r (.ref l)),v4]/\Z2=Z1.put l (.own (((((wl i).take j).flatMap fun w=>[w++[0],w++[1]]).map wdD).map AV.d))) ⟨_,rfl,rfl⟩ ?_ ?_
  ·rintro j d ρ Z2 M hd ⟨v4,rfl,rfl⟩ kM
   obtain⟨x,hx,rfl⟩:=AU hd;have hx1:=(i7 (List.mem_of_getElem? hx)).1;have hj:=(List.getElem?_eq_some_iff.mp hx).1
   have hl2:((((wl i).take j).flatMap fun w=>[w++[0],w++[1]]).length)=2*j:=by
    have h:∀ws:List (List Int),(ws.flatMap fun w=>[w++[0],w++[1]]).length=2*ws.length:=fun ws=>by
     induction ws with
     |nil=>rfl
     |cons a r ih=>rw[List.flatMap_cons,List.length_append,ih];simp;omega
    rw[h,List.length_take];omega
   walk_at "ab";refine⟨mQ (m:=0) (by omega),mQ (m:=0) (by omega),mQ (m:=0) (by rw[hl2];omega),kM _ _ ⟨_,rfl,?_⟩⟩
   rw[List.take_succ,hx,List.flatMap_append];simp
  ·rintro ρ Z2 ⟨v4,rfl,rfl⟩
   rw[List.length_map,List.take_length];walk_at "ab";exact kN _ _ ⟨_,_,_,rfl,ex.new hl⟩
 ·rintro ρ Z1 ⟨v2,v3,v4,rfl,ex⟩
  walk_at "ab";rw[lh ex];exact k
noncomputable def wZ:ASp:=fun xs Z Q=>∃p,xs=[.r (.ref p)]/\cZ Z p/\∀(n:Nat)(c:Pn),1<=n->n<=5->Q (.d (.int n)) (Z.put p (bC c))
theorem wP(T:Txt K mg t):aO P w K mg base CX0 2 t.cQ t.iK ["_law_pen_here"] (ca wZ):=by
 have G_l_draw:aO P w K mg base _ _ _ _ _ _:=dn T;refine T.tF.okD qo (fun xs Z Q h=>by obtain⟨n,rfl,_⟩:=h;rfl) (fun cdv A outer s H E hr=>⟨_,_,(ap (aM (bd (aE K rfl) (aP (af ah (af ah (af ah (af ah (af ah (af ah (af ah (af ah ae))))))))) (am G_l_draw (hr.mono (by omega)) (by rfl) T.a7 T.aZ T.a0 .nil aB (ab (pv 0) (af ah ae))) (fun _ _=>rfl)))),(a9 (au bO (bq (aa aj (aa aj (aa aj (aa aj (aa aj (aa aj (aa aj (aa aj ag))))))))) (ar (aa ac (aa aj ag))))),fun xs Z Q h=>?_⟩)
 obtain⟨p,rfl,hp,k⟩:=h;walk_at "ab";refine⟨p,8,rfl,hp,by decide,by decide,fun r c h0 h1=>?_⟩
 obtain⟨n,rfl⟩:=Int.eq_ofNat_of_zero_le h0;have:n<8:=by omega
 have q:∀m:Nat,1<=m->m<=5->Q (.d (.int m)) ((Z.put p (bC c)).only Z):=fun m a b=>by rw[bD hp];exact k m c a b
 walk_at "ab"
 match n,this with
 |0,_=>exact⟨_,rfl,_,rfl,q 1 (by decide) (by decide)⟩
 |1,_=>exact⟨_,rfl,_,rfl,q 2 (by decide) (by decide)⟩
 |2,_=>exact⟨_,rfl,_,rfl,q 2 (by decide) (by decide)⟩
 |3,_=>exact⟨_,rfl,_,rfl,q 3 (by decide) (by decide)⟩
 |4,_=>exact⟨_,rfl,_,rfl,q 3 (by decide) (by decide)⟩
 |5,_=>exact⟨_,rfl,_,rfl,q 3 (by decide) (by decide)⟩
 |6,_=>exact⟨_,rfl,_,rfl,q 4 (by decide) (by decide)⟩
 |7,_=>exact⟨_,rfl,_,rfl,q 5 (by decide) (by decide)⟩
noncomputable def Be:ASp:=fun xs Z Q=>∃(p:Addr)(n:Nat),xs=[.r (.ref p),.d (.int n)]/\cZ Z p/\n<=5/\∀(ws:List (List Int)) (c:Pn),ws.Sublist (wl n)->Q (.d (.tup (ws.map wdD))) (Z.put p (bC c))
theorem ve(T:Txt K mg t):aO P w K mg base CX0 2 t.eX t.mN ["_law_pen_here","_law_places_here"] (ca Be):=by
 have G_l_all:aO P w K mg base _ _ _ _ _ _:=sw T;have G_l_draw:aO P w K mg base _ _ _ _ _ _:=dn T
 refine T.yU.okD j8 (fun xs Z Q h=>by obtain ⟨p,n,rfl,_⟩:=h;rfl) (fun cdv A outer s H E hr=>⟨_,_,(ai (aD (i:=2) j8.nd rfl (Or.inl rfl) (am G_l_all (hr.mono (by omega)) (by rfl) T.oX T.pY T.ph .nil aB (ab (pv 1) ae)))
   (ai (aD (i:=3) j8.nd rfl (Or.inr rfl) (bd (aE K rfl) (aP (av (ao (af ah (af ah ae))) (av (ao (af ah (af ah ae))) (av (ao (af ah (af ah ae))) (av (ao (af ah (af ah ae))) (av (ao (af ah (af ah ae))) ae)))))) (am G_l_draw (hr.mono (by omega)) (by rfl) T.a7 T.aZ T.a0 .nil aB (ab (pv 0) (af ah ae))) (fun _ _=>rfl)))
   (ap (aM (bR (cz K rfl) (by rfl) T.cO (by kernel_rfl) (ab (dU (N:=(["_law_word","_law_pen_here","_law_share"]:List Str)) (src:=[none,some 0,some 3]) rfl (by show eW _ (defScope jC) _ _ (["_law_pen_here","_law_places_here","_law_some","_law_share"]:List Str)=true;decide +kernel) (by intro g' h;cases h) (d9 K rfl (pv 2)) (fun _ _ _ _ _ _=>(bg (i:=0) (show (["_law_word","_law_pen_here","_law_share"]:List Str).Nodup by decide +kernel) rfl (Or.inl rfl))) (fun _ _ _ _ _ _=>(pe (aX uO (am G_l_draw (hr.mono (by omega)) (by rfl) T.a7 T.aZ T.a0 .nil aB (ab (pv 1) (ab (bd (aE K rfl) (pv 2) ah (fun _ _=>rfl)) ae))) (bd (aE K rfl) (pv 2) ah (fun _ _=>rfl)) (a8 _)))) (fun _ _ _ _ _ _=>(dY rfl rfl (pv 0)))) ae)))))),(ax (aR (ar (aa ac ag)) aq)
   (ax (aR (au bO (bq (aa (aw (aa aj (aa aj ag))) (aa (aw (aa aj (aa aj ag))) (aa (aw (aa aj (aa aj ag))) (aa (aw (aa aj (aa aj ag))) (aa (aw (aa aj (aa aj ag))) ag)))))) (ar (aa ac (aa aj ag)))) aq)
   (a9 (bQ jw (aa (fy (gD ac) aq (bn (au iF (ar (aa ac (aa (au bO ac aj) ag))) (au bO ac aj))) (fu ac)) ag))))),fun xs Z Q h=>?_⟩)
 obtain⟨p,n,rfl,hp,hn,k⟩:=h;have hw:=kE hn;walk_at "ab";refine⟨n,rfl,hn,p,5,rfl,hp,by decide,by decide,fun r c h0 h1=>?_⟩
 have fin:∀(a b:Int),0<b->b<100->∀c,du (gu 0) (xH (aOp (aI0 fun i j=>D.bl (decide (i<j))) (zi oG (uI (qy 1) (uI (aOp aIx (qy 2) (aC (D.int 1))) Dt))) (aOp aIx (qy 2) (aC (D.int 0))))) (jM (qy 0)) (List.map AV.d ((wl n).map wdD)) [] [none,some (.r (.ref p)),some (.d (.tup [.int a,.int b]))] (Z.put p (bC c))
   fun xs _ Z'=>∃ds,und xs=some ds/\Q (.d (.tup ds)) (Z'.only Z):=fun a b hb hb2 c=>by
  refine oy c (fun d hd c' Q' q=>?_) (fun d hd c' Q' q=>?_) (mQ (m:=0) (by rw[List.length_map];omega)) (fun es ρ c' hs=>?_)
  ·walk_at "ab"
   refine⟨p,b,rfl,az,hb,by omega,fun r c2 _ _=>?_⟩
   walk_at "ab";exact q _ _
  ·walk_at "ab"
   exact q
  ·obtain⟨ws,rfl,hs2⟩:=vD hs hn
   rw[cw];refine⟨_,rfl,?_⟩;rw[bD hp];exact k ws c' hs2
 obtain⟨m,rfl⟩:=Int.eq_ofNat_of_zero_le h0;have:m<5:=by omega
 match m,this with
 |0,_=>walk_at "ab";exact⟨_,rfl,fin _ _ (by decide) (by decide) c⟩
 |1,_=>walk_at "ab";exact⟨_,rfl,fin _ _ (by decide) (by decide) c⟩
 |2,_=>walk_at "ab";exact⟨_,rfl,fin _ _ (by decide) (by decide) c⟩
 |3,_=>walk_at "ab";exact⟨_,rfl,fin _ _ (by decide) (by decide) c⟩
 |4,_=>walk_at "ab";exact⟨_,rfl,fin _ _ (by decide) (by decide) c⟩
noncomputable def sbT(n:Nat):Ta->Prop
 |.en i=>0<=i/\i<n
 |.nd _ ws l r=>ws.Sublist (wl n)/\sbT n l/\sbT n r
noncomputable def pQ(r:Nat):ASp:=fun xs Z Q=>∃(p:Addr)(n:Nat),xs=[.r (.ref p),.d (.int n),.d (.int r)]/\cZ Z p/\1<=n/\n<=5/\∀(u:Ta)(c:Pn),sbT n u->u.dp<=r->Q (.d u.d) (Z.put p (bC c))
theorem qj(T:Txt K mg t)(r:Nat)(kk:Nat)(sp:ASp)(hk:2<=kk)(G_l_any_talk:aO P w K mg base CX0 kk t.bB t.cE ["_law_pen_here","_law_places_here","_law_left"] (ca sp))(hs:∀r',r=r'+1->sp=pQ r'):aO P w K mg base CX0 (kk+1) t.bB t.cE ["_law_pen_here","_law_places_here","_law_left"] (ca (pQ r)):=by
 have G_l_says:aO P w K mg base _ _ _ _ _ _:=ve T;have G_l_draw:aO P w K mg base _ _ _ _ _ _:=dn T
 refine T.o6.okD dX (fun xs Z Q h=>by obtain ⟨p,n,rfl,_⟩:=h;rfl) (fun cdv A outer s H E hr=>⟨_,_,(ai (bM (PW.pt (ff (aX (cq hr.FU) (pv 2) ah (a8 _)) (dN (aX (cq hr.FU) (am G_l_draw (hr.mono (by omega)) (by rfl) T.a7 T.aZ T.a0 .nil aB (ab (pv 0) (af ah ae))) ah (a8 _))))) (ap (aM (ao (af aL (ab (am G_l_draw (hr.mono (by omega)) (by rfl) T.a7 T.aZ T.a0 .nil aB (ab (pv 0) (ab (pv 1) ae))) ae))))) bc)
   (ai (aD (i:=3) dX.nd rfl (Or.inl rfl) (bd (aE K rfl) (aP (af aL (af aL ae))) (am G_l_draw (hr.mono (by omega)) (by rfl) T.a7 T.aZ T.a0 .nil aB (ab (pv 0) (af ah ae))) (fun _ _=>rfl)))
   (ai (aD (i:=4) dX.nd rfl (Or.inl rfl) (am G_l_says (hr.mono (by omega)) (by rfl) T.qM T.rY T.rk .nil aB (ab (pv 0) (ab (pv 1) ae))))
   (ai (aD (i:=5) dX.nd rfl (Or.inl rfl) (am G_l_any_talk (hr.mono (by omega)) (by rfl) T.fZ T.gq T.gp .nil aB (ab (pv 0) (ab (pv 1) (ab (aA kh (pv 2) ah) ae)))))
   (ap (aM (ao (ab (pv 3) (ab (pv 4) (ab (pv 5) (ab (am G_l_any_talk (hr.mono (by omega)) (by rfl) T.fZ T.gq T.gp .nil aB (ab (pv 0) (ab (pv 1) (ab (aA kh (pv 2) ah) ae)))) ae))))))))))),(ax (dg (jG (bn (au cr ac aj)) (bn (au cr (ar (aa ac (aa aj ag))) aj))) (a9 (aw (aa aY (aa (ar (aa ac (aa ac ag))) ag)))) bz)
   (ax (aR (au bO (bq (aa aY (aa aY ag))) (ar (aa ac (aa aj ag)))) aq)
   (ax (aR (ar (aa ac (aa ac ag))) aq)
   (ax (aR (ar (aa ac (aa ac (aa (au nS ac aj) ag)))) aq)
   (a9 (aw (aa ac (aa ac (aa ac (aa (ar (aa ac (aa ac (aa (au nS ac aj) ag)))) ag)))))))))),fun xs Z Q h=>?_⟩)
 obtain⟨p,n,rfl,hp,hn1,hn,k⟩:=h
 have fend:∀Z1,cZ Z1 p->(∀c,Z1.put p (bC c)=Z.put p (bC c))->oG [.r (.ref p),.d (.int n)] Z1 fun x Z1=>∃ds,Option.map (fun x=>D.str "end"::x) (und [x])=some ds/\Q (AV.d (D.tup ds)) (Z1.only Z):=fun Z1 h1 h2=>by
  refine⟨p,n,rfl,h1,by omega,by omega,fun r c h0 h1=>⟨_,rfl,?_⟩⟩
  rw[h2,bD hp];exact k (.en r) c ⟨h0,h1⟩ (Nat.zero_le _)
 walk_at "ab";refine i9 (fun h=>fend Z hp fun _=>rfl) (fun h=>?_);obtain⟨r',rfl⟩:∃r',r=r'+1:=⟨r-1,by omega⟩
 cases hs r' rfl;refine⟨p,6,rfl,hp,by decide,by decide,fun x c h0 h1=>?_⟩
 walk_at "ab";refine i9 (fun h=>fend _ az fun _=>Om.FT) (fun h=>?_);refine⟨p,2,rfl,az,by decide,by decide,fun y c2 g0 g1=>?_⟩
 walk_at "ab"
 have hand:∃b:Bool,atI [AV.d (D.str ("yes":Str)),AV.d (D.str ("no":Str))] y=some (.d (.str (if b then "yes" else "no"))):=by
  rcases(by omega:y=0\/y=1) with rfl|rfl
  ·exact⟨true,rfl⟩
  ·exact⟨false,rfl⟩
 obtain⟨b,hb⟩:=hand;refine⟨_,hb,p,n,rfl,az,hn,fun ws c3 hws=>?_⟩;have e1:((r'+1:Nat):Int)-1=(r':Int):=by omega
 refine⟨p,n,by rw[e1],by rw[Om.FT];exact az,hn1,hn,fun u c4 hu hd=>?_⟩
 refine⟨p,n,by rw[e1],by rw[Om.FT];exact az,hn1,hn,fun u2 c5 hu2 hd2=>?_⟩
 refine⟨_,rfl,?_⟩;walk_at "ab";rw[bD hp];exact k (.nd b ws u u2) c5 ⟨hws,hu,hu2⟩ (by simp only[Ta.dp];omega)
theorem tK(T:Txt K mg t):∀r,aO P w K mg base CX0 (r+3) t.bB t.cE ["_law_pen_here","_law_places_here","_law_left"] (ca (pQ r))
 |0=>qj T 0 2 (fun _ _ _=>False) (Nat.le_refl _) ⟨fun _ _ _ _ h=>by obtain⟨_,_,_,_,_,_,h,_⟩:=h;exact h.elim,fun _ _ _ _ _ _ _ _ _ _ _ _ _ h=>by obtain⟨_,_,_,_,_,_,h,_⟩:=h;exact h.elim⟩ (fun r' h=>by omega)
 |r+1=>qj T (r+1) (r+3) _ (by omega) (tK T r) (fun r' h=>by cases h;rfl)
noncomputable def xq:ASp:=fun xs Z Q=>∃(p:Addr)(n m:Nat),xs=[.r (.ref p),.d (.int n),.d (.int m)]/\cZ Z p/\1<=n/\n<=5/\m<=100/\∀(u:Ta)(c:Pn),sbT n u->u.dp<=m->u.lvs<=m+1->Q (.d u.d) (Z.put p (bC c))
theorem qO(T:Txt K mg t):aO P w K mg base CX0 3 t.dO t.jP ["_law_pen_here","_law_places_here","_law_many"] (ca xq):=by
 have G_l_says:aO P w K mg base _ _ _ _ _ _:=ve T;have G_l_draw:aO P w K mg base _ _ _ _ _ _:=dn T
 refine T.ww.okD dD (fun xs Z Q h=>by obtain ⟨p,n,m,rfl,_⟩:=h;rfl) (fun cdv A outer s H E hr=>⟨_,_,(ai (aD (i:=3) dD.nd rfl (Or.inl rfl) (ao (af aL (ab (am G_l_draw (hr.mono (by omega)) (by rfl) T.a7 T.aZ T.a0 .nil aB (ab (pv 0) (ab (pv 1) ae))) ae))))
   (ai (i5 PassesOwn.never rfl (fL rfl T.jL (ab (pv 2) ae)) (bg (i:=4) dD.nd rfl (Or.inl rfl)) (ai (aD (i:=5) dD.nd rfl (Or.inl rfl) (ao (af aL (ab (am G_l_draw (hr.mono (by omega)) (by rfl) T.a7 T.aZ T.a0 .nil aB (ab (pv 0) (ab (pv 1) ae))) ae))))
   (ai (aD (i:=6) dD.nd rfl (Or.inl rfl) (bd (aE K rfl) (aP (av (ao (ab (pv 5) (ab (pv 3) ae))) (av (ao (ab (pv 3) (ab (pv 5) ae))) ae))) (am G_l_draw (hr.mono (by omega)) (by rfl) T.a7 T.aZ T.a0 .nil aB (ab (pv 0) (af ah ae))) (fun _ _=>rfl)))
   (ap (aD (i:=3) dD.nd rfl (Or.inl rfl) (ao (ab (bd (aE K rfl) (aP (af aL (af aL ae))) (am G_l_draw (hr.mono (by omega)) (by rfl) T.a7 T.aZ T.a0 .nil aB (ab (pv 0) (af ah ae))) (fun _ _=>rfl)) (ab (am G_l_says (hr.mono (by omega)) (by rfl) T.qM T.rY T.rk .nil aB (ab (pv 0) (ab (pv 1) ae))) (ab (bd (aE K rfl) (pv 6) ah (fun _ _=>rfl)) (ab (bd (aE K rfl) (pv 6) ah (fun _ _=>rfl)) ae))))))))))
   (ap (aM (pv 3))))),(ax (aR (aw (aa aY (aa (ar (aa ac (aa ac ag))) ag))) aq)
   (ax (mW (lK (aa ac ag)) aq (ax (aR (aw (aa aY (aa (ar (aa ac (aa ac ag))) ag))) aq)
   (ax (aR (au bO (bq (aa (aw (aa ac (aa ac ag))) (aa (aw (aa ac (aa ac ag))) ag))) (ar (aa ac (aa aj ag)))) aq)
   (aR (aw (aa (au bO (bq (aa aY (aa aY ag))) (ar (aa ac (aa aj ag)))) (aa (ar (aa ac (aa ac ag))) (aa (au bO ac aj) (aa (au bO ac aj) ag))))) aq))))
   (a9 ac))),fun xs Z Q h=>?_⟩)
 obtain⟨p,n,m,rfl,hp,hn1,hn,hm,k⟩:=h;walk_at "a1";walk_at "s1";refine⟨p,n,rfl,hp,by omega,by omega,fun i c i0 i1=>⟨_,rfl,?_⟩⟩
 walk_at "s1";refine⟨by omega,by omega,?_⟩
 refine lF (fun j ρ Z'=>∃(u:Ta)(c:Pn)(v4 v5 v6:Option AV),ρ=[some (.r (.ref p)),some (.d (.int n)),some (.d (.int m)),some (.d u.d),v4,v5,v6]/\Z'=Z.put p (bC c)/\sbT n u/\u.dp<=j/\u.lvs<=j+1) ⟨.en i,c,_,_,_,rfl,rfl,⟨i0,i1⟩,Nat.le_refl _,Nat.le_refl _⟩ ?_ ?_
 ·rintro j ρ Z' N hj ⟨u,c,v4,v5,v6,rfl,rfl,hu,hd,hv⟩ kN
  walk_at "a1";walk_at "s1";refine⟨p,n,rfl,az,by omega,by omega,fun i2 c2 j0 j1=>⟨_,rfl,?_⟩⟩
  walk_at "s1";refine⟨p,2,rfl,az,by decide,by decide,fun y c3 y0 y1=>?_⟩
  walk_at "a1"
  have pr:∃(a b:Ta),atI [AV.d (D.tup [D.tup [D.str "end",D.int i2],u.d]),AV.d (D.tup [u.d,D.tup [D.str "end",D.int i2]])] y=some (.d (.tup [a.d,b.d]))/\sbT n a/\sbT n b/\max a.dp b.dp<=j/\a.lvs+b.lvs<=j+2:=by
   rcases(by omega:y=0\/y=1) with rfl|rfl
   ·exact⟨.en i2,u,rfl,⟨j0,j1⟩,hu,by simp only[Ta.dp];omega,by simp only[Ta.lvs];omega⟩
   ·exact⟨u,.en i2,rfl,hu,⟨j0,j1⟩,by simp only[Ta.dp];omega,by simp only[Ta.lvs];omega⟩
  obtain⟨a,b,e,ha,hb,hab,hlv⟩:=pr;refine⟨_,e,?_⟩;walk_at "a1";refine⟨p,2,rfl,az,by decide,by decide,fun y c4 y0 y1=>?_⟩
  walk_at "a1";obtain⟨h,eh⟩:=Ch y0 y1;refine⟨_,eh,p,n,rfl,az,hn,fun ws c5 hws=>?_⟩;walk_at "a1";exact kN _ _ ⟨.nd h ws a b,c5,_,_,_,rfl,rfl,⟨hws,ha,hb⟩,by simp only[Ta.dp];omega,by simp only[Ta.lvs];omega⟩
 ·rintro ρ Z' ⟨u,c,v4,v5,v6,rfl,rfl,hu,hd,hv⟩
  walk_at "a1";rw[bD hp];exact k u c hu hd hv
noncomputable def pD(r:Nat):ASp:=fun xs Z Q=>∃(p:Addr)(n m:Nat),xs=[.r (.ref p),.d (.int n),.d (.int m)]/\cZ Z p/\1<=n/\n<=5/\1<=m/\m<=2^r/\r<=8/\∀(u:Ta)(c:Pn),sbT n u->u.dp<=r->u.lvs<=m->Q (.d u.d) (Z.put p (bC c))
theorem nG(T:Txt K mg t)(r:Nat)(kk:Nat)(sp:ASp)(hk:1<=kk)(G_l_wide:aO P w K mg base CX0 kk t.dm t.gL ["_law_pen_here","_law_places_here","_law_many"] (ca sp))(hs:∀r',r=r'+1->sp=pD r'):aO P w K mg base CX0 (kk+1) t.dm t.gL ["_law_pen_here","_law_places_here","_law_many"] (ca (pD r)):=by
 have G_l_all:aO P w K mg base _ _ _ _ _ _:=sw T;have G_l_draw:aO P w K mg base _ _ _ _ _ _:=dn T
 refine T.zB.okD ii (fun xs Z Q h=>by obtain ⟨p,n,m,rfl,_⟩:=h;rfl) (fun cdv A outer s H E hr=>⟨_,_,(ai (bM (aX (cq hr.FU) (pv 2) ah (a8 _)) (ap (aM (ao (af aL (ab (am G_l_draw (hr.mono (by omega)) (by rfl) T.a7 T.aZ T.a0 .nil aB (ab (pv 0) (ab (pv 1) ae))) ae))))) bc)
   (ai (aD (i:=3) ii.nd rfl (Or.inl rfl) (bd (aE K rfl) (aP (af aL (af aL ae))) (am G_l_draw (hr.mono (by omega)) (by rfl) T.a7 T.aZ T.a0 .nil aB (ab (pv 0) (af ah ae))) (fun _ _=>rfl)))
   (ai (aD (i:=4) ii.nd rfl (Or.inl rfl) (bR (cz K rfl) (by rfl) T.cO (by kernel_rfl) (ab (dU (N:=(["_law_word","_law_pen_here"] : List Str)) (src:=[none,some 0]) rfl (by show eW _ (defScope jp) _ _ (["_law_pen_here","_law_places_here","_law_many","_law_hand","_law_says_here","_law_first"] : List Str) = true;decide +kernel) (by intro g' h;cases h) (d9 K rfl (am G_l_all (hr.mono (by omega)) (by rfl) T.oX T.pY T.ph .nil aB (ab (pv 1) ae))) (fun _ _ _ _ _ _=>(bg (i:=0) (show (["_law_word","_law_pen_here"] : List Str).Nodup by decide +kernel) rfl (Or.inl rfl))) (fun _ _ _ _ _ _=>(pe (aX (cq hr.FU) (am G_l_draw (hr.mono (by omega)) (by rfl) T.a7 T.aZ T.a0 .nil aB (ab (pv 1) (af ah ae))) ah (a8 _)))) (fun _ _ _ _ _ _=>(dY rfl rfl (pv 0)))) ae)))
   (ai (aD (i:=5) ii.nd rfl (Or.inl rfl) (am G_l_wide (hr.mono (by omega)) (by rfl) T.jt T.jv T.jy .nil aB (ab (pv 0) (ab (pv 1) (ab (aA kh (pv 2) (aA js (pv 2) ah)) ae)))))
   (ap (aM (ao (ab (pv 3) (ab (pv 4) (ab (pv 5) (ab (am G_l_wide (hr.mono (by omega)) (by rfl) T.jt T.jv T.jy .nil aB (ab (pv 0) (ab (pv 1) (ab (aA js (pv 2) ah) ae)))) ae))))))))))),(ax (dg (bn (au cr ac aj)) (a9 (aw (aa aY (aa (ar (aa ac (aa ac ag))) ag)))) bz)
   (ax (aR (au bO (bq (aa aY (aa aY ag))) (ar (aa ac (aa aj ag)))) aq)
   (ax (aR (bQ jw (aa (fy (gD (ar (aa ac ag))) aq (bn (au cr (ar (aa ac (aa aj ag))) aj)) (fu ac)) ag)) aq)
   (ax (aR (ar (aa ac (aa ac (aa (au nS ac (au nc ac aj)) ag)))) aq)
   (a9 (aw (aa ac (aa ac (aa ac (aa (ar (aa ac (aa ac (aa (au nc ac aj) ag)))) ag)))))))))),fun xs Z Q h=>?_⟩)
 obtain⟨p,n,m,rfl,hp,hn1,hn,hm1,hm,hr6,k⟩:=h;have hw:=kE hn;walk_at "ab";refine i9 (fun h=>⟨p,n,rfl,hp,by omega,by omega,fun i c h0 h1=>⟨_,rfl,?_⟩⟩) (fun h=>?_)
 ·rw[bD hp]
  exact k (.en i) c ⟨h0,h1⟩ (Nat.zero_le _) (by simp only[Ta.lvs];omega)
 have hm2:2<=m:=by omega
 obtain⟨r',rfl⟩:∃r',r=r'+1:=⟨r-1,by
  cases r with
  |zero=>simp at hm;omega
  |succ r=>omega⟩
 cases hs r' rfl;rw[Nat.pow_succ] at hm;refine⟨p,2,rfl,hp,by decide,by decide,fun y c y0 y1=>?_⟩
 walk_at "ab";obtain⟨b,hb⟩:=Ch y0 y1;refine⟨_,hb,n,rfl,hn,?_⟩;walk_at "ab";refine oy c (fun d hd c' Q' q=>?_) (fun d hd c' Q' q=>?_) (mQ (m:=0) (by rw[List.length_map];omega)) (fun es ρ c' hs=>?_)
 ·walk_at "ab"
  refine⟨p,2,rfl,az,by decide,by decide,fun r c2 _ _=>?_⟩
  walk_at "ab";exact q _ _
 ·walk_at "ab"
  exact q
 ·obtain⟨ws,rfl,hs2⟩:=vD hs hn
  refine⟨_,cw _,⟨by decide,by decide⟩,p,n,m-m / 2,?_,az,hn1,hn,by omega,by omega,by omega,fun u c2 hu hd hv=>?_⟩
  ·have:((m:Int)-(m:Int) / 2)=((m-m / 2:Nat):Int):=by omega
   rw[this]
  refine⟨⟨by decide,by decide⟩,p,n,m / 2,?_,by rw[Om.FT];exact az,hn1,hn,by omega,by omega,by omega,fun u2 c3 hu2 hd2 hv2=>⟨_,rfl,?_⟩⟩
  ·have:((m:Int) / 2)=((m / 2:Nat):Int):=by omega
   rw[this]
  rw[Om.FT,Om.FT,bD hp];exact k (.nd b ws u u2) c3 ⟨hs2,hu,hu2⟩ (by simp only[Ta.dp];omega) (by simp only[Ta.lvs];omega)
theorem o3(T:Txt K mg t):∀r,aO P w K mg base CX0 (r+2) t.dm t.gL ["_law_pen_here","_law_places_here","_law_many"] (ca (pD r))
 |0=>nG T 0 1 (fun _ _ _=>False) (Nat.le_refl _) ⟨fun _ _ _ _ h=>by obtain⟨_,_,_,_,_,_,h,_⟩:=h;exact h.elim,fun _ _ _ _ _ _ _ _ _ _ _ _ _ h=>by obtain⟨_,_,_,_,_,_,h,_⟩:=h;exact h.elim⟩ (fun r' h=>by omega)
 |r+1=>nG T (r+1) (r+2) _ (by omega) (o3 T r) (fun r' h=>by cases h;rfl)
noncomputable def xR:ASp:=fun xs Z Q=>∃(p:Addr)(n:Nat),xs=[.r (.ref p),.d (.int n)]/\cZ Z p/\1<=n/\n<=5/\∀(u:Ta)(c:Pn),sbT n u->u.dp<=12->u.size<=127->Q (.d u.d) (Z.put p (bC c))
noncomputable def Bo:ASp:=fun xs Z Q=>∃r,r<=4/\pQ r xs Z Q
theorem Bi(T:Txt K mg t):aO P w K mg base CX0 7 t.bB t.cE ["_law_pen_here","_law_places_here","_law_left"] (ca Bo):=by
 refine⟨fun vs H Q E h=>?_,fun A outer s H args us vs Q E hr he hb hv h=>?_⟩
 ·obtain⟨F,xs,Z,Q',rp,rv,⟨r,hr4,h⟩,k⟩:=h
  exact(tK (P:=P) (w:=w) (base:=base) T r).len vs H Q E ⟨F,xs,Z,Q',rp,rv,h,k⟩
 ·obtain⟨F,xs,Z,Q',rp,rv,⟨r,hr4,h⟩,k⟩:=h
  exact((tK T r).mono (by omega)).run A outer s H args us vs Q E hr he hb hv ⟨F,xs,Z,Q',rp,rv,h,k⟩
theorem ya(T:Txt K mg t):aO P w K mg base CX0 10 t.bN t.eK ["_law_pen_here","_law_places_here"] (ca xR):=by
 have G_l_chain:aO P w K mg base _ _ _ _ _ _:=qO T;have G_l_wide:aO P w K mg base _ _ _ _ _ _:=o3 T 6;have G_l_any_talk:aO P w K mg base _ _ _ _ _ _:=Bi T;have G_l_draw:aO P w K mg base _ _ _ _ _ _:=dn T
 refine T.lM.okD gG (fun xs Z Q h=>by obtain ⟨p,n,rfl,_⟩:=h;rfl) (fun cdv A outer s H E hr=>⟨_,_,(ai (aD (i:=2) gG.nd rfl (Or.inl rfl) (am G_l_draw (hr.mono (by omega)) (by rfl) T.a7 T.aZ T.a0 .nil aB (ab (pv 0) (af ah ae))))
   (ai (bM (aX (cq hr.FU) (pv 2) ah (a8 _)) (ap (aM (am G_l_chain (hr.mono (by omega)) (by rfl) T.nC T.nO T.nR .nil aB (ab (pv 0) (ab (pv 1) (ab (aA (ak aH (ak ay aN)) ah (am G_l_draw (hr.mono (by omega)) (by rfl) T.a7 T.aZ T.a0 .nil aB (ab (pv 0) (af ah ae)))) ae)))))) bc)
   (ai (bM (aX (cq hr.FU) (pv 2) ah (a8 _)) (ap (aM (am G_l_wide (hr.mono (by omega)) (by rfl) T.jt T.jv T.jy .nil aB (ab (pv 0) (ab (pv 1) (ab (aA (ak aH (ak ay aN)) ah (am G_l_draw (hr.mono (by omega)) (by rfl) T.a7 T.aZ T.a0 .nil aB (ab (pv 0) (af ah ae)))) ae)))))) bc)
   (ap (aM (am G_l_any_talk (hr.mono (by omega)) (by rfl) T.fZ T.gq T.gp .nil aB (ab (pv 0) (ab (pv 1) (ab (aA (ak aH (ak ay aN)) ah (am G_l_draw (hr.mono (by omega)) (by rfl) T.a7 T.aZ T.a0 .nil aB (ab (pv 0) (af ah ae)))) ae))))))))),(ax (aR (ar (aa ac (aa aj ag))) aq)
   (ax (dg (bn (au cr ac aj)) (a9 (ar (aa ac (aa ac (aa (au be aj (ar (aa ac (aa aj ag)))) ag))))) bz)
   (ax (dg (bn (au cr ac aj)) (a9 (ar (aa ac (aa ac (aa (au be aj (ar (aa ac (aa aj ag)))) ag))))) bz)
   (a9 (ar (aa ac (aa ac (aa (au be aj (ar (aa ac (aa aj ag)))) ag)))))))),fun xs Z Q h=>?_⟩)
 obtain⟨p,n,rfl,hp,hn1,hn,k⟩:=h;have fin:∀(u:Ta) c,sbT n u->u.dp<=12->u.size<=127->∃d,AV.d u.d=.d d/\Q (.d d) (((Z.put p (bC c))).only Z):=fun u c h1 h2 h3=>⟨_,rfl,by rw[bD hp];exact k u c h1 h2 h3⟩
 walk_at "ab";refine⟨p,8,rfl,hp,by decide,by decide,fun x c x0 x1=>?_⟩
 walk_at "ab";refine i9 (fun _=>⟨p,5,rfl,az,by decide,by decide,fun y c2 y0 y1=>?_⟩) (fun _=>i9 (fun _=>⟨p,60,rfl,az,by decide,by decide,fun y c2 y0 y1=>?_⟩) (fun _=>⟨p,4,rfl,az,by decide,by decide,fun y c2 y0 y1=>?_⟩))
 ·walk_at "ab"
  obtain⟨m,rfl⟩:=Int.eq_ofNat_of_zero_le y0;refine⟨p,n,8+m,rfl,az,hn1,hn,by omega,fun u c3 h1 h2 h3=>?_⟩
  rw[Om.FT];exact fin u c3 h1 (by omega) (by have:=Ta.eV u;omega)
 ·walk_at "ab"
  obtain⟨m,rfl⟩:=Int.eq_ofNat_of_zero_le y0;refine⟨p,n,1+m,rfl,az,hn1,hn,by omega,by omega,by omega,fun u c3 h1 h2 _=>?_⟩
  rw[Om.FT];have:=li u;have h6:2^(u.dp+1)<=2^7:=Nat.pow_le_pow_right (by decide) (by omega)
  exact fin u c3 h1 (by omega) (by omega)
 ·walk_at "ab"
  obtain⟨m,rfl⟩:=Int.eq_ofNat_of_zero_le y0;refine⟨1+m,by omega,p,n,rfl,az,hn1,hn,fun u c3 h1 h2=>?_⟩
  rw[Om.FT];have:=li u;have h6:2^(u.dp+1)<=2^6:=Nat.pow_le_pow_right (by decide) (by omega)
  exact fin u c3 h1 (by omega) (by omega)
noncomputable def cS:D->Bool|.int _=>true|_=>false
noncomputable def kx:D->Bool|.int i=>decide (0<=i) && decide (i<=1)|_=>false
noncomputable def Ax:D->Bool|.int i=>decide (1<=i) && decide (i<=5)|_=>false
noncomputable def sX:D->Int|.int i=>i|_=>0
noncomputable def unw:D->List Int|.tup ds=>ds.map sX|_=>[]
noncomputable def dc(n:Nat):D->Bool|.tup ds=>decide ((ds.length:Int)=n) && ds.all kx|_=>false
theorem AW{d:D}(h:kx d=true):D.int (sX d)=d:=by
 cases d<;>first|rfl|(simp[kx] at h)
theorem qw:∀ {ds:List D},ds.all kx=true->(ds.map sX).map D.int=ds
 | [],_=>rfl
 |d::ds,h=>by
  simp only[List.all_cons,Bool.and_eq_true] at h;rw[List.map_cons,List.map_cons,AW h.1,qw h.2]
theorem pK{n:Nat}{d:D}(h:dc n d=true):d=wdD (unw d)/\(unw d).length=n:=by
 cases d with
 |tup ds=>
  simp only[dc,Bool.and_eq_true,decide_eq_true_eq] at h;refine⟨?_,by simp only[unw,List.length_map];omega⟩
  show D.tup ds=D.tup ((ds.map sX).map D.int);rw[qw h.2]
 |_=>simp[dc] at h
theorem Dv(v:List Int):unw (wdD v)=v:=by
 show (v.map D.int).map sX=v;rw[List.map_map];exact(List.map_congr_left fun x _=>rfl).trans (List.map_id v)
theorem vL(ws:List (List Int)):(ws.map wdD).map unw=ws:=by
 rw[List.map_map];exact(List.map_congr_left fun x _=>Dv x).trans (List.map_id ws)
theorem Bs{v:List Int}(h:∀x∈v,x=0\/x=1):(v.map D.int).all kx=true:=by
 rw[List.all_eq_true];intro d hd;obtain⟨x,hx,rfl⟩:=List.mem_map.mp hd;rcases h x hx with rfl|rfl<;>rfl
theorem AB{n:Nat}{v:List Int}(h:v∈wl n):dc n (wdD v)=true:=by
 obtain⟨h1,h2⟩:=i7 h;show (decide (((v.map D.int).length:Int)=n) && (v.map D.int).all kx)=true;rw[Bs h2,Bool.and_true,decide_eq_true];simp[h1]
theorem BP{n:Nat}(h1:1<=n)(h5:n<=5):Ax (.int n)=true/\(sX (.int n)).toNat=n:=by
 refine⟨?_,by simp[sX]⟩
 show (decide (1<=(n:Int)) && decide ((n:Int)<=5))=true;rw[decide_eq_true (by omega),decide_eq_true (by omega)];rfl
noncomputable def Sz(m B:Nat)(d:D):Prop:=(pyD d).depth<=m/\fit d=true/\wt d<=B
theorem xG{m B:Nat}:∀ {ds:List D},(∀d∈ds,Sz m B d)->PyData.depthAll (ei ds)<=m/\fits ds=true/\wts ds<=ds.length*(B+2)
 | [],_=>by simp[ei,PyData.depthAll,fits,wts]
 |d::ds,h=>by
  obtain⟨a1,a2,a3⟩:=h d List.mem_cons_self;obtain⟨b1,b2,b3⟩:=xG fun e he=>h e (List.mem_cons_of_mem _ he);refine⟨by simp only[ei,PyData.depthAll];omega,by simp only[fits,a2,b2,Bool.and_self],?_⟩
  simp only[wts,List.length_cons,Nat.succ_mul];omega
theorem xw{m B L:Nat}{d:D}{ds:List D}(e:p6 d=some ds)(hl:ds.length<=L)(h:∀d∈ds,Sz m B d):Sz (m+1) (L*(B+2)+3) d:=by
 obtain⟨b1,b2,b3⟩:=xG h;have:ds.length*(B+2)<=L*(B+2):=Nat.mul_le_mul_right _ hl
 cases d with
 |tup es=>cases e;exact⟨by simp only[pyD,PyData.depth];omega,by simpa only[fit] using b2,by simp only[wt];omega⟩
 |lst es=>cases e;exact⟨by simp only[pyD,PyData.depth];omega,by simpa only[fit] using b2,by simp only[wt];omega⟩
 |_=>cases e
theorem Sz.up{m m' B B':Nat}{d:D}(h:Sz m B d)(h1:m<=m')(h2:B<=B'):Sz m' B' d:=⟨Nat.le_trans h.1 h1,h.2.1,Nat.le_trans h.2.2 h2⟩
theorem uq{x:Int}(h:x=0\/x=1):Sz 0 3 (.int x):=by
 rcases h with rfl|rfl<;>exact⟨Nat.le_refl _,by decide,by decide⟩
theorem EV{n:Nat}{v:List Int}(hn:n<=5)(h:v∈wl n):Sz 1 28 (wdD v):=by
 obtain⟨h1,h2⟩:=i7 h;refine(xw (m:=0) (B:=3) (L:=5) (d:=wdD v) (ds:=v.map D.int) rfl (by simp;omega) fun d hd=>?_).up (Nat.le_refl _) (by decide)
 obtain⟨x,hx,rfl⟩:=List.mem_map.mp hd;exact uq (h2 x hx)
noncomputable def yV:ASp:=fun xs Z Q=>∃d:D,xs=[.d d]/\Q (.d (.bl (cS d))) Z
theorem lP(T:Txt K mg t):aO P w K mg base CX0 1 t.cW t.i3 ["thing"] (ca yV):=by
 refine T.tq.okD qK (fun xs Z Q h=>by obtain⟨x,rfl,_⟩:=h;rfl) (fun cdv A outer s H E hr=>⟨_,_,(ap (aM (b8 K rfl (aF bX (by rfl) T.bf (by kernel_rfl) (ab (pv 0) (ab (cH (v:=.ty "int") (by rfl) T.yk (by kernel_rfl) (by rfl)) ae))) (ec (vi K rfl (aF bX (by rfl) T.bf (by kernel_rfl) (ab (pv 0) (ab (cH (v:=.ty "bool") (by rfl) T.s0 (by kernel_rfl) (by rfl)) ae)))))))),(a9 (cT (bQ fF (aa ac (aa fN ag))) (zm (bQ fF (aa ac (aa fN ag)))))),fun xs Z Q h=>?_⟩)
 obtain⟨d,rfl,k⟩:=h;walk_at "a1";refine⟨by decide,?_⟩
 by_cases hi:isD "int" d=true
 ·rw[if_pos hi,aJ]
  refine⟨by decide,?_⟩
  rw[show (!isD "bool" d)=cS d from by cases d<;>simp[isD,tyD] at hi<;>rfl]
  exact k
 ·rw[if_neg hi,aJ]
  rw[show isD "int" d=cS d from by cases d<;>simp[isD,tyD] at hi<;>rfl]
  exact k
noncomputable def C0:ASp:=fun xs Z Q=>∃d:D,xs=[.d d]/\Q (.d (.bl (kx d))) Z
theorem CC(T:Txt K mg t):aO P w K mg base CX0 2 t.eM t.mC ["thing"] (ca C0):=by
 have G_is_whole:aO P w K mg base _ _ _ _ _ _:=lP T;refine T.yN.okD xh (fun xs Z Q h=>by obtain⟨x,rfl,_⟩:=h;rfl) (fun cdv A outer s H E hr=>⟨_,_,(ap (aM (b8 K rfl (am G_is_whole (hr.mono (by omega)) (by rfl) T.jc T.iW T.iM .nil aB (ab (pv 0) ae)) (ec (jD nP nP ah (pv 0) ah))))),(a9 (cT (ar (aa ac ag)) (lm iF iF aj ac aj))),fun xs Z Q h=>?_⟩)
 obtain⟨d,rfl,k⟩:=h;walk_at "a1";refine⟨d,rfl,_,rfl,?_⟩;by_cases hw:cS d=true
 ·obtain⟨i,rfl⟩:∃i,d=.int i:=by cases d<;>first|exact⟨_,rfl⟩|(simp[cS] at hw)
  rw[if_pos hw];walk_at "a1";rw[aJ];simp only[kx] at k;by_cases h0:0<=i
  ·rw[if_pos h0]
   rw[decide_eq_true h0,Bool.true_and] at k;exact k
  ·rw[if_neg h0]
   rw[decide_eq_false h0,Bool.false_and] at k;exact k
 ·rw[if_neg hw]
  refine⟨_,rfl,?_⟩;rw[aJ,show cS d=kx d from by cases d<;>first|rfl|(simp[cS] at hw)]
  exact k
noncomputable def BF:ASp:=fun xs Z Q=>∃d:D,xs=[.d d]/\Q (.d (.bl (Ax d))) Z
theorem u3(T:Txt K mg t):aO P w K mg base CX0 2 t.cb t.f6 ["thing"] (ca BF):=by
 have G_is_whole:aO P w K mg base _ _ _ _ _ _:=lP T;refine T.pd.okD ny (fun xs Z Q h=>by obtain⟨x,rfl,_⟩:=h;rfl) (fun cdv A outer s H E hr=>⟨_,_,(ap (aM (b8 K rfl (am G_is_whole (hr.mono (by omega)) (by rfl) T.jc T.iW T.iM .nil aB (ab (pv 0) ae)) (ec (jD nP nP ah (pv 0) (AF (v:=.int 5) rfl T.nn ⟨_,rfl⟩)))))),(a9 (cT (ar (aa ac ag)) (lm iF iF aj ac aj))),fun xs Z Q h=>?_⟩)
 obtain⟨d,rfl,k⟩:=h;walk_at "a1";refine⟨d,rfl,_,rfl,?_⟩;by_cases hw:cS d=true
 ·obtain⟨i,rfl⟩:∃i,d=.int i:=by cases d<;>first|exact⟨_,rfl⟩|(simp[cS] at hw)
  rw[if_pos hw];walk_at "a1";rw[aJ];simp only[Ax] at k;by_cases h0:1<=i
  ·rw[if_pos h0]
   rw[decide_eq_true h0,Bool.true_and] at k;exact k
  ·rw[if_neg h0]
   rw[decide_eq_false h0,Bool.false_and] at k;exact k
 ·rw[if_neg hw]
  refine⟨_,rfl,?_⟩;rw[aJ,show cS d=Ax d from by cases d<;>first|rfl|(simp[cS] at hw)]
  exact k
noncomputable def CS:ASp:=fun xs Z Q=>∃(n:Nat)(d:D),xs=[.d (.int n),.d d]/\1<=n/\n<=5/\Q (.d (.bl (dc n d))) Z
theorem Dr(T:Txt K mg t):aO P w K mg base CX0 3 t.dE t.jO ["places","thing"] (ca CS):=by
 have G_is_bit:aO P w K mg base _ _ _ _ _ _:=CC T;have G_are_places:aO P w K mg base _ _ _ _ _ _:=u3 T
 refine T.wk.okD sk (fun xs Z Q h=>by obtain ⟨n,v,rfl,_⟩:=h;rfl) (fun cdv A outer s H E hr=>⟨_,_,(ai (bM (PW.pt (ff (cK (bh K rfl (am G_are_places (hr.mono (by omega)) (by rfl) T.jB T.jE T.jH .nil aB (ab (pv 0) ae)) (fun _=>rfl))) (dN (cK (bh K rfl (aF bX (by rfl) T.bf (by kernel_rfl) (ab (pv 1) (ab (cH (v:=.ty "tuple") (by rfl) T.cO (by kernel_rfl) (by rfl)) ae))) (fun _=>rfl)))))) (ap (aM bE)) bc)
   (ap (aM (b8 K rfl (eA (cq hr.FU) (aF (bS K rfl) (by rfl) T.ek (by kernel_rfl) (ab (pv 1) ae)) (pv 0) (a8 _)) (ec (aF (fC K rfl rfl) (by rfl) T.rN (by kernel_rfl) (ab (dU (N:=(["bit"]:List Str)) (src:=[none]) rfl (by show eW _ (defScope hV) _ _ (["places","thing"]:List Str)=true;decide +kernel) (by intro g' h;cases h) (d9 K rfl (pv 1)) (fun _ _ _ _ _ _=>(bg (i:=0) (show (["bit"]:List Str).Nodup by decide +kernel) rfl (Or.inl rfl))) (fun _ _ _ _ _ _=>ga) (fun _ _ _ _ _ _=>(dY rfl rfl (am G_is_bit (hr.mono (by omega)) (by rfl) T.xk T.zD T.zN .nil aB (ab (pv 0) ae))))) ae))))))),(ax (dg (jG (eu (dv (ar (aa ac ag)))) (eu (dv (bQ fF (aa ac (aa fN ag)))))) (a9 cJ) bz)
   (a9 (cT (au cr (bQ gF (aa ac ag)) ac) (bQ qF (aa (fy (gD ac) aq ua (fu (ar (aa ac ag)))) ag))))),fun xs Z Q h=>?_⟩)
 obtain⟨n,d,rfl,hn1,hn,k⟩:=h;walk_at "s1";refine⟨_,rfl,_,rfl,?_⟩;rw[(BP hn1 hn).1,if_neg (by decide)]
 refine⟨by decide,?_⟩
 by_cases ht:isD "tuple" d=true
 ·obtain⟨ds,rfl⟩:∃ds,d=.tup ds:=by cases d<;>first|exact⟨_,rfl⟩|(simp[isD,tyD] at ht)
  rw[ht,if_neg (by decide)]
  walk_at "a1";simp only[dc] at k;by_cases hl:(ds.length:Int)=n
  ·rw[if_pos hl]
   rw[decide_eq_true hl,Bool.true_and] at k;refine ig (rs:=(ds.map kx).map D.bl) (by simp) (Nat.le_of_lt (aT (by simp;omega))) (fun j a r h1 h2 Q q=>?_) (fun ρ=>⟨_,cw _,_,rfl,?_⟩)
   ·simp only[List.map_map,List.getElem?_map,Option.map_eq_some_iff] at h1 h2
    obtain⟨y,hy,rfl⟩:=h1;obtain⟨y',hy',rfl⟩:=h2;rw[hy] at hy';cases hy';simp only[Function.comp_apply] at q ⊢;walk_at "a1";exact⟨y,rfl,q⟩
   ·rw[aJ,List.all_map]
    exact k
  ·rw[if_neg hl,aJ]
   rw[decide_eq_false hl,Bool.false_and] at k;rw[show ((ds.length:Int) == (n:Int))=false from by simpa using hl]
   exact k
 ·rw[if_pos (by simpa using ht),aJ]
  rw[show dc n d=false from by cases d<;>first|rfl|(simp[isD,tyD] at ht)] at k
  exact k
theorem BR:∀a b:List Int,qb (a.map D.int) (b.map D.int)=true
 | [],_=>by simp[qb]
 |_::_,[]=>by simp[qb]
 |x::xs,y::ys=>by
  simp only[List.map_cons,qb];split
  ·exact BR xs ys
  ·rfl
theorem BT:∀a b:List Int,q0 (a.map D.int) (b.map D.int)=cf a b
 | [],[]=>rfl
 | [],_::_=>rfl
 |_::_,[]=>rfl
 |x::xs,y::ys=>by
  simp only[List.map_cons,q0,cf,jI];by_cases h:x=y
  ·rw[if_pos (by simpa using h),if_pos h,BT xs ys]
  ·rw[if_neg (by simpa using h),if_neg h]
   rfl
noncomputable def upB(ws:List (List Int)):List Bool:=(List.range (ws.length-1)).map fun j=>cf (ws.getD j []) (ws.getD (j+1) [])
theorem sV{ws:List (List Int)}(hr:Ris ws):(upB ws).all id=decide ws.Nodup:=by
 rw[Bool.eq_iff_iff,decide_eq_true_eq,List.all_eq_true];constructor
 ·intro h
  rw[List.Nodup,List.pairwise_iff_getElem];intro i j hi hj hij e
  have h1:cf ws[i] ws[i+1]=true:=by
   have:=h (cf (ws.getD i []) (ws.getD (i+1) [])) (by unfold upB;exact List.mem_map.mpr ⟨i,List.mem_range.mpr (by omega),rfl⟩)
   simpa[show i<ws.length by omega,show i+1<ws.length by omega] using this
  have h2:cf ws[j] ws[i+1]=false:=by
   rcases Nat.eq_or_lt_of_le (show i+1<=j by omega) with q|q
   ·subst q
    cases z:cf ws[i+1] ws[i+1] with
    |false=>rfl
    |true=>have:=lX _ _ z;rw[z] at this;cases this
   ·exact List.pairwise_iff_getElem.mp hr (i+1) j (by omega) hj q
  rw[e] at h1;rw[h2] at h1;cases h1
 ·intro hn b hb
  obtain⟨j,hj,rfl⟩:=List.mem_map.mp hb;have hj:=List.mem_range.mp hj;have a1:ws.getD j []=ws[j]:=by simp[show j<ws.length by omega]
  have a2:ws.getD (j+1) []=ws[j+1]:=by simp[show j+1<ws.length by omega]
  rw[a1,a2];have h1:cf ws[j+1] ws[j]=false:=List.pairwise_iff_getElem.mp hr j (j+1) (by omega) (by omega) (by omega)
  cases e:cf ws[j] ws[j+1] with
  |true=>rfl
  |false=>exact absurd (tM _ _ h1 e) (List.pairwise_iff_getElem.mp hn j (j+1) (by omega) (by omega) (by omega))
noncomputable def BE:ASp:=fun xs Z Q=>∃ws:List (List Int),xs=[.d (.tup (ws.map wdD))]/\ws.length<=60/\Q (.d (.bl ((upB ws).all id))) Z
theorem Ba(T:Txt K mg t):aO P w K mg base CX0 1 t.cx t.gQ ["some"] (ca BE):=by
 refine T.rd.okD pG (fun xs Z Q h=>by obtain⟨x,rfl,_⟩:=h;rfl) (fun cdv A outer s H E hr=>⟨_,_,(ap (aM (aF (fC K rfl rfl) (by rfl) T.rN (by kernel_rfl) (ab (dU (N:=(["k","some"]:List Str)) (src:=[none,some 0]) rfl (by show eW _ (defScope fk) _ _ (["some"]:List Str)=true;decide +kernel) (by intro g' h;cases h) (fL rfl T.jL (ab (aA kh (aF (bS K rfl) (by rfl) T.ek (by kernel_rfl) (ab (pv 0) ae)) ah) ae)) (fun _ _ _ _ _ _=>(bg (i:=0) (show (["k","some"]:List Str).Nodup by decide +kernel) rfl (Or.inl rfl))) (fun _ _ _ _ _ _=>ga) (fun _ _ _ _ _ _=>(dY rfl rfl (eA (CH hr.FU) (bd (aE K rfl) (pv 1) (pv 0) (fun _ _=>rfl)) (bd (aE K rfl) (pv 1) (aA (ak aH (ak ay aN)) (pv 0) ah) (fun _ _=>rfl)) (a8 _))))) ae)))),(a9 (bQ qF (aa (fy (lK (aa (au nS (bQ gF (aa ac ag)) aj) ag)) aq ua (fu (au Fc (au bO ac ac) (au bO ac (au be ac aj))))) ag))),fun xs Z Q h=>?_⟩)
 obtain⟨ws,rfl,hl,k⟩:=h;walk_at "a1";have e0:((ws.length:Int)-1).toNat=ws.length-1:=by omega
 refine⟨by omega,by omega,?_⟩
 rw[e0];have hsz:(mx 0 (ws.length-1)).length=ws.length-1:=by simp[mx]
 refine ig (rs:=(upB ws).map D.bl) (by rw[hsz];simp[upB]) (Nat.le_of_lt (aT (by omega))) (fun j a r h1 h2 Q q=>?_) (fun ρ=>⟨_,cw _,_,rfl,?_⟩)
 ·have hj:j<ws.length-1:=by rw[←hsz];exact(List.getElem?_eq_some_iff.mp h1).1
  obtain rfl:r=D.bl (cf ws[j] ws[j+1]):=by
   simp[upB,hj,show j<ws.length by omega,show j+1<ws.length by omega] at h2;exact h2.symm
  simp[mx,hj] at h1;subst h1;have a1:atI ((ws.map wdD).map AV.d) (j:Int)=some (.d (wdD ws[j])):=cY j rfl (by simp[show j<ws.length by omega])
  have a2:atI ((ws.map wdD).map AV.d) ((j:Int)+1)=some (.d (wdD ws[j+1])):=cY (j+1) rfl (by simp[show j+1<ws.length by omega])
  walk_at "a1";refine⟨_,a1,_,a2,?_⟩;rw[Ap];refine⟨_,_,rfl,rfl,by rw[oO];decide,BR _ _,?_⟩
  rw[show ltD (wdD ws[j]) (wdD ws[j+1])=cf ws[j] ws[j+1] from BT _ _]
  exact q
 ·rw[aJ]
  exact k
noncomputable def gM(n:Nat):D->Bool|.int i=>decide (0<=i) && decide (i<n)|_=>false
noncomputable def xu:ASp:=fun xs Z Q=>∃(n:Nat)(d:D),xs=[.d (.int n),.d d]/\1<=n/\n<=5/\Q (.d (.bl (gM n d))) Z
theorem zk(T:Txt K mg t):aO P w K mg base CX0 3 t.cV t.iU ["places","thing"] (ca xu):=by
 have G_is_whole:aO P w K mg base _ _ _ _ _ _:=lP T;have G_are_places:aO P w K mg base _ _ _ _ _ _:=u3 T;refine T.sM.okD qP (fun xs Z Q h=>by obtain⟨n,d,rfl,_⟩:=h;rfl) (fun cdv A outer s H E hr=>⟨_,_,(ap (aM (b8 K rfl (am G_are_places (hr.mono (by omega)) (by rfl) T.jB T.jE T.jH .nil aB (ab (pv 0) ae)) (b8 K rfl (am G_is_whole (hr.mono (by omega)) (by rfl) T.jc T.iW T.iM .nil aB (ab (pv 1) ae)) (ec (jD nP uO ah (pv 1) (pv 0))))))),(a9 (cT (ar (aa ac ag)) (cT (ar (aa ac ag)) (lm iF iF aj ac ac)))),fun xs Z Q h=>?_⟩)
 obtain⟨n,d,rfl,hn1,hn,k⟩:=h;walk_at "a1";refine⟨.int n,rfl,_,rfl,?_⟩;rw[(BP hn1 hn).1,if_pos rfl];refine⟨d,rfl,_,rfl,?_⟩;by_cases hw:cS d=true
 ·obtain⟨i,rfl⟩:∃i,d=.int i:=by cases d<;>first|exact⟨_,rfl⟩|(simp[cS] at hw)
  rw[if_pos hw];simp only[gM] at k;refine⟨i,rfl,?_⟩;rw[aJ];by_cases h0:0<=i
  ·rw[if_pos h0]
   rw[decide_eq_true h0,Bool.true_and] at k;exact⟨i,rfl,k⟩
  ·rw[if_neg h0]
   rw[decide_eq_false h0,Bool.false_and] at k;exact k
 ·rw[if_neg hw]
  refine⟨_,rfl,?_⟩;rw[aJ,show cS d=gM n d from by cases d<;>first|rfl|(simp[cS] at hw)]
  exact k
noncomputable def isS(d:D)(s:Str):Bool:=i4 (.d d) s
noncomputable def qQ(n:Nat):D->Bool
 |.tup [x,p]=>isS x "end" && gM n p
 |_=>false
noncomputable def ym:ASp:=fun xs Z Q=>∃(n:Nat)(d:D),xs=[.d (.int n),.d d]/\1<=n/\n<=5/\Q (.d (.bl (qQ n d))) Z
theorem xN(T:Txt K mg t):aO P w K mg base CX0 4 t.eU t.mT ["places","thing"] (ca ym):=by
 have G_is_place:aO P w K mg base _ _ _ _ _ _:=zk T
 refine T.x9.okD vW (fun xs Z Q h=>by obtain ⟨n,d,rfl,_⟩:=h;rfl) (fun cdv A outer s H E hr=>⟨_,_,(ai (bM (PW.pt (ff (cK (bh K rfl (aF bX (by rfl) T.bf (by kernel_rfl) (ab (pv 1) (ab (cH (v:=.ty "tuple") (by rfl) T.cO (by kernel_rfl) (by rfl)) ae))) (fun _=>rfl))) (dN (aX (kr hr.FU) (aF (bS K rfl) (by rfl) T.ek (by kernel_rfl) (ab (pv 1) ae)) ah (a8 _))))) (ap (aM bE)) bc)
   (ap (aM (b8 K rfl (eA (sQ hr.FU) (bd (aE K rfl) (pv 1) ah (fun _ _=>rfl)) aL (a8 _)) (ec (am G_is_place (hr.mono (by omega)) (by rfl) T.sq T.tJ T.sE .nil aB (ab (pv 0) (ab (bd (aE K rfl) (pv 1) ah (fun _ _=>rfl)) ae)))))))),(ax (dg (jG (eu (dv (bQ fF (aa ac (aa fN ag))))) (bn (au cr (bQ gF (aa ac ag)) aj))) (a9 cJ) bz)
   (a9 (cT (au yD (au bO ac aj) aY) (ar (aa ac (aa (au bO ac aj) ag)))))),fun xs Z Q h=>?_⟩)
 obtain⟨n,d,rfl,hn1,hn,k⟩:=h;walk_at "s1";refine⟨by decide,?_⟩
 by_cases ht:isD "tuple" d=true
 case neg=>
  rw[if_pos (by simpa using ht),aJ]
  rw[show qQ n d=false from by cases d<;>first|rfl|(simp[isD,tyD] at ht)] at k
  exact k
 obtain⟨ds,rfl⟩:∃ds,d=.tup ds:=by cases d<;>first|exact⟨_,rfl⟩|(simp[isD,tyD] at ht)
 rw[ht,if_neg (by decide)]
 refine⟨ds.length,gP _ _,?_⟩;by_cases hl:ds.length=2
 case neg=>
  rw[if_pos (by simp;omega),aJ]
  rw[show qQ n (.tup ds)=false from by
   unfold qQ;split
   ·rename_i e;cases e;exact absurd rfl hl
   ·rfl] at k
  exact k
 rw[if_neg (by rw[hl];decide)]
 obtain⟨x,p,rfl⟩:∃x p,ds=[x,p]:=by
  match ds,hl with
  | [x,p],_=>exact⟨x,p,rfl⟩
 refine⟨_,.inr rfl,_,cY 0 rfl rfl,.d x,"end",xQ,rfl,i4 (.d x) "end",rfl,?_⟩;simp only[qQ,isS] at k
 cases he:i4 (.d x) "end" with
 |false=>
  rw[if_neg (by decide),aJ]
  rw[he,Bool.false_and] at k;exact⟨_,rfl,k⟩
 |true=>
  rw[if_pos rfl];rw[he,Bool.true_and] at k;exact⟨_,.inr rfl,_,cY 1 rfl rfl,n,p,rfl,hn1,hn,_,rfl,by rw[aJ];exact k⟩
noncomputable def g7(n:Nat):D->Bool
 |.tup ds=>ds.all (dc n) && (upB (ds.map unw)).all id
 |_=>false
noncomputable def uk:ASp:=fun xs Z Q=>∃(n:Nat)(d:D),xs=[.d (.int n),.d d]/\1<=n/\n<=5/\(∀ds,d=.tup ds->ds.length<=60)/\Q (.d (.bl (g7 n d))) Z
theorem t5(T:Txt K mg t):aO P w K mg base CX0 4 t.cP t.iJ ["places","thing"] (ca uk):=by
 have G_is_word:aO P w K mg base _ _ _ _ _ _:=Dr T;have G_is_rising:aO P w K mg base _ _ _ _ _ _:=Ba T
 refine T.uv.okD qT (fun xs Z Q h=>by obtain ⟨n,d,rfl,_⟩:=h;rfl) (fun cdv A outer s H E hr=>⟨_,_,(ai (bM (cK (bh K rfl (aF bX (by rfl) T.bf (by kernel_rfl) (ab (pv 1) (ab (cH (v:=.ty "tuple") (by rfl) T.cO (by kernel_rfl) (by rfl)) ae))) (fun _=>rfl))) (ap (aM bE)) bc)
   (ap (aM (b8 K rfl (aF (fC K rfl rfl) (by rfl) T.rN (by kernel_rfl) (ab (dU (N:=(["word","places"]:List Str)) (src:=[none,some 0]) rfl (by show eW _ (defScope gg) _ _ (["places","thing"]:List Str)=true;decide +kernel) (by intro g' h;cases h) (d9 K rfl (pv 1)) (fun _ _ _ _ _ _=>(bg (i:=0) (show (["word","places"]:List Str).Nodup by decide +kernel) rfl (Or.inl rfl))) (fun _ _ _ _ _ _=>ga) (fun _ _ _ _ _ _=>(dY rfl rfl (am G_is_word (hr.mono (by omega)) (by rfl) T.xb T.vV T.wq .nil aB (ab (pv 1) (ab (pv 0) ae)))))) ae)) (ec (am G_is_rising (hr.mono (by omega)) (by rfl) T.qW T.rm T.qS .nil aB (ab (pv 1) ae))))))),(ax (dg (eu (dv (bQ fF (aa ac (aa fN ag))))) (a9 cJ) bz)
   (a9 (cT (bQ qF (aa (fy (gD ac) aq ua (fu (ar (aa ac (aa ac ag))))) ag)) (ar (aa ac ag))))),fun xs Z Q h=>?_⟩)
 obtain⟨n,d,rfl,hn1,hn,h60,k⟩:=h;walk_at "s1";refine⟨by decide,?_⟩
 by_cases ht:isD "tuple" d=true
 case neg=>
  rw[if_pos (by simpa using ht),aJ]
  rw[show g7 n d=false from by cases d<;>first|rfl|(simp[isD,tyD] at ht)] at k
  exact k
 obtain⟨ds,rfl⟩:∃ds,d=.tup ds:=by cases d<;>first|exact⟨_,rfl⟩|(simp[isD,tyD] at ht)
 rw[ht,if_neg (by decide)]
 have h60:=h60 ds rfl;walk_at "a1";refine ig (rs:=(ds.map (dc n)).map D.bl) (by simp) (Nat.le_of_lt (aT (by simp;omega))) (fun j a r h1 h2 Q q=>?_) (fun ρ=>⟨_,cw _,_,rfl,?_⟩)
 ·simp only[List.map_map,List.getElem?_map,Option.map_eq_some_iff] at h1 h2
  obtain⟨y,hy,rfl⟩:=h1;obtain⟨y',hy',rfl⟩:=h2;rw[hy] at hy';cases hy';simp only[Function.comp_apply] at q ⊢;walk_at "a1";exact⟨n,y,rfl,hn1,hn,q⟩
 rw[List.all_map,aJ];simp only[g7] at k;by_cases ha:ds.all (dc n)=true
 ·rw[if_pos (by exact ha)]
  rw[ha,Bool.true_and] at k
  have ed:ds=(ds.map unw).map wdD:=by
   rw[List.map_map];refine((List.map_congr_left fun x hx=>?_).trans (List.map_id ds)).symm;exact((pK (List.all_eq_true.mp ha x hx)).1).symm
  exact⟨ds.map unw,by rw[←ed],by simp;omega,_,rfl,by rw[aJ];exact k⟩
 ·rw[if_neg (by exact ha)]
  rw[Bool.not_eq_true] at ha;rw[ha,Bool.false_and] at k;rw[show ds.all (id ∘ dc n)=false from ha]
  exact k
noncomputable def iE(n:Nat):D->Bool
 |.tup [x,s,_,_]=>(isS x "yes" || isS x "no") && g7 n s
 |_=>false
noncomputable def xa:ASp:=fun xs Z Q=>∃(n:Nat)(d:D),xs=[.d (.int n),.d d]/\1<=n/\n<=5/\(∀ds,d=.tup ds->∀e∈ds,∀es,e=.tup es->es.length<=60)/\Q (.d (.bl (iE n d))) Z
theorem wB(T:Txt K mg t):aO P w K mg base CX0 5 t.dG t.jZ ["places","thing"] (ca xa):=by
 have G_are_says:aO P w K mg base _ _ _ _ _ _:=t5 T
 refine T.w6.okD tT (fun xs Z Q h=>by obtain ⟨n,d,rfl,_⟩:=h;rfl) (fun cdv A outer s H E hr=>⟨_,_,(ai (bM (PW.pt (ff (cK (bh K rfl (aF bX (by rfl) T.bf (by kernel_rfl) (ab (pv 1) (ab (cH (v:=.ty "tuple") (by rfl) T.cO (by kernel_rfl) (by rfl)) ae))) (fun _=>rfl))) (dN (aX (kr hr.FU) (aF (bS K rfl) (by rfl) T.ek (by kernel_rfl) (ab (pv 1) ae)) ah (a8 _))))) (ap (aM bE)) bc)
   (ap (aM (b8 K rfl (CU K rfl (eA (sQ hr.FU) (bd (aE K rfl) (pv 1) ah (fun _ _=>rfl)) aL (a8 _)) (ec (eA (sQ hr.FU) (bd (aE K rfl) (pv 1) ah (fun _ _=>rfl)) aL (a8 _)))) (ec (am G_are_says (hr.mono (by omega)) (by rfl) T.sK T.sJ T.sn .nil aB (ab (pv 0) (ab (bd (aE K rfl) (pv 1) ah (fun _ _=>rfl)) ae)))))))),(ax (dg (jG (eu (dv (bQ fF (aa ac (aa fN ag))))) (bn (au cr (bQ gF (aa ac ag)) aj))) (a9 cJ) bz)
   (a9 (cT (EH (au yD (au bO ac aj) aY) (au yD (au bO ac aj) aY)) (ar (aa ac (aa (au bO ac aj) ag)))))),fun xs Z Q h=>?_⟩)
 obtain⟨n,d,rfl,hn1,hn,h60,k⟩:=h;walk_at "s1";refine⟨by decide,?_⟩
 by_cases ht:isD "tuple" d=true
 case neg=>
  rw[if_pos (by simpa using ht),aJ]
  rw[show iE n d=false from by cases d<;>first|rfl|(simp[isD,tyD] at ht)] at k
  exact k
 obtain⟨ds,rfl⟩:∃ds,d=.tup ds:=by cases d<;>first|exact⟨_,rfl⟩|(simp[isD,tyD] at ht)
 rw[ht,if_neg (by decide)]
 refine⟨ds.length,gP _ _,?_⟩;by_cases hl:ds.length=4
 case neg=>
  rw[if_pos (by simp;omega),aJ]
  rw[show iE n (.tup ds)=false from by
   unfold iE;split
   ·rename_i e;cases e;exact absurd rfl hl
   ·rfl] at k
  exact k
 rw[if_neg (by rw[hl];decide)]
 obtain⟨x,s,a,b,rfl⟩:∃x s a b,ds=[x,s,a,b]:=by
  match ds,hl with
  | [x,s,a,b],_=>exact⟨x,s,a,b,rfl⟩
 simp only[iE,isS] at k;have h6:∀ds',s=.tup ds'->ds'.length<=60:=h60 _ rfl s (by simp)
 walk_at "a1";refine⟨.d x,"yes",xQ,rfl,i4 (.d x) "yes",rfl,?_⟩
 cases e1:i4 (.d x) "yes" with
 |true=>
  rw[e1,Bool.true_or,Bool.true_and] at k;rw[if_pos (by simp)]
  refine⟨true,by simp[fe],?_⟩
  rw[if_pos rfl];exact⟨n,s,rfl,hn1,hn,h6,_,rfl,by rw[aJ];exact k⟩
 |false=>
  rw[e1,Bool.false_or] at k;rw[if_neg (by simp)]
  refine⟨.d x,"no",xQ,rfl,i4 (.d x) "no",rfl,?_⟩
  cases e2:i4 (.d x) "no" with
  |true=>
   rw[e2,Bool.true_and] at k;rw[if_pos (by simp)]
   exact⟨n,s,rfl,hn1,hn,h6,_,rfl,by rw[aJ];exact k⟩
  |false=>
   rw[e2,Bool.false_and] at k;rw[if_neg (by simp),aJ]
   exact⟨_,rfl,k⟩
mutual
noncomputable def szD:D->Nat
 |.tup ds=>1+eY ds
 |.lst ds=>1+eY ds
 |_=>1
noncomputable def eY:List D->Nat
 | []=>0
 |d::ds=>szD d+eY ds
end
mutual
noncomputable def shD:D->Bool
 |.tup ds=>decide (ds.length<=60) && kZ ds
 |.lst ds=>kZ ds
 |_=>true
noncomputable def kZ:List D->Bool
 | []=>true
 |d::ds=>shD d && kZ ds
end
theorem fK:∀ds:List D,kZ ds=true↔∀d∈ds,shD d=true
 | []=>by simp[kZ]
 |d::ds=>by simp[kZ,fK ds]
theorem f7(d:D):0<szD d:=by cases d<;>simp[szD]<;>omega
noncomputable def pI(n:Nat):Nat->D->Bool
 |0,_=>false
 |f+1,d=>match d with
  |.tup [x,s,a,b]=>(isS x "yes" || isS x "no") && g7 n s && (pI n f a && pI n f b)
  |.tup [x,p]=>isS x "end" && gM n p
  |_=>false
theorem ly(n:Nat):∀(f g:Nat)(d:D),szD d<=f->szD d<=g->pI n f d=pI n g d
 |0,g,d,h,_=>by have:=f7 d;omega
 |f+1,0,d,_,h=>by have:=f7 d;omega
 |f+1,g+1,d,h1,h2=>by
  unfold pI;split
  ·rename_i x s a b
   simp only[szD,eY] at h1 h2;have:=f7 x;rw[ly n f g a (by omega) (by omega),ly n f g b (by omega) (by omega)]
  ·rfl
  ·rfl
noncomputable def bU(n:Nat)(d:D):Bool:=pI n (szD d) d
theorem kQ{n:Nat}{x s a b:D}:bU n (.tup [x,s,a,b])=((isS x "yes" || isS x "no") && g7 n s && (bU n a && bU n b)):=by
 unfold bU;have h:szD (.tup [x,s,a,b])=(szD x+(szD s+(szD a+szD b)))+1:=by simp only[szD,eY];omega
 rw[h];show ((isS x "yes" || isS x "no") && g7 n s && (pI n _ a && pI n _ b))=_;rw[ly n _ (szD a) a (by omega) (Nat.le_refl _),ly n _ (szD b) b (by omega) (Nat.le_refl _)]
theorem mX{n:Nat}{x p:D}:bU n (.tup [x,p])=(isS x "end" && gM n p):=by
 unfold bU;have h:szD (.tup [x,p])=(szD x+szD p)+1:=by simp only[szD,eY];omega
 rw[h];rfl
theorem jU{n:Nat}{d:D}(h4:∀x s a b,d≠.tup [x,s,a,b])(h2:∀x p,d≠.tup [x,p]):bU n d=false:=by
 unfold bU;have hp:=f7 d;obtain⟨f,hf⟩:∃f,szD d=f+1:=⟨szD d-1,by omega⟩
 rw[hf];unfold pI;split
 ·exact absurd rfl (h4 _ _ _ _)
 ·exact absurd rfl (h2 _ _)
 ·rfl
theorem yB{n:Nat}{d:D}(h:iE n d=true):∃x s a b,d=.tup [x,s,a,b]/\bU n d=(bU n a && bU n b):=by
 unfold iE at h;split at h
 ·rename_i x s a b
  exact⟨x,s,a,b,rfl,by rw[kQ,h,Bool.true_and]⟩
 ·cases h
theorem Bh{n:Nat}{d:D}(h:iE n d=false):bU n d=qQ n d:=by
 by_cases h4:∃x s a b,d=.tup [x,s,a,b]
 ·obtain⟨x,s,a,b,rfl⟩:=h4
  simp only[iE] at h;rw[kQ,h,Bool.false_and];rfl
 ·by_cases h2:∃x p,d=.tup [x,p]
  ·obtain⟨x,p,rfl⟩:=h2
   rw[mX];rfl
  ·rw[jU (fun x s a b e=>h4 ⟨x,s,a,b,e⟩) (fun x p e=>h2 ⟨x,p,e⟩)]
   unfold qQ;split
   ·exact absurd ⟨_,_,rfl⟩ h2
   ·rfl
noncomputable def stS(q:List D):Nat:=(q.map szD).sum
theorem tL:∀q:List D,q.length<=stS q
 | []=>Nat.le_refl _
 |p::q=>by
  have h:=tL q;have h1:=f7 p;simp only[stS,List.map_cons,List.sum_cons,List.length_cons] at h ⊢;omega
noncomputable def w4:ASp:=fun xs Z Q=>∃(n:Nat)(d:D),xs=[.d (.int n),.d d]/\1<=n/\n<=5/\shD d=true/\szD d<=1000000/\Q (.d (.bl (bU n d))) Z
theorem nN(T:Txt K mg t):aO P w K mg base CX0 6 t.dQ t.jQ ["places","thing"] (ca w4):=by
 have G_is_turn:aO P w K mg base _ _ _ _ _ _:=wB T;have G_is_end:aO P w K mg base _ _ _ _ _ _:=xN T
 refine T.vY.okD iS (fun xs Z Q h=>by obtain⟨n,d,rfl,_⟩:=h;rfl) (fun cdv A outer s H E hr=>⟨_,_,(ai (aD (i:=2) iS.nd rfl (Or.inl rfl) (aP (ab (pv 1) ae)))
   (ai (m9 PassesOwn.never (bh K rfl (pv 2) (fun _=>rfl)) (ai (aD (i:=3) iS.nd rfl (Or.inl rfl) (x3 PySem.F.plainAttrs_list PySem.F.slot_list_pop PySem.F.type_list_pop zd (pv 2)))
   (ap (bM (bh K rfl (am G_is_turn (hr.mono (by omega)) (by rfl) T.wo T.wz T.wf .nil aB (ab (pv 0) (ab (pv 3) ae))) (fun _=>rfl)) (ai (ic (oa PySem.F.plainAttrs_list PySem.F.slot_list_append PySem.F.type_list_append fP (pv 2) (ab (bd (aE K rfl) (pv 3) ah (fun _ _=>rfl)) ae)))
   (ap (ic (oa PySem.F.plainAttrs_list PySem.F.slot_list_append PySem.F.type_list_append fP (pv 2) (ab (bd (aE K rfl) (pv 3) ah (fun _ _=>rfl)) ae))))) (ap (bM (cK (bh K rfl (am G_is_end (hr.mono (by omega)) (by rfl) T.zH T.yH T.xY .nil aB (ab (pv 0) (ab (pv 3) ae))) (fun _=>rfl))) (ap (aM bE)) bc))))))
   (ap (aM bE)))),(ax (aR (kg (aa ac ag)) aq)
   (ax (pM (dv ac) (ax (aR (BV ac) aq)
   (dg (dv (ar (aa ac (aa ac ag)))) (ax (ka (jx ac (aa (au bO ac aj) ag)))
   (ka (jx ac (aa (au bO ac aj) ag)))) (dg (eu (dv (ar (aa ac (aa ac ag))))) (a9 cJ) bz))))
   (a9 cJ))),fun xs Z Q h=>?_⟩)
 obtain⟨n,d,rfl,hn1,hn,hsh,hsz,k⟩:=h;walk_at "s1";intro l hl;walk_at "s1"
 have fin:∀(b:Bool)(A:OC),bU n d=b->Q (.d (.bl b)) ((Z.put l A).only Z):=fun b A e=>by
  rw[lh ((Ex.refl Z).new hl),←e]
  exact k
 obtain⟨Pv,iP⟩:=Ew (fun m ρ Z'=>∃(q:List D)(v3:Option AV),Z'=Z.put l (.own (q.map AV.d))/\stS q=m/\stS q<=1000000/\(∀e∈q,shD e=true)/\q.all (bU n)=bU n d/\ρ=[some (.d (.int n)),some (.d d),some (.r (.ref l)),v3]);refine⟨Pv,⟨szD d,(iP _ _ _).mpr ⟨[d],_,rfl,by simp[stS],by simp[stS];omega,by simpa using hsh,by simp,rfl⟩⟩,fun m ρ Z' h=>?_⟩
 obtain⟨q,v3,rfl,hm,hq6,hqs,hq,rfl⟩:=(iP _ _ _).mp h;walk_at "a1";rcases List.eq_nil_or_concat q with rfl|⟨q',d1,rfl⟩
 ·rw[if_neg (by simp)]
  exact fin true _ (by rw[←hq];rfl)
 rw[List.concat_eq_append] at *;have e3:(q'++[d1]).map AV.d=q'.map AV.d++[AV.d d1]:=by simp
 have e4:stS (q'++[d1])=stS q'+szD d1:=by simp[stS]
 have hqa:(q'++[d1]).all (bU n)=(q'.all (bU n) && bU n d1):=by simp
 rw[hqa] at hq;rw[e4] at hm hq6;rw[e3,if_pos (by simp)]
 have hs1:shD d1=true:=hqs d1 (by simp)
 have hlq:=tL q';refine⟨fun ρ' Z2=>∃(q:List D)(v3:Option AV),Z2=Z.put l (.own (q.map AV.d))/\stS q<m/\stS q<=1000000/\(∀e∈q,shD e=true)/\q.all (bU n)=bU n d/\ρ'=[some (.d (.int n)),some (.d d),some (.r (.ref l)),v3],?_,?_⟩
 ·rintro ρ' Z2 ⟨q,v3,rfl,h1,h2,h3,h4,rfl⟩
  exact⟨stS q,h1,(iP _ _ _).mpr ⟨q,v3,rfl,rfl,h2,h3,h4,rfl⟩⟩
 walk_at "s1"
 have hlen:∀ds,d1=.tup ds->∀e∈ds,∀es,e=.tup es->es.length<=60:=fun ds e1 e he es e2=>by
  subst e1;simp only[shD,Bool.and_eq_true] at hs1;have:=(fK ds).mp hs1.2 e he;subst e2;simp only[shD,Bool.and_eq_true,decide_eq_true_eq] at this;exact this.1
 refine⟨n,d1,rfl,hn1,hn,hlen,_,rfl,?_⟩
 cases ht:iE n d1 with
 |true=>
  rw[if_pos rfl];obtain⟨x,s,a,b,rfl,et⟩:=yB ht;have hz:szD a+szD b<szD (.tup [x,s,a,b]):=by simp only[szD,eY];omega
  simp only[shD,kZ,Bool.and_eq_true] at hs1;have big:2000000<sizeLine:=by decide
  walk_at "s1";refine⟨by omega,by omega,q'++[a]++[b],by simp,?_,?_,fun e he=>?_,?_⟩
  ·simp only[stS,List.map_append,List.sum_append,List.map_cons,List.map_nil,List.sum_cons,List.sum_nil] at hm ⊢
   omega
  ·simp only[stS,List.map_append,List.sum_append,List.map_cons,List.map_nil,List.sum_cons,List.sum_nil] at hq6 ⊢
   omega
  ·simp only[List.mem_append,List.mem_cons,List.not_mem_nil,or_false] at he
   rcases he with(he|rfl)|rfl
   ·exact hqs e (by simp[he])
   ·exact hs1.2.2.2.1
   ·exact hs1.2.2.2.2.1
  ·rw[et] at hq
   rw[←hq]
   simp[Bool.and_assoc]
 |false=>
  rw[if_neg (by decide)]
  rw[Bh ht] at hq;refine⟨n,d1,rfl,hn1,hn,_,rfl,?_⟩
  cases he:qQ n d1 with
  |true=>
   rw[if_neg (by decide)]
   rw[he,Bool.and_true] at hq;have hp:=f7 d1;exact⟨q',rfl,by omega,by omega,fun e h=>hqs e (by simp[h]),hq⟩
  |false=>
   rw[if_pos (by decide)]
   exact fin false _ (by rw[←hq,he,Bool.and_false])
theorem qa:∀a b:List (List Int),d7 (a.map wdD) (b.map wdD)=decide (a=b)
 | [],[]=>rfl
 | [],_::_=>rfl
 |_::_,[]=>rfl
 |x::a,y::b=>by
  simp only[List.map_cons,d7,sI,qa a b];rw[Bool.eq_iff_iff];simp
theorem Cz{ws:List (List Int)}(h:(upB ws).all id=true):Ris ws:=by
 have up:∀i (hi:i+1<ws.length),cf ws[i] ws[i+1]=true:=fun i hi=>by
  have:=List.all_eq_true.mp h (cf (ws.getD i []) (ws.getD (i+1) [])) (by unfold upB;exact List.mem_map.mpr ⟨i,List.mem_range.mpr (by omega),rfl⟩)
  simpa[show i<ws.length by omega,show i+1<ws.length by omega] using this
 have:∀(k i:Nat)(hi:i+k+1<ws.length),cf ws[i+k+1] ws[i]=false:=fun k=>by
  induction k with
  |zero=>exact fun i hi=>lX _ _ (up i hi)
  |succ k ih=>exact fun i hi=>tY _ _ _ (ih i (by omega)) (lX _ _ (up (i+k+1) hi))
 unfold Ris;rw[List.pairwise_iff_getElem];intro i j hi hj hij;obtain⟨k,rfl⟩:∃k,j=i+k+1:=⟨j-i-1,by omega⟩
 exact this k i hj
theorem CT{us r:List (List Int)}(hr:Ris r)(hn:r.Nodup)(hm:∀x,x∈r↔x∈us):eqD (.lst (us.map wdD)) (.lst (r.map wdD))=(upB us).all id:=by
 rw[show eqD (.lst (us.map wdD)) (.lst (r.map wdD))=d7 (us.map wdD) (r.map wdD) from by simp[eqD],qa,Bool.eq_iff_iff,decide_eq_true_eq]
 constructor
 ·rintro rfl
  rw[sV hr,decide_eq_true hn]
 ·intro h
  have h1:=Cz h;have h2:us.Nodup:=by rw[sV h1] at h;exact of_decide_eq_true h
  exact zY ((List.perm_ext_iff_of_nodup h2 hn).mpr fun x=>(hm x).symm) h1 hr
noncomputable def Aw:ASp:=fun xs Z Q=>∃(n:Nat)(d:D),xs=[.d d,.d (.int n)]/\Q (.d (.bl (gM n d))) Z
theorem uL(T:Txt K mg t):aO P w K mg base CX0 1 t.bW t.fw ["_law_thing","_law_most"] (ca Aw):=by
 refine T.nA.okD mj (fun xs Z Q h=>by obtain⟨n,d,rfl,_⟩:=h;rfl) (fun cdv A outer s H E hr=>⟨_,_,(ap (aM (b8 K rfl (aF bX (by rfl) T.bf (by kernel_rfl) (ab (pv 0) (ab (cH (v:=.ty "int") (by rfl) T.yk (by kernel_rfl) (by rfl)) ae))) (b8 K rfl (vi K rfl (aF bX (by rfl) T.bf (by kernel_rfl) (ab (pv 0) (ab (cH (v:=.ty "bool") (by rfl) T.s0 (by kernel_rfl) (by rfl)) ae)))) (ec (jD nP uO ah (pv 0) (pv 1))))))),(a9 (cT (bQ fF (aa ac (aa fN ag))) (cT (zm (bQ fF (aa ac (aa fN ag)))) (lm iF iF aj ac ac)))),fun xs Z Q h=>?_⟩)
 obtain⟨n,d,rfl,k⟩:=h;walk_at "a1";refine⟨by decide,?_⟩
 by_cases hi:isD "int" d=true
 case neg=>
  rw[if_neg hi,aJ];rw[show gM n d=false from by cases d<;>first|rfl|(simp[isD,tyD] at hi)] at k
  rw[Bool.not_eq_true] at hi;rw[hi];exact k
 rw[if_pos hi];refine⟨by decide,?_⟩
 by_cases hb:isD "bool" d=true
 case pos=>
  rw[if_neg (by simpa using hb),aJ,hb]
  rw[show gM n d=false from by cases d<;>first|rfl|(simp[isD,tyD] at hb)] at k
  exact k
 rw[if_pos (by simpa using hb)]
 obtain⟨i,rfl⟩:∃i,d=.int i:=by cases d<;>first|exact⟨_,rfl⟩|(simp[isD,tyD] at hi hb)
 simp only[gM] at k;refine⟨i,rfl,?_⟩;by_cases h0:0<=i
 ·rw[if_pos h0,aJ]
  rw[decide_eq_true h0,Bool.true_and] at k;exact⟨i,rfl,k⟩
 ·rw[if_neg h0,aJ]
  rw[decide_eq_false h0,Bool.false_and] at k;exact k
noncomputable def Al:ASp:=fun xs Z Q=>∃(n:Nat)(d:D),xs=[.d (.int n),.d d]/\n<=5/\Q (.d (.bl (dc n d))) Z
theorem Bq(T:Txt K mg t):aO P w K mg base CX0 2 t.cy t.gY ["_law_places_here","_law_thing"] (ca Al):=by
 have G_l_is_number:aO P w K mg base _ _ _ _ _ _:=uL T;refine T.qA.okD oQ (fun xs Z Q h=>by obtain⟨n,d,rfl,_⟩:=h;rfl) (fun cdv A outer s H E hr=>⟨_,_,(ap (aM (b8 K rfl (aF bX (by rfl) T.bf (by kernel_rfl) (ab (pv 1) (ab (cH (v:=.ty "tuple") (by rfl) T.cO (by kernel_rfl) (by rfl)) ae))) (b8 K rfl (eA (cq hr.FU) (aF (bS K rfl) (by rfl) T.ek (by kernel_rfl) (ab (pv 1) ae)) (pv 0) (a8 _)) (ec (aF (fC K rfl rfl) (by rfl) T.rN (by kernel_rfl) (ab (dU (N:=(["_law_bit"]:List Str)) (src:=[none]) rfl (by show eW _ (defScope fj) _ _ (["_law_places_here","_law_thing"]:List Str)=true;decide +kernel) (by intro g' h;cases h) (d9 K rfl (pv 1)) (fun _ _ _ _ _ _=>(bg (i:=0) (show (["_law_bit"]:List Str).Nodup by decide +kernel) rfl (Or.inl rfl))) (fun _ _ _ _ _ _=>ga) (fun _ _ _ _ _ _=>(dY rfl rfl (am G_l_is_number (hr.mono (by omega)) (by rfl) T.iy T.iD T.iw .nil aB (ab (pv 0) (af ah ae)))))) ae))))))),(a9 (cT (bQ fF (aa ac (aa fN ag))) (cT (au cr (bQ gF (aa ac ag)) ac) (bQ qF (aa (fy (gD ac) aq ua (fu (ar (aa ac (aa aj ag))))) ag))))),fun xs Z Q h=>?_⟩)
 obtain⟨n,d,rfl,hn,k⟩:=h;walk_at "a1";refine⟨by decide,?_⟩
 by_cases ht:isD "tuple" d=true
 case neg=>
  rw[if_neg ht,aJ];rw[show dc n d=false from by cases d<;>first|rfl|(simp[isD,tyD] at ht)] at k
  rw[Bool.not_eq_true] at ht;rw[ht];exact k
 rw[if_pos ht];obtain⟨ds,rfl⟩:∃ds,d=.tup ds:=by cases d<;>first|exact⟨_,rfl⟩|(simp[isD,tyD] at ht)
 refine⟨ds.length,gP _ _,?_⟩;simp only[dc] at k
 have p2:∀d,gM 2 d=kx d:=fun d=>by
  cases d<;>first|rfl|skip
  rename_i i
  simp only[gM,kx]
  congr 1
  exact decide_eq_decide.mpr (by omega)
 by_cases hl:(ds.length:Int)=n
 case neg=>
  rw[if_neg hl,aJ];rw[decide_eq_false hl,Bool.false_and] at k;rw[show ((ds.length:Int) == (n:Int))=false from by simpa using hl]
  exact k
 rw[if_pos hl];rw[decide_eq_true hl,Bool.true_and] at k;refine⟨_,rfl,?_⟩;refine ig (rs:=(ds.map kx).map D.bl) (by simp) (Nat.le_of_lt (aT (by simp;omega))) (fun j a r h1 h2 Q q=>?_) (fun ρ=>⟨_,cw _,_,rfl,?_⟩)
 ·simp only[List.map_map,List.getElem?_map,Option.map_eq_some_iff] at h1 h2
  obtain⟨y,hy,rfl⟩:=h1;obtain⟨y',hy',rfl⟩:=h2;rw[hy] at hy';cases hy';simp only[Function.comp_apply] at q ⊢;walk_at "a1";exact⟨2,y,rfl,by rw[p2];exact q⟩
 ·rw[aJ,List.all_map]
  exact k
noncomputable def AQ:ASp:=fun xs Z Q=>∃(n:Nat)(d:D),xs=[.d (.int n),.d d]/\1<=n/\n<=5/\shD d=true/\szD d<=1000000/\Q (.d (.bl (bU n d))) Z
theorem A8(T:Txt K mg t):aO P w K mg base CX0 3 t.cR t.jb ["_law_places_here","_law_thing"] (ca AQ):=by
 have G_l_is_number:aO P w K mg base _ _ _ _ _ _:=uL T;have G_l_is_word:aO P w K mg base _ _ _ _ _ _:=Bq T
 refine T.tR.okD gX (fun xs Z Q h=>by obtain⟨n,d,rfl,_⟩:=h;rfl) (fun cdv A outer s H E hr=>⟨_,_,(ai (aD (i:=2) gX.nd rfl (Or.inl rfl) (aP (ab (pv 1) ae)))
   (ai (m9 PassesOwn.never (aX (oq K rfl hr.FU) (pv 2) (aP ae) (a8 _)) (ai (aD (i:=3) gX.nd rfl (Or.inl rfl) (x3 PySem.F.plainAttrs_list PySem.F.slot_list_pop PySem.F.type_list_pop zd (pv 2)))
   (ai (bM (PW.pt (ff (cK (bh K rfl (aF bX (by rfl) T.bf (by kernel_rfl) (ab (pv 3) (ab (cH (v:=.ty "tuple") (by rfl) T.cO (by kernel_rfl) (by rfl)) ae))) (fun _=>rfl))) (ff (aX (ou hr.FU) (aF (bS K rfl) (by rfl) T.ek (by kernel_rfl) (ab (pv 3) ae)) (ao (af ah (af ah ae))) (by with_unfolding_all rfl)) (dN (cK (bh K rfl (aF bX (by rfl) T.bf (by kernel_rfl) (ab (bd (aE K rfl) (pv 3) ah (fun _ _=>rfl)) (ab (cH (v:=.ty "str") (by rfl) T.Ez (by kernel_rfl) (by rfl)) ae))) (fun _=>rfl))))))) (ap (aM bE)) bc)
   (ap (bM (aX (cq hr.FU) (aF (bS K rfl) (by rfl) T.ek (by kernel_rfl) (ab (pv 3) ae)) ah (a8 _)) (ap (bM (PW.pt (ff (aX (kr hr.FU) (bd (aE K rfl) (pv 3) ah (fun _ _=>rfl)) aL (a8 _)) (dN (cK (bh K rfl (am G_l_is_number (hr.mono (by omega)) (by rfl) T.iy T.iD T.iw .nil aB (ab (bd (aE K rfl) (pv 3) ah (fun _ _=>rfl)) (ab (pv 0) ae))) (fun _=>rfl)))))) (ap (aM bE)) bc)) (ai (bM (PW.pt (ff (aX (ou hr.FU) (bd (aE K rfl) (pv 3) ah (fun _ _=>rfl)) (aP (af aL (af aL ae))) (by with_unfolding_all rfl)) (dN (cK (bh K rfl (aF bX (by rfl) T.bf (by kernel_rfl) (ab (bd (aE K rfl) (pv 3) ah (fun _ _=>rfl)) (ab (cH (v:=.ty "tuple") (by rfl) T.cO (by kernel_rfl) (by rfl)) ae))) (fun _=>rfl)))))) (ap (aM bE)) bc)
   (ai (bM (PW.pt (ff (cK (bh K rfl (aF (fC K rfl rfl) (by rfl) T.rN (by kernel_rfl) (ab (dU (N:=(["_law_word","_law_places_here"] : List Str)) (src:=[none,some 0]) rfl (by show eW _ (defScope gk) _ _ (["_law_places_here","_law_thing","_law_pile","_law_one"] : List Str) = true;decide +kernel) (by intro g' h;cases h) (d9 K rfl (bd (aE K rfl) (pv 3) ah (fun _ _=>rfl))) (fun _ _ _ _ _ _=>(bg (i:=0) (show (["_law_word","_law_places_here"] : List Str).Nodup by decide +kernel) rfl (Or.inl rfl))) (fun _ _ _ _ _ _=>ga) (fun _ _ _ _ _ _=>(dY rfl rfl (am G_l_is_word (hr.mono (by omega)) (by rfl) T.r9 T.qJ T.qY .nil aB (ab (pv 1) (ab (pv 0) ae)))))) ae)) (fun _=>rfl))) (dN (aX (kr hr.FU) (bR (ci K rfl) (by rfl) T.j9 (by kernel_rfl) (ab (bd (aE K rfl) (pv 3) ah (fun _ _=>rfl)) ae)) (sS K rfl rfl hr.Gc (by rfl) T.zQ (by rfl) T.ED (ab (bd (aE K rfl) (pv 3) ah (fun _ _=>rfl)) ae)) (a8 _))))) (ap (aM bE)) bc)
   (ap (ic (oa PySem.F.plainAttrs_list PySem.F.slot_list_extend PySem.F.type_list_extend n6 (pv 2) (bL (aP (ab (bd (aE K rfl) (pv 3) ah (fun _ _=>rfl)) (ab (bd (aE K rfl) (pv 3) ah (fun _ _=>rfl)) ae))) ae)))))))))))
   (ap (aM bE)))),(ax (aR (kg (aa ac ag)) aq)
   (ax (pM (bn (au rj ac (bq ag))) (ax (aR (BV ac) aq)
   (ax (dg (jG (eu (dv (bQ fF (aa ac (aa fN ag))))) (jG (bn (au EG (bQ gF (aa ac ag)) (aw (aa aj (aa aj ag))))) (eu (dv (bQ fF (aa (au bO ac aj) (aa fN ag))))))) (a9 cJ) bz)
   (dg (bn (au cr (bQ gF (aa ac ag)) aj)) (dg (jG (bn (au cr (au bO ac aj) aY)) (eu (dv (ar (aa (au bO ac aj) (aa ac ag)))))) (a9 cJ) bz) (ax (dg (jG (bn (au EG (au bO ac aj) (bq (aa aY (aa aY ag))))) (eu (dv (bQ fF (aa (au bO ac aj) (aa fN ag)))))) (a9 cJ) bz)
   (ax (dg (jG (eu (dv (bQ qF (aa (fy (gD (au bO ac aj)) aq ua (fu (ar (aa ac (aa ac ag))))) ag)))) (bn (au cr (bQ mf (aa (au bO ac aj) ag)) (xf (aa (au bO ac aj) ag))))) (a9 cJ) bz)
   (ka (rV ac (aa (bq (aa (au bO ac aj) (aa (au bO ac aj) ag))) ag)))))))))
   (a9 cJ))),fun xs Z Q h=>?_⟩)
 obtain⟨n,d,rfl,hn1,hn,hsh,hsz,k⟩:=h;walk_at "s1";intro l hl;walk_at "s1"
 have fin:∀(b:Bool)(A:OC),bU n d=b->Q (.d (.bl b)) ((Z.put l A).only Z):=fun b A e=>by
  rw[lh ((Ex.refl Z).new hl),←e]
  exact k
 obtain⟨Pv,iP⟩:=Ew (fun m ρ Z'=>∃(q:List D)(v3:Option AV),Z'=Z.put l (.own (q.map AV.d))/\stS q=m/\stS q<=1000000/\(∀e∈q,shD e=true)/\q.all (bU n)=bU n d/\ρ=[some (.d (.int n)),some (.d d),some (.r (.ref l)),v3]);refine⟨Pv,⟨szD d,(iP _ _ _).mpr ⟨[d],_,rfl,by simp[stS],by simp[stS];omega,by simpa using hsh,by simp,rfl⟩⟩,fun m ρ Z' h=>?_⟩
 obtain⟨q,v3,rfl,hm,hq6,hqs,hq,rfl⟩:=(iP _ _ _).mp h;walk_at "a1";refine⟨q.map AV.d,by rw[lR,Om.FR],rfl,_,rfl,?_⟩
 rcases List.eq_nil_or_concat q with rfl|⟨q',d1,rfl⟩
 ·rw[if_neg (by simp)]
  exact fin true _ (by rw[←hq];rfl)
 rw[List.concat_eq_append] at *;have e3:(q'++[d1]).map AV.d=q'.map AV.d++[AV.d d1]:=by simp
 have e4:stS (q'++[d1])=stS q'+szD d1:=by simp[stS]
 have hqa:(q'++[d1]).all (bU n)=(q'.all (bU n) && bU n d1):=by simp
 rw[hqa] at hq;rw[e4] at hm hq6;rw[if_pos (by simp),e3]
 have hs1:shD d1=true:=hqs d1 (by simp)
 have hlq:=tL q';refine⟨fun ρ' Z2=>∃(q:List D)(v3:Option AV),Z2=Z.put l (.own (q.map AV.d))/\stS q<m/\stS q<=1000000/\(∀e∈q,shD e=true)/\q.all (bU n)=bU n d/\ρ'=[some (.d (.int n)),some (.d d),some (.r (.ref l)),v3],?_,?_⟩
 ·rintro ρ' Z2 ⟨q,v3,rfl,h1,h2,h3,h4,rfl⟩
  exact⟨stS q,h1,(iP _ _ _).mpr ⟨q,v3,rfl,rfl,h2,h3,h4,rfl⟩⟩
 have bad:bU n d1=false->∀A,Q (.d (.bl false)) ((Z.put l A).only Z):=fun h A=>fin false A (by rw[←hq,h,Bool.and_false])
 have hp1:=f7 d1;walk_at "s1";walk_at "s1";refine⟨by decide,?_⟩
 by_cases ht:isD "tuple" d1=true
 case neg=>
  rw[if_pos (by simpa using ht)]
  exact bad (jU (fun x s a b e=>ht (by rw[e];rfl)) (fun x p e=>ht (by rw[e];rfl))) _
 obtain⟨ds,rfl⟩:∃ds,d1=.tup ds:=by cases d1<;>first|exact⟨_,rfl⟩|(simp[isD,tyD] at ht)
 rw[ht,if_neg (by decide)]
 refine⟨ds.length,gP _ _,?_⟩;refine⟨by simp[dA,dep],?_⟩
 have e24:inD (.int (ds.length:Nat)) [.int 2,.int 4]=(decide (ds.length=2) || decide (ds.length=4)):=by
  simp only[inD,List.any_cons,List.any_nil,jI,Bool.or_false]
  congr 1<;>(rw[Bool.eq_iff_iff];simp;omega)
 rw[e24];by_cases hl:ds.length=2\/ds.length=4
 case neg=>
  rw[if_pos (by rw[decide_eq_false fun z=>hl (.inl z),decide_eq_false fun z=>hl (.inr z)];rfl)]
  exact bad (jU (fun x s a b e=>hl (.inr (by cases e;rfl))) (fun x p e=>hl (.inl (by cases e;rfl)))) _
 rw[if_neg (by rcases hl with h|h<;>simp[h])]
 have str_of:∀ {x:D},isD "str" x=true->∃z,x=.str z:=fun {x} h=>by cases x<;>first|exact⟨_,rfl⟩|(simp[isD,tyD] at h)
 have not_str:∀ {x:D} {z:Str},¬ isD "str" x=true->isS x z=false:=fun {x z} h=>by cases x<;>first|rfl|(simp[isD,tyD] at h)
 rcases hl with hl|hl
 ·obtain⟨x,p,rfl⟩:∃x p,ds=[x,p]:=by
   match ds,hl with
   | [x,p],_=>exact⟨x,p,rfl⟩
  refine⟨_,.inr rfl,_,cY 0 rfl rfl,x,rfl,by decide,?_⟩
  by_cases hx:isD "str" x=true
  case neg=>
   rw[if_pos (by simpa using hx)]
   exact bad (by rw[mX,not_str hx,Bool.false_and]) _
  rw[hx,if_neg (by decide)]
  obtain⟨z,rfl⟩:=str_of hx;refine⟨_,gP _ _,?_⟩;rw[if_pos (by rfl)]
  refine⟨_,.inr rfl,_,cY 0 rfl rfl,_,rfl,by simp[dep],?_⟩
  have ez:isS (.str z) "end"=eqD (.str z) (.str "end"):=by simp[isS,i4,eqD]
  by_cases he:eqD (.str z) (.str "end")=true
  case neg=>
   rw[if_pos (by simpa using he)]
   exact bad (by rw[mX,ez,Bool.not_eq_true _ |>.mp he,Bool.false_and]) _
  rw[if_neg (by simpa using he)]
  refine⟨_,.inr rfl,_,cY 1 rfl rfl,n,p,rfl,_,rfl,?_⟩;have e2:bU n (.tup [.str z,p])=gM n p:=by rw[mX,ez,he,Bool.true_and]
  rw[e2] at hq
  cases hpl:gM n p with
  |false=>
   rw[if_pos (by decide)]
   exact bad (by rw[e2,hpl]) _
  |true=>
   rw[if_neg (by decide)]
   rw[hpl,Bool.and_true] at hq;exact⟨q',rfl,by omega,by omega,fun e h=>hqs e (by simp[h]),hq⟩
 ·obtain⟨x,s,a,b,rfl⟩:∃x s a b,ds=[x,s,a,b]:=by
   match ds,hl with
   | [x,s,a,b],_=>exact⟨x,s,a,b,rfl⟩
  refine⟨_,.inr rfl,_,cY 0 rfl rfl,x,rfl,by decide,?_⟩
  by_cases hx:isD "str" x=true
  case neg=>
   rw[if_pos (by simpa using hx)]
   exact bad (by rw[kQ,not_str hx,not_str hx];rfl) _
  rw[hx,if_neg (by decide)]
  obtain⟨z,rfl⟩:=str_of hx;refine⟨_,gP _ _,?_⟩;rw[if_neg (by simp)]
  have eyn:inD (.str z) [.str "no",.str "yes"]=(isS (.str z) "yes" || isS (.str z) "no"):=by
   simp only[inD,List.any_cons,List.any_nil,Bool.or_false,isS,i4,eqD];rw[Bool.eq_iff_iff];simp only[Bool.or_eq_true,beq_iff_eq];exact⟨fun h=>h.symm.imp Eq.symm Eq.symm,fun h=>h.symm.imp Eq.symm Eq.symm⟩
  walk_at "s1";refine⟨by simp[dA,dep],?_⟩
  rw[eyn]
  cases hyn:(isS (.str z) "yes" || isS (.str z) "no") with
  |false=>
   rw[if_pos (by decide)]
   exact bad (by rw[kQ,hyn,Bool.false_and,Bool.false_and]) _
  |true=>
  rw[if_neg (show ¬ ((!true)=true) by decide)]
  refine⟨by decide,?_⟩
  by_cases hst:isD "tuple" s=true
  case neg=>
   rw[if_pos (by simpa using hst)]
   exact bad (by rw[kQ,show g7 n s=false from by cases s<;>first|rfl|(simp[isD,tyD] at hst),Bool.and_false,Bool.false_and]) _
  obtain⟨ss,rfl⟩:∃ss,s=.tup ss:=by cases s<;>first|exact⟨_,rfl⟩|(simp[isD,tyD] at hst)
  rw[hst,if_neg (by decide)]
  have hss:ss.length<=60:=by
   simp only[shD,kZ,Bool.and_eq_true,decide_eq_true_eq] at hs1;exact hs1.2.2.1.1
  walk_at "s1";have sD:g7 n (.tup ss)=(ss.all (dc n) && (upB (ss.map unw)).all id):=rfl;have e4k:bU n (.tup [.str z,.tup ss,a,b])=(g7 n (.tup ss) && (bU n a && bU n b)):=by rw[kQ,hyn,Bool.true_and]
  refine ig (rs:=(ss.map (dc n)).map D.bl) (by simp) (Nat.le_of_lt (aT (by simp;omega))) (fun j a r h1 h2 Q q=>?_) (fun ρ=>⟨_,cw _,_,rfl,?_⟩)
  ·simp only[List.map_map,List.getElem?_map,Option.map_eq_some_iff] at h1 h2
   obtain⟨y,hy,rfl⟩:=h1;obtain⟨y',hy',rfl⟩:=h2;rw[hy] at hy';cases hy';simp only[Function.comp_apply] at q ⊢;walk_at "a1";exact⟨n,y,rfl,hn,q⟩
  rw[List.all_map,show ss.all (id ∘ dc n)=ss.all (dc n) from rfl]
  by_cases ha:ss.all (dc n)=true
  case neg=>
   rw[if_pos (by simpa using ha)]
   exact bad (by rw[e4k,sD,Bool.not_eq_true _ |>.mp ha,Bool.false_and,Bool.false_and]) _
  rw[ha,if_neg (by decide)]
  rw[ha,Bool.true_and] at sD
  obtain⟨us,rfl,hul⟩:∃us:List (List Int),ss=us.map wdD/\∀u∈us,u.length=n:=⟨ss.map unw,by
   rw[List.map_map]
   exact((List.map_congr_left fun x hx=>(pK (List.all_eq_true.mp ha x hx)).1.symm).trans (List.map_id ss)).symm,fun u hu=>by
   obtain⟨x,hx,rfl⟩:=List.mem_map.mp hu
   exact(pK (List.all_eq_true.mp ha x hx)).2⟩
  rw[vL] at sD;rw[List.length_map] at hss;refine⟨us,rfl,fun u hu z=>?_,by omega,fun r h1 h2 h3=>⟨?_,?_⟩⟩
  ·have:=hul u hu
   rw[z] at this;simp at this;omega
  ·have:=xP us
   simp only[dep];omega
  rw[CT h1 h2 h3];rw[sD] at e4k
  cases hup:(upB us).all id with
  |false=>
   rw[if_pos (by decide)]
   exact bad (by rw[e4k,hup,Bool.false_and]) _
  |true=>
  rw[if_neg (show ¬ ((!true)=true) by decide)]
  rw[e4k,hup,Bool.true_and] at hq;have hz:szD a+szD b<szD (.tup [.str z,.tup (us.map wdD),a,b]):=by simp only[szD,eY];omega
  simp only[shD,kZ,Bool.and_eq_true] at hs1;have big:2000000<sizeLine:=by decide
  refine⟨⟨_,Om.FR⟩,_,Om.FR,by simp;omega,q'++[a,b],?_,?_,?_,fun e he=>?_,?_⟩
  ·rw[Om.FT]
   simp
  ·simp only[stS,List.map_append,List.sum_append,List.map_cons,List.map_nil,List.sum_cons,List.sum_nil] at hm ⊢
   omega
  ·simp only[stS,List.map_append,List.sum_append,List.map_cons,List.map_nil,List.sum_cons,List.sum_nil] at hq6 ⊢
   omega
  ·simp only[List.mem_append,List.mem_cons,List.not_mem_nil,or_false] at he
   rcases he with he|rfl|rfl
   ·exact hqs e (by simp[he])
   ·exact hs1.2.2.2.1
   ·exact hs1.2.2.2.2.1
  ·rw[←hq]
   simp
theorem uZ{ds:List D}{r:Int}(h0:0<=r)(h1:r<ds.length):∃d∈ds,atI (ds.map AV.d) r=some (.d d):=by
 obtain⟨d,hm,_,hx⟩:=AX (f:=AV.d) (xs:=ds) h0 h1;exact⟨d,hm,hx⟩
noncomputable def Au:ASp:=fun xs Z Q=>∃(p:Addr) (ws:List (List Int)),xs=[.r (.ref p),.d (.tup (ws.map wdD))]/\cZ Z p/\ws.length<=60/\∀(us:List (List Int)) (c:Pn),us.length=ws.length->(∀u∈us,u∈ws)->Q (.d (.tup (us.map wdD))) (Z.put p (bC c))
theorem BA(T:Txt K mg t):aO P w K mg base CX0 2 t.bT t.fz ["_law_pen_here","_law_says_here"] (ca Au):=by
 have G_l_draw:aO P w K mg base _ _ _ _ _ _:=dn T
 refine T.nz.okD dq (fun xs Z Q h=>by obtain ⟨p,ws,rfl,_⟩:=h;rfl) (fun cdv A outer s H E hr=>⟨_,_,(ai (aD (i:=2) dq.nd rfl (Or.inl rfl) (bR (ci K rfl) (by rfl) T.j9 (by kernel_rfl) (ab (pv 1) ae)))
   (ai (bM (aX (oq K rfl hr.FU) (pv 2) (aP ae) (a8 _)) (ai (aD (i:=3) dq.nd rfl (Or.inl rfl) (am G_l_draw (hr.mono (by omega)) (by rfl) T.a7 T.aZ T.a0 .nil aB (ab (pv 0) (ab (aF (bS K rfl) (by rfl) T.ek (by kernel_rfl) (ab (pv 2) ae)) ae))))
   (ai (aD (i:=4) dq.nd rfl (Or.inl rfl) (am G_l_draw (hr.mono (by omega)) (by rfl) T.a7 T.aZ T.a0 .nil aB (ab (pv 0) (ab (aF (bS K rfl) (by rfl) T.ek (by kernel_rfl) (ab (pv 2) ae)) ae))))
   (ap (mF (ao (ab (bd (aE K rfl) (pv 2) (pv 4) (fun _ _=>rfl)) (ab (bd (aE K rfl) (pv 2) (pv 3) (fun _ _=>rfl)) ae))) (lE K rfl (n:=2) rfl (cg (pT (pv 2) (pv 3) jo) (cg (pT (pv 2) (pv 4) jo) lC))))))) bc)
   (ap (aM (bR (cz K rfl) (by rfl) T.cO (by kernel_rfl) (ab (pv 2) ae)))))),(ax (aR (bQ A9 (aa ac ag)) aq)
   (ax (dg (bn (au rj ac (bq ag))) (ax (aR (ar (aa ac (aa (bQ gF (aa ac ag)) ag))) aq)
   (ax (aR (ar (aa ac (aa (bQ gF (aa ac ag)) ag))) aq)
   (aR (aw (aa (au bO ac ac) (aa (au bO ac ac) ag))) (vF (ef (u9 ac ac) (ef (u9 ac ac) vz)))))) bz)
   (a9 (bQ jw (aa ac ag))))),fun xs Z Q h=>?_⟩)
 obtain⟨p,ws,rfl,hp,h60,k⟩:=h;walk_at "s1";intro l hl;obtain⟨c0,e0⟩:=hp;have nlp:l≠p:=fun z=>by subst z;rw[e0] at hl;cases hl
 have hps:(Z p).isSome=true:=by rw[e0];rfl
 have ex0:Ex (Z.put p (bC c0)) (Z.put l (.own ((ws.map wdD).map AV.d))):=by
  rw[Om.FZ e0];exact(Ex.refl _).new hl
 refine uC (fun ρ' Z'=>∃(us:List (List Int)) (c:Pn) (v3 v4:Option AV),us.length=ws.length/\(∀u∈us,u∈ws)/\Ex (Z.put p (bC c)) Z'/\Z' l=some (.own ((us.map wdD).map AV.d))/\ρ'=[some (AV.r (V.ref p)),some (AV.d (D.tup (ws.map wdD))),some (AV.r (V.ref l)),v3,v4]) (fun M kM=>?_) ?_
 ·walk_at "a1"
  refine⟨_,by rw[lR,Om.FR],rfl,_,rfl,?_⟩
  by_cases hw:ws=[]
  ·subst hw
   rw[if_neg (by simp)]
   exact kM _ _ ⟨[],c0,none,none,rfl,by simp,ex0,Om.FR,rfl⟩
  have hpos:=List.length_pos_iff.mpr hw;rw[if_pos (by cases ws<;>simp at hw ⊢)]
  have hN:((ws.map wdD).map AV.d).length=ws.length:=by simp
  walk_at "s1";refine⟨p,_,rfl,⟨c0,by rw[Om.FS (Ne.symm nlp)];exact e0⟩,by omega,by omega,fun r c r0 r1=>?_⟩
  have ex1:=ex0.put2 (e:=bC c);have hl1:((Z.put l (.own ((ws.map wdD).map AV.d))).put p (bC c)) l=some (.own ((ws.map wdD).map AV.d)):=by rw[Om.FS nlp,Om.FR]
  generalize (Z.put l (.own ((ws.map wdD).map AV.d))).put p (bC c)=Z1 at *;walk_at "s1";refine⟨_,by rw[hl1];rfl,p,_,rfl,ex1.pen,by rw[hN];omega,by rw[hN];omega,fun r2 c2 r20 r21=>?_⟩
  have ex2:=ex1.put2 (e:=bC c2);have hl2:(Z1.put p (bC c2)) l=some (.own ((ws.map wdD).map AV.d)):=by rw[Om.FS nlp];exact hl1
  generalize Z1.put p (bC c2)=Z2 at *;rw[hN] at r21;obtain⟨d1,m1,a1⟩:=uZ (ds:=ws.map wdD) (r:=r) r0 (by simpa using r1)
  obtain⟨d2,m2,a2⟩:=uZ (ds:=ws.map wdD) (r:=r2) r20 (by simpa using r21)
  refine⟨_,by rw[hl2],r2,rfl,_,a2,_,by rw[hl2],_,a1,_,rfl,rfl,?_⟩
  obtain⟨v1,w1,rfl⟩:=List.mem_map.mp m1;obtain⟨v2,w2,rfl⟩:=List.mem_map.mp m2;obtain⟨j1,rfl⟩:=Int.eq_ofNat_of_zero_le r0;obtain⟨j2,rfl⟩:=Int.eq_ofNat_of_zero_le r20
  have ix:∀(N j:Nat),j<N->ixN N (j:Int)=some j:=fun N j h=>by
   unfold ixN;rw[if_pos (by omega),if_pos (by omega)]
   rfl
  refine⟨_,_,rfl,_,hl2,j1,ix _ _ (by rw[hN];omega),_,_,rfl,_,rfl,j2,ix _ _ (by rw[List.length_set,hN];omega),rfl,?_⟩
  refine kM _ _ ⟨(ws.set j1 v2).set j2 v1,c2,_,_,by simp,fun u hu=>?_,ex2.over (by rw[Om.FS nlp];exact hl),by rw[Om.FR];simp[List.map_set],rfl⟩
  rcases List.mem_or_eq_of_mem_set hu with hu|rfl
  ·rcases List.mem_or_eq_of_mem_set hu with hu|rfl
   ·exact hu
   ·exact w2
  ·exact w1
 ·rintro ρ' Z' ⟨us,c,v3,v4,e1,e2,ex,hl1,rfl⟩
  walk_at "a1";refine⟨us.map wdD,by rw[hl1];simp only[cw];rfl,?_⟩
  rw[mY ex hps];exact k us c e1 e2
noncomputable def Gd(m B:Nat)(d:D):Prop:=Sz m B d/\shD d=true
theorem Gd.up{m m' B B':Nat}{d:D}(h:Gd m B d)(h1:m<=m')(h2:B<=B'):Gd m' B' d:=⟨h.1.up h1 h2,h.2⟩
theorem eN{m B L:Nat}{d:D}{ds:List D}(e:p6 d=some ds)(hl:ds.length<=L)(h6:ds.length<=60)(h:∀x∈ds,Gd m B x):Gd (m+1) (L*(B+2)+3) d:=by
 refine⟨xw e hl fun x hx=>(h x hx).1,?_⟩;have:=(fK ds).mpr fun x hx=>(h x hx).2;cases d<;>cases e
 ·simp only[shD,Bool.and_eq_true,decide_eq_true_eq]
  exact⟨h6,this⟩
 ·exact this
theorem me{n:Nat}{v:List Int}(hn:n<=5)(h:v∈wl n):Gd 1 28 (wdD v):=by
 refine⟨EV hn h,?_⟩;have hl:=(i7 h).1;simp only[wdD,shD,Bool.and_eq_true,decide_eq_true_eq,List.length_map];refine⟨by omega,(fK _).mpr fun x hx=>?_⟩
 obtain⟨i,_,rfl⟩:=List.mem_map.mp hx;rfl
theorem DZ{ds:List D}{r:Int}(h0:0<=r)(h1:r<ds.length):∃d∈ds,atI (ds.map AV.d) (-1-r)=some (.d d):=by
 obtain⟨j,rfl⟩:=Int.eq_ofNat_of_zero_le h0;have hj:ds.length-1-j<ds.length:=by omega
 refine⟨ds[ds.length-1-j],List.getElem_mem hj,?_⟩;unfold atI ixN;rw[if_neg (by omega),if_pos (by simp;omega)]
 have:((-1-(j:Int))+((ds.map AV.d).length:Nat)).toNat=ds.length-1-j:=by simp;omega
 show (ds.map AV.d)[((-1-(j:Int))+((ds.map AV.d).length:Nat)).toNat]?=_;rw[this,List.getElem?_map,List.getElem?_eq_getElem hj];rfl
theorem Dd{α:Type}{P:α->Prop}{f:α->Prop}{a:α}(h1:P a)(h2:∀a,P a->f a):f a:=h2 a h1
theorem BD:∀n∈List.range 6,List.replicate n (1:Int)∈wl n/\List.replicate n (0:Int)∈wl n:=by decide +kernel
noncomputable def sF:ASp:=fun xs Z Q=>∃(p:Addr)(n:Nat) (ws:List (List Int)),xs=[.r (.ref p),.d (.int n),.d (.tup (ws.map wdD))]/\cZ Z p/\1<=n/\n<=5/\ws.length<=32/\(∀w∈ws,w∈wl n)/\∀(d:D)(c:Pn),Gd 4 8000 d->Q (.d d) (Z.put p (bC c))
theorem tG(T:Txt K mg t):aO P w K mg base CX0 3 t.cc t.gc ["_law_pen_here","_law_places_here","_law_says_here"] (ca sF):=by
 have G_l_draw:aO P w K mg base _ _ _ _ _ _:=dn T;have G_l_all:aO P w K mg base _ _ _ _ _ _:=sw T;have G_l_exchanged:aO P w K mg base _ _ _ _ _ _:=BA T
 refine T.o8.okD bA (fun xs Z Q h=>by obtain⟨p,n,ws,rfl,_⟩:=h;rfl) (fun cdv A outer s H E hr=>⟨_,_,(ai (aD (i:=3) bA.nd rfl (Or.inr rfl) (aA vw (ao (af ah ae)) (pv 1)))
   (ai (aD (i:=4) bA.nd rfl (Or.inl rfl) (aA (ak aH (ak ay aN)) (aP (ab (pv 3) ae)) (dU (N:=(["_law_one","_law_word"] : List Str)) (src:=[none,some 3]) rfl (by show eW _ (defScope cB) _ _ (["_law_pen_here","_law_places_here","_law_says_here","_law_word","_law_some","_law_odd","_law_more"] : List Str) = true;decide +kernel) (by intro g' h;cases h) (d9 K rfl (pv 2)) (fun _ _ _ _ _ _=>(bg (i:=0) (show (["_law_one","_law_word"] : List Str).Nodup by decide +kernel) rfl (Or.inl rfl))) (fun _ _ _ _ _ _=>(pe (aX (kr hr.FU) (pv 0) (pv 1) (a8 _)))) (fun _ _ _ _ _ _=>(dY rfl rfl (pv 0))))))
   (ai (aD (i:=5) bA.nd rfl (Or.inl rfl) (aP (ab (aA (ak aH (ak ay aN)) (ao (af ah ae)) (bb (bH K rfl) (pv 3) (bp ah) bo)) (ab (aA (ak aH (ak ay aN)) (pv 3) (ao (af ah ae))) (ab (bb (bH K rfl) (pv 3) (bp ah) bo) (ab (aA (ak aH (ak ay aN)) (ao (af bE ae)) (bb (bH K rfl) (pv 3) (bp ah) bo)) (ab (aA (ak aH (ak ay aN)) (ao (af bE ae)) (bb (bH K rfl) (pv 3) (bp ah) bo)) (ab (bR (ci K rfl) (by rfl) T.j9 (by kernel_rfl) (ab (pv 3) ae)) ae))))))))
   (ai (aD (i:=5) bA.nd rfl (Or.inl rfl) (aA (ak aH (ak ay aN)) (pv 5) (aP (ab (aA (ak aH (ak ay aN)) (ao (ab (se mG ah) ae)) (bb (bH K rfl) (pv 3) (bp ah) bo)) (av (ao (ab (pv 3) ae)) (ab (aA (ak aH (ak ay aN)) (ao (af gT ae)) (bb (bH K rfl) (pv 3) (bp ah) bo)) (ab (aA (ak aH (ak ay aN)) (ao (af aL ae)) (bb (bH K rfl) (pv 3) (bp ah) bo)) (af gT (af ah (af aL ae))))))))))
   (ai (aD (i:=5) bA.nd rfl (Or.inl rfl) (aA (ak aH (ak ay aN)) (pv 5) (aP (ab (aA (ak aH (ak ay aN)) (ao (bL (aP (af ah ae)) ae)) (bb (bH K rfl) (pv 3) (bp ah) bo)) (ab (aA (ak aH (ak ay aN)) (ao (ab (d6) ae)) (bb (bH K rfl) (pv 3) (bp ah) bo)) (ab (aA (ak aH (ak ay aN)) (ao (bL (aP ae) ae)) (bb (bH K rfl) (pv 3) (bp ah) bo)) (ab (aA (ak aH (ak ay aN)) (ao (ab (pv 3) ae)) (bb (bH K rfl) (pv 3) (bp ah) bo)) (ab (d6) (bL (aP ae) ae)))))))))
   (ai (aD (i:=6) bA.nd rfl (Or.inl rfl) (aA (ak aH (ak ay aN)) (dU (N:=(["_law_one","_law_says_here"] : List Str)) (src:=[none,some 2]) rfl (by show eW _ (defScope cB) _ _ (["_law_pen_here","_law_places_here","_law_says_here","_law_word","_law_some","_law_odd","_law_more"] : List Str) = true;decide +kernel) (by intro g' h;cases h) (d9 K rfl (pv 5)) (fun _ _ _ _ _ _=>(bg (i:=0) (show (["_law_one","_law_says_here"] : List Str).Nodup by decide +kernel) rfl (Or.inl rfl))) (fun _ _ _ _ _ _=>ga) (fun _ _ _ _ _ _=>(dY rfl rfl (aA (ak aH (ak ay aN)) (pv 1) (ao (ab (pv 0) ae)))))) (dU (N:=(["_law_one","_law_says_here"] : List Str)) (src:=[none,some 2]) rfl (by show eW _ (defScope cB) _ _ (["_law_pen_here","_law_places_here","_law_says_here","_law_word","_law_some","_law_odd","_law_more"] : List Str) = true;decide +kernel) (by intro g' h;cases h) (d9 K rfl (pv 5)) (fun _ _ _ _ _ _=>(bg (i:=0) (show (["_law_one","_law_says_here"] : List Str).Nodup by decide +kernel) rfl (Or.inl rfl))) (fun _ _ _ _ _ _=>ga) (fun _ _ _ _ _ _=>(dY rfl rfl (aA (ak aH (ak ay aN)) (ao (ab (pv 0) ae)) (pv 1)))))))
   (ai (aD (i:=6) bA.nd rfl (Or.inl rfl) (aA (ak aH (ak ay aN)) (pv 6) (aP (ab (bR (ci K rfl) (by rfl) T.j9 (by kernel_rfl) (ab (pv 2) ae)) (ab (aA (ak aH (ak ay aN)) (pv 2) (ao (ab (pv 3) (ab (pv 3) ae)))) (ab (bR (cz K rfl) (by rfl) T.cO (by kernel_rfl) (ab (pv 4) ae)) (af gT (af aL (af ah (ab (pv 3) (ab (d6) (af bE ae))))))))))))
   (ai (aD (i:=6) bA.nd rfl (Or.inl rfl) (aA (ak aH (ak ay aN)) (pv 6) (aP (av (ao (ab (pv 3) (ab (aA vw (ao (af ah ae)) (pv 1)) ae))) (ab (am G_l_exchanged (hr.mono (by omega)) (by rfl) T.iA T.iG T.iH .nil aB (ab (pv 0) (ab (pv 2) ae))) (ab (am G_l_exchanged (hr.mono (by omega)) (by rfl) T.iA T.iG T.iH .nil aB (ab (pv 0) (ab (bR (cz K rfl) (by rfl) T.cO (by kernel_rfl) (ab (am G_l_all (hr.mono (by omega)) (by rfl) T.oX T.pY T.ph .nil aB (ab (pv 1) ae)) ae)) ae))) ae))))))
   (ai (bM (aX (cq hr.FU) (am G_l_draw (hr.mono (by omega)) (by rfl) T.a7 T.aZ T.a0 .nil aB (ab (pv 0) (af ah ae))) ah (a8 _)) (ap (aM (bd (aE K rfl) (pv 6) (aA kh (se mG ah) (am G_l_draw (hr.mono (by omega)) (by rfl) T.a7 T.aZ T.a0 .nil aB (ab (pv 0) (af ah ae)))) (fun _ _=>rfl)))) bc)
   (ap (aM (bd (aE K rfl) (pv 6) (am G_l_draw (hr.mono (by omega)) (by rfl) T.a7 T.aZ T.a0 .nil aB (ab (pv 0) (ab (aF (bS K rfl) (by rfl) T.ek (by kernel_rfl) (ab (pv 6) ae)) ae))) (fun _ _=>rfl))))))))))))),(ax (aR (au xy (aw (aa aj ag)) ac) aq)
   (ax (aR (au be (bq (aa ac ag)) (fy (gD ac) aq (bn (au cr ac ac)) (fu ac))) aq)
   (ax (aR (bq (aa (au be (aw (aa aj ag)) (eC ac (bI aj) bF)) (aa (au be ac (aw (aa aj ag))) (aa (eC ac (bI aj) bF) (aa (au be (aw (aa cJ ag)) (eC ac (bI aj) bF)) (aa (au be (aw (aa cJ ag)) (eC ac (bI aj) bF)) (aa (bQ mf (aa ac ag)) ag))))))) aq)
   (ax (aR (au be ac (bq (aa (au be (aw (aa (Du u_i aj) ag)) (eC ac (bI aj) bF)) (aa (aw (aa ac ag)) (aa (au be (aw (aa kA ag)) (eC ac (bI aj) bF)) (aa (au be (aw (aa aY ag)) (eC ac (bI aj) bF)) (aa kA (aa aj (aa aY ag))))))))) aq)
   (ax (aR (au be ac (bq (aa (au be (aw (aa (bq (aa aj ag)) ag)) (eC ac (bI aj) bF)) (aa (au be (aw (aa kH ag)) (eC ac (bI aj) bF)) (aa (au be (aw (aa (bq ag) ag)) (eC ac (bI aj) bF)) (aa (au be (aw (aa ac ag)) (eC ac (bI aj) bF)) (aa kH (aa (bq ag) ag)))))))) aq)
   (ax (aR (au be (fy (gD ac) aq ua (fu (au be ac (aw (aa ac ag))))) (fy (gD ac) aq ua (fu (au be (aw (aa ac ag)) ac)))) aq)
   (ax (aR (au be ac (bq (aa (bQ mf (aa ac ag)) (aa (au be ac (aw (aa ac (aa ac ag)))) (aa (bQ jw (aa ac ag)) (aa kA (aa aY (aa aj (aa ac (aa kH (aa cJ ag))))))))))) aq)
   (ax (aR (au be ac (bq (aa (aw (aa ac (aa (au xy (aw (aa aj ag)) ac) ag))) (aa (ar (aa ac (aa ac ag))) (aa (ar (aa ac (aa (bQ jw (aa (ar (aa ac ag)) ag)) ag))) ag))))) aq)
   (ax (dg (bn (au cr (ar (aa ac (aa aj ag))) aj)) (a9 (au bO ac (au nS (Du u_i aj) (ar (aa ac (aa aj ag)))))) bz)
   (a9 (au bO ac (ar (aa ac (aa (bQ gF (aa ac ag)) ag)))))))))))))),fun xs Z Q h=>?_⟩)
 obtain⟨p,n,ws,rfl,hp,hn1,hn,h32,hw,k⟩:=h;walk_at "s1"
 have rp:∀(b:Int)(m:Nat),(List.replicate m [D.int b]).flatten=(List.replicate m b).map D.int:=fun b m=>by
  induction m with
  |zero=>rfl
  |succ m ih=>rw[List.replicate_succ,List.flatten_cons,ih,List.replicate_succ,List.map_cons];rfl
 refine⟨fun e=>e,by omega,by omega,by omega,?_⟩
 simp only[Int.toNat_natCast,rp];obtain⟨o1,o0⟩:=BD n (List.mem_range.mpr (by omega))
 have ol:(List.replicate n (1:Int)).length=n:=by simp
 show nj _ _ _ [_,_,_,some (.d (wdD (List.replicate n 1))),none,none,none] _;generalize List.replicate n (1:Int)=one at *;have szn:∀ {m:Nat},m<=200->m<=sizeLine:=fun h=>Nat.le_of_lt (aT (by omega))
 walk_at "s1";refine Aj wdD (fun v=>!decide (v=one)) wdD (szn (by omega)) (fun v hv Q q=>?_) (fun v hv _ Q q=>?_) (fun ρ=>?_)
 ·walk_at "a1"
  exact q
 ·walk_at "a1"
  exact q
 refine⟨_,cw _,szn ?_,?_⟩
 ·have:=List.length_filter_le (fun v=>!decide (v=one)) ws
  simp;omega
 have hsl:(ws.filter fun v=>!decide (v=one)).length<=32:=Nat.le_trans (List.length_filter_le _ _) h32;have hsw:∀v∈ws.filter (fun v=>!decide (v=one)),v∈wl n:=fun v hv=>hw v (List.mem_filter.mp hv).1;generalize ws.filter (fun v=>!decide (v=one))=som at *;have hob:=(i7 o1).2
 have tl2:∀x∈fc (one.map D.int) (some 1) none,Gd 0 3 x/\dep x<=0:=fun x hx=>by
  obtain⟨z,hz,rfl⟩:=List.mem_map.mp ((qe _ _ _).mem hx);exact⟨⟨uq (hob z hz),rfl⟩,by simp[dep]⟩
 have tll:(fc (one.map D.int) (some 1) none).length<=5:=by
  have:=(qe (one.map D.int) (some 1) none).length_le;simp at this;omega
 have hol:one.length=n:=ol;simp only[wdD]
 have pre:∀ {d:D},Gd 1 33 d->Gd 2 213 (.tup (d::fc (one.map D.int) (some 1) none)):=fun h=>eN (m:=1) (B:=33) (L:=6) rfl (by simp;omega) (by simp;omega) fun x hx=>by
  rcases List.mem_cons.mp hx with rfl|hx
  ·exact h
  ·exact(tl2 x hx).1.up (by decide) (by decide)
 have gi:∀i:Int,-2<=i->i<=64->Gd 0 9 (.int i):=fun i h1 h2=>by
  rcases(by omega:i = -2\/i = -1\/0<=i) with rfl|rfl|h
  ·exact⟨⟨by decide,by decide,by decide⟩,rfl⟩
  ·exact⟨⟨by decide,by decide,by decide⟩,rfl⟩
  ·have:=uN h h2
   exact⟨⟨Nat.le_refl _,by simp only[fit,decide_eq_true_eq];omega,by simp only[wt];omega⟩,rfl⟩
 have gs:Gd 0 9 (.str (Str.ofString "1")):=⟨⟨by decide,by decide,by decide +kernel⟩,rfl⟩
 have gn:Gd 0 9 .non:=⟨⟨by decide,by decide,by decide⟩,rfl⟩
 have gb:∀b,Gd 0 9 (.bl b):=fun b=>⟨⟨Nat.le_refl _,rfl,by simp[wt]⟩,rfl⟩
 have gdk:Gd 1 9 (.dk []):=⟨⟨by decide,by decide,by decide⟩,rfl⟩
 have gl0:Gd 1 9 (.lst []):=⟨⟨by decide,by decide,by decide⟩,rfl⟩
 have go:Gd 1 28 (.tup (one.map D.int)):=me hn o1;walk_at "s1";refine⟨szn (by omega),szn (by omega),szn (by omega),szn (by omega),?_⟩
 walk_at "s1";refine⟨szn (by omega),szn (by omega),szn (by omega),szn (by omega),?_⟩
 walk_at "s1";refine⟨szn (by omega),szn (by omega),szn (by omega),szn (by omega),szn (by omega),?_⟩
 refine Dd (P:=fun od:List D=>od.length=19/\∀d∈od,Gd 2 213 d) (f:=fun od=>nj _ _ _ [_,_,_,_,_,some (.d (.lst od)),_] _) ⟨rfl,?_⟩ (fun od hod=>?_)
 ·have up0:∀ {d:D},Gd 0 9 d->Gd 1 33 d:=fun h=>h.up (by decide) (by decide)
  have bits1:∀d∈one.map D.int,Gd 0 9 d:=fun d hd=>by
   obtain⟨z,hz,rfl⟩:=List.mem_map.mp hd;exact⟨(uq (hob z hz)).up (by decide) (by decide),rfl⟩
  have l1:Gd 1 33 (.lst [.int 1]):=(eN (m:=0) (B:=9) (L:=1) rfl (by simp) (by simp) fun x hx=>by rw[List.mem_singleton.mp hx];exact gi 1 (by decide) (by decide)).up (by decide) (by decide)
  have tA : Gd 2 213 (.tup (one.map D.int ++ [.int 0])):=(eN (m:=0) (B:=9) (L:=6) rfl (by simp;omega) (by simp;omega) fun x hx=>by
   rcases List.mem_append.mp hx with hx|hx
   ·exact bits1 x hx
   ·rw[List.mem_singleton.mp hx];exact gi 0 (by decide) (by decide)).up (by decide) (by decide)
  have tB:Gd 2 213 (.tup (fc (one.map D.int) (some 1) none)):=(eN (m:=0) (B:=9) (L:=6) rfl (by omega) (by omega) fun x hx=>(tl2 x hx).1.up (by decide) (by decide)).up (by decide) (by decide)
  have tC:Gd 2 213 (.lst (one.map D.int)):=(eN (m:=0) (B:=9) (L:=6) rfl (by simp;omega) (by simp;omega) bits1).up (by decide) (by decide)
  have tD:Gd 2 213 (.tup [.tup (one.map D.int)]):=(eN (m:=1) (B:=28) (L:=1) rfl (by simp) (by simp) fun x hx=>by rw[List.mem_singleton.mp hx];exact go).up (by decide) (by decide)
  simp only[List.cons_append,List.nil_append,List.mem_cons,List.not_mem_nil,or_false,forall_eq_or_imp,forall_eq];exact⟨pre (up0 (gi 2 (by decide) (by decide))),tA,tB,pre (up0 (gb _)),pre (up0 (gb _)),tC,pre (up0 (gi (-1) (by decide) (by decide))),tD,pre (up0 gn),pre (up0 gs),gn.up (by decide) (by decide),(gi 1 (by decide) (by decide)).up (by decide) (by decide),gs.up (by decide) (by decide),pre l1,pre (gdk.up (by decide) (by decide)),pre (gl0.up (by decide) (by decide)),pre (go.up (by decide) (by decide)),gdk.up (by decide) (by decide),gl0.up (by decide) (by decide)⟩
 obtain⟨hol19,hod⟩:=hod
 have wsg:∀x∈ws.map wdD,Gd 2 213 x:=fun x hx=>by
  obtain⟨v,hv,rfl⟩:=List.mem_map.mp hx;exact(me hn (hw v hv)).up (by decide) (by decide)
 have row:∀ {ds:List D},ds.length<=34->(∀x∈ds,Gd 2 213 x)->Gd 4 8000 (.tup ds):=fun hl h=>(eN (m:=2) (B:=213) (L:=34) rfl hl (by omega) h).up (by decide) (by decide)
 clear pre tl2 tll;walk_at "s1"
 have fin1:∀(f:D->D) {te:AE} {bi:SA} {K':List AV->SA->Om->Prop},(∀d∈od,∀Q:AV->Om->Prop,Q (.d (f d)) Z->te (some (.d d)::bi) Z Q)->(∀ρ,K' ((od.map f).map AV.d) ρ Z)->du (gu 0) jd (jM te) (od.map AV.d) [] (none::bi) Z K':=fun f te bi K' h1 h2=>by
  refine ig (rs:=od.map f) (by simp) (szn (by simp;omega)) (fun j a r h3 h4 Q q=>?_) h2
  simp only[List.getElem?_map,Option.map_eq_some_iff] at h3 h4;obtain⟨y,hy,rfl⟩:=h3;obtain⟨y',hy',rfl⟩:=h4;rw[hy] at hy';cases hy';exact h1 y (List.mem_of_getElem? hy) Q q
 refine fin1 (fun d=>.tup (ws.map wdD++[d])) (fun d hd Q q=>?_) (fun ρ=>⟨_,cw _,?_⟩)
 ·walk_at "a1"
  exact⟨szn (by omega),q⟩
 refine fin1 (fun d=>.tup (d::ws.map wdD)) (fun d hd Q q=>?_) (fun ρ=>⟨_,cw _,szn (by simp;omega),?_⟩)
 ·walk_at "a1"
  exact⟨szn (by omega),q⟩
 have gA:∀d∈od.map (fun d=>D.tup (ws.map wdD++[d])),Gd 4 8000 d:=fun d hd=>by
  obtain⟨x,hx,rfl⟩:=List.mem_map.mp hd;refine row (by simp;omega) fun y hy=>?_
  rcases List.mem_append.mp hy with hy|hy
  ·exact wsg y hy
  ·rw[List.mem_singleton.mp hy];exact hod x hx
 have gB:∀d∈od.map (fun d=>D.tup (d::ws.map wdD)),Gd 4 8000 d:=fun d hd=>by
  obtain⟨x,hx,rfl⟩:=List.mem_map.mp hd;refine row (by simp;omega) fun y hy=>?_
  rcases List.mem_cons.mp hy with rfl|hy
  ·exact hod _ hx
  ·exact wsg y hy
 have lA:(od.map (fun d=>D.tup (ws.map wdD++[d]))).length=19:=by rw[List.length_map,hol19]
 have lB:(od.map (fun d=>D.tup (d::ws.map wdD))).length=19:=by rw[List.length_map,hol19]
 generalize od.map (fun d=>D.tup (ws.map wdD++[d]))=mA at *;generalize od.map (fun d=>D.tup (d::ws.map wdD))=mB at *;clear hod hol19;walk_at "s1";refine⟨szn (by omega),szn (by omega),?_⟩
 refine Dd (P:=fun mo:List D=>mo.length=47/\∀d∈mo,Gd 4 8000 d) (f:=fun mo=>nj _ _ _ [_,_,_,_,_,_,some (.d (.lst mo))] _) ⟨by simp;omega,fun d hd=>?_⟩ (fun mo hmo=>?_)
 ·have wsL:Gd 4 8000 (.lst (ws.map wdD)):=(eN (m:=2) (B:=213) (L:=34) rfl (by simp;omega) (by simp;omega) wsg).up (by decide) (by decide)
  have go2:Gd 2 213 (.tup (one.map D.int)):=go.up (by decide) (by decide)
  have somg:∀x∈som.map wdD,Gd 2 213 x:=fun x hx=>by
   obtain⟨v,hv,rfl⟩:=List.mem_map.mp hx;exact(me hn (hsw v hv)).up (by decide) (by decide)
  have g1:Gd 4 8000 (.tup (ws.map wdD++[D.tup (one.map D.int),D.tup (one.map D.int)])):=row (by simp;omega) fun x hx=>by
   rcases List.mem_append.mp hx with hx|hx
   ·exact wsg x hx
   ·simp only[List.mem_cons,List.not_mem_nil,or_false,or_self] at hx
    rw[hx];exact go2
  have g2:Gd 4 8000 (.tup (D.tup (one.map D.int)::som.map wdD)):=row (by simp;omega) fun x hx=>by
   rcases List.mem_cons.mp hx with rfl|hx
   ·exact go2
   ·exact somg x hx
  rcases List.mem_append.mp hd with hd|hd
  ·rcases List.mem_append.mp hd with hd|hd
   ·exact gA d hd
   ·exact gB d hd
  ·simp only[List.mem_cons,List.not_mem_nil,or_false] at hd
   rcases hd with rfl|rfl|rfl|rfl|rfl|rfl|rfl|rfl|rfl
   ·exact wsL
   ·exact g1
   ·exact g2
   ·exact gn.up (by decide) (by decide)
   ·exact⟨⟨by decide,by decide,by decide +kernel⟩,rfl⟩
   ·exact(gi 0 (by decide) (by decide)).up (by decide) (by decide)
   ·exact go.up (by decide) (by decide)
   ·exact gdk.up (by decide) (by decide)
   ·exact(gb _).up (by decide) (by decide)
 obtain⟨hml,hmo⟩:=hmo;clear gA gB lA lB;walk_at "s1";refine⟨fun e=>e,by omega,by omega,by omega,p,ws,rfl,hp,by omega,fun us c1 hu1 hu2=>?_⟩
 have hwl:=kE hn;refine⟨n,rfl,hn,_,.inl rfl,p,wl n,rfl,az,by omega,fun vs c2 hv1 hv2=>?_⟩
 rw[Om.FT];refine⟨_,rfl,szn (by simp;omega),?_⟩
 refine Dd (P:=fun m2:List D=>m2.length=50/\∀d∈m2,Gd 4 8000 d) (f:=fun m2=>nj _ _ _ [_,_,_,_,_,_,some (.d (.lst m2))] _) ⟨by simp;omega,fun d hd=>?_⟩ (fun m2 hm2=>?_)
 ·have wg:∀ {us:List (List Int)},us.length<=34->(∀u∈us,u∈wl n)->Gd 4 8000 (.tup (us.map wdD)):=fun hl h=>row (by simpa using hl) fun x hx=>by
   obtain⟨v,hv,rfl⟩:=List.mem_map.mp hx;exact(me hn (h v hv)).up (by decide) (by decide)
  rcases List.mem_append.mp hd with hd|hd
  ·exact hmo d hd
  ·simp only[rp,List.mem_cons,List.not_mem_nil,or_false] at hd
   rcases hd with rfl|rfl|rfl
   ·exact wg (us:=[one,List.replicate n 0]) (by simp) (by simp only[List.mem_cons,List.not_mem_nil,or_false,forall_eq_or_imp,forall_eq];exact⟨o1,o0⟩)
   ·exact wg (by omega) fun u hu=>hw u (hu2 u hu)
   ·exact wg (by omega) hv2
 obtain⟨hml2,hm2⟩:=hm2;clear hmo hml;walk_at "s1";refine⟨p,4,rfl,az,by decide,by decide,fun r c3 r0 r1=>?_⟩
 rw[Om.FT];refine⟨_,rfl,by simp[dep],?_⟩
 rw[jI];refine i9 (fun _=>?_) (fun _=>?_)
 ·refine⟨p,2,rfl,az,by decide,by decide,fun r c4 r0 r1=>⟨r,rfl,?_⟩⟩
  obtain⟨d,hd,e⟩:=DZ (ds:=m2) (r:=r) r0 (by omega)
  refine⟨_,e,d,rfl,?_⟩;rw[Om.FT,bD hp];exact k d c4 (hm2 d hd)
 ·refine⟨p,m2.length,rfl,az,by omega,by omega,fun r c4 r0 r1=>⟨r,rfl,?_⟩⟩
  obtain⟨d,hd,e⟩:=uZ (ds:=m2) (r:=r) r0 (by omega)
  refine⟨_,e,d,rfl,?_⟩;rw[Om.FT,bD hp];exact k d c4 (hm2 d hd)
structure Pt(m:Nat)(d:D):Prop where
 z:(pyD d).depth<=m
 f:fit d=true
 s:shD d=true
theorem Pt.up{m m':Nat}{d:D}(h:Pt m d)(hm:m<=m'):Pt m' d:=⟨Nat.le_trans h.z hm,h.f,h.s⟩
theorem Gd.pt{m B:Nat}{d:D}(h:Gd m B d):Pt m d:=⟨h.1.1,h.1.2.1,h.2⟩
theorem t7{m:Nat}:∀ {ds:List D},(∀d∈ds,Pt m d)->PyData.depthAll (ei ds)<=m/\fits ds=true
 | [],_=>by simp[ei,PyData.depthAll,fits]
 |d::ds,h=>by
  have h1:=h d (List.mem_cons_self ..);have h2:=t7 fun x hx=>h x (List.mem_cons_of_mem _ hx);simp only[ei,PyData.depthAll,fits,h1.f,h2.2,Bool.and_true];have:=h1.z;exact⟨by omega,trivial⟩
theorem jS{m:Nat}{ds:List D}(hl:ds.length<=60)(h:∀d∈ds,Pt m d):Pt (m+1) (.tup ds):=by
 obtain⟨h1,h2⟩:=t7 h;refine⟨by simp only[pyD,PyData.depth];omega,h2,?_⟩
 simp only[shD,Bool.and_eq_true,decide_eq_true_eq];exact⟨hl,(fK ds).mpr fun d hd=>(h d hd).s⟩
theorem xj{m:Nat}{ds:List D}(h:∀d∈ds,Pt m d):Pt (m+1) (.lst ds):=by
 obtain⟨h1,h2⟩:=t7 h;refine⟨by simp only[pyD,PyData.depth];omega,h2,?_⟩
 simp only[shD];exact(fK ds).mpr fun d hd=>(h d hd).s
mutual
theorem mz:∀d:D,szD d<=wt d+1
 |.tup ds=>by have:=pX ds;simp only[szD,wt];omega
 |.lst ds=>by have:=pX ds;simp only[szD,wt];omega
 |.non=>by simp[szD]
 |.bl _=>by simp[szD]
 |.int _=>by simp[szD]
 |.str _=>by simp[szD]
 |.dk _=>by simp[szD]
 |.dt _=>by simp[szD]
theorem pX:∀ds:List D,eY ds<=wts ds
 | []=>by simp[eY]
 |d::ds=>by have h1:=mz d;have h2:=pX ds;simp only[eY,wts];omega
end
theorem g5{n:Nat}(hn:n<=5):∀ {u:Ta},sbT n u->Pt (u.dp+2) u.d/\wt u.d+979<=1000*u.lvs
 |.en i,⟨h0,h1⟩=>by
  have hl:=uN h0 (by omega)
  have hr:(reprText (Str.ofString "end")).length=5:=by decide +kernel
  refine⟨⟨by simp[Ta.d,pyD,ei,PyData.depth,PyData.depthAll],by simp only[Ta.d,fit,fits,Bool.and_true,Bool.true_and,decide_eq_true_eq];omega,rfl⟩,?_⟩
  simp only[Ta.d,wt,wts,hr,Ta.lvs];omega
 |.nd y ws a b,⟨hw,ha,hb⟩=>by
  obtain⟨pa,wa⟩:=g5 hn ha;obtain⟨pb,wb⟩:=g5 hn hb;have hl:=Nat.le_trans hw.length_le (kE hn)
  have gw:Gd 2 963 (.tup (ws.map wdD)):=eN (m:=1) (B:=28) (L:=32) rfl (by simpa using hl) (by simp;omega) fun x hx=>by
   obtain⟨v,hv,rfl⟩:=List.mem_map.mp hx;exact me hn (hw.mem hv)
  have hr:(reprText (if y then "yes" else "no":Str)).length<=5:=by cases y<;>decide +kernel
  have gy:Pt 0 (.str (if y then "yes" else "no")):=⟨by simp[pyD,PyData.depth],rfl,rfl⟩
  refine⟨?_,?_⟩
  ·show Pt _ (.tup [.str (if y then "yes" else "no"),.tup (ws.map wdD),a.d,b.d])
   refine(jS (m:=max a.dp b.dp+2) (by simp) ?_).up (by simp only[Ta.dp];omega)
   simp only[List.mem_cons,List.not_mem_nil,or_false,forall_eq_or_imp,forall_eq];exact⟨gy.up (by omega),gw.pt.up (by omega),pa.up (by omega),pb.up (by omega)⟩
  ·have:=gw.1.2.2
   simp only[Ta.d,wt,wts,Ta.lvs] at this ⊢;omega
local macro_rules | `(tactic| walk_at "l1")=>`(tactic| simp only[jg,jk,lp,vJ,lH,ll,lD,lq,o7,uU,und,Option.map_some,Option.map_none,List.getElem?_cons_zero,List.getElem?_cons_succ,Option.some.injEq,exists_eq_left',dz,List.set_cons_zero,List.set_cons_succ,List.length_cons,List.length_nil,AV.d.injEq,D.int.injEq,Nat.reduceAdd,exists_eq',sz1,sz2,sz3,sz4,sz5,sz6,sz7,sz8,sz9,By,true_and,Nat.zero_le])
local macro_rules | `(tactic| walk_at "l2")=>`(tactic| simp only[jg,jk,lp,vJ,lH,ll,lD,lq,o7,uU,und,Option.map_some,Option.map_none,List.getElem?_cons_zero,List.getElem?_cons_succ,Option.some.injEq,exists_eq_left',dz,List.set_cons_zero,List.set_cons_succ,List.length_cons,List.length_nil,AV.d.injEq,D.int.injEq,Nat.reduceAdd,exists_eq',sz1,sz2,sz3,sz4,sz5,sz6,sz7,sz8,sz9,By,true_and,Nat.zero_le,sR,jR,kj,ji,tp,fS,zy,ug,ja,mU,jV,mR,List.map_cons,List.map_nil,List.cons_append,List.nil_append,D.tup.injEq,List.cons.injEq,and_true,List.reverse_cons,List.reverse_nil,tf,D.lst.injEq,reduceCtorEq,or_false,false_or,exists_eq_right',exists_and_left,and_assoc])
noncomputable def pw(d:D):Bool:=decide ((pyD d).depth<=4) && fit d && shD d && decide (wt d<=9000)
theorem BH{d:D}(h:pw d=true):Pt 4 d/\wt d<=9000:=by
 simp only[pw,Bool.and_eq_true,decide_eq_true_eq] at h;exact⟨⟨h.1.1.1,h.1.1.2,h.1.2⟩,h.2⟩
noncomputable def enS:D:=.str (Str.ofString "end")
noncomputable def k1(n:Nat):List D:=[.non,.int 0,enS,.str (Str.ofString "yes"),.lst [],.dk [],.tup [],.tup [enS],.tup [enS,.int 0,.int 0],.lst [enS,.int 0],.tup [enS,.int n],.tup [enS,.int (-1)]]
noncomputable def k2:List D:=[.tup [enS,.bl true],.tup [enS,.bl false],.tup [enS,.non],.tup [enS,.str (Str.ofString "0")],.tup [enS,.tup [.int 0]],.tup [.str (Str.ofString "yes"),.int 0]]
noncomputable def k3:List D:=[.tup [.str (Str.ofString "End"),.int 0],.tup [.non,.int 0],.tup [enS,.int 0,.tup [enS,.int 0],.tup [enS,.int 0]],.tup [.str (Str.ofString "is"),.int 0,.int 1],.bl true]
noncomputable def k4:List D:=[.tup [enS,.lst []],.tup [enS,.dk []],.tup [enS,.lst [.int 0]],.tup [.lst [],.int 0],.tup [.dk [],.int 0],.tup [.lst [enS],.int 0],.tup [.tup [enS],.int 0]]
theorem D1:∀n∈List.range 6,(k1 n).all pw=true:=by decide +kernel
theorem De:k2.all pw=true/\k3.all pw=true/\k4.all pw=true/\pw (.tup [enS,.tup [enS,.int 0]])=true:=by decide +kernel
theorem eJ{te:AE}{R:AS}{D':cu}{ρ:SA}{Z1:Om}{i:Nat}{a:Addr}{ks es:List D}(hte:∀Q:AV->Om->Prop,Q (.d (.lst es)) Z1->te ρ Z1 Q)(h4:ρ[i]?=some (some (.r (.ref a))))(ha:Z1 a=some (.own (ks.map AV.d)))(hz:ks.length+es.length<=200)(k:∀(l:Addr)(Z2:Om),Z1 l=none->(∀w0,Ex w0 Z1->Ex w0 Z2)->Z2 l=some (.own ((ks++es).map AV.d))->R D' (ρ.set i (some (.r (.ref l)))) Z2):nj (AD (aOp yx (qy i) te) (gu i)) R D' ρ Z1:=by
 refine⟨_,h4,hte _ ?_⟩;refine⟨ks.map AV.d,es.map AV.d,by rw[lR,ha],rfl,Nat.le_of_lt (aT (by simp;omega)),fun l hl=>?_⟩
 exact k l _ hl (fun w0 h=>h.new hl) (by rw[Om.FR,List.map_append])
theorem Bm{te:AE}{D':cu}{ρ:SA}{Z1:Om}{i:Nat}{a:Addr}{ks es:List D}(hte:∀Q:AV->Om->Prop,Q (.d (.lst es)) Z1->te ρ Z1 Q)(h4:ρ[i]?=some (some (.r (.ref a))))(ha:Z1 a=some (.own (ks.map AV.d)))(hz:ks.length+es.length<=200)(k:∀(l:Addr)(Z2:Om),Z1 l=none->(∀w0,Ex w0 Z1->Ex w0 Z2)->Z2 l=some (.own ((ks++es).map AV.d))->D'.nx (ρ.set i (some (.r (.ref l)))) Z2):AD (aOp yx (qy i) te) (gu i) D' ρ Z1:=
 eJ (R:=fun D ρ Z=>D.nx ρ Z) hte h4 ha hz k
noncomputable def vg:ASp:=fun xs Z Q=>∃(p:Addr)(n:Nat)(u:Ta),xs=[.r (.ref p),.d (.int n),.d u.d]/\cZ Z p/\1<=n/\n<=5/\sbT n u/\∀(d:D)(c:Pn),Pt (u.dp+5) d->wt d<=2*wt u.d+9000->Q (.d d) (Z.put p (bC c))
theorem Ae(T:Txt K mg t):aO P w K mg base CX0 2 t.b7 t.gr ["_law_pen_here","_law_places_here","_law_talk"] (ca vg):=by
 have G_l_draw:aO P w K mg base _ _ _ _ _ _:=dn T
 refine T.o5.okD aW (fun xs Z Q h=>by obtain⟨p,n,u,rfl,_⟩:=h;rfl) (fun cdv A outer s H E hr=>⟨_,_,(ai (aD (i:=3) aW.nd rfl (Or.inl rfl) (ao (af aL (af ah ae))))
   (ai (aD (i:=4) aW.nd rfl (Or.inl rfl) (aP (af gT (af ah (af aL (af aL (bL (aP ae) (ab (d6) (av (ao ae) (av (ao (af aL ae)) (av (ao (af aL (af ah (af ah ae)))) (bL (aP (af aL (af ah ae))) (av (ao (af aL (ab (pv 1) ae))) (av (ao (af aL (ab (se mG ah) ae))) ae))))))))))))))
   (ai (aD (i:=4) aW.nd rfl (Or.inl rfl) (aA (ak aH (ak ay aN)) (pv 4) (aP (av (ao (af aL (af bE ae))) (av (ao (af aL (af bE ae))) (av (ao (af aL (af gT ae))) (av (ao (af aL (af aL ae))) (av (ao (af aL (av (ao (af ah ae)) ae))) (av (ao (af aL (af ah ae))) ae)))))))))
   (ai (aD (i:=4) aW.nd rfl (Or.inl rfl) (aA (ak aH (ak ay aN)) (pv 4) (aP (av (ao (af aL (af ah ae))) (av (ao (af gT (af ah ae))) (av (ao (af aL (af ah (ab (pv 3) (ab (pv 3) ae))))) (av (ao (af aL (af ah (af ah ae)))) (af bE (av (ao (ab (pv 2) ae)) (ab (bR (ci K rfl) (by rfl) T.j9 (by kernel_rfl) (ab (pv 2) ae)) ae))))))))))
   (ai (aD (i:=4) aW.nd rfl (Or.inl rfl) (aA (ak aH (ak ay aN)) (pv 4) (aP (av (ao (af aL (bL (aP ae) ae))) (av (ao (af aL (ab (d6) ae))) (av (ao (af aL (bL (aP (af ah ae)) ae))) (av (ao (bL (aP ae) (af ah ae))) (av (ao (ab (d6) (af ah ae))) (av (ao (bL (aP (af aL ae)) (af ah ae))) (av (ao (av (ao (af aL ae)) (af ah ae))) ae))))))))))
   (ai (ic (oa PySem.F.plainAttrs_list PySem.F.slot_list_append PySem.F.type_list_append fP (pv 4) (av (ao (af aL (ab (pv 3) ae))) ae)))
   (ai (bM (aX (kr hr.FU) (bd (aE K rfl) (pv 2) ah (fun _ _=>rfl)) aL (a8 _)) (ai (mF (pv 2) (lE K rfl (n:=4) rfl (cg (bg (i:=5) aW.nd rfl (Or.inl rfl)) (cg (bg (i:=6) aW.nd rfl (Or.inl rfl)) (cg (bg (i:=7) aW.nd rfl (Or.inl rfl)) (cg (bg (i:=8) aW.nd rfl (Or.inl rfl)) lC))))))
   (ai (aD (i:=4) aW.nd rfl (Or.inl rfl) (aP (ab (bR (ci K rfl) (by rfl) T.j9 (by kernel_rfl) (ab (pv 2) ae)) (ab (bb (bH K rfl) (pv 2) bo (bp ah)) (ab (aA (ak aH (ak ay aN)) (pv 2) (ao (ab (pv 8) ae))) (ab (aA (ak aH (ak ay aN)) (ao (af aL ae)) (bb (bH K rfl) (pv 2) (bp ah) bo)) (ab (aA (ak aH (ak ay aN)) (ao (af aL ae)) (bb (bH K rfl) (pv 2) (bp ah) bo)) (ab (As K rfl (pv 2) (se mG ah)) ae))))))))
   (ai (aD (i:=4) aW.nd rfl (Or.inl rfl) (aA (ak aH (ak ay aN)) (pv 4) (aP (ab (aA (ak aH (ak ay aN)) (ao (af gT ae)) (bb (bH K rfl) (pv 2) (bp ah) bo)) (av (ao (ab (pv 5) (ab (pv 6) (ab (pv 7) (af gT ae))))) (av (ao (ab (pv 5) (ab (pv 6) (bL (aP (ab (pv 7) ae)) (ab (pv 8) ae))))) ae))))))
   (ai (aD (i:=4) aW.nd rfl (Or.inl rfl) (aA (ak aH (ak ay aN)) (pv 4) (aP (av (ao (ab (pv 5) (ab (pv 7) (ab (pv 8) ae)))) (av (ao (ab (pv 5) (ab (pv 7) (ab (pv 6) (ab (pv 8) ae))))) (ab (aA (ak aH (ak ay aN)) (ao (av (ao (af aL ae)) ae)) (bb (bH K rfl) (pv 2) (bp ah) bo)) ae))))))
   (ai (aD (i:=4) aW.nd rfl (Or.inl rfl) (aA (ak aH (ak ay aN)) (pv 4) (aP (ab (aA (ak aH (ak ay aN)) (ao (af aL ae)) (bb (bH K rfl) (pv 2) (bp ah) bo)) (av (ao (ab (pv 6) (ab (pv 5) (ab (pv 7) (ab (pv 8) ae))))) (ab (aA (ak aH (ak ay aN)) (ao (bL (aP ae) ae)) (bb (bH K rfl) (pv 2) (bp ah) bo)) (ab (aA (ak aH (ak ay aN)) (ao (ab (d6) ae)) (bb (bH K rfl) (pv 2) (bp ah) bo)) ae)))))))
   (ap (aD (i:=4) aW.nd rfl (Or.inl rfl) (aA (ak aH (ak ay aN)) (pv 4) (aP (ab (aA (ak aH (ak ay aN)) (ao (bL (aP (ab (pv 5) ae)) ae)) (bb (bH K rfl) (pv 2) (bp ah) bo)) (ab (aA (ak aH (ak ay aN)) (ao (af bE ae)) (bb (bH K rfl) (pv 2) (bp ah) bo)) (av (ao (ab (pv 5) (ab (pv 6) (ab (d6) (ab (pv 8) ae))))) (av (ao (ab (pv 5) (ab (pv 6) (ab (pv 7) (bL (aP ae) ae))))) ae))))))))))))) bc)
   (ap (aM (bd (aE K rfl) (pv 4) (am G_l_draw (hr.mono (by omega)) (by rfl) T.a7 T.aZ T.a0 .nil aB (ab (pv 0) (ab (aF (bS K rfl) (by rfl) T.ek (by kernel_rfl) (ab (pv 4) ae)) ae))) (fun _ _=>rfl))))))))))),(ax (aR (aw (aa aY (aa aj ag))) aq)
   (ax (aR (kg (aa kA (aa aj (aa aY (aa aY (aa (bq ag) (aa kH (aa (aw ag) (aa (aw (aa aY ag)) (aa (aw (aa aY (aa aj (aa aj ag)))) (aa (bq (aa aY (aa aj ag))) (aa (aw (aa aY (aa ac ag))) (aa (aw (aa aY (aa (Du u_i aj) ag))) ag))))))))))))) aq)
   (ax (aR (au iN ac (bq (aa (aw (aa aY (aa cJ ag))) (aa (aw (aa aY (aa cJ ag))) (aa (aw (aa aY (aa kA ag))) (aa (aw (aa aY (aa aY ag))) (aa (aw (aa aY (aa (aw (aa aj ag)) ag))) (aa (aw (aa aY (aa aj ag))) ag)))))))) aq)
   (ax (aR (au iN ac (bq (aa (aw (aa aY (aa aj ag))) (aa (aw (aa kA (aa aj ag))) (aa (aw (aa aY (aa aj (aa ac (aa ac ag))))) (aa (aw (aa aY (aa aj (aa aj ag)))) (aa cJ (aa (aw (aa ac ag)) (aa (bQ mf (aa ac ag)) ag))))))))) aq)
   (ax (aR (au iN ac (bq (aa (aw (aa aY (aa (bq ag) ag))) (aa (aw (aa aY (aa kH ag))) (aa (aw (aa aY (aa (bq (aa aj ag)) ag))) (aa (aw (aa (bq ag) (aa aj ag))) (aa (aw (aa kH (aa aj ag))) (aa (aw (aa (bq (aa aY ag)) (aa aj ag))) (aa (aw (aa (aw (aa aY ag)) (aa aj ag))) ag))))))))) aq)
   (ax (ka (jx ac (aa (aw (aa aY (aa ac ag))) ag)))
   (ax (dg (bn (au cr (au bO ac aj) aY)) (ax (aR ac (vF (ef aq (ef aq (ef aq (ef aq vz))))))
   (ax (aR (kg (aa (bQ mf (aa ac ag)) (aa (eC ac bF (bI aj)) (aa (au be ac (aw (aa ac ag))) (aa (au be (aw (aa aY ag)) (eC ac (bI aj) bF)) (aa (au be (aw (aa aY ag)) (eC ac (bI aj) bF)) (aa (C6 ac) ag))))))) aq)
   (ax (aR (au iN ac (bq (aa (au be (aw (aa kA ag)) (eC ac (bI aj) bF)) (aa (aw (aa ac (aa ac (aa ac (aa kA ag))))) (aa (aw (aa ac (aa ac (aa (bq (aa ac ag)) (aa ac ag))))) ag))))) aq)
   (ax (aR (au iN ac (bq (aa (aw (aa ac (aa ac (aa ac ag)))) (aa (aw (aa ac (aa ac (aa ac (aa ac ag))))) (aa (au be (aw (aa (aw (aa aY ag)) ag)) (eC ac (bI aj) bF)) ag))))) aq)
   (ax (aR (au iN ac (bq (aa (au be (aw (aa aY ag)) (eC ac (bI aj) bF)) (aa (aw (aa ac (aa ac (aa ac (aa ac ag))))) (aa (au be (aw (aa (bq ag) ag)) (eC ac (bI aj) bF)) (aa (au be (aw (aa kH ag)) (eC ac (bI aj) bF)) ag)))))) aq)
   (aR (au iN ac (bq (aa (au be (aw (aa (bq (aa ac ag)) ag)) (eC ac (bI aj) bF)) (aa (au be (aw (aa cJ ag)) (eC ac (bI aj) bF)) (aa (aw (aa ac (aa ac (aa kH (aa ac ag))))) (aa (aw (aa ac (aa ac (aa ac (aa (bq ag) ag))))) ag)))))) aq)))))) bz)
   (a9 (au bO ac (ar (aa ac (aa (bQ gF (aa ac ag)) ag)))))))))))),fun xs Z Q h=>?_⟩)
 obtain⟨p,n,u,rfl,hp,hn1,hn,hu,k⟩:=h;walk_at "s1";have hlen:∀ {ks:List D},ks.length<=100->True:=fun _=>trivial;obtain⟨c0,e0⟩:=hp;have hps:(Z p).isSome=true:=by rw[e0];rfl
 obtain⟨pu,wu⟩:=g5 hn hu;obtain⟨Good,hG⟩:∃Good:D->Prop,∀d,Good d↔(Pt (u.dp+5) d/\wt d<=2*wt u.d+9000):=⟨_,fun _=>Iff.rfl⟩
 have gpw:∀ {ks:List D},ks.all pw=true->∀d∈ks,Good d:=fun h d hd=>by
  obtain⟨h1,h2⟩:=BH (List.all_eq_true.mp h d hd);exact(hG _).mpr ⟨h1.up (by omega),by omega⟩
 obtain⟨q2,q3,q4,q5⟩:=De;have q1:=D1 n (List.mem_range.mpr (by omega))
 have ex0:Ex (Z.put p (bC c0)) Z:=by rw[Om.FZ e0];exact Ex.refl _
 rw[fh,jN];walk_at "l1";intro l1 hl1;have ex1:=ex0.new (c:=.own ((k1 n).map AV.d)) hl1;have h1:(Z.put l1 (.own ((k1 n).map AV.d))) l1=some (.own ((k1 n).map AV.d)):=Om.FR;change nj _ _ _ _ (Z.put l1 (.own ((k1 n).map AV.d)));generalize Z.put l1 (.own ((k1 n).map AV.d))=Z1 at *;refine eJ (es:=k2) (fun Q q=>?_) rfl h1 (by simp[k1,k2]) (fun l2 Z2 _ e2 h2=>?_)
 ·walk_at "l1"
  exact q
 have ex2:=e2 _ ex1;simp only[List.set_cons_zero,List.set_cons_succ];obtain⟨us,hus⟩:∃us,u.d=.tup us:=by cases u<;>exact⟨_,rfl⟩
 refine eJ (es:=k3++[.tup [u.d],.lst us]) (fun Q q=>?_) rfl h2 (by simp[k1,k2,k3]) (fun l3 Z3 _ e3 h3=>?_)
 ·walk_at "l1"
  exact⟨_,rfl,_,us,rfl,.inr (by rw[hus]),_,rfl,q⟩
 have ex3:=e3 _ ex2;simp only[List.set_cons_zero,List.set_cons_succ];refine eJ (es:=k4) (fun Q q=>?_) rfl h3 (by simp[k1,k2,k3,k4]) (fun l4 Z4 n4 e4 h4=>?_)
 ·walk_at "l1"
  exact q
 have ex4:=e4 _ ex3;simp only[List.set_cons_zero,List.set_cons_succ];have hl4:=ex3.none n4;rw[fh,m5,iZ];walk_at "l1";refine⟨_,rfl,⟨_,h4⟩,_,_,rfl,h4,aT (by simp[k1,k2,k3,k4]),?_⟩
 have ex5:=ex4.over (l:=l4) (c:=.own (List.map AV.d (((k1 n++k2)++(k3++[.tup [u.d],.lst us]))++k4)++[AV.d (D.tup [D.str (Str.ofString "end"),D.tup [D.str (Str.ofString "end"),D.int 0]])])) hl4
 have gU:∀d∈[D.tup [u.d],D.lst us],Good d:=by
  have hw:wt u.d=wts us+3:=by rw[hus];rfl
  have pt2:=hus ▸ pu;simp only[List.mem_cons,List.not_mem_nil,or_false,forall_eq_or_imp,forall_eq,hG];refine⟨⟨(jS (m:=u.dp+2) (by simp) fun d hd=>by rw[List.mem_singleton.mp hd];exact pu).up (by omega),by simp only[wt,wts];omega⟩,⟨⟨?_,pt2.f,?_⟩,by simp only[wt];omega⟩⟩
  ·have:=pt2.z
   simp only[pyD,PyData.depth] at this ⊢;omega
  ·have:=pt2.s
   simp only[shD,Bool.and_eq_true] at this ⊢;exact this.2
 have gAll:∀d∈((k1 n++k2)++(k3++[.tup [u.d],.lst us]))++k4++[D.tup [D.str (Str.ofString "end"),D.tup [D.str (Str.ofString "end"),D.int 0]]],Good d:=fun d hd=>by
  simp only[List.mem_append] at hd;rcases hd with(((hd|hd)|(hd|hd))|hd)|hd
  ·exact gpw q1 d hd
  ·exact gpw q2 d hd
  ·exact gpw q3 d hd
  ·exact gU d hd
  ·exact gpw q4 d hd
  ·exact gpw (ks:=[D.tup [enS,D.tup [enS,D.int 0]]]) (by rw[List.all_cons,q5];rfl) d hd
 refine uC (fun ρ' Z'=>∃(l:Addr)(ks:List D)(v5 v6 v7 v8:Option AV),ks.length<=60/\1<=ks.length/\(∀d∈ks,Good d)/\Ex (Z.put p (bC c0)) Z'/\(Z.put p (bC c0)) l=none/\Z' l=some (.own (ks.map AV.d))/\ρ'=[some (AV.r (V.ref p)),some (AV.d (D.int n)),some (AV.d u.d),some (AV.d (D.tup [D.str (Str.ofString "end"),D.int 0])),some (AV.r (V.ref l)),v5,v6,v7,v8]) (fun M kM=>?_) ?_
 ·rw[pR,lW]
  cases u with
  |en i=>
   refine⟨_,rfl,_,_,_,.inr rfl,rfl,cY 0 rfl rfl,?_⟩;refine⟨_,_,rfl,rfl,by simp[dep],_,rfl,?_⟩
   rw[if_neg (by simp[gh])]
   exact kM _ _ ⟨l4,_,none,none,none,none,by simp[k1,k2,k3,k4],by simp[k1,k2,k3,k4],gAll,ex5,hl4,by rw[Om.FR,List.map_append];rfl,rfl⟩
  |nd y ws a b=>
   refine⟨_,rfl,_,_,_,.inr rfl,rfl,cY 0 rfl rfl,?_⟩;refine⟨_,_,rfl,rfl,by simp[dep],_,rfl,?_⟩
   rw[if_pos (by cases y<;>simp[gh]<;>decide)]
   have eT:(Ta.nd y ws a b).d=D.tup [.str (if y then Str.ofString "yes" else Str.ofString "no"),.tup (ws.map wdD),a.d,b.d]:=rfl
   have hl:=Nat.le_trans hu.1.length_le (kE hn);have gS:Pt 0 (.str (if y then Str.ofString "yes" else Str.ofString "no")):=⟨by simp[pyD,PyData.depth],rfl,rfl⟩
   have gW : Pt 2 (.tup (ws.map wdD)):=(eN (m:=1) (B:=28) (L:=32) rfl (by simpa using hl) (by simp;omega) fun x hx=>by
    obtain⟨v,hv,rfl⟩:=List.mem_map.mp hx
    exact me hn (hu.1.mem hv)).pt
   obtain⟨gA,-⟩:=g5 hn hu.2.1;obtain⟨gB,-⟩:=g5 hn hu.2.2;have gA':=gA.up (m':=(Ta.nd y ws a b).dp+2) (by simp only[Ta.dp];omega)
   have gB':=gB.up (m':=(Ta.nd y ws a b).dp+2) (by simp only[Ta.dp];omega)
   clear gAll gU gA gB wu pu q1 q2 q3 q4 q5;generalize (Ta.nd y ws a b).dp=dp at *;generalize (Ta.nd y ws a b).d=ud at *;subst eT;generalize (Z4.put l4 _)=Z5 at *;generalize D.str (if y then Str.ofString "yes" else Str.ofString "no")=S at *
   generalize D.tup (ws.map wdD)=W at *;generalize a.d=A at *;generalize b.d=B at *;have gA0:=gA'.up (m':=dp+3) (by omega)
   have gB0:=gB'.up (m':=dp+3) (by omega)
   have gS0:=gS.up (m':=dp+3) (by omega)
   have gW0:=gW.up (m':=dp+3) (by omega)
   have gK:∀ {d:D},pw d=true->Pt (dp+4) d:=fun h=>(BH h).1.up (by omega)
   have t4:∀ {x y z v:D},Pt (dp+4) x->Pt (dp+4) y->Pt (dp+4) z->Pt (dp+4) v->Pt (dp+5) (.tup [x,y,z,v]):=fun h1 h2 h3 h4=>jS (by simp) (by simp only[List.mem_cons,List.not_mem_nil,or_false,forall_eq_or_imp,forall_eq];exact⟨h1,h2,h3,h4⟩)
   have t3:∀ {x y z:D},Pt (dp+4) x->Pt (dp+4) y->Pt (dp+4) z->Pt (dp+5) (.tup [x,y,z]):=fun h1 h2 h3=>jS (by simp) (by simp only[List.mem_cons,List.not_mem_nil,or_false,forall_eq_or_imp,forall_eq];exact⟨h1,h2,h3⟩)
   have o1:∀ {x:D},Pt (dp+3) x->Pt (dp+4) (.lst [x]):=fun h1=>xj (by simp only[List.mem_cons,List.not_mem_nil,or_false,forall_eq];exact h1)
   have pS:=gS0.up (m':=dp+4) (by omega)
   have pW:=gW0.up (m':=dp+4) (by omega)
   have pA:=gA0.up (m':=dp+4) (by omega)
   have pB:=gB0.up (m':=dp+4) (by omega)
   rw[fh,jN];walk_at "l2";rw[fh,jN];walk_at "l2";have c1:fc [S,W,A,B] (some 1) none=[W,A,B]:=rfl;have c2:fc [S,W,A,B] none (some 3)=[S,W,A]:=rfl;rw[c1,c2];refine⟨aT (by simp),aT (by simp),fun l5 n5=>?_⟩
   let j1:List D:=[.lst [S,W,A,B],.tup [S,W,A],.tup [S,W,A,B,B],.tup [.str (Str.ofString "Yes"),W,A,B],.tup [.str (Str.ofString "end"),W,A,B],.tup [B,A,W,S]]
   let j2:List D:=[.tup [.non,W,A,B],.tup [S,W,A,.non],.tup [S,W,.lst [A],B]]
   let j3:List D:=[.tup [S,A,B],.tup [S,A,W,B],.tup [.tup [.str (Str.ofString "yes")],W,A,B]]
   let j4:List D:=[.tup [.str (Str.ofString "and"),W,A,B],.tup [W,S,A,B],.tup [.lst [],W,A,B],.tup [.dk [],W,A,B]]
   let j5:List D:=[.tup [.lst [S],W,A,B],.tup [.bl true,W,A,B],.tup [S,W,.dk [],B],.tup [S,W,A,.lst []]]
   have hl5:=ex5.none n5;have ex6:=ex5.new (c:=.own (j1.map AV.d)) n5;have h6:(Z5.put l5 (.own (j1.map AV.d))) l5=some (.own (j1.map AV.d)):=Om.FR;change nj _ _ _ _ (Z5.put l5 (.own (j1.map AV.d)));generalize Z5.put l5 (.own (j1.map AV.d))=Z6 at *;refine eJ (es:=j2) (fun Q q=>?_) rfl h6 (by simp[j1,j2]) (fun l7 Z7 n7 e7 h7=>?_)
   ·walk_at "l2"
    rw[c1];exact⟨aT (by simp),q⟩
   have ex7:=e7 _ ex6;simp only[List.set_cons_zero,List.set_cons_succ];refine eJ (es:=j3) (fun Q q=>?_) rfl h7 (by simp[j1,j2,j3]) (fun l8 Z8 n8 e8 h8=>?_)
   ·walk_at "l2"
    rw[c1];exact⟨aT (by simp),q⟩
   have ex8:=e8 _ ex7;simp only[List.set_cons_zero,List.set_cons_succ];refine eJ (es:=j4) (fun Q q=>?_) rfl h8 (by simp[j1,j2,j3,j4]) (fun l9 Z9 n9 e9 h9=>?_)
   ·walk_at "l2"
    rw[c1];exact⟨aT (by simp),aT (by simp),aT (by simp),q⟩
   have ex9:=e9 _ ex8;simp only[List.set_cons_zero,List.set_cons_succ];refine Bm (es:=j5) (fun Q q=>?_) rfl h9 (by simp[j1,j2,j3,j4,j5]) (fun l10 Z10 n10 e10 h10=>?_)
   ·walk_at "l2"
    rw[c1];exact⟨aT (by simp),aT (by simp),q⟩
   have ex10:=e10 _ ex9;simp only[List.set_cons_zero,List.set_cons_succ];refine kM _ _ ⟨l10,_,_,_,_,_,by simp[j1,j2,j3,j4,j5],by simp[j1,j2,j3,j4,j5],?_,ex10,ex9.none n10,h10,rfl⟩
   intro d hd;simp only[List.mem_append] at hd;rw[hG];have wS:0<=wt S:=Nat.zero_le _;rcases hd with(((hd|hd)|hd)|hd)|hd
   ·simp only[j1,List.mem_cons,List.not_mem_nil,or_false] at hd
    rcases hd with rfl|rfl|rfl|rfl|rfl|rfl
    ·exact⟨xj (by simp only[List.mem_cons,List.not_mem_nil,or_false,forall_eq_or_imp,forall_eq];exact⟨pS,pW,pA,pB⟩),by simp only[wt,wts];omega⟩
    ·exact⟨t3 pS pW pA,by simp only[wt,wts];omega⟩
    ·exact⟨jS (by simp) (by simp only[List.mem_cons,List.not_mem_nil,or_false,forall_eq_or_imp,forall_eq];exact⟨pS,pW,pA,pB,pB⟩),by simp only[wt,wts];omega⟩
    ·exact⟨t4 (gK (by decide +kernel)) pW pA pB,by have h0:wt (.str (Str.ofString "Yes"))<=100:=(by decide +kernel);simp only[wt,wts] at h0 ⊢;omega⟩
    ·exact⟨t4 (gK (by decide +kernel)) pW pA pB,by have h0:wt (.str (Str.ofString "end"))<=100:=(by decide +kernel);simp only[wt,wts] at h0 ⊢;omega⟩
    ·exact⟨t4 pB pA pW pS,by simp only[wt,wts];omega⟩
   ·simp only[j2,List.mem_cons,List.not_mem_nil,or_false] at hd
    rcases hd with rfl|rfl|rfl
    ·exact⟨t4 (gK (by decide +kernel)) pW pA pB,by simp only[wt,wts];omega⟩
    ·exact⟨t4 pS pW pA (gK (by decide +kernel)),by simp only[wt,wts];omega⟩
    ·exact⟨t4 pS pW (o1 gA0) pB,by simp only[wt,wts];omega⟩
   ·simp only[j3,List.mem_cons,List.not_mem_nil,or_false] at hd
    rcases hd with rfl|rfl|rfl
    ·exact⟨t3 pS pA pB,by simp only[wt,wts];omega⟩
    ·exact⟨t4 pS pA pW pB,by simp only[wt,wts];omega⟩
    ·exact⟨t4 (gK (by decide +kernel)) pW pA pB,by have h0:wt (.tup [.str (Str.ofString "yes")])<=100:=(by decide +kernel);simp only[wt,wts] at h0 ⊢;omega⟩
   ·simp only[j4,List.mem_cons,List.not_mem_nil,or_false] at hd
    rcases hd with rfl|rfl|rfl|rfl
    ·exact⟨t4 (gK (by decide +kernel)) pW pA pB,by have h0:wt (.str (Str.ofString "and"))<=100:=(by decide +kernel);simp only[wt,wts] at h0 ⊢;omega⟩
    ·exact⟨t4 pW pS pA pB,by simp only[wt,wts];omega⟩
    ·exact⟨t4 (gK (by decide +kernel)) pW pA pB,by simp only[wt,wts];omega⟩
    ·exact⟨t4 (gK (by decide +kernel)) pW pA pB,by simp only[wt,wts,List.map_nil,List.sum_nil];omega⟩
   ·simp only[j5,List.mem_cons,List.not_mem_nil,or_false] at hd
    rcases hd with rfl|rfl|rfl|rfl
    ·exact⟨t4 (o1 gS0) pW pA pB,by simp only[wt,wts];omega⟩
    ·exact⟨t4 (gK (by decide +kernel)) pW pA pB,by simp only[wt,wts];omega⟩
    ·exact⟨t4 pS pW (gK (by decide +kernel)) pB,by simp only[wt,wts,List.map_nil,List.sum_nil];omega⟩
    ·exact⟨t4 pS pW pA (gK (by decide +kernel)),by simp only[wt,wts];omega⟩
 ·rintro ρ' Z' ⟨l,ks,v5,v6,v7,v8,z1,z2,z3,z4,z0,z5,rfl⟩
  have nlp:l≠p:=fun z=>by
   subst z;rw[Om.FR] at z0;cases z0
  walk_at "a1";refine⟨_,by rw[z5];rfl,p,_,rfl,z4.pen,by simp;omega,by simp;omega,fun r c r0 r1=>?_⟩
  have z6:=z4.put2 (e:=bC c);have z7:(Z'.put p (bC c)) l=some (.own (ks.map AV.d)):=by rw[Om.FS nlp];exact z5
  obtain⟨d,hd,ed⟩:=uZ (ds:=ks) (r:=r) r0 (by simpa using r1)
  refine⟨_,by rw[z7],r,rfl,_,ed,d,rfl,?_⟩
  rw[mY z6 hps];exact k d c ((hG d).mp (z3 d hd)).1 ((hG d).mp (z3 d hd)).2
noncomputable def uc(r:Nat):ASp:=fun xs Z Q=>∃(p:Addr)(n:Nat)(u:Ta),xs=[.r (.ref p),.d (.int n),.d u.d]/\cZ Z p/\1<=n/\n<=5/\sbT n u/\u.dp<=r/\∀(d:D)(c:Pn),Pt (u.dp+5) d->wt d<=2*wt u.d+9000->Q (.d d) (Z.put p (bC c))
theorem qE(T:Txt K mg t)(r:Nat)(kk:Nat)(sp:ASp)(hk:3<=kk)(G_l_spoilt:aO P w K mg base CX0 kk t.b9 t.eL ["_law_pen_here","_law_places_here","_law_talk"] (ca sp))(hs:∀r',r=r'+1->sp=uc r'):aO P w K mg base CX0 (kk+1) t.b9 t.eL ["_law_pen_here","_law_places_here","_law_talk"] (ca (uc r)):=by
 have G_l_draw:aO P w K mg base _ _ _ _ _ _:=dn T;have G_l_odd_talk:aO P w K mg base _ _ _ _ _ _:=Ae T;have G_l_odd_says:aO P w K mg base _ _ _ _ _ _:=tG T
 refine T.ue.okD da (fun xs Z Q h=>by obtain ⟨p,n,u,rfl,_⟩:=h;rfl) (fun cdv A outer s H E hr=>⟨_,_,(ai (bM (PW.pt (ff (aX (cq hr.FU) (bd (aE K rfl) (pv 2) ah (fun _ _=>rfl)) aL (a8 _)) (dN (aX (cq hr.FU) (am G_l_draw (hr.mono (by omega)) (by rfl) T.a7 T.aZ T.a0 .nil aB (ab (pv 0) (af ah ae))) ah (a8 _))))) (ap (aM (am G_l_odd_talk (hr.mono (by omega)) (by rfl) T.pJ T.pi T.px .nil aB (ab (pv 0) (ab (pv 1) (ab (pv 2) ae)))))) bc)
   (ai (mF (pv 2) (lE K rfl (n:=4) rfl (cg (bg (i:=3) da.nd rfl (Or.inl rfl)) (cg (bg (i:=4) da.nd rfl (Or.inl rfl)) (cg (bg (i:=5) da.nd rfl (Or.inl rfl)) (cg (bg (i:=6) da.nd rfl (Or.inl rfl)) lC))))))
   (ai (aD (i:=7) da.nd rfl (Or.inl rfl) (am G_l_draw (hr.mono (by omega)) (by rfl) T.a7 T.aZ T.a0 .nil aB (ab (pv 0) (af ah ae))))
   (ai (bM (aX (cq hr.FU) (pv 7) ah (a8 _)) (ap (aM (ao (ab (pv 3) (ab (am G_l_odd_says (hr.mono (by omega)) (by rfl) T.pj T.pf T.pp .nil aB (ab (pv 0) (ab (pv 1) (ab (pv 4) ae)))) (ab (pv 5) (ab (pv 6) ae))))))) bc)
   (ai (bM (aX (cq hr.FU) (pv 7) ah (a8 _)) (ap (aM (ao (ab (pv 3) (ab (pv 4) (ab (am G_l_spoilt (hr.mono (by omega)) (by rfl) T.eZ T.eR T.fb .nil aB (ab (pv 0) (ab (pv 1) (ab (pv 5) ae)))) (ab (pv 6) ae))))))) bc)
   (ap (aM (ao (ab (pv 3) (ab (pv 4) (ab (pv 5) (ab (am G_l_spoilt (hr.mono (by omega)) (by rfl) T.eZ T.eR T.fb .nil aB (ab (pv 0) (ab (pv 1) (ab (pv 6) ae)))) ae)))))))))))),(ax (dg (jG (bn (au cr (au bO ac aj) aY)) (bn (au cr (ar (aa ac (aa aj ag))) aj))) (a9 (ar (aa ac (aa ac (aa ac ag))))) bz)
   (ax (aR ac (vF (ef aq (ef aq (ef aq (ef aq vz))))))
   (ax (aR (ar (aa ac (aa aj ag))) aq)
   (ax (dg (bn (au cr ac aj)) (a9 (aw (aa ac (aa (ar (aa ac (aa ac (aa ac ag)))) (aa ac (aa ac ag)))))) bz)
   (ax (dg (bn (au cr ac aj)) (a9 (aw (aa ac (aa ac (aa (ar (aa ac (aa ac (aa ac ag)))) (aa ac ag)))))) bz)
   (a9 (aw (aa ac (aa ac (aa ac (aa (ar (aa ac (aa ac (aa ac ag)))) ag))))))))))),fun xs Z Q h=>?_⟩)
 obtain⟨p,n,u,rfl,hp,hn1,hn,hu,hd,k⟩:=h;walk_at "s1";have odd:∀c0,vg [AV.r (V.ref p),AV.d (D.int ↑n),AV.d u.d] (Z.put p (bC c0)) fun a Z'=>∃d,a=AV.d d/\Q (AV.d d) (Z'.only Z):=fun c0=>⟨p,n,u,rfl,az,hn1,hn,hu,fun d c h1 h2=>⟨_,rfl,by rw[Om.FT,bD hp];exact k d c h1 h2⟩⟩
 cases u with
 |en i=>
  refine⟨_,.inr rfl,_,rfl,_,rfl,by simp[dep],?_⟩
  rw[if_pos (by simp[gh])]
  obtain⟨c0,e0⟩:=hp;have:=odd c0;rw[Om.FZ e0] at this;exact this
 |nd y ws a b=>
  refine⟨_,.inr rfl,_,rfl,_,rfl,by simp[dep],?_⟩
  rw[if_neg (by cases y<;>simp[gh]<;>decide)]
  refine⟨p,4,rfl,hp,by decide,by decide,fun x c x0 x1=>⟨_,rfl,by simp[dep],?_⟩⟩
  refine i9 (fun _=>odd c) (fun _=>?_);obtain⟨r',rfl⟩:∃r',r=r'+1:=⟨r-1,by simp only[Ta.dp] at hd;omega⟩
  cases hs r' rfl;have eT:(Ta.nd y ws a b).d=D.tup [.str (if y then Str.ofString "yes" else Str.ofString "no"),.tup (ws.map wdD),a.d,b.d]:=rfl
  have hl:=Nat.le_trans hu.1.length_le (kE hn);have gS:Pt 0 (.str (if y then Str.ofString "yes" else Str.ofString "no")):=⟨by simp[pyD,PyData.depth],rfl,rfl⟩
  have gW : Pt 2 (.tup (ws.map wdD)):=(eN (m:=1) (B:=28) (L:=32) rfl (by simpa using hl) (by simp;omega) fun x hx=>by
   obtain⟨v,hv,rfl⟩:=List.mem_map.mp hx
   exact me hn (hu.1.mem hv)).pt
  obtain⟨gA,-⟩:=g5 hn hu.2.1;obtain⟨gB,-⟩:=g5 hn hu.2.2;have edp:(Ta.nd y ws a b).dp=max a.dp b.dp+1:=by first|(simp only[Ta.dp];done)|(simp only[Ta.dp];omega)
  have t4:∀ {x y z v:D} {m:Nat},Pt m x->Pt m y->Pt m z->Pt m v->Pt (m+1) (.tup [x,y,z,v]):=fun h1 h2 h3 h4=>jS (by simp) (by simp only[List.mem_cons,List.not_mem_nil,or_false,forall_eq_or_imp,forall_eq];exact⟨h1,h2,h3,h4⟩)
  have hda:a.dp<=r':=by omega
  have hdb:b.dp<=r':=by omega
  rw[eT] at k ⊢;clear odd;rw[edp] at k;generalize hS:D.str (if y then Str.ofString "yes" else Str.ofString "no")=S at *
  walk_at "s1";walk_at "s1";refine⟨p,3,rfl,az,by decide,by decide,fun x2 c2 x20 x21=>?_⟩
  rw[Om.FT];walk_at "s1";refine i9 (fun _=>?_) (fun _=>?_)
  ·refine⟨p,n,ws,rfl,az,hn1,hn,hl,fun v hv=>hu.1.mem hv,fun d c3 gd=>?_⟩
   rw[Om.FT];refine⟨_,rfl,?_⟩;rw[bD hp];refine k (.tup [S,d,a.d,b.d]) c3 ((t4 (m:=max a.dp b.dp+4) (gS.up (by omega)) (gd.pt.up (by omega)) (gA.up (by omega)) (gB.up (by omega))).up (by omega)) ?_
   have:=gd.1.2.2;simp only[wt,wts] at this ⊢;omega
  ·walk_at "s1"
   refine i9 (fun _=>?_) (fun _=>?_)
   ·refine⟨p,n,a,rfl,az,hn1,hn,hu.2.1,hda,fun d c3 gd wd=>?_⟩
    rw[Om.FT];refine⟨_,rfl,?_⟩;rw[bD hp];refine k (.tup [S,.tup (ws.map wdD),d,b.d]) c3 ((t4 (m:=max a.dp b.dp+5) (gS.up (by omega)) (gW.up (by omega)) (gd.up (by omega)) (gB.up (by omega))).up (by omega)) ?_
    simp only[wt,wts] at wd ⊢;omega
   ·refine⟨p,n,b,rfl,az,hn1,hn,hu.2.2,hdb,fun d c3 gd wd=>?_⟩
    rw[Om.FT];refine⟨_,rfl,?_⟩;rw[bD hp];refine k (.tup [S,.tup (ws.map wdD),a.d,d]) c3 ((t4 (m:=max a.dp b.dp+5) (gS.up (by omega)) (gW.up (by omega)) (gA.up (by omega)) (gd.up (by omega))).up (by omega)) ?_
    simp only[wt,wts] at wd ⊢;omega
theorem yJ(T:Txt K mg t):∀r,aO P w K mg base CX0 (r+4) t.b9 t.eL ["_law_pen_here","_law_places_here","_law_talk"] (ca (uc r))
 |0=>qE T 0 3 (fun _ _ _=>False) (Nat.le_refl _) ⟨fun _ _ _ _ h=>by obtain⟨_,_,_,_,_,_,h,_⟩:=h;exact h.elim,fun _ _ _ _ _ _ _ _ _ _ _ _ _ h=>by obtain⟨_,_,_,_,_,_,h,_⟩:=h;exact h.elim⟩ (fun r' h=>by omega)
 |r+1=>qE T (r+1) (r+4) _ (by omega) (yJ T r) (fun r' h=>by cases h;rfl)
noncomputable def xT:ASp:=fun xs Z Q=>∃(n:Nat)(d:D),xs=[.d (.int n),.d d]/\1<=n/\n<=5/\Pt 90 d/\wt d<=900000/\Q (.d (.bl true)) Z
theorem xL(T:Txt K mg t):aO P w K mg base CX0 8 t.dB t.kw ["_law_places_here","_law_thing"] (ca xT):=by
 have G_is_talk:aO P w K mg base _ _ _ _ _ _:=nN T;have G_l_looked:aO P w K mg base _ _ _ _ _ _:=A8 T
 refine T.wL.okD iR (fun xs Z Q h=>by obtain ⟨n,d,rfl,_⟩:=h;rfl) (fun cdv A outer s H E hr=>⟨_,_,(ai (aD (i:=2) iR.nd rfl (Or.inl rfl) (aF (mi hr.gd hr.FU T.sm) (by rfl) T.y3 (by kernel_rfl) (ab (pv 1) ae)))
   (ai (aD (i:=3) iR.nd rfl (Or.inl rfl) (am G_is_talk (hr.mono (by omega)) (by rfl) T.dH T.dJ T.dC .nil aB (ab (pv 0) (ab (pv 1) ae))))
   (ap (aM (b8 K rfl (aF bX (by rfl) T.bf (by kernel_rfl) (ab (pv 3) (ab (cH (v:=.ty "bool") (by rfl) T.s0 (by kernel_rfl) (by rfl)) ae))) (b8 K rfl (eA (cq hr.FU) (pv 3) (am G_l_looked (hr.mono (by omega)) (by rfl) T.ur T.t0 T.sA .nil aB (ab (pv 0) (ab (pv 1) ae))) (a8 _)) (ec (eA (cq hr.FU) (aF (mi hr.gd hr.FU T.sm) (by rfl) T.y3 (by kernel_rfl) (ab (pv 1) ae)) (pv 2) (a8 _))))))))),(ax (aR (bQ uy (aa ac ag)) aq)
   (ax (aR (ar (aa ac (aa ac ag))) aq)
   (a9 (cT (bQ fF (aa ac (aa fN ag))) (cT (au cr ac (ar (aa ac (aa ac ag)))) (au cr (bQ uy (aa ac ag)) ac)))))),fun xs Z Q h=>?_⟩)
 obtain⟨n,d,rfl,hn1,hn,hd,hw,k⟩:=h;have hz:=mz d;walk_at "s1";refine⟨hd.z,hd.f,by omega,?_⟩
 walk_at "s1";refine⟨n,d,rfl,hn1,hn,hd.s,by omega,?_⟩
 refine⟨_,rfl,by decide,?_⟩
 rw[if_pos (by rfl)]
 refine⟨n,d,rfl,hn1,hn,hd.s,by omega,?_⟩
 refine⟨_,rfl,_,rfl,by simp[dep],?_⟩
 rw[if_pos (by simp[tH]),aJ]
 refine⟨hd.z,hd.f,by omega,?_⟩
 rw[show (io d == io d)=true from by simp]
 exact k
noncomputable def nxT:Ta->Ta
 |.nd _ _ (.en _) b=>b
 |.nd _ _ a _=>a
 |u=>u
noncomputable def sdT:Ta->Int
 |.nd _ _ (.en _) _=>3
 |_=>2
noncomputable def qG:Ta->D->D
 |.nd y ws (.en i) _,x=>.tup [.str (if y then "yes" else "no"),.tup (ws.map wdD),(Ta.en i).d,x]
 |.nd y ws _ b,x=>.tup [.str (if y then "yes" else "no"),.tup (ws.map wdD),x,b.d]
 |.en _,x=>x
noncomputable def ndT:Ta->Bool
 |.nd ..=>true
 |_=>false
theorem vC{u:Ta}(h:ndT u=true):(nxT u).dp<u.dp:=by
 cases u with
 |en i=>cases h
 |nd y ws a b=>cases a<;>simp only[nxT,Ta.dp]<;>omega
theorem Bt{n:Nat}{u:Ta}{x:D}(h:bU n x=false):bU n (qG u x)=false:=by
 cases u with
 |en i=>exact h
 |nd y ws a b=>cases a<;>simp only[qG,kQ,h,Bool.and_false,Bool.false_and]
theorem Ay{n:Nat}{u:Ta}{x:D}(hn:n<=5)(hu:sbT n u)(hx:shD x=true):shD (qG u x)=true:=by
 have h:=(g5 hn hu).1.s
 cases u with
 |en i=>exact hx
 |nd y ws a b=>
  simp only[Ta.d,shD,kZ,Bool.and_eq_true] at h;cases a<;>simp only[qG,shD,kZ,hx,h,Bool.and_true,Bool.true_and,decide_true,List.length_cons,List.length_nil]<;>first|done|rfl
theorem Af{u:Ta}{x:D}:szD (qG u x)<=szD u.d+szD x:=by
 cases u with
 |en i=>simp only[qG];omega
 |nd y ws a b=>cases a<;>simp only[qG,Ta.d,szD,eY]<;>omega
noncomputable def itT(u:Ta):D:=.tup [u.d,.int (sdT u)]
theorem ct2{s w a b:D}:fc [s,w,a,b] none (some 2)=[s,w]:=rfl
theorem ct3{s w a b:D}:fc [s,w,a,b] none (some 3)=[s,w,a]:=rfl
theorem Eo{s w a b:D}:fc [s,w,a,b] (some (2+1)) none=[b]:=rfl
theorem Ec{s w a b:D}:fc [s,w,a,b] (some (3+1)) none=[]:=rfl
noncomputable def xM:ASp:=fun xs Z Q=>∃(n:Nat)(u:Ta)(e:D),xs=[.d u.d,.d e]/\n<=5/\sbT n u/\u.dp<=60/\(∀d,bU n d=false->shD d=true->szD d<=szD e+61*szD u.d->Q (.d d) Z)/\bU n e=false/\shD e=true
theorem yG(T:Txt K mg t):aO P w K mg base CX0 1 t.ce t.fY ["_law_talk","_law_end"] (ca xM):=by
 refine T.pc.okD bJ (fun xs Z Q h=>by obtain⟨n,u,e,rfl,_⟩:=h;rfl) (fun cdv A outer s H E hr=>⟨_,_,(ai (aD (i:=2) bJ.nd rfl (Or.inl rfl) (aP ae))
   (ai (m9 PassesOwn.never (aX (cq hr.FU) (aF (bS K rfl) (by rfl) T.ek (by kernel_rfl) (ab (pv 0) ae)) ah (a8 _)) (ai (aD (i:=3) bJ.nd rfl (Or.inl rfl) (aA (ak aH (ak ay aN)) ah (bR wN (by rfl) T.yk (by kernel_rfl) (ab (eA (cq hr.FU) (bd (aE K rfl) (bd (aE K rfl) (pv 0) ah (fun _ _=>rfl)) ah (fun _ _=>rfl)) aL (a8 _)) ae))))
   (ai (ic (oa PySem.F.plainAttrs_list PySem.F.slot_list_append PySem.F.type_list_append fP (pv 2) (av (ao (ab (pv 0) (ab (pv 3) ae))) ae)))
   (ap (aD (i:=0) bJ.nd rfl (Or.inl rfl) (bd (aE K rfl) (pv 0) (pv 3) (fun _ _=>rfl)))))))
   (ai (aD (i:=4) bJ.nd rfl (Or.inl rfl) (pv 1))
   (ai (i5 PassesOwn.never rfl (d9 K rfl (CW K rfl (pv 2) (se mG ah))) (lE K rfl (n:=2) rfl (cg (bg (i:=5) bJ.nd rfl (Or.inl rfl)) (cg (bg (i:=3) bJ.nd rfl (Or.inl rfl)) lC))) (ap (aD (i:=4) bJ.nd rfl (Or.inl rfl) (aA (ak aH (ak ay aN)) (aA (ak aH (ak ay aN)) (bb (bH K rfl) (pv 5) bo (bp (pv 3))) (ao (ab (pv 4) ae))) (bb (bH K rfl) (pv 5) (bp (aA (ak aH (ak ay aN)) (pv 3) ah)) bo)))))
   (ap (aM (pv 4))))))),(ax (aR (kg ag) aq)
   (ax (pM (bn (au cr (bQ gF (aa ac ag)) aj)) (ax (aR (au be aj (bQ Eh (aa (au cr (au bO (au bO ac aj) aj) aY) ag))) aq)
   (ax (ka (jx ac (aa (aw (aa ac (aa ac ag))) ag)))
   (aR (au bO ac ac) aq))))
   (ax (aR ac aq)
   (ax (mW (gD (EN ac)) (vF (ef aq (ef aq vz))) (aR (au be (au be (eC ac bF (bI ac)) (aw (aa ac ag))) (eC ac (bI (au be ac aj)) bF)) aq))
   (a9 ac))))),fun xs Z Q h=>?_⟩)
 obtain⟨n,u,e,rfl,hn,hu,hd,k,he,hs⟩:=h;walk_at "s1";intro p hp;rw[fh,wM];refine⟨fun m ρ Z'=>∃(us:List Ta)(v:Ta)(v3:Option AV),ρ=[some (.d v.d),some (.d e),some (.r (.ref p)),v3,none,none]/\Z'=Z.put p (.own ((us.map itT).map AV.d))/\sbT n v/\szD v.d<=szD u.d/\us.length+v.dp<=60/\(∀x∈us,ndT x=true/\sbT n x/\szD x.d<=szD u.d)/\m=v.dp,⟨_,[],u,_,rfl,rfl,hu,Nat.le_refl _,by simpa using hd,by simp,rfl⟩,?_⟩
 rintro m ρ Z' ⟨us,v,v3,rfl,rfl,hv,zv,lv,ha,rfl⟩;walk_at "a1"
 cases v with
 |en i=>
  refine⟨2,rfl,?_⟩;rw[if_neg (by decide)]
  walk_at "s1";rw[fh,pF];walk_at "a1";refine x4 (ds:=(us.map itT).reverse) (fun j ρ Z'=>∃(x:D)(v3 v5:Option AV),ρ=[some (.d (Ta.en i).d),some (.d e),some (.r (.ref p)),v3,some (.d x),v5]/\Z'=Z.put p (.own ((us.map itT).map AV.d))/\bU n x=false/\shD x=true/\szD x<=szD e+j*szD u.d) ⟨e,_,_,rfl,rfl,he,hs,by omega⟩ ?_ ?_
  ·rintro j d ρ Z' N hj ⟨x,v3,v5,rfl,rfl,hx,sx,zx⟩ kN
   have hm:d∈us.map itT:=List.mem_reverse.mp (List.mem_of_getElem? hj);obtain⟨x0,hx0,rfl⟩:=List.mem_map.mp hm;obtain⟨g1,g2,g3⟩:=ha x0 hx0;have p1:=Bt (u:=x0) hx;have p2:=Ay hn g2 sx;have p3:=Af (u:=x0) (x:=x);have fin:∀v3 v5,N [some (.d (Ta.en i).d),some (.d e),some (.r (.ref p)),v3,some (.d (qG x0 x)),v5] (Z.put p (.own ((us.map itT).map AV.d))):=fun v3 v5=>kN _ _ ⟨_,_,_,rfl,rfl,p1,p2,by rw[Nat.succ_mul];omega⟩
   generalize Z.put p (.own ((us.map itT).map AV.d))=Z1 at *
   cases x0 with
   |en i=>cases g1
   |nd y ws a b=>
    cases a with
    |en i2=>
     walk_at "a1";refine⟨_,rfl,rfl,_,_,rfl,_,_,rfl,rfl,_,rfl,?_⟩;simp only[sdT,Ta.d,ji,fS,je,AV.d.injEq,D.tup.injEq,exists_eq_left',D.int.injEq,ct2,ct3,Eo,Ec];exact⟨aT (by simp),aT (by simp),fin _ _⟩
    |nd y2 ws2 a2 b2=>
     walk_at "a1";refine⟨_,rfl,rfl,_,_,rfl,_,_,rfl,rfl,_,rfl,?_⟩;simp only[sdT,Ta.d,ji,fS,je,AV.d.injEq,D.tup.injEq,exists_eq_left',D.int.injEq,ct2,ct3,Eo,Ec];exact⟨aT (by simp),aT (by simp),fin _ _⟩
  ·rintro ρ Z' ⟨x,v3,v5,rfl,rfl,hx,sx,zx⟩
   walk_at "a1";rw[lh ((Ex.refl _).new hp)];refine k x hx sx (Nat.le_trans zx (Nat.add_le_add_left (Nat.mul_le_mul_right _ ?_) _));rw[List.length_reverse,List.length_map];omega
 |nd y ws a b=>
  refine⟨4,rfl,?_⟩;rw[if_pos (by decide)]
  have eT:(Ta.nd y ws a b).d=D.tup [.str (if y then Str.ofString "yes" else Str.ofString "no"),.tup (ws.map wdD),a.d,b.d]:=rfl
  refine⟨_,fun ρ' Z' h=>h,?_⟩
  cases a with
  |en i=>
   walk_at "s1";refine⟨_,.inr rfl,_,rfl,_,.inr rfl,_,rfl,_,rfl,by simp[dep],?_⟩
   walk_at "s1";refine⟨aT (by omega),_,.inr rfl,_,rfl,_,by first|(simp only[Ta.dp];done)|exact vC (u:=.nd y ws (.en i) b) rfl,us++[.nd y ws (.en i) b],b,rfl,by rw[List.map_append,List.map_append];rfl,hv.2.2,?_,?_,?_,rfl⟩
   ·simp only[Ta.d,szD,eY] at zv ⊢;omega
   ·have:=vC (u:=.nd y ws (.en i) b) rfl
    simp only[nxT,List.length_append,List.length_cons,List.length_nil] at this ⊢;omega
   ·intro x hx
    rcases List.mem_append.mp hx with hx|hx
    ·exact ha x hx
    ·rw[List.mem_singleton.mp hx];exact⟨rfl,hv,zv⟩
  |nd y2 ws2 a2 b2=>
   walk_at "s1";refine⟨_,.inr rfl,_,rfl,_,.inr rfl,_,rfl,_,rfl,by simp[dep],?_⟩
   rw[show (if eqD (.str (if y2=true then Str.ofString "yes" else Str.ofString "no")) (D.str (Str.ofString "end"))=true then (1:Int) else 0)=0 from by cases y2<;>simp[gh]<;>decide]
   walk_at "s1";refine⟨aT (by omega),_,.inr rfl,_,rfl,_,vC (u:=.nd y ws (.nd y2 ws2 a2 b2) b) rfl,us++[.nd y ws (.nd y2 ws2 a2 b2) b],.nd y2 ws2 a2 b2,rfl,by rw[List.map_append,List.map_append];rfl,hv.2.1,?_,?_,?_,rfl⟩
   ·simp only[Ta.d,szD,eY] at zv ⊢;omega
   ·have:=vC (u:=.nd y ws (.nd y2 ws2 a2 b2) b) rfl
    simp only[nxT,List.length_append,List.length_cons,List.length_nil] at this ⊢;omega
   ·intro x hx
    rcases List.mem_append.mp hx with hx|hx
    ·exact ha x hx
    ·rw[List.mem_singleton.mp hx];exact⟨rfl,hv,zv⟩
theorem xK(y:Bool):(isS (.str (if y then Str.ofString "yes" else Str.ofString "no")) "yes" || isS (.str (if y then Str.ofString "yes" else Str.ofString "no")) "no")=true:=by cases y<;>decide +kernel
theorem Br:∀n:Fin 6,(wl n.val).Pairwise fun a b=>cf b a=false:=by decide +kernel
theorem CD{n:Nat}(h:n<=5):Ris (wl n):=Br ⟨n,by omega⟩
theorem j6{n:Nat}(hn:n<=5):∀ {u:Ta},sbT n u->bU n u.d=true
 |.en i,⟨h0,h1⟩=>by
  simp only[Ta.d,mX,gM,Bool.and_eq_true,decide_eq_true_eq];exact⟨by decide +kernel,h0,h1⟩
 |.nd y ws a b,⟨hw,ha,hb⟩=>by
  have h1:=j6 hn ha;have h2:=j6 hn hb;simp only[Ta.d,kQ,h1,h2,Bool.and_true];rw[Bool.and_eq_true];refine⟨xK y,?_⟩;have hr:Ris ws:=List.Pairwise.sublist hw (CD hn);simp only[g7,Bool.and_eq_true,vL];refine⟨List.all_eq_true.mpr fun x hx=>?_,by rw[sV hr,decide_eq_true (hw.nodup (Fb hn))]⟩
  obtain⟨v,hv,rfl⟩:=List.mem_map.mp hx;exact AB (hw.mem hv)
theorem Dx(v:List Int):szD (wdD v)=1+v.length:=by
 have:∀v:List Int,eY (v.map D.int)=v.length:=fun v=>by
  induction v with
  |nil=>rfl
  |cons i v ih=>simp only[List.map_cons,eY,szD,ih,List.length_cons];omega
 simp only[wdD,szD,this]
theorem qc{n:Nat}:∀ {ws:List (List Int)},(∀v∈ws,v.length=n)->eY (ws.map wdD)=ws.length*(1+n)
 | [],_=>by simp[eY]
 |v::ws,h=>by
  have ih:=qc fun v hv=>h v (List.mem_cons_of_mem _ hv);simp only[List.map_cons,eY,Dx,ih,h v (List.mem_cons_self ..),List.length_cons,Nat.succ_mul];omega
theorem ub{n:Nat}(hn:n<=5):∀ {u:Ta},sbT n u->szD u.d+196<=200*u.lvs
 |.en i,_=>by simp only[Ta.d,szD,eY,Ta.lvs];omega
 |.nd y ws a b,⟨hw,ha,hb⟩=>by
  have h1:=ub hn ha;have h2:=ub hn hb;have hl:=Nat.le_trans hw.length_le (kE hn);have h3:=qc (n:=n) (ws:=ws) fun v hv=>(i7 (hw.mem hv)).1;have h4:ws.length*(1+n)<=32*6:=Nat.mul_le_mul hl (by omega)
  simp only[Ta.d,szD,eY,Ta.lvs];omega
theorem AM(n:Nat):∀e∈[D.tup [.str (Str.ofString "end"),.int n],.tup [.str (Str.ofString "end"),.int 0,.int 0],.tup [.str (Str.ofString "yes"),.tup [],.tup [.str (Str.ofString "end"),.int 0]],.tup [.str (Str.ofString "end"),.bl false]],bU n e=false/\shD e=true/\szD e<=10:=by
 simp only[List.mem_cons,List.not_mem_nil,or_false,forall_eq_or_imp,forall_eq];refine⟨⟨?_,by rfl,by simp[szD,eY]⟩,⟨jU (by simp) (by simp),by rfl,by decide⟩,⟨jU (by simp) (by simp),by rfl,by decide⟩,⟨?_,by rfl,by decide⟩⟩
 ·simp[mX,gM]
 ·simp[mX,gM]
theorem Df(T:Txt K mg t):aO P w K mg base CX0 45 t.jf t.uY ["_law_script"] (tz K):=by
 have G_l_draw:aO P w K mg base _ _ _ _ _ _:=dn T;have G_l_pen:aO P w K mg base _ _ _ _ _ _:=Da T;have G_l_places:aO P w K mg base _ _ _ _ _ _:=wP T;have G_l_drawn_talk:aO P w K mg base _ _ _ _ _ _:=ya T;have G_is_talk:aO P w K mg base _ _ _ _ _ _:=nN T;have G_l_right:aO P w K mg base _ _ _ _ _ _:=xL T;have G_l_spoilt:aO P w K mg base _ _ _ _ _ _:=yJ T 26;have G_l_chain:aO P w K mg base _ _ _ _ _ _:=qO T
 have G_l_wide:aO P w K mg base _ _ _ _ _ _:=o3 T 8;have G_l_ended_so:aO P w K mg base _ _ _ _ _ _:=yG T
 refine T.DV.okD ft (fun xs Z Q h=>by obtain ⟨a,ns,rfl,_⟩:=h;rfl) (fun cdv A outer s H E hr=>⟨_,_,(ai (i5 PassesOwn.never rfl (fL rfl T.jL (af ah ae)) (bg (i:=1) ft.nd rfl (Or.inl rfl)) (ai (aD (i:=2) ft.nd rfl (Or.inl rfl) (am G_l_pen (hr.mono (by omega)) (by rfl) T.Am T.Bk T.Aq .nil aB (ab (pv 0) (ab (pv 1) ae))))
   (ai (aD (i:=3) ft.nd rfl (Or.inl rfl) (am G_l_places (hr.mono (by omega)) (by rfl) T.sZ T.tI T.tW .nil aB (ab (pv 2) ae)))
   (ai (aD (i:=4) ft.nd rfl (Or.inl rfl) (am G_l_drawn_talk (hr.mono (by omega)) (by rfl) T.m8 T.lJ T.mE .nil aB (ab (pv 2) (ab (pv 3) ae))))
   (ai (bM (aX hE (am G_is_talk (hr.mono (by omega)) (by rfl) T.dH T.dJ T.dC .nil aB (ab (pv 3) (ab (pv 4) ae))) bE (a8 _)) (ap (aM bE)) bc)
   (ai (i5 PassesOwn.never rfl (fL rfl T.jL (af ah ae)) (bg (i:=5) ft.nd rfl (Or.inl rfl)) (ap (bM (cK (bh K rfl (am G_l_right (hr.mono (by omega)) (by rfl) T.fT T.fD T.fG .nil aB (ab (pv 3) (ab (am G_l_spoilt (hr.mono (by omega)) (by rfl) T.eZ T.eR T.fb .nil aB (ab (pv 2) (ab (pv 3) (ab (pv 4) ae)))) ae))) (fun _=>rfl))) (ap (aM bE)) bc)))
   (ai (aD (i:=6) ft.nd rfl (Or.inl rfl) (aA (ak aH (ak ay aN)) ah (aA f8 (pv 3) ah)))
   (ai (bM (PW.pt (ff (cK (bh K rfl (am G_l_right (hr.mono (by omega)) (by rfl) T.fT T.fD T.fG .nil aB (ab (pv 6) (ab (pv 4) ae))) (fun _=>rfl))) (dN (cK (bh K rfl (am G_l_right (hr.mono (by omega)) (by rfl) T.fT T.fD T.fG .nil aB (ab (aF (wR rfl) (by rfl) T.EZ (by kernel_rfl) (af ah (ab (aA kh (pv 3) ah) ae))) (ab (pv 4) ae))) (fun _=>rfl)))))) (ap (aM bE)) bc)
   (ai (bM (PW.pt (ff (aX hE (am G_is_talk (hr.mono (by omega)) (by rfl) T.dH T.dJ T.dC .nil aB (ab (pv 3) (ab (pv 4) ae))) bE (a8 _)) (dN (aX hE (am G_is_talk (hr.mono (by omega)) (by rfl) T.dH T.dJ T.dC .nil aB (ab (pv 3) (ab (bb (bH K rfl) (pv 4) bo (bp ah)) ae))) bE (a8 _))))) (ap (aM bE)) bc)
   (ai (aD (i:=7) ft.nd rfl (Or.inl rfl) (am G_l_chain (hr.mono (by omega)) (by rfl) T.nC T.nO T.nR .nil aB (ab (pv 2) (ab (pv 3) (ab (aA (ak aH (ak ay aN)) ah (am G_l_draw (hr.mono (by omega)) (by rfl) T.a7 T.aZ T.a0 .nil aB (ab (pv 2) (af ah ae)))) ae)))))
   (ai (bM (PW.pt (ff (aX hE (am G_is_talk (hr.mono (by omega)) (by rfl) T.dH T.dJ T.dC .nil aB (ab (pv 3) (ab (pv 7) ae))) bE (a8 _)) (dN (cK (bh K rfl (am G_l_right (hr.mono (by omega)) (by rfl) T.fT T.fD T.fG .nil aB (ab (pv 3) (ab (am G_l_spoilt (hr.mono (by omega)) (by rfl) T.eZ T.eR T.fb .nil aB (ab (pv 2) (ab (pv 3) (ab (pv 7) ae)))) ae))) (fun _=>rfl)))))) (ap (aM bE)) bc)
   (ai (i5 PassesOwn.never rfl (d9 K rfl (aP (av (ao (af aL (ab (pv 3) ae))) (av (ao (af aL (af ah (af ah ae)))) (av (ao (af aL (av (ao ae) (av (ao (af aL (af ah ae))) ae)))) (av (ao (af aL (af bE ae))) ae)))))) (bg (i:=8) ft.nd rfl (Or.inl rfl)) (ap (bM (aX hE (am G_is_talk (hr.mono (by omega)) (by rfl) T.dH T.dJ T.dC .nil aB (ab (pv 3) (ab (am G_l_ended_so (hr.mono (by omega)) (by rfl) T.pO T.oZ T.oV .nil aB (ab (pv 7) (ab (pv 8) ae))) ae))) bE (a8 _)) (ap (aM bE)) bc)))
   (ai (aD (i:=9) ft.nd rfl (Or.inl rfl) (am G_l_wide (hr.mono (by omega)) (by rfl) T.jt T.jv T.jy .nil aB (ab (pv 2) (ab (pv 3) (ab (aA (ak aH (ak ay aN)) ah (am G_l_draw (hr.mono (by omega)) (by rfl) T.a7 T.aZ T.a0 .nil aB (ab (pv 2) (ab (bd (aE K rfl) (aP (af ah (af ah (af ah ae)))) (pv 1) (fun _ _=>rfl)) ae)))) ae)))))
   (ap (bM (PW.pt (ff (aX hE (am G_is_talk (hr.mono (by omega)) (by rfl) T.dH T.dJ T.dC .nil aB (ab (pv 3) (ab (pv 9) ae))) bE (a8 _)) (dN (cK (bh K rfl (am G_l_right (hr.mono (by omega)) (by rfl) T.fT T.fD T.fG .nil aB (ab (pv 3) (ab (am G_l_spoilt (hr.mono (by omega)) (by rfl) T.eZ T.eR T.fb .nil aB (ab (pv 2) (ab (pv 3) (ab (pv 9) ae)))) ae))) (fun _=>rfl)))))) (ap (aM bE)) bc)))))))))))))))
   (ap (aM bE))),(ax (mW (lK (aa aj ag)) aq (ax (aR (ar (aa ac (aa ac ag))) aq)
   (ax (aR (ar (aa ac ag)) aq)
   (ax (aR (ar (aa ac (aa ac ag))) aq)
   (ax (dg (bn (au nQ (ar (aa ac (aa ac ag))) cJ)) (a9 cJ) bz)
   (ax (mW (lK (aa aj ag)) aq (dg (eu (dv (ar (aa ac (aa (ar (aa ac (aa ac (aa ac ag)))) ag))))) (a9 cJ) bz))
   (ax (aR (au be aj (au nc ac aj)) aq)
   (ax (dg (jG (eu (dv (ar (aa ac (aa ac ag))))) (eu (dv (ar (aa (bQ Fv (aa aj (aa (au nS ac aj) ag))) (aa ac ag)))))) (a9 cJ) bz)
   (ax (dg (jG (bn (au nQ (ar (aa ac (aa ac ag))) cJ)) (bn (au nQ (ar (aa ac (aa (eC ac bF (bI aj)) ag))) cJ))) (a9 cJ) bz)
   (ax (aR (ar (aa ac (aa ac (aa (au be aj (ar (aa ac (aa aj ag)))) ag)))) aq)
   (ax (dg (jG (bn (au nQ (ar (aa ac (aa ac ag))) cJ)) (eu (dv (ar (aa ac (aa (ar (aa ac (aa ac (aa ac ag)))) ag)))))) (a9 cJ) bz)
   (ax (mW (gD (bq (aa (aw (aa aY (aa ac ag))) (aa (aw (aa aY (aa aj (aa aj ag)))) (aa (aw (aa aY (aa (aw ag) (aa (aw (aa aY (aa aj ag))) ag)))) (aa (aw (aa aY (aa cJ ag))) ag)))))) aq (dg (bn (au nQ (ar (aa ac (aa (ar (aa ac (aa ac ag))) ag))) cJ)) (a9 cJ) bz))
   (ax (aR (ar (aa ac (aa ac (aa (au be aj (ar (aa ac (aa (au bO (bq (aa aj (aa aj (aa aj ag)))) ac) ag)))) ag)))) aq)
   (dg (jG (bn (au nQ (ar (aa ac (aa ac ag))) cJ)) (eu (dv (ar (aa ac (aa (ar (aa ac (aa ac (aa ac ag)))) ag)))))) (a9 cJ) bz))))))))))))))
   (a9 cJ)),fun xs Z Q h=>?_⟩)
 obtain⟨a,ns,rfl,hl,rfl,k⟩:=h;walk_at "a1";walk_at "s1";refine⟨by decide,by decide,?_⟩
 refine lF (fun i ρ Z'=>∃v1 v2 v3 v4 v5 v6 v7 v8 v9,ρ=[some (scr K a ns),v1,v2,v3,v4,v5,v6,v7,v8,v9]) ⟨_,_,_,_,_,_,_,_,_,rfl⟩ ?_ ?_
 ·rintro i ρ Z N hi ⟨v1,v2,v3,v4,v5,v6,v7,v8,v9,rfl⟩ kN
  walk_at "a1";walk_at "s1";refine⟨a,ns,_,rfl,by omega,by omega,fun p c hp=>?_⟩
  walk_at "s1";refine⟨p,rfl,az,fun n c1 hn1 hn=>?_⟩;walk_at "s1";refine⟨p,n,rfl,az,hn1,hn,fun u c2 hu hud hus=>?_⟩;rw[Om.FT];obtain⟨pu,wu⟩:=g5 hn hu;have zu:=mz u.d;have lu:=Ta.eV u;walk_at "s1";refine⟨n,u.d,rfl,hn1,hn,pu.s,by omega,?_⟩
  rw[j6 hn hu];walk_at "s1";refine⟨by decide,by decide,?_⟩
  refine lF (fun _ ρ' Z'=>cZ Z' p/\∃v5,ρ'=[some (scr K a ns),some (.d (.int (0+(i:Nat)))),some (.r (.ref p)),some (.d (.int n)),some (.d u.d),v5,v6,v7,v8,v9]) ⟨az,_,rfl⟩ ?_ ?_
  ·rintro j ρ Z' M hj ⟨hp,v5,rfl⟩ kM
   walk_at "a1";refine⟨p,n,u,rfl,hp,hn1,hn,hu,by omega,fun d c hd wd=>?_⟩
   refine⟨n,d,rfl,hn1,hn,hd.up (by omega),by omega,?_⟩
   walk_at "a1";exact kM _ _ ⟨az,_,rfl⟩
  rintro ρ Z' ⟨hp,v5,rfl⟩;obtain⟨m,em,hm1,hm⟩:∃m:Nat,1+(n:Int)%5=(m:Int)/\1<=m/\m<=5:=⟨1+n%5,by omega,by omega,by omega⟩
  obtain⟨q,eq_,hq1,hq⟩:∃q:Nat,(if (n:Int)-1>1 then (n:Int)-1 else 1)=(q:Int)/\1<=q/\q<=5:=by
   by_cases h:(n:Int)-1>1
   ·exact⟨n-1,by rw[if_pos h];omega,by omega,by omega⟩
   ·exact⟨1,by rw[if_neg h];rfl,by omega,by omega⟩
  have pu9:=pu.up (m':=90) (by omega)
  have wu9:wt u.d<=900000:=by omega
  walk_at "s1";rw[em];walk_at "s1";refine⟨m,u.d,rfl,hm1,hm,pu9,wu9,?_⟩;walk_at "a1";refine⟨q,u.d,by rw[eq_],hq1,hq,pu9,wu9,?_⟩
  walk_at "a1";walk_at "s1";refine⟨n,u.d,rfl,hn1,hn,pu.s,by omega,?_⟩
  rw[j6 hn hu]
  obtain⟨x1,ex1,sx1,zx1⟩:∃x1,(∀(Z1:Om)(Q':AV->Om->Prop),slA (.d u.d) none (some 1) Z1 Q'=Q' (.d (.tup [x1])) Z1)/\shD x1=true/\szD x1=1:=by
   cases u with
   |en i=>exact⟨_,fun _ _=>rfl,rfl,rfl⟩
   |nd y ws a b=>exact⟨_,fun _ _=>rfl,rfl,rfl⟩
  walk_at "a1";rw[ex1];refine⟨n,.tup [x1],rfl,hn1,hn,by simp[shD,kZ,sx1],by simp only[szD,eY,zx1];decide,?_⟩
  rw[show bU n (.tup [x1])=false from jU (by simp) (by simp)]
  walk_at "a1";walk_at "s1";refine⟨p,14,rfl,hp,by decide,by decide,fun r c3 r0 r1=>?_⟩
  obtain⟨r',rfl⟩:=Int.eq_ofNat_of_zero_le r0;refine⟨_,rfl,p,n,13+r',rfl,az,hn1,hn,by omega,fun v c4 hv hvd hvl=>?_⟩
  obtain⟨pv,wv⟩:=g5 hn hv;have zv:=mz v.d;have zv2:=ub hn hv;walk_at "s1";refine⟨n,v.d,rfl,hn1,hn,pv.s,by omega,_,rfl,?_⟩
  rw[j6 hn hv,if_neg (by simp)]
  refine⟨p,n,v,rfl,az,hn1,hn,hv,by omega,fun d c5 hd wd=>⟨n,d,rfl,hn1,hn,hd.up (by omega),by omega,_,rfl,?_⟩⟩
  rw[if_neg (by simp)]
  clear hd wd;have hp5:cZ ((Z'.put p (bC c4)).put p (bC c5)) p:=az;generalize (Z'.put p (bC c4)).put p (bC c5)=Z5 at *;walk_at "s1";refine x4 (ds:=[D.tup [.str (Str.ofString "end"),.int n],.tup [.str (Str.ofString "end"),.int 0,.int 0],.tup [.str (Str.ofString "yes"),.tup [],.tup [.str (Str.ofString "end"),.int 0]],.tup [.str (Str.ofString "end"),.bl false]]) (fun _ ρ' Z'=>Z'=Z5/\∃v8,ρ'=[some (scr K a ns),some (.d (.int (0+(i:Nat)))),some (.r (.ref p)),some (.d (.int n)),some (.d u.d),v5,some (.d (.int m)),some (.d v.d),v8,v9]) ⟨rfl,_,rfl⟩ ?_ ?_
  ·rintro j e ρ Z' M hj ⟨rfl,v8,rfl⟩ kM
   obtain⟨e1,e2,e3⟩:=AM n e (List.mem_of_getElem? hj);walk_at "a1";refine⟨n,v,e,rfl,hn,hv,by omega,fun d d1 d2 d3=>?_,e1,e2⟩
   refine⟨n,d,rfl,hn1,hn,d2,by omega,?_⟩
   rw[d1];walk_at "a1";exact kM _ _ ⟨rfl,_,rfl⟩
  rintro ρ Z' ⟨rfl,v8,rfl⟩
  obtain⟨q3,eq3,hq31,hq3⟩:∃q3:Nat,atI [AV.d (.int 1),.d (.int 1),.d (.int 140)] (0+(i:Nat))=some (.d (.int q3))/\1<=q3/\q3<=140:=by
   rcases(by omega:i=0\/i=1\/i=2) with rfl|rfl|rfl
   ·exact⟨1,rfl,by decide,by decide⟩
   ·exact⟨1,rfl,by decide,by decide⟩
   ·exact⟨140,rfl,by decide,by decide⟩
  walk_at "s1";refine⟨_,eq3,p,q3,rfl,hp5,by omega,by omega,fun r c6 r0 r1=>?_⟩
  obtain⟨r2,rfl⟩:=Int.eq_ofNat_of_zero_le r0;refine⟨_,rfl,p,n,61+r2,rfl,az,hn1,hn,by omega,by omega,by decide,fun b c7 hb hbd hbl=>?_⟩
  obtain⟨pb,wb⟩:=g5 hn hb;have zb:=mz b.d;refine⟨n,b.d,rfl,hn1,hn,pb.s,by omega,_,rfl,?_⟩
  rw[j6 hn hb,if_neg (by simp)]
  refine⟨p,n,b,rfl,az,hn1,hn,hb,by omega,fun d c8 hd wd=>⟨n,d,rfl,hn1,hn,hd.up (by omega),by omega,_,rfl,?_⟩⟩
  rw[if_neg (by simp)]
  exact kN _ _ ⟨_,_,_,_,_,_,_,_,_,rfl⟩
 ·rintro ρ Z' ⟨v1,v2,v3,v4,v5,v6,v7,v8,v9,rfl⟩
  walk_at "a1";exact k _
end
theorem DB{K:W.Frag}{h:Heap}{mg:Str->Option Value}(X:K.In h)(G:h.Ns mainGlobals mg){cW:Addr}{fd_is_whole:FuncData}{eM:Addr}{fd_is_bit:FuncData}{cb:Addr}{fd_are_places:FuncData}{cV:Addr}{fd_is_place:FuncData}{dE:Addr}{fd_is_word:FuncData}{cx:Addr}{fd_is_rising:FuncData}{dQ:Addr}{fd_is_talk:FuncData}{eU:Addr}{fd_is_end:FuncData}{dG:Addr}{fd_is_turn:FuncData}{cP:Addr}{fd_are_says:FuncData}{fg:Addr}{fd_l_pen:FuncData}{eQ:Addr}{fd_l_draw:FuncData}{gv:Addr}{fd_l_all:FuncData}{eX:Addr}{fd_l_says:FuncData}{bB:Addr}{fd_l_any_talk:FuncData}{dO:Addr}{fd_l_chain:FuncData}{dm:Addr}{fd_l_wide:FuncData}{bN:Addr}{fd_l_drawn_talk:FuncData}{cQ:Addr}{fd_l_places:FuncData}{bW:Addr}{fd_l_is_number:FuncData}{cy:Addr}{fd_l_is_word:FuncData}{cR:Addr}{fd_l_looked:FuncData}{bT:Addr}{fd_l_exchanged:FuncData}{cc:Addr}{fd_l_odd_says:FuncData}{b7:Addr}{fd_l_odd_talk:FuncData}{b9:Addr}{fd_l_spoilt:FuncData}{ce:Addr}{fd_l_ended_so:FuncData}{dB:Addr}{fd_l_right:FuncData}{jf:Addr}{od_law an_law:Option Addr}{sl_law:Array (Option Value)}{oc_law kV_law dc_law pm_law cd_law ct_law:Value}{dZ:Tok}(dS:dr K "is_whole" iY cW fd_is_whole)(fM:dr K "is_bit" ml eM fd_is_bit)(cF:dr K "are_places" fX cb fd_are_places)(dL:dr K "is_place" iQ cV fd_is_place)(eD:dr K "is_word" hV dE fd_is_word)(c9:dr K "is_rising" fk cx fd_is_rising)(eG:dr K "is_talk" j7 dQ fd_is_talk)(fW:dr K "is_end" mw eU fd_is_end)(eF:dr K "is_turn" kt dG fd_is_turn)(dR:dr K "are_says" gg cP fd_are_says)(hU:dr K "_law_pen" oU fg fd_l_pen)(fV:dr K "_law_draw" mn eQ fd_l_draw)(hJ:dr K "_law_all" p5 gv fd_l_all)(fU:dr K "_law_says" jC eX fd_l_says)(cG:dr K "_law_any_talk" gx bB fd_l_any_talk)(eI:dr K "_law_chain" jY dO fd_l_chain)(fE:dr K "_law_wide" jp dm fd_l_wide)(bZ:dr K "_law_drawn_talk" eP bN fd_l_drawn_talk)(dF:dr K "_law_places" iI cQ fd_l_places)(cj:dr K "_law_is_number" fv bW fd_l_is_number)(db:dr K "_law_is_word" fj cy fd_l_is_word)(dM:dr K "_law_looked" gk cR fd_l_looked)(ck:dr K "_law_exchanged" fm bT fd_l_exchanged)(cA:dr K "_law_odd_says" cB cc fd_l_odd_says)(cC:dr K "_law_odd_talk" gf b7 fd_l_odd_talk)(dP:dr K "_law_spoilt" i6 b9 fd_l_spoilt)(cD:dr K "_law_ended_so" f9 ce fd_l_ended_so)(eH:dr K "_law_right" ki dB fd_l_right)(ze:W.nsIn K mainGlobals "law"=some (some (.ref jf)))(zG:K.lookup jf=some ⟨oc_law,od_law,.func (W.fnOf "law" "law" (defArgs nX) (defBody nX) (defScope nX) .none kV_law dc_law pm_law an_law cd_law ct_law),sl_law⟩)(xt:W.codeIn K cd_law "law"=true)(vx:W.keepIn K (.ref jf)=true)(fA:W.nsIn K mainGlobals "MOST_PLACES"=some (some (.int 5 dZ)))(sm:(K.lookup sysModules).isSome=true)(yL:W.nsIn K mainGlobals "abs"=some none)(yb:W.nsIn K mainGlobals "all"=some none)(tj:W.nsIn K mainGlobals "bool"=some none)(zM:W.nsIn K mainGlobals "int"=some none)(gl:W.nsIn K mainGlobals "isinstance"=some none)(yn:W.nsIn K mainGlobals "len"=some none)(tm:W.nsIn K mainGlobals "list"=some none)(zl:W.nsIn K mainGlobals "max"=some none)(oM:W.nsIn K mainGlobals "range"=some none)(tU:W.nsIn K mainGlobals "repr"=some none)(zL:W.nsIn K mainGlobals "set"=some none)(lO:W.nsIn K mainGlobals "sorted"=some none)(zV:W.nsIn K mainGlobals "str"=some none)(oP:W.nsIn K mainGlobals "tuple"=some none):∃t,Txt K mg t:=by
 have F_law:=yo (st:=nX) zG xt vx
 exact⟨⟨cW,_,eM,_,cb,_,cV,_,dE,_,cx,_,dQ,_,eU,_,dG,_,cP,_,fg,_,eQ,_,gv,_,eX,_,bB,_,dO,_,dm,_,bN,_,cQ,_,bW,_,cy,_,cR,_,bT,_,cc,_,b7,_,b9,_,ce,_,dB,_,jf,_,dZ⟩,⟨W.mg_of X G dS.g,dS.f,dS.e,dS.f.FX fun _ _ _ _ _ _ _=>rfl,
  W.mg_of X G fM.g,fM.f,fM.e,fM.f.FX fun _ _ _ _ _ _ _=>rfl,
  W.mg_of X G cF.g,cF.f,cF.e,cF.f.FX fun _ _ _ _ _ _ _=>rfl,
  W.mg_of X G dL.g,dL.f,dL.e,dL.f.FV fun _ _ _ _ _ _ _ _=>rfl,
  W.mg_of X G eD.g,eD.f,eD.e,eD.f.FV fun _ _ _ _ _ _ _ _=>rfl,
  W.mg_of X G c9.g,c9.f,c9.e,c9.f.FX fun _ _ _ _ _ _ _=>rfl,
  W.mg_of X G eG.g,eG.f,eG.e,eG.f.FV fun _ _ _ _ _ _ _ _=>rfl,
  W.mg_of X G fW.g,fW.f,fW.e,fW.f.FV fun _ _ _ _ _ _ _ _=>rfl,
  W.mg_of X G eF.g,eF.f,eF.e,eF.f.FV fun _ _ _ _ _ _ _ _=>rfl,
  W.mg_of X G dR.g,dR.f,dR.e,dR.f.FV fun _ _ _ _ _ _ _ _=>rfl,
  W.mg_of X G hU.g,hU.f,hU.e,hU.f.FV fun _ _ _ _ _ _ _ _=>rfl,
  W.mg_of X G fV.g,fV.f,fV.e,fV.f.FV fun _ _ _ _ _ _ _ _=>rfl,
  W.mg_of X G hJ.g,hJ.f,hJ.e,hJ.f.FX fun _ _ _ _ _ _ _=>rfl,
  W.mg_of X G fU.g,fU.f,fU.e,fU.f.FV fun _ _ _ _ _ _ _ _=>rfl,
  W.mg_of X G cG.g,cG.f,cG.e,cG.f.FY fun _ _ _ _ _ _ _ _ _=>rfl,
  W.mg_of X G eI.g,eI.f,eI.e,eI.f.FY fun _ _ _ _ _ _ _ _ _=>rfl,
  W.mg_of X G fE.g,fE.f,fE.e,fE.f.FY fun _ _ _ _ _ _ _ _ _=>rfl,
  W.mg_of X G bZ.g,bZ.f,bZ.e,bZ.f.FV fun _ _ _ _ _ _ _ _=>rfl,
  W.mg_of X G dF.g,dF.f,dF.e,dF.f.FX fun _ _ _ _ _ _ _=>rfl,
  W.mg_of X G cj.g,cj.f,cj.e,cj.f.FV fun _ _ _ _ _ _ _ _=>rfl,
  W.mg_of X G db.g,db.f,db.e,db.f.FV fun _ _ _ _ _ _ _ _=>rfl,
  W.mg_of X G dM.g,dM.f,dM.e,dM.f.FV fun _ _ _ _ _ _ _ _=>rfl,
  W.mg_of X G ck.g,ck.f,ck.e,ck.f.FV fun _ _ _ _ _ _ _ _=>rfl,
  W.mg_of X G cA.g,cA.f,cA.e,cA.f.FY fun _ _ _ _ _ _ _ _ _=>rfl,
  W.mg_of X G cC.g,cC.f,cC.e,cC.f.FY fun _ _ _ _ _ _ _ _ _=>rfl,
  W.mg_of X G dP.g,dP.f,dP.e,dP.f.FY fun _ _ _ _ _ _ _ _ _=>rfl,
  W.mg_of X G cD.g,cD.f,cD.e,cD.f.FV fun _ _ _ _ _ _ _ _=>rfl,
  W.mg_of X G eH.g,eH.f,eH.e,eH.f.FV fun _ _ _ _ _ _ _ _=>rfl,
  W.mg_of X G ze,F_law,vx,F_law.FX (p0:="_law_script") fun _ _ _ _ _ _ _=>rfl,
  fun s v=>.of_eq rfl,
  W.mg_none_of X G yL,
  W.mg_none_of X G yb,
  W.mg_none_of X G tj,
  W.mg_none_of X G zM,
  W.mg_none_of X G gl,
  W.mg_none_of X G yn,
  W.mg_none_of X G tm,
  W.mg_none_of X G zl,
  W.mg_none_of X G oM,
  W.mg_none_of X G tU,
  W.mg_none_of X G zL,
  W.mg_none_of X G lO,
  W.mg_none_of X G zV,
  W.mg_none_of X G oP,
  W.mg_of X G fA,
  sm⟩⟩
noncomputable def inCls(s:PySem.Stmt)(j:Nat):PySem.Stmt:=match s with
 |.ClassDef _ _ _ b _ _ _ _ _ _ _=>b.getD j (.Pass ⟨0,0,0,0⟩)
 |_=>s
noncomputable abbrev oT(x:Array Value):Obj:=⟨.type "tuple",.none,.seq x 0,#[]⟩
noncomputable abbrev oF(n:Str)(i:Nat)(s:Str)(k:Tok)(c:Addr):Obj:=⟨.type "function",.none,.func (W.fnOf n n (defArgs (top i)) (defBody (top i)) (defScope (top i)) .none .none .none (.str s k) .none (.ref c) .none),#[]⟩
noncomputable abbrev oC(n:Str)(a b c:Tok)(l k:Int)(r:Addr)(e:Int)(u:Addr)(v w:Value)(x:Addr)(y:Int)(d:Tok):Obj:=⟨.type "code",.none,.fields #[.str n a,.str n b,.str "/claim/cut.py" c,.int l 0,.int k 0,.int 0 0,.int 0 0,.int 3 0,.ref r,.bool true,.int e 0,.ref u,.none,v,w,.ref x,.int y 0,.int l 0,.str "/claim/cut.py" d],#[]⟩
noncomputable def KK:PySem.Params->PySem.W.Frag:=fun P=>
 (nat_lit 1,⟨.type "dict",.none,.dict #[⟨PyData.keyHash P "builtins",.str "builtins" 162,.ref 4⟩,⟨PyData.keyHash P "__main__",.str "__main__" 163,.ref 5⟩] 2,#[]⟩)::
 (nat_lit 2,⟨.none,.none,.dict #[] 0,#[]⟩)::
 (nat_lit 3,⟨.type "dict",.none,.dict #[⟨PyData.keyHash P "__name__",.str "__name__" 165,.str "law_unlikeplace_k14_talks_known" 266⟩,⟨PyData.keyHash P "__doc__",.str "__doc__" 166,.none⟩,⟨PyData.keyHash P "__package__",.str "__package__" 167,.none⟩,⟨PyData.keyHash P "__loader__",.str "__loader__" 168,.builtin "__main__.__loader__#opaque"⟩,⟨PyData.keyHash P "__spec__",.str "__spec__" 169,.none⟩,⟨PyData.keyHash P "__annotations__",.str "__annotations__" 170,.ref 6⟩,⟨PyData.keyHash P "__builtins__",.str "__builtins__" 171,.ref 4⟩,⟨PyData.keyHash P "__file__",.str "__file__" 173,.str "/claim/cut.py" 172⟩,⟨PyData.keyHash P "__cached__",.str "__cached__" 174,.none⟩,⟨PyData.keyHash P "MOST_PLACES",.str "MOST_PLACES" 190,.int 5 189⟩,⟨PyData.keyHash P "is_whole",.str "is_whole" 197,.ref 21⟩,⟨PyData.keyHash P "is_bit",.str "is_bit" 204,.ref 28⟩,⟨PyData.keyHash P "are_places",.str "are_places" 211,.ref 35⟩,⟨PyData.keyHash P "is_place",.str "is_place" 219,.ref 42⟩,⟨PyData.keyHash P "is_word",.str "is_word" 225,.ref 47⟩,⟨PyData.keyHash P "is_rising",.str "is_rising" 231,.ref 52⟩,⟨PyData.keyHash P "is_talk",.str "is_talk" 243,.ref 59⟩,⟨PyData.keyHash P "is_end",.str "is_end" 251,.ref 66⟩,⟨PyData.keyHash P "is_turn",.str "is_turn" 259,.ref 73⟩,⟨PyData.keyHash P "are_says",.str "are_says" 265,.ref 78⟩,⟨PyData.keyHash P "_law_pen",.str "_law_pen" 276,.ref 85⟩,⟨PyData.keyHash P "_law_draw",.str "_law_draw" 286,.ref 92⟩,⟨PyData.keyHash P "_law_all",.str "_law_all" 297,.ref 99⟩,⟨PyData.keyHash P "_law_says",.str "_law_says" 303,.ref 104⟩,⟨PyData.keyHash P "_law_any_talk",.str "_law_any_talk" 315,.ref 111⟩,⟨PyData.keyHash P "_law_chain",.str "_law_chain" 328,.ref 118⟩,⟨PyData.keyHash P "_law_wide",.str "_law_wide" 334,.ref 123⟩,⟨PyData.keyHash P "_law_drawn_talk",.str "_law_drawn_talk" 343,.ref 130⟩,⟨PyData.keyHash P "_law_places",.str "_law_places" 350,.ref 137⟩,⟨PyData.keyHash P "_law_is_number",.str "_law_is_number" 358,.ref 144⟩,⟨PyData.keyHash P "_law_is_word",.str "_law_is_word" 364,.ref 149⟩,⟨PyData.keyHash P "_law_looked",.str "_law_looked" 370,.ref 154⟩,⟨PyData.keyHash P "_law_exchanged",.str "_law_exchanged" 381,.ref 161⟩,⟨PyData.keyHash P "_law_odd_says",.str "_law_odd_says" 387,.ref 166⟩,⟨PyData.keyHash P "_law_odd_talk",.str "_law_odd_talk" 402,.ref 173⟩,⟨PyData.keyHash P "_law_spoilt",.str "_law_spoilt" 416,.ref 180⟩,⟨PyData.keyHash P "_law_ended_so",.str "_law_ended_so" 428,.ref 187⟩,⟨PyData.keyHash P "_law_right",.str "_law_right" 438,.ref 194⟩,⟨PyData.keyHash P "law",.str "law" 454,.ref 201⟩] 39,#[]⟩)::
 (nat_lit 15,oT #[])::
 (nat_lit 17,oT #[.str "thing" 194])::
 (nat_lit 18,oT #[])::
 (nat_lit 20,oC "is_whole" 191 192 193 3 1 15 181 16 (.ref 17) (.ref 18) 19 195 196)::
 (nat_lit 21,oF "is_whole" 2 "unlikeplace.words" 187 20)::
 (nat_lit 22,oT #[])::
 (nat_lit 24,oT #[.str "thing" 201])::
 (nat_lit 25,oT #[])::
 (nat_lit 27,oC "is_bit" 198 199 200 5 1 22 181 23 (.ref 24) (.ref 25) 26 202 203)::
 (nat_lit 28,oF "is_bit" 3 "unlikeplace.words" 187 27)::
 (nat_lit 29,oT #[])::
 (nat_lit 31,oT #[.str "thing" 208])::
 (nat_lit 32,oT #[])::
 (nat_lit 34,oC "are_places" 205 206 207 7 1 29 181 30 (.ref 31) (.ref 32) 33 209 210)::
 (nat_lit 35,oF "are_places" 4 "unlikeplace.words" 187 34)::
 (nat_lit 36,oT #[])::
 (nat_lit 38,oT #[.str "places" 215,.str "thing" 216])::
 (nat_lit 39,oT #[])::
 (nat_lit 41,oC "is_place" 212 213 214 9 2 36 181 37 (.ref 38) (.ref 39) 40 217 218)::
 (nat_lit 42,oF "is_place" 5 "unlikeplace.words" 187 41)::
 (nat_lit 43,oT #[])::
 (nat_lit 46,oC "is_word" 220 221 222 11 2 43 181 44 .none .none 45 223 224)::
 (nat_lit 47,oF "is_word" 6 "unlikeplace.words" 187 46)::
 (nat_lit 48,oT #[])::
 (nat_lit 51,oC "is_rising" 226 227 228 15 1 48 181 49 .none .none 50 229 230)::
 (nat_lit 52,oF "is_rising" 7 "unlikeplace.words" 187 51)::
 (nat_lit 53,oT #[])::
 (nat_lit 55,oT #[.str "places" 237,.str "thing" 238,.str "waiting" 239,.str "part" 240])::
 (nat_lit 56,oT #[])::
 (nat_lit 58,oC "is_talk" 234 235 236 18 2 53 181 54 (.ref 55) (.ref 56) 57 241 242)::
 (nat_lit 59,oF "is_talk" 9 "unlikeplace.talks" 232 58)::
 (nat_lit 60,oT #[])::
 (nat_lit 62,oT #[.str "places" 247,.str "thing" 248])::
 (nat_lit 63,oT #[])::
 (nat_lit 65,oC "is_end" 244 245 246 28 2 60 181 61 (.ref 62) (.ref 63) 64 249 250)::
 (nat_lit 66,oF "is_end" 10 "unlikeplace.talks" 232 65)::
 (nat_lit 67,oT #[])::
 (nat_lit 69,oT #[.str "places" 255,.str "thing" 256])::
 (nat_lit 70,oT #[])::
 (nat_lit 72,oC "is_turn" 252 253 254 32 2 67 181 68 (.ref 69) (.ref 70) 71 257 258)::
 (nat_lit 73,oF "is_turn" 11 "unlikeplace.talks" 232 72)::
 (nat_lit 74,oT #[])::
 (nat_lit 77,oC "are_says" 260 261 262 36 2 74 181 75 .none .none 76 263 264)::
 (nat_lit 78,oF "are_says" 12 "unlikeplace.talks" 232 77)::
 (nat_lit 79,oT #[])::
 (nat_lit 81,oT #[.str "_law_script" 271,.str "_law_k" 272,.str "_law_cell" 273])::
 (nat_lit 82,oT #[])::
 (nat_lit 84,oC "_law_pen" 268 269 270 41 2 79 181 80 (.ref 81) (.ref 82) 83 274 275)::
 (nat_lit 85,oF "_law_pen" 14 "law_unlikeplace_k14_talks_known" 266 84)::
 (nat_lit 86,oT #[])::
 (nat_lit 88,oT #[.str "_law_pen_here" 280,.str "_law_many" 281,.str "_law_found" 282,.str "_law_number" 283])::
 (nat_lit 89,oT #[])::
 (nat_lit 91,oC "_law_draw" 277 278 279 48 2 86 181 87 (.ref 88) (.ref 89) 90 284 285)::
 (nat_lit 92,oF "_law_draw" 15 "law_unlikeplace_k14_talks_known" 266 91)::
 (nat_lit 93,oT #[])::
 (nat_lit 95,oT #[.str "_law_places_here" 290,.str "_law_found" 291,.str "_law_k" 292,.str "_law_longer" 293,.str "_law_word" 294])::
 (nat_lit 96,oT #[])::
 (nat_lit 98,oC "_law_all" 287 288 289 57 1 93 181 94 (.ref 95) (.ref 96) 97 295 296)::
 (nat_lit 99,oF "_law_all" 16 "law_unlikeplace_k14_talks_known" 266 98)::
 (nat_lit 100,oT #[])::
 (nat_lit 103,oC "_law_says" 298 299 300 65 2 100 181 101 .none .none 102 301 302)::
 (nat_lit 104,oF "_law_says" 17 "law_unlikeplace_k14_talks_known" 266 103)::
 (nat_lit 105,oT #[])::
 (nat_lit 107,oT #[.str "_law_pen_here" 307,.str "_law_places_here" 308,.str "_law_left" 309,.str "_law_hand" 310,.str "_law_says_here" 311,.str "_law_first" 312])::
 (nat_lit 108,oT #[])::
 (nat_lit 110,oC "_law_any_talk" 304 305 306 69 3 105 181 106 (.ref 107) (.ref 108) 109 313 314)::
 (nat_lit 111,oF "_law_any_talk" 18 "law_unlikeplace_k14_talks_known" 266 110)::
 (nat_lit 112,oT #[])::
 (nat_lit 114,oT #[.str "_law_pen_here" 319,.str "_law_places_here" 320,.str "_law_many" 321,.str "_law_talk" 322,.str "_law_k" 323,.str "_law_end" 324,.str "_law_pair" 325])::
 (nat_lit 115,oT #[])::
 (nat_lit 117,oC "_law_chain" 316 317 318 76 3 112 181 113 (.ref 114) (.ref 115) 116 326 327)::
 (nat_lit 118,oF "_law_chain" 19 "law_unlikeplace_k14_talks_known" 266 117)::
 (nat_lit 119,oT #[])::
 (nat_lit 122,oC "_law_wide" 329 330 331 83 3 119 181 120 .none .none 121 332 333)::
 (nat_lit 123,oF "_law_wide" 20 "law_unlikeplace_k14_talks_known" 266 122)::
 (nat_lit 124,oT #[])::
 (nat_lit 126,oT #[.str "_law_pen_here" 338,.str "_law_places_here" 339,.str "_law_way" 340])::
 (nat_lit 127,oT #[])::
 (nat_lit 129,oC "_law_drawn_talk" 335 336 337 90 2 124 181 125 (.ref 126) (.ref 127) 128 341 342)::
 (nat_lit 130,oF "_law_drawn_talk" 21 "law_unlikeplace_k14_talks_known" 266 129)::
 (nat_lit 131,oT #[])::
 (nat_lit 133,oT #[.str "_law_pen_here" 347])::
 (nat_lit 134,oT #[])::
 (nat_lit 136,oC "_law_places" 344 345 346 97 1 131 181 132 (.ref 133) (.ref 134) 135 348 349)::
 (nat_lit 137,oF "_law_places" 22 "law_unlikeplace_k14_talks_known" 266 136)::
 (nat_lit 138,oT #[])::
 (nat_lit 140,oT #[.str "_law_thing" 354,.str "_law_most" 355])::
 (nat_lit 141,oT #[])::
 (nat_lit 143,oC "_law_is_number" 351 352 353 99 2 138 181 139 (.ref 140) (.ref 141) 142 356 357)::
 (nat_lit 144,oF "_law_is_number" 23 "law_unlikeplace_k14_talks_known" 266 143)::
 (nat_lit 145,oT #[])::
 (nat_lit 148,oC "_law_is_word" 359 360 361 101 2 145 181 146 .none .none 147 362 363)::
 (nat_lit 149,oF "_law_is_word" 24 "law_unlikeplace_k14_talks_known" 266 148)::
 (nat_lit 150,oT #[])::
 (nat_lit 153,oC "_law_looked" 365 366 367 103 2 150 181 151 .none .none 152 368 369)::
 (nat_lit 154,oF "_law_looked" 25 "law_unlikeplace_k14_talks_known" 266 153)::
 (nat_lit 155,oT #[])::
 (nat_lit 157,oT #[.str "_law_pen_here" 374,.str "_law_says_here" 375,.str "_law_found" 376,.str "_law_at" 377,.str "_law_to" 378])::
 (nat_lit 158,oT #[])::
 (nat_lit 160,oC "_law_exchanged" 371 372 373 119 2 155 181 156 (.ref 157) (.ref 158) 159 379 380)::
 (nat_lit 161,oF "_law_exchanged" 26 "law_unlikeplace_k14_talks_known" 266 160)::
 (nat_lit 162,oT #[])::
 (nat_lit 165,oC "_law_odd_says" 382 383 384 126 3 162 181 163 .none .none 164 385 386)::
 (nat_lit 166,oF "_law_odd_says" 27 "law_unlikeplace_k14_talks_known" 266 165)::
 (nat_lit 167,oT #[])::
 (nat_lit 169,oT #[.str "_law_pen_here" 391,.str "_law_places_here" 392,.str "_law_talk" 393,.str "_law_end" 394,.str "_law_kinds" 395,.str "_law_hand" 396,.str "_law_says_here" 397,.str "_law_first" 398,.str "_law_second" 399])::
 (nat_lit 170,oT #[])::
 (nat_lit 172,oC "_law_odd_talk" 388 389 390 138 3 167 181 168 (.ref 169) (.ref 170) 171 400 401)::
 (nat_lit 173,oF "_law_odd_talk" 28 "law_unlikeplace_k14_talks_known" 266 172)::
 (nat_lit 174,oT #[])::
 (nat_lit 176,oT #[.str "_law_pen_here" 406,.str "_law_places_here" 407,.str "_law_talk" 408,.str "_law_hand" 409,.str "_law_says_here" 410,.str "_law_first" 411,.str "_law_second" 412,.str "_law_way" 413])::
 (nat_lit 177,oT #[])::
 (nat_lit 179,oC "_law_spoilt" 403 404 405 153 3 174 181 175 (.ref 176) (.ref 177) 178 414 415)::
 (nat_lit 180,oF "_law_spoilt" 29 "law_unlikeplace_k14_talks_known" 266 179)::
 (nat_lit 181,oT #[])::
 (nat_lit 183,oT #[.str "_law_talk" 420,.str "_law_end" 421,.str "_law_path" 422,.str "_law_side" 423,.str "_law_found" 424,.str "_law_one" 425])::
 (nat_lit 184,oT #[])::
 (nat_lit 186,oC "_law_ended_so" 417 418 419 163 2 181 181 182 (.ref 183) (.ref 184) 185 426 427)::
 (nat_lit 187,oF "_law_ended_so" 30 "law_unlikeplace_k14_talks_known" 266 186)::
 (nat_lit 188,oT #[])::
 (nat_lit 190,oT #[.str "_law_places_here" 432,.str "_law_thing" 433,.str "_law_kept" 434,.str "_law_found" 435])::
 (nat_lit 191,oT #[])::
 (nat_lit 193,oC "_law_right" 429 430 431 173 2 188 181 189 (.ref 190) (.ref 191) 192 436 437)::
 (nat_lit 194,oF "_law_right" 31 "law_unlikeplace_k14_talks_known" 266 193)::
 (nat_lit 195,oT #[])::
 (nat_lit 197,oT #[.str "_law_script" 442,.str "_law_k" 443,.str "_law_pen_here" 444,.str "_law_places_here" 445,.str "_law_talk" 446,.str "_law_turn" 447,.str "_law_other" 448,.str "_law_deep_one" 449,.str "_law_end" 450,.str "_law_broad" 451])::
 (nat_lit 198,oT #[])::
 (nat_lit 200,oC "law" 439 440 441 177 1 195 181 196 (.ref 197) (.ref 198) 199 452 453)::
 (nat_lit 201,oF "law" 32 "law_unlikeplace_k14_talks_known" 266 200)::[]
end My
noncomputable def PySem.W.Fast.tw6894247980046229166:PySem.Params->PySem.W.Frag:=My.KK
theorem PySem.W.Fast.te6894247980046229166:My.KK=PySem.W.Fast.tw6894247980046229166:=rfl
noncomputable def PySem.W.Fast.tw7041551446884823275:PySem.Program:=PySem.Challenge.pw_unlikeplace_k14_talks_known
theorem PySem.W.Fast.te7041551446884823275:PySem.Challenge.pw_unlikeplace_k14_talks_known=PySem.W.Fast.tw7041551446884823275:=rfl
namespace PySem.W.Fast
theorem te17597860529927178240:True:=⟨⟩
theorem te8565196270518482976:True:=⟨⟩
theorem te5607835988129534176:True:=⟨⟩
theorem te13945291614947446176:True:=⟨⟩
theorem te653673692283291104:True:=⟨⟩
theorem te16222090622338633440:True:=⟨⟩
theorem te17683466089085434688:True:=⟨⟩
theorem te5931732105140402016:True:=⟨⟩
theorem te695350192888475520:True:=⟨⟩
theorem te12070037881763732481:True:=⟨⟩
theorem te3743269212069903457:True:=⟨⟩
theorem te7590614940449091809:True:=⟨⟩
theorem te2619277590146448673:True:=⟨⟩
theorem te18079620487344922113:True:=⟨⟩
theorem te16613430762558536577:True:=⟨⟩
theorem te11883371262214771714:True:=⟨⟩
theorem te5784659139845293442:True:=⟨⟩
theorem te457727785338414690:True:=⟨⟩
theorem te12497303486175729250:True:=⟨⟩
theorem te6272343826746075810:True:=⟨⟩
theorem te6140920379273186082:True:=⟨⟩
theorem te15952955186668661570:True:=⟨⟩
theorem te11703546087318153026:True:=⟨⟩
theorem te7518798800276550851:True:=⟨⟩
theorem te10976823048750140643:True:=⟨⟩
theorem te1694163204916464067:True:=⟨⟩
theorem te13022054546245093923:True:=⟨⟩
noncomputable def My.sts_129:List PySem.Stmt:=[My.top 16,My.top 17,My.top 18,My.top 19,My.top 20,My.top 21,My.top 22,My.top 23,My.top 24,My.top 25,My.top 26,My.top 27,My.top 28]
noncomputable def tw120806253198838467:List PySem.Stmt:=My.sts_129
theorem te120806253198838467:My.sts_129=tw120806253198838467:=rfl
theorem te1900721396262370083:True:=⟨⟩
theorem te11518287839470498116:True:=⟨⟩
theorem te1146186162882159012:True:=⟨⟩
theorem te12352991247215681188:True:=⟨⟩
theorem te7783561608107898532:True:=⟨⟩
theorem te7255960390242116324:True:=⟨⟩
theorem te1537300371979120869:True:=⟨⟩
theorem te13463129316992171269:True:=⟨⟩
theorem te11169736578877459717:True:=⟨⟩
theorem te10706356308620130565:True:=⟨⟩
theorem te10011964681319069029:True:=⟨⟩
theorem te3214287833295438213:True:=⟨⟩
theorem te4673349357577825989:True:=⟨⟩
theorem te13753747185411879685:True:=⟨⟩
theorem te14164749789116507941:True:=⟨⟩
theorem te2607496736486648102:True:=⟨⟩
theorem te10841994356969599334:True:=⟨⟩
theorem te4334438023186502246:True:=⟨⟩
theorem te6079976896316763782:True:=⟨⟩
theorem te529401637577372646:True:=⟨⟩
theorem te16674578160906670247:True:=⟨⟩
theorem te10517724939804854599:True:=⟨⟩
theorem te10994029426903044679:True:=⟨⟩
theorem te18142983841290654279:True:=⟨⟩
theorem te4587544940201886375:True:=⟨⟩
theorem te11840851264592753928:True:=⟨⟩
theorem te15222801483618875784:True:=⟨⟩
theorem te7364457130742890984:True:=⟨⟩
theorem te5187625153114448392:True:=⟨⟩
theorem te7378351710629893736:True:=⟨⟩
theorem te7952354111406138984:True:=⟨⟩
theorem te15003961059563075368:True:=⟨⟩
theorem te10219985227174806312:True:=⟨⟩
theorem te16977400250546634568:True:=⟨⟩
theorem te10145994592618501225:True:=⟨⟩
theorem te6518904488163734857:True:=⟨⟩
theorem te1852318653868239305:True:=⟨⟩
theorem te8527504747708890697:True:=⟨⟩
theorem te9085854674415754921:True:=⟨⟩
theorem te6811415705807706825:True:=⟨⟩
theorem te5517270185769971433:True:=⟨⟩
theorem te4803423261013888042:True:=⟨⟩
theorem te15366238977801575178:True:=⟨⟩
theorem te17146168504693286475:True:=⟨⟩
theorem te6709089004274778380:True:=⟨⟩
theorem te5076336053800333644:True:=⟨⟩
theorem te14811284194148890508:True:=⟨⟩
theorem te15130577989934664652:True:=⟨⟩
theorem te8065869942243403949:True:=⟨⟩
theorem te6960678298140045645:True:=⟨⟩
theorem te16050022137562998285:True:=⟨⟩
theorem te13963594868437510989:True:=⟨⟩
theorem te8343871321783981997:True:=⟨⟩
theorem te9381989661450391566:True:=⟨⟩
theorem te7180995322724709518:True:=⟨⟩
theorem te13636829655019126030:True:=⟨⟩
theorem te13248677212345125454:True:=⟨⟩
theorem te4010585278666147470:True:=⟨⟩
theorem te3099742270373800718:True:=⟨⟩
theorem te8023623758673015598:True:=⟨⟩
theorem te6971736070122469198:True:=⟨⟩
theorem te14229941817769825230:True:=⟨⟩
theorem te14752067779307723983:True:=⟨⟩
theorem te14088465823425531151:True:=⟨⟩
theorem te14136391822595261743:True:=⟨⟩
theorem te16836207782696597423:True:=⟨⟩
theorem te5298638769652921520:True:=⟨⟩
theorem te14310868861611799760:True:=⟨⟩
noncomputable def My.view_39:PySem.Program:={ PySem.Challenge.pw_unlikeplace_k14_talks_known with main:={ PySem.Challenge.pw_unlikeplace_k14_talks_known.main with body:=[My.top 1,My.top 2,My.top 3,My.top 4,My.top 5,My.top 6,My.top 7,My.top 9,My.top 10,My.top 11,My.top 12,My.top 14,My.top 15,My.top 16,My.top 17,My.top 18,My.top 19,My.top 20,My.top 21,My.top 22,My.top 23,My.top 24,My.top 25,My.top 26,My.top 27,My.top 28,My.top 29,My.top 30,My.top 31,My.top 32] } }
noncomputable def tw9217068061755334128:PySem.Program:=My.view_39
theorem te9217068061755334128:My.view_39=tw9217068061755334128:=rfl
theorem te7420109027049079280:True:=⟨⟩
theorem te8680862668024371792:True:=⟨⟩
theorem te7404301046065040304:True:=⟨⟩
theorem te1092697785734302801:True:=⟨⟩
theorem te8514718655252138321:True:=⟨⟩
theorem te7672679936721571345:True:=⟨⟩
theorem te9346494401537920561:True:=⟨⟩
theorem te15458662528413160017:True:=⟨⟩
theorem te13704710471716440753:True:=⟨⟩
theorem te1010518361736838993:True:=⟨⟩
theorem te12974916201957517201:True:=⟨⟩
theorem te15404300507244571762:True:=⟨⟩
theorem te9924808779815409874:True:=⟨⟩
theorem te17787273890134292786:True:=⟨⟩
theorem te13753360769753335218:True:=⟨⟩
theorem te11608129803498388531:True:=⟨⟩
theorem te12489560417609422931:True:=⟨⟩
theorem te14025135717873343731:True:=⟨⟩
theorem te5309391814802484563:True:=⟨⟩
theorem te1091281789514486163:True:=⟨⟩
theorem te13098515776542786003:True:=⟨⟩
theorem te88844465647842835:True:=⟨⟩
theorem te12952921152937932531:True:=⟨⟩
theorem te13631347604756497203:True:=⟨⟩
theorem te810122297290451827:True:=⟨⟩
theorem te15061379334270446547:True:=⟨⟩
theorem te7005669258516491444:True:=⟨⟩
theorem te8516443838295189748:True:=⟨⟩
theorem te15611384208703924628:True:=⟨⟩
theorem te3929144156083484052:True:=⟨⟩
noncomputable def My.sts_49:List PySem.Stmt:=[My.top 0,My.top 1,My.top 2,My.top 3,My.top 4,My.top 5,My.top 6,My.top 7,My.top 8,My.top 9,My.top 10,My.top 11,My.top 12,My.top 13,My.top 14,My.top 15]
noncomputable def tw2530561927593674324:List PySem.Stmt:=My.sts_49
theorem te2530561927593674324:My.sts_49=tw2530561927593674324:=rfl
theorem te17976241989107239604:True:=⟨⟩
theorem te1018218436148002740:True:=⟨⟩
theorem te4027296249804026836:True:=⟨⟩
theorem te6596006769520487445:True:=⟨⟩
theorem te8351892155157604501:True:=⟨⟩
theorem te17670434696405403957:True:=⟨⟩
theorem te12688695222374576469:True:=⟨⟩
theorem te10142147436171819573:True:=⟨⟩
theorem te17776911487357198101:True:=⟨⟩
theorem te9561491815800165494:True:=⟨⟩
theorem te10179948762882180214:True:=⟨⟩
theorem te2809908394976243222:True:=⟨⟩
theorem te22812177048865398:True:=⟨⟩
theorem te13977623348111121302:True:=⟨⟩
theorem te1734639531685360663:True:=⟨⟩
theorem te16090637916322550871:True:=⟨⟩
theorem te1674006954707212631:True:=⟨⟩
theorem te6891715682149674455:True:=⟨⟩
theorem te10858131478482292471:True:=⟨⟩
theorem te772219545532304183:True:=⟨⟩
theorem te13629227817549645655:True:=⟨⟩
theorem te288600766458910808:True:=⟨⟩
theorem te10284004470656538712:True:=⟨⟩
theorem te9857738797019160856:True:=⟨⟩
theorem te11115904928907985304:True:=⟨⟩
theorem te15127317184501158360:True:=⟨⟩
theorem te9088282153654638136:True:=⟨⟩
theorem te6670045650668515000:True:=⟨⟩
theorem te17889348828137401080:True:=⟨⟩
theorem te4818899596453429240:True:=⟨⟩
theorem te2971523737578975673:True:=⟨⟩
theorem te10425634780235292345:True:=⟨⟩
theorem te8820084477728525017:True:=⟨⟩
theorem te13346171322945964985:True:=⟨⟩
theorem te13494292663412980794:True:=⟨⟩
theorem te1221473830364318778:True:=⟨⟩
theorem te189656450131031258:True:=⟨⟩
theorem te7582216470073812378:True:=⟨⟩
theorem te8801271361969187386:True:=⟨⟩
theorem te11235934268879974010:True:=⟨⟩
theorem te3667161638599948250:True:=⟨⟩
noncomputable def My.sts_212:List PySem.Stmt:=[My.top 29,My.top 30,My.top 31,My.top 32]
noncomputable def tw11858262867478797371:List PySem.Stmt:=My.sts_212
theorem te11858262867478797371:My.sts_212=tw11858262867478797371:=rfl
theorem te6092075456752720123:True:=⟨⟩
theorem te910669496272482683:True:=⟨⟩
theorem te17577617521993210267:True:=⟨⟩
theorem te4306890267876116923:True:=⟨⟩
theorem te11491268677056398875:True:=⟨⟩
theorem te12386647576854085435:True:=⟨⟩
theorem te2042333834496061371:True:=⟨⟩
theorem te9142158994029428731:True:=⟨⟩
theorem te6986806316852584892:True:=⟨⟩
theorem te7570936138759557756:True:=⟨⟩
theorem te571508928727070460:True:=⟨⟩
theorem te4322886441004398621:True:=⟨⟩
theorem te4053304087089003581:True:=⟨⟩
theorem te8338500771805483389:True:=⟨⟩
theorem te402943769361661405:True:=⟨⟩
theorem te15241367035966798333:True:=⟨⟩
theorem te15609331794415520349:True:=⟨⟩
theorem te11137812410959015805:True:=⟨⟩
theorem te7385800295656870877:True:=⟨⟩
theorem te16181117784673298526:True:=⟨⟩
theorem te11754691972206956734:True:=⟨⟩
theorem te4984333053030660350:True:=⟨⟩
theorem te15272436383145771518:True:=⟨⟩
theorem te14826961249767258654:True:=⟨⟩
theorem te6102009948575315486:True:=⟨⟩
theorem te13899011620573854494:True:=⟨⟩
theorem te514328141110864734:True:=⟨⟩
theorem te6642689567287794590:True:=⟨⟩
theorem te8558239523881363583:True:=⟨⟩
theorem te5541630460083842783:True:=⟨⟩
theorem te13510488629983529855:True:=⟨⟩
end PySem.W.Fast
open PySem PySem.W PyProof.Rows
local macro_rules | `(tactic| walk_at "q")=>`(tactic| (refine' L2.D0 ?d1 ?d2 ?d3 ?d4;(case d1=>k_is);(case d2=>k_is);(case d3=>k_is);(case d4=>k_is)))
set_option maxRecDepth 100000 in
set_option maxHeartbeats 0 in
theorem PySem.Challenge.cw_unlikeplace_k14_talks_known_holds : PySem.Challenge.rw_unlikeplace_k14_talks_known.Holds := by
 w_on;o_law
 o_head (PySem.W.kHook My.KK [nat_lit 1,nat_lit 2,nat_lit 3,nat_lit 15,nat_lit 17,nat_lit 18,nat_lit 20,nat_lit 21,nat_lit 22,nat_lit 24,nat_lit 25,nat_lit 27,nat_lit 28,nat_lit 29,nat_lit 31,nat_lit 32,nat_lit 34,nat_lit 35,nat_lit 36,nat_lit 38,nat_lit 39,nat_lit 41,nat_lit 42,nat_lit 43,nat_lit 46,nat_lit 47,nat_lit 48,nat_lit 51,nat_lit 52,nat_lit 53,nat_lit 55,nat_lit 56,nat_lit 58,nat_lit 59,nat_lit 60,nat_lit 62,nat_lit 63,nat_lit 65,nat_lit 66,nat_lit 67,nat_lit 69,nat_lit 70,nat_lit 72,nat_lit 73,nat_lit 74,nat_lit 77,nat_lit 78,nat_lit 79,nat_lit 81,nat_lit 82,nat_lit 84,nat_lit 85,nat_lit 86,nat_lit 88,nat_lit 89,nat_lit 91,nat_lit 92,nat_lit 93,nat_lit 95,nat_lit 96,nat_lit 98,nat_lit 99,nat_lit 100,nat_lit 103,nat_lit 104,nat_lit 105,nat_lit 107,nat_lit 108,nat_lit 110,nat_lit 111,nat_lit 112,nat_lit 114,nat_lit 115,nat_lit 117,nat_lit 118,nat_lit 119,nat_lit 122,nat_lit 123,nat_lit 124,nat_lit 126,nat_lit 127,nat_lit 129,nat_lit 130,nat_lit 131,nat_lit 133,nat_lit 134,nat_lit 136,nat_lit 137,nat_lit 138,nat_lit 140,nat_lit 141,nat_lit 143,nat_lit 144,nat_lit 145,nat_lit 148,nat_lit 149,nat_lit 150,nat_lit 153,nat_lit 154,nat_lit 155,nat_lit 157,nat_lit 158,nat_lit 160,nat_lit 161,nat_lit 162,nat_lit 165,nat_lit 166,nat_lit 167,nat_lit 169,nat_lit 170,nat_lit 172,nat_lit 173,nat_lit 174,nat_lit 176,nat_lit 177,nat_lit 179,nat_lit 180,nat_lit 181,nat_lit 183,nat_lit 184,nat_lit 186,nat_lit 187,nat_lit 188,nat_lit 190,nat_lit 191,nat_lit 193,nat_lit 194,nat_lit 195,nat_lit 197,nat_lit 198,nat_lit 200,nat_lit 201] (fun _=>by kernel_rfl))
 (case hw=>w_witness2)
 k_fill
 refine L2.xp (l:=PySem.Challenge.rw_unlikeplace_k14_talks_known) (n:=63) (k:=45) (x:="_law_script") (CX:=L2.CX0) (sp:=My.tz) rfl (by decide) rfl ⟨rfl,by decide,by decide,rfl⟩ (fun w h Y=>by first | exact PySem.W.kIn_of Y | exact PySem.W.km_in_of Y) (fun w=>by kernel_rfl) ?F ?S ?C
 case F =>
  intro w mg fa h KX G hmg
  have T : ∃ t,My.Txt (L2.KOf KX) mg t:=by
   dsimp only [L2.KOf]
   refine' My.DB KX G ?dS ?fM ?cF ?dL ?eD ?c9 ?eG ?fW ?eF ?dR ?hU ?fV ?hJ ?fU ?cG ?eI ?fE ?bZ ?dF ?cj ?db ?dM ?ck ?cA ?cC ?dP ?cD ?eH ?ze ?zG ?xt ?vx ?fA ?sm ?yL ?yb ?tj ?zM ?gl ?yn ?tm ?zl ?oM ?tU ?zL ?lO ?zV ?oP
   (case dS=>walk_at "q")
   (case fM=>walk_at "q")
   (case cF=>walk_at "q")
   (case dL=>walk_at "q")
   (case eD=>walk_at "q")
   (case c9=>walk_at "q")
   (case eG=>walk_at "q")
   (case fW=>walk_at "q")
   (case eF=>walk_at "q")
   (case dR=>walk_at "q")
   (case hU=>walk_at "q")
   (case fV=>walk_at "q")
   (case hJ=>walk_at "q")
   (case fU=>walk_at "q")
   (case cG=>walk_at "q")
   (case eI=>walk_at "q")
   (case fE=>walk_at "q")
   (case bZ=>walk_at "q")
   (case dF=>walk_at "q")
   (case cj=>walk_at "q")
   (case db=>walk_at "q")
   (case dM=>walk_at "q")
   (case ck=>walk_at "q")
   (case cA=>walk_at "q")
   (case cC=>walk_at "q")
   (case dP=>walk_at "q")
   (case cD=>walk_at "q")
   (case eH=>walk_at "q")
   (case ze=>k_is)
   (case zG=>k_is)
   (case xt=>k_is)
   (case vx=>k_is)
   (case fA=>k_is)
   (case sm=>kernel_rfl)
   (case yL=>k_is)
   (case yb=>k_is)
   (case tj=>k_is)
   (case zM=>k_is)
   (case gl=>k_is)
   (case yn=>k_is)
   (case tm=>k_is)
   (case zl=>k_is)
   (case oM=>k_is)
   (case tU=>k_is)
   (case zL=>k_is)
   (case lO=>k_is)
   (case zV=>k_is)
   (case oP=>k_is)
  obtain ⟨t,T⟩:=T
  have e0:=hmg.symm.trans T.Fe
  cases e0
  exact ⟨_,T.C7,fun base=>My.Df T⟩
 case S=>exact fun K H a ns hl hO hS=>My.wE hl hO hS
 case C=>exact fun _ _ _ _ h=>h
