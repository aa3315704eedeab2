import PyProof.Rows.All
import Wide.All
import OpenK.AllK
import Wide.FinOn
import Lean
import PyProof.EqAt
import PyProof.EqKinds
import PyProof.TupleCall
import PyProof.NeKinds
import PyProof.Rows.StrLen
import PyProof.AutoIntG2
import PyProof.FactsAll.int_6
import PyProof.Rows.BootFacts.P1
import PyProof.ReprRoads
import PyProof.ListRange
import PyProof.TupleOfSeq
import PyProof.EnumMake
import PyProof.StrWalks
import PyProof.Rows.Range3
import PyProof.Rows.SetFrom
import KE.KIntText
import PyProof.FString
import PyProof.StrCalls2
import PyProof.StrOps2
import PyProof.SliceStr2
import PyProof.StrBlockI
import PyProof.StrBlockL
import PyProof.StrLaws
import OpenK.KOwn
import KE.KTryMore
import PyProof.ExcAttrAll.ValueError
import PyProof.NsDelKeeps
import KE.KRevIter
import PyProof.DictRoadsH
import PyProof.ListMulRoad
import PyProof.ExcInit
import PyProof.InstStoreFacts
import PyProof.AssignAttr
import PySem.SetOps
import PyProof.SetScanFacts
import PyProof.TupleKey
import PyProof.SetKind
import PyProof.IsRules
import PyProof.FactsAll.set
import PyProof.CollectIter
import PyProof.CollectWalk
import PyProof.WalksMore
import PyProof.Rows.FactsT3
import PySem.Challenge.RW_unlikeplace_k30_papers_of_edges
noncomputable section
set_option Elab.async false
set_option linter.all false
set_option maxRecDepth 100000
namespace L2
open PySem PySem.Spec PyProof.Rows
noncomputable abbrev Key:=Sum Int Str
noncomputable def B5:Key->Value->Bool
 |.inl k,v=>Value.isInt k v
 |.inr x,v=>Value.isStrOf x v
noncomputable def FX(w:World):Key->Int
 |.inl k=>hashInt k
 |.inr x=>hashStr w x
theorem bH:∀ {k:Key} {v:Value},B5 k v=true->(∃i t,k=Sum.inl i/\v=Value.int i t)\/(∃x t,k=Sum.inr x/\v=Value.str x t)
 |.inl i,v,h=>by
  obtain⟨t,e⟩:=Value.isInt_shape (k:=i) (v:=v) h;exact .inl ⟨i,t,rfl,e⟩
 |.inr x,v,h=>by
  obtain⟨t,e⟩:=Value.isStrOf_shape (x:=x) (v:=v) h;exact .inr ⟨x,t,rfl,e⟩
theorem D0(a b:Int):decide ((Sum.inl a:Key)=Sum.inl b)=(a == b):=by
 by_cases e:a=b
 ·subst e;simp
 ·have h:¬ (Sum.inl a:Key)=Sum.inl b:=fun q=>e (Sum.inl.inj q)
  rw[decide_eq_false h];exact(beq_eq_false_iff_ne.mpr e).symm
theorem C5(a b:Str):decide ((Sum.inr a:Key)=Sum.inr b)=decide (a=b):=by
 by_cases e:a=b
 ·subst e;simp
 ·have h:¬ (Sum.inr a:Key)=Sum.inr b:=fun q=>e (Sum.inr.inj q)
  rw[decide_eq_false h,decide_eq_false e]
theorem Cu(a:Int)(b:Str):decide ((Sum.inl a:Key)=Sum.inr b)=false:=decide_eq_false (fun q=>nomatch q)
theorem DV(a:Str)(b:Int):decide ((Sum.inr a:Key)=Sum.inl b)=false:=decide_eq_false (fun q=>nomatch q)
noncomputable def hJ(prog:Program)(w:World):PySem.KeyKind prog w Key where
 is:=B5
 hash:=FX w
 inj:=fun v a b ha hb=>by
  rcases bH ha with⟨i,t,rfl,rfl⟩|⟨x,t,rfl,rfl⟩
  ·rcases bH hb with⟨j,u,rfl,e⟩|⟨y,u,rfl,e⟩
   ·injection e with e1 _;rw[e1]
   ·exact nomatch e
  ·rcases bH hb with⟨j,u,rfl,e⟩|⟨y,u,rfl,e⟩
   ·exact nomatch e
   ·injection e with e1 _;rw[e1]
 byValue:=fun k v h=>by
  rcases bH h with⟨i,t,rfl,rfl⟩|⟨x,t,rfl,rfl⟩<;>rfl
 pyHash:=fun hv h=>by
  rcases bH hv with⟨i,t,rfl,rfl⟩|⟨x,t,rfl,rfl⟩
  ·exact wpAny_pyHash_int h
  ·exact wpAny_pyHash_str h
 eqBool:=fun hu hv h=>by
  rcases bH hu with⟨i,t,rfl,rfl⟩|⟨x,t,rfl,rfl⟩
  ·rcases bH hv with⟨j,u,rfl,rfl⟩|⟨y,u,rfl,rfl⟩
   ·rw[D0] at h;exact wpAny_eqBool_int h
   ·rw[Cu] at h;exact SeqAt.EqAt.int_str i t y u _ _ _ _ h
  ·rcases bH hv with⟨j,u,rfl,rfl⟩|⟨y,u,rfl,rfl⟩
   ·rw[DV] at h;exact SeqAt.EqAt.str_int x t j u _ _ _ _ h
   ·rw[C5] at h;exact wpAny_eqBool_str h
 «strs»:=fun k x t v h=>by
  rcases bH h with⟨i,u,rfl,e⟩|⟨y,u,rfl,e⟩
  ·exact nomatch e
  ·injection e with e1 _
   subst e1;cases v<;>rfl
inductive V where
 |non|bl (b:Bool)|int (i:Int)|str (x:Str)|byt (b:Array UInt8)|flt (b:UInt64)|ref (a:Addr)|ty (n:String)
 deriving DecidableEq
noncomputable def bo:V->Value->Prop
 |.non,u=>u=Value.none
 |.bl b,u=>u=Value.bool b
 |.int i,u=>∃t,u=Value.int i t
 |.str x,u=>∃t,u=Value.str x t
 |.byt b,u=>∃t,u=Value.bytes b t
 |.flt b,u=>∃t,u=Value.float b t
 |.ref a,u=>u=Value.ref a
 |.ty n,u=>u=Value.type n
noncomputable abbrev aH:List V->List Value->Prop:=Paired bo
theorem aH.length{xs:List V}{us:List Value}(r:aH xs us):xs.length=us.length:=Paired.length r
theorem aH.get:∀ {xs:List V} {us:List Value} {i:Nat} {x:V},aH xs us->xs[i]?=some x->∃u,us[i]?=some u/\bo x u
 |_,_,_,_,.nil,e=>by simp at e
 |_,_,0,_,.cons r _,e=>by simp at e;subst e;exact⟨_,rfl,r⟩
 |_,_,i+1,x,.cons _ t,e=>by
  obtain⟨u,h1,h2⟩:=aH.get (i:=i) (x:=x) t (by simpa using e)
  exact⟨u,by simpa using h1,h2⟩
theorem aH.set{x:V}{u:Value}(r:bo x u):∀ {xs:List V} {us:List Value} (i:Nat),aH xs us->aH (xs.set i x) (us.set i u)
 |_,_,_,.nil=>.nil
 |_,_,0,.cons _ t=>.cons r t
 |_,_,i+1,.cons q t=>.cons q (aH.set r i t)
theorem aH.append:∀ {xs ys:List V} {us ws:List Value},aH xs us->aH ys ws->aH (xs++ys) (us++ws)
 |_,_,_,_,.nil,s=>s
 |_,_,_,_,.cons r t,s=>.cons r (aH.append t s)
theorem aH.take:∀ {xs:List V} {us:List Value} (n:Nat),aH xs us->aH (xs.take n) (us.take n)
 |_,_,0,_=>.nil
 |_,_,_+1,.nil=>.nil
 |_,_,n+1,.cons r t=>.cons r (aH.take n t)
theorem aH.drop:∀ {xs:List V} {us:List Value} (n:Nat),aH xs us->aH (xs.drop n) (us.drop n)
 |_,_,0,r=>r
 |_,_,_+1,.nil=>.nil
 |_,_,n+1,.cons _ t=>aH.drop n t
noncomputable def DF:Option V->Option Value->Prop
 |some v,some u=>bo v u
 |none,none=>True
 |_,_=>False
noncomputable def KV{κ:Type}:List (κ×V)->List (κ×Value)->Prop:=Paired fun(p:κ×V) (q:κ×Value)=>p.1=q.1/\bo p.2 q.2
noncomputable def kV:Key->V
 |.inl i=>.int i
 |.inr x=>.str x
inductive HO where
 |lst (xs:List V)
 |tup (xs:List V)
 |dK (kvs:List (Key×V))|dT (kvs:List (List Key×V))
 |set (S:Int->Bool) (n:Nat)
 |ins (C dx:Addr) (fs:List (Str×V))
 |own (x:Addr)
 |xd (fs:List (Str×V))
 |met (f x:Addr)
 |rng (lo hi:Int)
 |frz (o:Obj) (u:HO)
 |tbl (ps:Array Value)
 |ext (φ:Heap->Prop)
noncomputable abbrev Hp:=Addr->Option HO
noncomputable def upd(H:Hp)(a:Addr)(o:HO):Hp:=fun b=>if b=a then some o else H b
theorem cA{H:Hp}{a:Addr}{o:HO}:upd H a o a=some o:=by unfold upd;rw[if_pos rfl]
theorem aG{H:Hp}{a b:Addr}{o:HO}(h:b≠a):upd H a o b=H b:=by unfold upd;rw[if_neg h]
theorem bb{H:Hp}{a b:Addr}{o:HO}(h:H a=some o)(h':H b=none):a≠b:=by
 intro e;subst e;rw[h] at h';cases h'
noncomputable def oA(h:Heap)(a:Addr)(items:Array Value):Prop:=IsTup h a items/\∃o,h.get? a=some o/\o.dict=none
theorem oA.lt{h:Heap}{a:Addr}{items:Array Value}(x:oA h a items):a<h.objs.size:=x.1.lt
theorem oA.new(h:Heap)(items:Array Value):oA (h.push { cls:=.type "tuple",data:=.seq items }) h.objs.size items:=⟨IsTup.new h items,_,Heap.get?_push_size _ rfl,rfl⟩
noncomputable def u6(H:Hp)(a:Addr)(ps qs:Array Value):Prop:=TriplesOk qs.toList/\∀(pos:Pos)(cv:Value),codeAmong pos qs.toList=some cv ->
 ∃(c:Addr)(o:Obj)(vs:Array Value)(t:Tok)(q:Str),cv=.ref c/\H c=some (.frz o (.own a))/\o.data=.fields vs/\vs[1]?=some (.str q t)/\ps[0]?=some (.str q 0)
theorem u6.mono{H H':Hp}{a:Addr}{ps qs:Array Value}(x:u6 H a ps qs)(k:∀b o u,H b=some (.frz o u)->H' b=some (.frz o u)):u6 H' a ps qs:=
 ⟨x.1,fun pos cv e=>let ⟨c,o,vs,t,q,e1,e2,r⟩:=x.2 pos cv e;⟨c,o,vs,t,q,e1,k _ _ _ e2,r⟩⟩
section
variable(P:Program)(w:World)
noncomputable def bV(H:Hp)(h:Heap)(a:Addr):HO->Prop
 |.lst xs=>xs.length<=sizeLine/\∃(its:List Value)(n:Nat),aH xs its/\h.get? a=some { cls:=.type "list",data:=.seq its.toArray n }
 |.tup xs=>xs.length<=sizeLine/\∃its:List Value,aH xs its/\oA h a its.toArray
 |.dK kvs=>kvs.length<=sizeLine/\(a == sysModules)=false/\∃vs,KV kvs vs/\h.DictOf (hJ P w) a vs
 |.dT kvs=>kvs.length<=sizeLine/\(a == sysModules)=false/\∃xs:List (List Key×Addr×Value),
   Paired (fun(p:List Key×V) (q:List Key×Addr×Value)=>p.1=q.1/\H q.2.1=some (.tup (p.1.map kV))/\bo p.2 q.2.2) kvs xs /\
   ∃o es ep,h.get? a=some o/\o.ExactDict/\o.data=.dict es ep/\es.toList=xs.map (entryOfKey (tupleKind (hJ P w)))/\(xs.map (·.1)).Nodup
 |.set S n=>h.SetOf (intKind P w) a S n
 |.ins C dx fs=>H dx=some (.own a)/\fs.length<=1000/\dx≠a/\h.get? a=some (W.instObj C dx) /\
   ∃mA,h.Ns1 dx mA/\(∀f,DF (fs.lookup f) (mA f))/\PySem.Within mA (fs.map (·.1))
 |.own _=>∃o,h.get? a=some o
 |.xd fs=>∃mA,h.Ns1 a mA/\∀f,DF (fs.lookup f) (mA f)
 |.rng lo hi=>∃t u v,h.get? a=some { cls:=.type "range",data:=.fields #[.int lo t,.int hi u,.int 1 v] }
 |.frz o u=>h.get? a=some o/\bV H h a u
 |.tbl ps=>∃qs:Array Value,h.get? a=some { cls:=.none,data:=.fields qs }/\u6 H a ps qs
 |.met f x=>h.get? a=some (W.methodObj (.ref f) (.ref x))
 |.ext φ=>φ h/\(∃o,h.get? a=some o)/\∀h1 h2:Heap,φ h1->(∀o,h1.get? a=some o->h2.get? a=some o)->φ h2
noncomputable def HOk(H:Hp)(h:Heap):Prop:=∀a o,H a=some o->bV P w H h a o
end
section
variable{P:Program}{w:World}{H H':Hp}{h h':Heap}{a:Addr}{o:HO}
theorem bV.lt(x:bV P w H h a o):a<h.objs.size:=by
 cases o with
 |lst xs=>obtain⟨_,_,_,_,e⟩:=x;exact Heap.lt_size e
 |tup xs=>obtain⟨_,_,_,p⟩:=x;exact p.lt
 |dK kvs=>obtain⟨_,_,_,_,o,_,_,e,_⟩:=x;exact Heap.lt_size e
 |dT kvs=>obtain⟨_,_,_,_,o,_,_,e,_⟩:=x;exact Heap.lt_size e
 |set S n=>obtain⟨o,_,_,_,e,_⟩:=x;exact Heap.lt_size e
 |ins C dx fs=>obtain⟨_,_,_,e,_⟩:=x;exact Heap.lt_size e
 |own y=>obtain⟨_,e⟩:=x;exact Heap.lt_size e
 |xd fs=>obtain⟨_,⟨_,_,_,e,_⟩,_⟩:=x;exact Heap.lt_size e
 |rng lo hi=>obtain⟨_,_,_,e⟩:=x;exact Heap.lt_size e
 |frz ob u=>obtain⟨e,_⟩:=x;exact Heap.lt_size e
 |tbl ps=>obtain⟨qs,e,_⟩:=x;exact Heap.lt_size e
 |met f y=>exact Heap.lt_size (show h.get? a=some _ from x)
 |ext φ=>obtain⟨_,⟨_,e⟩,_⟩:=x;exact Heap.lt_size e
theorem Paired.GM{α β:Type}{F G:α->β->Prop}:∀ {l₁:List α} {l₂:List β},Paired F l₁ l₂->(∀a b,F a b->G a b)->Paired G l₁ l₂
 |_,_,.nil,_=>.nil
 |_,_,.cons r t,f=>.cons (f _ _ r) (Paired.GM t f)
theorem bV.stay(x:bV P w H h a o)(k:∀b u,(b=a\/H b=some (.own a))->h.get? b=some u->h'.get? b=some u)(ho:∀b,H b=some (.own a)->H' b=some (.own a))(ht:∀b xs,H b=some (.tup xs)->H' b=some (.tup xs))(hf:∀b o u,H b=some (.frz o u)->H' b=some (.frz o u)):bV P w H' h' a o:=by
 induction o with
 |lst xs=>obtain⟨z,its,n,r,e⟩:=x;exact⟨z,its,n,r,k _ _ (.inl rfl) e⟩
 |tup xs=>obtain⟨z,its,r,⟨ob,e,c⟩,ob',e',c'⟩:=x;exact⟨z,its,r,⟨ob,k _ _ (.inl rfl) e,c⟩,ob',k _ _ (.inl rfl) e',c'⟩
 |dK kvs=>obtain⟨z,y,vs,r,ob,es,ep,e,c⟩:=x;exact⟨z,y,vs,r,ob,es,ep,k _ _ (.inl rfl) e,c⟩
 |dT kvs=>
  obtain⟨z,y,xs,r,ob,es,ep,e,c⟩:=x;exact⟨z,y,xs,Paired.GM r fun p q z=>⟨z.1,ht _ _ z.2.1,z.2.2⟩,ob,es,ep,k _ _ (.inl rfl) e,c⟩
 |set S n=>obtain⟨ob,es,ep,t,e,c⟩:=x;exact⟨ob,es,ep,t,k _ _ (.inl rfl) e,c⟩
 |ins C dx fs=>
  obtain⟨d,z,ne,e,mA,⟨od,es,ep,e2,c⟩,r⟩:=x;exact⟨ho _ d,z,ne,k _ _ (.inl rfl) e,mA,⟨od,es,ep,k _ _ (.inr d) e2,c⟩,r⟩
 |own y=>obtain⟨ob,e⟩:=x;exact⟨ob,k _ _ (.inl rfl) e⟩
 |xd fs=>obtain⟨mA,⟨od,es,ep,e,c⟩,r⟩:=x;exact⟨mA,⟨od,es,ep,k _ _ (.inl rfl) e,c⟩,r⟩
 |rng lo hi=>obtain⟨t,u,v,e⟩:=x;exact⟨t,u,v,k _ _ (.inl rfl) e⟩
 |frz ob u ih=>obtain⟨e,q⟩:=x;exact⟨k _ _ (.inl rfl) e,ih q⟩
 |tbl ps=>obtain⟨qs,e,z⟩:=x;exact⟨qs,k a _ (.inl rfl) e,z.mono hf⟩
 |met f y=>
  have e:h.get? a=some (W.methodObj (.ref f) (.ref y)):=x;show h'.get? a=some (W.methodObj (.ref f) (.ref y));exact k a _ (.inl rfl) e
 |ext φ=>obtain⟨p,⟨o,e⟩,st⟩:=x;exact⟨st _ _ p fun o q=>k _ _ (.inl rfl) q,⟨o,k _ _ (.inl rfl) e⟩,st⟩
theorem HOk.lt(x:HOk P w H h)(e:H a=some o):a<h.objs.size:=(x a o e).lt
theorem HOk.fresh(x:HOk P w H h)(e:h.objs.size<=a):H a=none:=by
 cases q:H a with
 |none=>rfl
 |some u=>exact absurd (Nat.lt_of_lt_of_le (x.lt q) e) (Nat.lt_irrefl _)
theorem HOk.kept(x:HOk P w H h)(k:∀b u,h.get? b=some u->h'.get? b=some u):HOk P w H h':=fun a o e=>
 (x a o e).stay (fun b u _ q=>k b u q) (fun _ q=>q) (fun _ _ q=>q) fun _ _ _ q=>q
theorem HOk.laid(x:HOk P w H h)(k:∀b u,h.get? b=some u->h'.get? b=some u)(hp:h.objs.size<=a)(new:bV P w (upd H a o) h' a o):HOk P w (upd H a o) h':=fun b u e=>by
 have hn:=x.fresh hp;by_cases hb:b=a
 ·subst hb;rw[cA] at e;cases e;exact new
 ·rw[aG hb] at e
  exact(x b u e).stay (fun c v _ q=>k c v q) (fun c q=>by rw[aG (bb q hn)];exact q) (fun c xs q=>by rw[aG (bb q hn)];exact q) fun c o' u' q=>by rw[aG (bb q hn)];exact q
end
noncomputable def Rd(H:Hp)(a:Addr)(u:HO):Prop:=H a=some u\/∃o,H a=some (.frz o u)
theorem Rd.ok{P:Program}{w:World}{H:Hp}{h:Heap}{a:Addr}{u:HO}(r:Rd H a u)(x:HOk P w H h):bV P w H h a u:=by
 rcases r with r|⟨o,r⟩
 ·exact x a u r
 ·obtain⟨_,q⟩:=x a _ r
  exact q
noncomputable def Mut:Option HO->Prop
 |some (.lst _)=>True
 |some (.dK _)=>True
 |some (.dT _)=>True
 |some (.set _ _)=>True
 |some (.ins _ _ _)=>True
 |some (.ext _)=>True
 |_=>False
section
variable{P:Program}{w:World}{H:Hp}{h h':Heap}{x e:Addr}{o':HO}
theorem HOk.write(ok:HOk P w H h)(mu:Mut (H x))(he:e=x\/H e=some (.own x))(k:∀b u,b≠e->h.get? b=some u->h'.get? b=some u)(heo:∃u,h'.get? e=some u)(new:bV P w (upd H x o') h' x o'):HOk P w (upd H x o') h':=fun b u q=>by
 have nown:∀c y,H c=some (.own y)->c≠x:=fun c y r z=>by subst z;rw[r] at mu;exact mu
 have ntup:∀c xs,H c=some (.tup xs)->c≠x:=fun c xs r z=>by subst z;rw[r] at mu;exact mu
 by_cases hb:b=x
 ·subst hb;rw[cA] at q;cases q;exact new
 ·rw[aG hb] at q
  by_cases hbe:b=e
  ·have q':H b=some (.own x):=by
    rcases he with z|z
    ·exact absurd (hbe.trans z) hb
    ·rw[hbe];exact z
   rw[q] at q';cases q';obtain⟨v,hv⟩:=heo;exact⟨v,by rw[hbe];exact hv⟩
  ·refine(ok b u q).stay (fun c v hc r=>k c v ?_ r) (fun c r=>by rw[aG (nown c b r)];exact r) (fun c xs r=>by rw[aG (ntup c xs r)];exact r) fun c o' u' r=>by rw[aG (fun z=>by subst z;rw[r] at mu;exact mu)];exact r
   rcases hc with rfl|hc
   ·exact hbe
   ·rintro rfl
    rcases he with z|z
    ·exact nown c b hc z
    ·rw[hc] at z;cases z;exact hb rfl
end
structure Un(fs ex:List Addr)(H H':Hp)(h h':Heap):Prop where
 keep:∀b o,h.get? b=some o->H b=none->b ∉ fs->b ∉ ex->h'.get? b=some o
 slot:∀b o,h.get? b=some o->H b=none->b∈fs->b ∉ ex->∃sl,h'.get? b=some { o with slots:=sl }
 free:∀b o,h.get? b=some o->H b=none->b ∉ ex->H' b=none
 there:∀b o,h.get? b=some o->b ∉ ex->∃o',h'.get? b=some o'
 tups:∀b xs,H b=some (.tup xs)->H' b=some (.tup xs)
 frzs:∀b o u,H b=some (.frz o u)->H' b=some (.frz o u)
 tbls:∀b ps,H b=some (.tbl ps)->∃more,H' b=some (.tbl (ps++more))
section
variable{fs fs' ex ex':List Addr}{H H1 H2:Hp}{h h1 h2 h':Heap}{a x e:Addr}{o:HO}
theorem Un.any(u:Un fs ex H H1 h h1){b:Addr}{ob:Obj}(q:h.get? b=some ob)(n:H b=none)(hx:b ∉ ex):∃sl,h1.get? b=some { ob with slots:=sl }:=by
 by_cases hb:b∈fs
 ·exact u.slot b ob q n hb hx
 ·exact⟨ob.slots,u.keep b ob q n hb hx⟩
theorem Un.kept(k:∀b u,h.get? b=some u->h'.get? b=some u):Un fs ex H H h h':=
 ⟨fun b ob q _ _ _=>k b ob q,fun b ob q _ _ _=>⟨ob.slots,k b ob q⟩,fun _ _ _ n _=>n,fun b ob q _=>⟨ob,k b ob q⟩,fun _ _ q=>q,fun _ _ _ q=>q,fun _ ps q=>⟨#[],by rw[q];simp⟩⟩
theorem Un.refl:Un fs ex H H h h:=Un.kept fun _ _ q=>q
theorem Un.laid(k:∀b u,h.get? b=some u->h'.get? b=some u)(hp:h.objs.size<=a)(hn:H a=none):Un fs ex H (upd H a o) h h' where
 keep:=fun b u q _ _ _=>k b u q
 slot:=fun b u q _ _ _=>⟨u.slots,k b u q⟩
 free:=fun b u q n _=>by rw[aG (Nat.ne_of_lt (Nat.lt_of_lt_of_le (Heap.lt_size q) hp))];exact n
 there:=fun b u q _=>⟨u,k b u q⟩
 tups:=fun b xs q=>by rw[aG (bb q hn)];exact q
 frzs:=fun b u xs q=>by rw[aG (bb q hn)];exact q
 tbls:=fun b ps q=>⟨#[],by rw[aG (bb q hn),q];simp⟩
theorem Un.write(mu:Mut (H x))(he:e=x\/H e=some (.own x))(k:∀b u,b≠e->h.get? b=some u->h'.get? b=some u)(heo:∃u,h'.get? e=some u):Un fs ex H (upd H x o) h h':=by
 have hx:∀b,H b=none->b≠x:=fun b n z=>by subst z;rw[n] at mu;exact mu
 have hb:∀b,H b=none->b≠e:=fun b n z=>by
  subst z;rcases he with r|r
  ·exact hx b n r
  ·rw[n] at r;cases r
 have hm:∀b u,H b=some u->¬ Mut (some u)->b≠x:=fun b u q nm z=>by subst z;rw[q] at mu;exact nm mu
 refine⟨fun b u q n _ _=>k b u (hb b n) q,fun b u q n _ _=>⟨u.slots,k b u (hb b n) q⟩,fun b u q n _=>by rw[aG (hx b n)];exact n,fun b u q _=>?_,
  fun b xs q=>by rw[aG (hm b _ q fun z=>z)];exact q,fun b u xs q=>by rw[aG (hm b _ q fun z=>z)];exact q,fun b ps q=>⟨#[],by rw[aG (hm b _ q fun z=>z),q];simp⟩⟩
 by_cases hbe:b=e
 ·subst hbe;exact heo
 ·exact⟨u,k b u hbe q⟩
end
noncomputable def trk(h:Heap)(H:Hp):List Addr:=(List.range h.objs.size).filter fun a=>(H a).isSome
noncomputable def nY(h:Heap)(H:Hp):Heap:=W.hideAll h (trk h H)
theorem vB(h:Heap)(H:Hp):(nY h H).objs.size=h.objs.size:=W.hideAll_size _ _
theorem zP{h:Heap}{H:Hp}{b:Addr}{o:Obj}(e:h.get? b=some o)(n:H b=none):(nY h H).get? b=some o:=
 W.hideAll_get _ e fun hm=>by
  have q:(H b).isSome=true:=(List.mem_filter.mp hm).2;rw[n] at q;simp at q
theorem Be{h:Heap}{H:Hp}{b:Addr}{o:Obj}(e:(nY h H).get? b=some o):h.get? b=some o/\H b=none:=by
 have e':h.get? b=some o:=W.of_hideAll (trk h H) e;refine⟨e',?_⟩
 cases q:H b with
 |none=>rfl
 |some x=>
  have hm:b∈trk h H:=List.mem_filter.mpr ⟨List.mem_range.mpr (Heap.lt_size e'),by simp[q]⟩
  have z:(nY h H).get? b=none:=W.hideAll_none (trk h H) hm;rw[z] at e;cases e
noncomputable def At(g h:Heap)(L:Addr):List (Addr×Obj):=(List.range h.objs.size).filterMap fun a=>if a=L\/(g.get? a).isSome=true then none else (h.get? a).map fun o=>(a,o)
noncomputable def be(g h:Heap)(L d:Addr):List (Addr×Obj):=(At g h L).filter fun p=>decide (p.1≠d)
noncomputable def kt(K:W.Frag):List (Str×Addr×Addr):=match K.lookup mainGlobals with
 |some ⟨_,_,.dict es _,_⟩=>es.toList.filterMap fun e=>match e.key with
  |.str x _=>(W.tabIn K x).map fun q=>(x,q)
  |_=>none
 |_=>[]
noncomputable def vq(K:W.Frag)(H:Hp):Prop:=∀q∈kt K,∃ps,H q.2.2=some (.tbl ps)/\ps[0]?=some (.str (q.1 ++ ".<locals>." ++ "<lambda>") 0)
theorem vq.mono{K:W.Frag}{H H':Hp}(x:vq K H)(k:∀b ps,H b=some (.tbl ps)->∃more,H' b=some (.tbl (ps++more))):vq K H':=fun q hq=>by
 obtain⟨ps,e,z⟩:=x q hq;obtain⟨more,e'⟩:=k _ _ e;refine⟨_,e',?_⟩
 have hz:0<ps.size:=by
  rcases Nat.eq_zero_or_pos ps.size with h|h
  ·rw[Array.getElem?_eq_none (by omega)] at z;cases z
  ·exact h
 rw[Array.getElem?_append_left hz];exact z
structure Mod(K:W.Frag)(mg:Str->Option Value)(base:Heap):Prop where
 kin:K.In base
 glob:base.Ns mainGlobals mg
 blt:∃mb,base.Ns builtinsNs mb/\∀x:Str,x≠"__name__"->mb x=bootBuiltins x
 nolimit:base.NoLimit
 bm:∃bm ob,mg "__builtins__"=some (.ref bm)/\bm≠builtinsNs/\base.get? bm=some ob/\ob.cls=.type "module"/\ob.dict=some builtinsNs/\ob.data=.plain
structure Cx where
 prog:Program
 w:World
 K:W.Frag
 mg:Str->Option Value
 base:Heap
 A:Around
 N:List Str
 s₀:Shared
 H₀:Hp
 env:Env
 outer:List Env
 stack:List Env
 ex:List Addr
 fn:Str->Bool
 calm:Bool
 pn:List (Addr×Obj)
 xe:Value->Shared->Prop
noncomputable def frs(l:List Env):List Addr:=l.filterMap (·.frame)
noncomputable abbrev Cx.fs(X:Cx):List Addr:=frs X.outer
noncomputable def Vis(sc:Scope)(x:Str):Prop:=sc.names.lookup x=some .local\/sc.names.lookup x=some .cell\/sc.names.lookup x=some .free
noncomputable def Loc(sc:Scope)(x:Str):Prop:=sc.names.lookup x=some .local\/sc.names.lookup x=some .cell
noncomputable def F6(env:Env)(h:Heap)(m:Str->Option Value)(x:Str)(u:Value):Prop:=
 (env.kindOf x=some .local/\m x=some u)\/((env.kindOf x=some .cell\/env.kindOf x=some .free)/\∃c,env.cells.lookup x=some c/\h.IsCell c (some u))
structure Cx.Ok(X:Cx):Prop where
 mod:Mod X.K X.mg X.base
 kind:X.env.scope.kind=.function
 glob:X.env.globals=mainGlobals
 blt:X.env.builtins=builtinsNs
 above:X.s₀.heap.objs.size<=X.env.locals
 inj:∀x y c,X.env.cells.lookup x=some c->X.env.cells.lookup y=some c->x=y
 has:∀x,(X.env.kindOf x=some .cell\/X.env.kindOf x=some .free)->∃c,X.env.cells.lookup x=some c
 cab:∀x c,X.fn x=true->X.env.cells.lookup x=some c->X.s₀.heap.objs.size<=c
 hd:X.calm=true->X.A.handled=none
 frames:X.A.frames=some X.stack
 stk:X.stack=X.outer\/(X.stack=X.env::X.outer/\X.env.frame=some X.env.locals)
 exf:∀b∈X.ex,b≠X.env.locals/\∀x c,X.env.cells.lookup x=some c->c≠b
 bs:∀b o,X.base.get? b=some o->X.s₀.heap.get? b=some o/\X.H₀ b=none
 bsz:X.base.objs.size<=X.s₀.heap.objs.size
 noex:∀b o,X.base.get? b=some o->b ∉ X.ex
 exfs:∀b∈X.ex,b ∉ X.fs
 funs:X.s₀.heap.FunFrames X.base X.outer
 frf:∀b∈X.fs,X.H₀ b=none
 tt:vq X.K X.H₀
structure Inv(X:Cx)(pins:List (Addr×Obj))(σ:List (Option V))(H:Hp)(s:Shared):Prop where
 ok:X.Ok
 os:s.os=X.s₀.os
 bare:AllBare s.gens
 base:Un X.fs X.ex X.H₀ H X.s₀.heap s.heap
 loc:∃m,s.heap.Ns X.env.locals m/\∀(i:Nat)(x:Str)(v:V),X.N[i]?=some x->σ[i]?=some (some v)->Vis X.env.scope x->∃u,bo v u/\F6 X.env s.heap m x u
 cell:∀x c,X.env.cells.lookup x=some c->∃v,s.heap.IsCell c v
 free:H X.env.locals=none
 freeC:∀x c,X.env.cells.lookup x=some c->H c=none
 pin:∀p∈X.pn++pins,s.heap.get? p.1=some p.2/\H p.1=none/\p.1≠X.env.locals/\p.1 ∉ X.fs/\∀v,p.2.data≠.cell v
 hok:HOk X.prog X.w H s.heap
 len:σ.length=X.N.length
section
variable{X:Cx}{pins:List (Addr×Obj)}{σ:List (Option V)}{H H':Hp}{s:Shared}{h':Heap}
theorem Cx.Ok.nofr(ok:X.Ok){b:Addr}{o:Obj}(e:X.base.get? b=some o):b ∉ X.fs:=fun hb=>by
 have:=(ok.funs.mem hb).1;rw[e] at this;cases this
theorem Inv.bs(I:Inv X pins σ H s):∀b o,X.base.get? b=some o->s.heap.get? b=some o/\H b=none:=fun b o e=>
 ⟨I.base.keep b o (I.ok.bs b o e).1 (I.ok.bs b o e).2 (I.ok.nofr e) (I.ok.noex b o e),I.base.free b o (I.ok.bs b o e).1 (I.ok.bs b o e).2 (I.ok.noex b o e)⟩
theorem Inv.bk(I:Inv X pins σ H s):∀b o,X.base.get? b=some o->s.heap.get? b=some o:=fun b o e=>(I.bs b o e).1
theorem Inv.mod(I:Inv X pins σ H s):Mod X.K X.mg X.base:=I.ok.mod
theorem Inv.kIn(I:Inv X pins σ H s):X.K.In s.heap:=I.ok.mod.kin.keeps I.bk
theorem Inv.lt(I:Inv X pins σ H s):X.env.locals<s.heap.objs.size:=let ⟨_,hn,_⟩:=I.loc;hn.lt
theorem Inv.sz(I:Inv X pins σ H s):X.s₀.heap.objs.size<=s.heap.objs.size:=Nat.le_trans I.ok.above (Nat.le_of_lt I.lt)
theorem Inv.nofs(I:Inv X pins σ H s){a:Addr}(h:s.heap.objs.size<=a):a ∉ X.fs:=fun hb=>by
 obtain⟨_,o,ho,_⟩:=I.ok.funs.mem hb;exact absurd (Nat.lt_of_lt_of_le (Heap.lt_size ho) (Nat.le_trans I.sz h)) (Nat.lt_irrefl _)
theorem Inv.cne(I:Inv X pins σ H s):∀x c,X.env.cells.lookup x=some c->c≠X.env.locals:=fun x c e z=>by
 obtain⟨v,o,ho,hd⟩:=I.cell x c e;obtain⟨m,⟨o',es,ep,ho',hd',_⟩,_⟩:=I.loc;rw[z,ho'] at ho;cases ho;rw[hd'] at hd;cases hd
theorem Inv.funs(I:Inv X pins σ H s):s.heap.FunFrames X.base X.outer:=by
 have all:∀(l:List Env),(∀b∈frs l,b∈X.fs)->X.s₀.heap.FunFrames X.base l->s.heap.FunFrames X.base l:=by
  intro l
  induction l with
  |nil=>intro _ _;trivial
  |cons env r ih=>
   intro hs hl;obtain⟨hk,⟨L,o,hf,hn,ho,hd⟩,hr⟩:=hl;have hL:L∈X.fs:=hs L (by unfold frs;rw[List.filterMap_cons,hf];exact List.mem_cons_self)
   obtain⟨sl,e⟩:=I.base.slot L o ho (I.ok.frf L hL) hL fun z=>I.ok.exfs L z hL;exact⟨hk,⟨L,_,hf,hn,e,hd⟩,ih (fun b hb=>hs b (by unfold frs;rw[List.filterMap_cons,hf];exact List.mem_cons_of_mem _ hb)) hr⟩
 exact all X.outer (fun _ hb=>hb) I.ok.funs
theorem Inv.stack(I:Inv X pins σ H s):s.heap.FunFrames X.base X.stack:=by
 rcases I.ok.stk with e|⟨e,hf⟩
 ·rw[e];exact I.funs
 ·rw[e]
  obtain⟨m,hn,_⟩:=I.loc;refine .cons (by rw[I.ok.kind];decide) hf hn ?_ I.funs
  exact Heap.get?_none_of_le (Nat.le_trans I.ok.bsz I.ok.above)
theorem Inv.Gw(I:Inv X pins σ H s):∀b∈frs X.stack,b∈X.env.locals::X.fs:=fun b hb=>by
 rcases I.ok.stk with e|⟨e,hf⟩
 ·rw[e] at hb;exact List.mem_cons_of_mem _ hb
 ·rw[e] at hb
  unfold frs at hb;rw[List.filterMap_cons,hf] at hb;exact hb
theorem Inv.GA(I:Inv X pins σ H s):∀b∈frs X.stack,H b=none:=fun b hb=>by
 rcases List.mem_cons.mp (I.Gw b hb) with e|hb
 ·rw[e];exact I.free
 ·obtain⟨_,o,ho,_⟩:=I.ok.funs.mem hb
  exact I.base.free b o ho (I.ok.frf b hb) fun z=>I.ok.exfs b z hb
theorem Inv.step{g':Array GenState}{t':Nat}{d':Drawn}{ch:List Addr}(I:Inv X pins σ H s)(hch:∀b∈ch,(b∈X.ex\/X.s₀.heap.objs.size<=b)/\b≠X.env.locals/\(∀x c,X.env.cells.lookup x=some c->c≠b)/\∀p∈X.pn++pins,p.1≠b)(keep:∀b o,b≠X.env.locals->b ∉ X.fs->b ∉ ch->s.heap.get? b=some o->H b=none->h'.get? b=some o)(slot:∀b o,b≠X.env.locals->b∈X.fs->b ∉ ch->s.heap.get? b=some o->H b=none->∃sl,h'.get? b=some { o with slots:=sl })(free:∀b o,b ∉ ch->s.heap.get? b=some o->H b=none->H' b=none)(there:∀b o,b ∉ ch->s.heap.get? b=some o->∃o',h'.get? b=some o')(tups:∀b xs,H b=some (.tup xs)->H' b=some (.tup xs))(frzs:∀b o u,H b=some (.frz o u)->H' b=some (.frz o u))(tbls:∀b ps,H b=some (.tbl ps)->∃more,H' b=some (.tbl (ps++more)))(ns:∀m,s.heap.Ns X.env.locals m->h'.Ns X.env.locals m)(hok:HOk X.prog X.w H' h')(hg:AllBare g'):
  Inv X pins σ H' { s with heap:=h',gens:=g',drawn:=d',toks:=t' }:=by
 have neL:∀b o,X.s₀.heap.get? b=some o->b≠X.env.locals:=fun b o e=>Nat.ne_of_lt (Nat.lt_of_lt_of_le (Heap.lt_size e) I.ok.above)
 have neC:∀b o,X.s₀.heap.get? b=some o->b ∉ X.ex->b ∉ ch:=fun b o e hx hb=>by
  rcases(hch b hb).1 with z|z
  ·exact hx z
  ·exact absurd (Nat.lt_of_lt_of_le (Heap.lt_size e) z) (Nat.lt_irrefl _)
 have cellK:∀x c,X.env.cells.lookup x=some c->∀v,s.heap.IsCell c v->h'.IsCell c v:=fun x c e v ⟨o,ho,hd⟩=>by
  have nch:c ∉ ch:=fun z=>(hch c z).2.2.1 x c e rfl;by_cases hc:c∈X.fs
  ·obtain⟨sl,q⟩:=slot c o (I.cne x c e) hc nch ho (I.freeC x c e)
   exact⟨_,q,hd⟩
  ·exact⟨o,keep c o (I.cne x c e) hc nch ho (I.freeC x c e),hd⟩
 refine⟨I.ok,I.os,hg,⟨fun b o e n hb hx=>?_,fun b o e n hb hx=>?_,fun b o e n hx=>?_,fun b o e hx=>?_,fun b xs e=>tups b xs (I.base.tups b xs e),fun b o xs e=>frzs b o xs (I.base.frzs b o xs e),fun b ps e=>?_⟩,?_,fun x c e=>?_,?_,fun x c e=>?_,fun p hp=>?_,hok,I.len⟩
 ·exact keep b o (neL b o e) hb (neC b o e hx) (I.base.keep b o e n hb hx) (I.base.free b o e n hx)
 ·obtain⟨sl,e1⟩:=I.base.slot b o e n hb hx
  obtain⟨sl',e2⟩:=slot b _ (neL b o e) hb (neC b o e hx) e1 (I.base.free b o e n hx);exact⟨sl',e2⟩
 ·obtain⟨o',e1⟩:=I.base.there b o e hx
  exact free b o' (neC b o e hx) e1 (I.base.free b o e n hx)
 ·obtain⟨o',e1⟩:=I.base.there b o e hx
  exact there b o' (neC b o e hx) e1
 ·obtain⟨m1,e1⟩:=I.base.tbls b ps e
  obtain⟨m2,e2⟩:=tbls b _ e1;exact⟨m1++m2,by rw[e2,Array.append_assoc]⟩
 ·obtain⟨m,hn,hl⟩:=I.loc
  refine⟨m,ns m hn,fun i x v e1 e2 e3=>?_⟩;obtain⟨u,r,l⟩:=hl i x v e1 e2 e3;refine⟨u,r,?_⟩;rcases l with l|⟨k,c,e,z⟩
  ·exact .inl l
  ·exact .inr ⟨k,c,e,cellK x c e _ z⟩
 ·obtain⟨v,z⟩:=I.cell x c e
  exact⟨v,cellK x c e v z⟩
 ·obtain⟨m,⟨o,_,_,ho,_⟩,_⟩:=I.loc
  exact free _ o (fun z=>(hch _ z).2.1 rfl) ho I.free
 ·obtain⟨v,o,ho,hd⟩:=I.cell x c e
  exact free c o (fun z=>(hch c z).2.2.1 x c e rfl) ho (I.freeC x c e)
 ·obtain⟨e,n,ne,nf,d⟩:=I.pin p hp
  have nch:p.1 ∉ ch:=fun z=>(hch p.1 z).2.2.2 p hp rfl;exact⟨keep p.1 p.2 ne nf nch e n,free p.1 p.2 nch e n,ne,nf,d⟩
theorem Inv.un{t':Nat}(I:Inv X pins σ H s)(u:Un X.fs [] H H' s.heap h')(hok:HOk X.prog X.w H' h'):Inv X pins σ H' { s with heap:=h',toks:=t' }:=by
 obtain⟨m,⟨o,es,ep,ho,r⟩,_⟩:=id I.loc;obtain⟨sl,hL⟩:=u.any ho I.free (by simp)
 exact I.step (g':=s.gens) (d':=s.drawn) (ch:=[]) (fun _ z=>nomatch z) (fun b o _ hb _ e n=>u.keep b o e n hb (by simp)) (fun b o _ hb _ e n=>u.slot b o e n hb (by simp)) (fun b o _ e n=>u.free b o e n (by simp)) (fun b o _ e=>u.there b o e (by simp)) u.tups u.frzs u.tbls (fun m' hm=>by
  obtain⟨o',es',ep',ho',r'⟩:=hm;rw[ho] at ho';cases ho'
  exact⟨_,es',ep',hL,r'⟩) hok I.bare
theorem Inv.call{g':Array GenState}{t':Nat}{d':Drawn}{ch:List Addr}(I:Inv X pins σ H s)(u:Un (frs X.stack) ch H H' s.heap h')(hok:HOk X.prog X.w H' h')(hg:AllBare g')(hch:∀b∈ch,(b∈X.ex\/X.s₀.heap.objs.size<=b)/\b≠X.env.locals/\(∀x c,X.env.cells.lookup x=some c->c≠b)/\∀p∈X.pn++pins,p.1≠b):
  Inv X pins σ H' { s with heap:=h',gens:=g',drawn:=d',toks:=t' }:=by
 obtain⟨m,⟨o,es,ep,ho,r⟩,_⟩:=id I.loc;obtain⟨sl,hL⟩:=u.any ho I.free fun z=>(hch _ z).2.1 rfl
 exact I.step (ch:=ch) hch (fun b o hL hb hc e n=>u.keep b o e n (fun z=>(List.mem_cons.mp (I.Gw b z)).elim hL hb) hc) (fun b o _ _ hc e n=>u.any e n hc) (fun b o hc e n=>u.free b o e n hc) (fun b o hc e=>u.there b o e hc) u.tups u.frzs u.tbls (fun m' hm=>by
  obtain⟨o',es',ep',ho',r'⟩:=hm;rw[ho] at ho';cases ho'
  exact⟨_,es',ep',hL,r'⟩) hok hg
theorem Inv.turned{t':Nat}{it:Addr}(I:Inv X pins σ H s)(k:∀b o,b≠it->s.heap.get? b=some o->h'.get? b=some o)(hn:H it=none)(hL:it≠X.env.locals)(h1:it∈X.ex\/X.s₀.heap.objs.size<=it)(h2:∀x c,X.env.cells.lookup x=some c->c≠it)(h3:∀p∈X.pn++pins,p.1≠it):Inv X pins σ H { s with heap:=h',toks:=t' }:=by
 have nit:∀b u,H b=some u->b≠it:=fun b u e z=>by rw[z,hn] at e;cases e
 refine I.step (g':=s.gens) (d':=s.drawn) (ch:=[it]) (fun b hb=>?_) (fun b o _ _ hc e _=>k b o (fun z=>hc (by simp[z])) e) (fun b o _ _ hc e _=>⟨o.slots,k b o (fun z=>hc (by simp[z])) e⟩) (fun _ _ _ _ n=>n)
  (fun b o hc e=>⟨o,k b o (fun z=>hc (by simp[z])) e⟩) (fun _ _ e=>e) (fun _ _ _ e=>e) (fun b ps e=>⟨#[],by rw[e];simp⟩) (fun m hm=>?_) (fun b u e=>?_) I.bare
 ·have e:b=it:=by simpa using hb
  subst e;exact⟨h1,hL,h2,h3⟩
 ·obtain⟨o,es,ep,ho,r⟩:=hm
  exact⟨o,es,ep,k _ o (Ne.symm hL) ho,r⟩
 ·refine(I.hok b u e).stay (fun c v hc q=>k c v ?_ q) (fun _ q=>q) (fun _ _ q=>q) fun _ _ _ q=>q
  rcases hc with z|z
  ·rw[z];exact nit b u e
  ·exact nit c _ z
theorem Inv.tok(I:Inv X pins σ H s)(t:Nat):Inv X pins σ H { s with toks:=t }:=I.un (h':=s.heap) (t':=t) Un.refl I.hok
theorem Inv.kept{t':Nat}(I:Inv X pins σ H s)(k:∀b u,s.heap.get? b=some u->h'.get? b=some u):Inv X pins σ H { s with heap:=h',toks:=t' }:=I.un (Un.kept k) (I.hok.kept k)
theorem Inv.laid{a:Addr}{o:HO}{t':Nat}(I:Inv X pins σ H s)(k:∀b u,s.heap.get? b=some u->h'.get? b=some u)(hp:s.heap.objs.size<=a)(new:bV X.prog X.w (upd H a o) h' a o):
  Inv X pins σ (upd H a o) { s with heap:=h',toks:=t' }:=I.un (Un.laid k hp (I.hok.fresh hp)) (I.hok.laid k hp new)
theorem Inv.write{x e:Addr}{o:HO}{t':Nat}(I:Inv X pins σ H s)(mu:Mut (H x))(he:e=x\/H e=some (.own x))(k:∀b u,b≠e->s.heap.get? b=some u->h'.get? b=some u)(heo:∃u,h'.get? e=some u)(new:bV X.prog X.w (upd H x o) h' x o):Inv X pins σ (upd H x o) { s with heap:=h',toks:=t' }:=I.un (Un.write mu he k heo) (I.hok.write mu he k heo new)
theorem Inv.GB{pins':List (Addr×Obj)}(I:Inv X pins σ H s)(h:∀p∈pins',s.heap.get? p.1=some p.2/\H p.1=none/\p.1≠X.env.locals/\p.1 ∉ X.fs/\∀v,p.2.data≠.cell v):Inv X pins' σ H s:=
 ⟨I.ok,I.os,I.bare,I.base,I.loc,I.cell,I.free,I.freeC,fun p hp=>(List.mem_append.mp hp).elim (fun z=>I.pin p (List.mem_append_left _ z)) (h p),I.hok,I.len⟩
theorem qE{N:List Str}(hN:N.Nodup){i j:Nat}{x:Str}(a:N[i]?=some x)(b:N[j]?=some x):i=j:=by
 obtain⟨h1,e1⟩:=List.getElem?_eq_some_iff.mp a;obtain⟨h2,e2⟩:=List.getElem?_eq_some_iff.mp b;exact(List.getElem_inj hN).mp (e1.trans e2.symm)
theorem wy{M:Model}{A:Around}{E:Value->Shared->Prop}{i:Nat}{x:Str}{v:V}{u:Value}{Q:Unit->Shared->Prop}(I:Inv X pins σ H s)(hN:X.N.Nodup)(hi:X.N[i]?=some x)(hx:Loc X.env.scope x)(r:bo v u)(h:∀s',Inv X pins (σ.set i (some v)) H s'->(∃a,Heap.SameBut a s.heap s'.heap/\(a=X.env.locals\/X.env.cells.lookup x=some a))->Q () s')(hf:X.fn x=true\/X.env.scope.names.lookup x=some .local:=by first|exact .inl rfl|exact .inr rfl|assumption):wpAny M A (storeName X.env x u) Q E s:=by
 obtain⟨m,hn,hl⟩:=id I.loc;have hcls:(X.env.scope.kind == .class || (X.env.scope.kind == .module && X.env.locals != X.env.globals))=false:=by rw[I.ok.kind];rfl
 have hiσ:i<σ.length:=by rw[I.len];exact(List.getElem?_eq_some_iff.mp hi).1
 have cne:=I.cne
 have tracked:∀ {a:Addr} {h':Heap},(∃o,s.heap.get? a=some o/\H a=none)->Heap.SameBut a s.heap h'->HOk X.prog X.w H h':=fun {a h'} ha hs b ob e=>by
  obtain⟨_,_,hfree⟩:=ha;refine(I.hok b ob e).stay (fun c w' hc q=>(hs.2 c ?_).trans q) (fun _ q=>q) (fun _ _ q=>q) fun _ _ _ q=>q;rintro rfl;rcases hc with rfl|hc
  ·rw[hfree] at e;cases e
  ·rw[hfree] at hc;cases hc
 rcases hx with hk|hk
 ·refine wpAny_storeName_local hk hn (fun h' hn' hs=>?_) hcls
  obtain⟨oL,_,_,hoL,_⟩:=id hn;refine h _ ⟨I.ok,I.os,I.bare,⟨fun b o e n hb hx=>?_,fun b o e n hb hx=>?_,I.base.free,fun b o e hx=>?_,I.base.tups,I.base.frzs,I.base.tbls⟩,⟨_,hn',fun j y v' e1 e2 e3=>?_⟩,fun y c e=>?_,I.free,I.freeC,fun p hp=>?_,tracked ⟨oL,hoL,I.free⟩ hs,by simpa using I.len⟩ ⟨_,hs,.inl rfl⟩
  ·exact(hs.2 b (Nat.ne_of_lt (Nat.lt_of_lt_of_le (Heap.lt_size e) I.ok.above))).trans (I.base.keep b o e n hb hx)
  ·obtain⟨sl,e1⟩:=I.base.slot b o e n hb hx
   exact⟨sl,(hs.2 b (Nat.ne_of_lt (Nat.lt_of_lt_of_le (Heap.lt_size e) I.ok.above))).trans e1⟩
  ·obtain⟨o',e1⟩:=I.base.there b o e hx
   exact⟨o',(hs.2 b (Nat.ne_of_lt (Nat.lt_of_lt_of_le (Heap.lt_size e) I.ok.above))).trans e1⟩
  ·by_cases hj:j=i
   ·subst hj
    rw[hi] at e1;cases e1;rw[List.getElem?_set_self hiσ] at e2;cases e2;exact⟨u,r,.inl ⟨hk,by simp⟩⟩
   ·rw[List.getElem?_set_ne (Ne.symm hj)] at e2
    obtain⟨u',r',q⟩:=hl j y v' e1 e2 e3;refine⟨u',r',?_⟩;rcases q with⟨k,e⟩|⟨k,c,e,z⟩
    ·refine .inl ⟨k,?_⟩
     have:y≠x:=fun e=>hj (qE hN e1 (e ▸ hi));simp[this,e]
    ·exact .inr ⟨k,c,e,z.sameBut hs (cne y c e)⟩
  ·obtain⟨w',z⟩:=I.cell y c e
   exact⟨w',z.sameBut hs (cne y c e)⟩
  ·obtain⟨e,n,ne,nf,d⟩:=I.pin p hp
   exact⟨(hs.2 p.1 ne).trans e,n,ne,nf,d⟩
 ·have hfn:X.fn x=true:=by
   rcases hf with z|z
   ·exact z
   ·rw[z] at hk;cases hk
  obtain⟨c,hc⟩:=I.ok.has x (.inl hk);obtain⟨w',z⟩:=I.cell x c hc;refine wpAny_storeName_cell I.ok.kind hk hc z (fun h' hc' hs=>?_);obtain⟨oc,hoc,hocd⟩:=id z;refine h { s with heap:=h' } ⟨I.ok,I.os,I.bare,⟨fun b o e n hb hx=>?_,fun b o e n hb hx=>?_,I.base.free,fun b o e hx=>?_,I.base.tups,I.base.frzs,I.base.tbls⟩,⟨m,hn.sameBut hs (Ne.symm (cne x c hc)),fun j y v' e1 e2 e3=>?_⟩,fun y c' e=>?_,I.free,I.freeC,fun p hp=>?_,tracked ⟨oc,hoc,I.freeC x c hc⟩ hs,by simpa using I.len⟩ ⟨c,hs,.inr hc⟩
  ·exact(hs.2 b (Nat.ne_of_lt (Nat.lt_of_lt_of_le (Heap.lt_size e) (I.ok.cab x c hfn hc)))).trans (I.base.keep b o e n hb hx)
  ·obtain⟨sl,e1⟩:=I.base.slot b o e n hb hx
   exact⟨sl,(hs.2 b (Nat.ne_of_lt (Nat.lt_of_lt_of_le (Heap.lt_size e) (I.ok.cab x c hfn hc)))).trans e1⟩
  ·obtain⟨o',e1⟩:=I.base.there b o e hx
   exact⟨o',(hs.2 b (Nat.ne_of_lt (Nat.lt_of_lt_of_le (Heap.lt_size e) (I.ok.cab x c hfn hc)))).trans e1⟩
  ·by_cases hj:j=i
   ·subst hj
    rw[hi] at e1;cases e1;rw[List.getElem?_set_self hiσ] at e2;cases e2;exact⟨u,r,.inr ⟨.inl hk,c,hc,hc'⟩⟩
   ·rw[List.getElem?_set_ne (Ne.symm hj)] at e2
    obtain⟨u',r',q⟩:=hl j y v' e1 e2 e3;refine⟨u',r',?_⟩;rcases q with q|⟨k,c',e,z'⟩
    ·exact .inl q
    ·refine .inr ⟨k,c',e,z'.sameBut hs ?_⟩
     rintro rfl;exact hj (qE hN e1 (I.ok.inj _ _ _ e hc ▸ hi))
  ·by_cases hcc:c'=c
   ·subst hcc;exact⟨_,hc'⟩
   ·obtain⟨w2,z2⟩:=I.cell y c' e
    exact⟨w2,z2.sameBut hs hcc⟩
  ·obtain⟨e,n,ne,nf,d⟩:=I.pin p hp
   refine⟨(hs.2 p.1 ?_).trans e,n,ne,nf,d⟩;intro q;rw[q,hoc] at e;have q':oc=p.2:=Option.some.inj e;exact d w' (by rw[←q'];exact hocd)
theorem pJ{M:Model}{A:Around}{E:Value->Shared->Prop}{i:Nat}{x:Str}{v:V}{u:Value}{Q:Unit->Shared->Prop}(I:Inv X pins σ H s)(hN:X.N.Nodup)(hi:X.N[i]?=some x)(hx:Loc X.env.scope x)(r:bo v u)(h:∀s',Inv X pins (σ.set i (some v)) H s'->Q () s')(hf:X.fn x=true\/X.env.scope.names.lookup x=some .local:=by first|exact .inl rfl|exact .inr rfl|assumption):wpAny M A (storeName X.env x u) Q E s:=
 wy I hN hi hx r (fun s' I' _=>h s' I') hf
theorem Inv.call'{s':Shared}{ch:List Addr}(I:Inv X pins σ H s)(ho:s'.os=s.os)(u:Un (frs X.stack) ch H H' s.heap s'.heap)(hok:HOk X.prog X.w H' s'.heap)(hg:AllBare s'.gens)(hch:∀b∈ch,(b∈X.ex\/X.s₀.heap.objs.size<=b)/\b≠X.env.locals/\(∀x c,X.env.cells.lookup x=some c->c≠b)/\∀p∈X.pn++pins,p.1≠b):Inv X pins σ H' s':=by
 obtain⟨h',g',d',t',o'⟩:=s';have e:o'=s.os:=ho;subst e;exact I.call (g':=g') (t':=t') (d':=d') u hok hg hch
end
noncomputable abbrev XK:=Value->Option Addr->Hp->Prop
noncomputable abbrev St:=List (Option V)
noncomputable abbrev VK:=V->Hp->Prop
noncomputable abbrev TE:=St->Hp->VK->Prop
noncomputable abbrev TT:=St->Hp->(Bool->Hp->Prop)->Prop
noncomputable abbrev TA:=St->Hp->(List V->Hp->Prop)->Prop
structure ic where
 nx:St->Hp->Prop
 rt:VK
 bk:St->Hp->Prop:=fun _ _=>False
 ct:St->Hp->Prop:=fun _ _=>False
noncomputable abbrev TS:=ic->St->Hp->Prop
noncomputable def EP(X:Cx)(pins:List (Addr×Obj))(σ:St)(Q:VK)(u:Value)(s':Shared):Prop:=∃v H',Inv X pins σ H' s'/\bo v u/\Q v H'
noncomputable def TP(X:Cx)(pins:List (Addr×Obj))(σ:St)(Q:Bool->Hp->Prop)(b:Bool)(s':Shared):Prop:=∃H',Inv X pins σ H' s'/\Q b H'
noncomputable def AP(X:Cx)(pins:List (Addr×Obj))(σ:St)(Q:List V->Hp->Prop)(us:List Value)(s':Shared):Prop:=∃vs H',Inv X pins σ H' s'/\aH vs us/\Q vs H'
noncomputable def SP(X:Cx)(pins:List (Addr×Obj))(D:ic)(f:Flow)(s':Shared):Prop:=
 match f with
 |.next=>∃σ' H',Inv X pins σ' H' s'/\D.nx σ' H'
 |.brk=>∃σ' H',Inv X pins σ' H' s'/\D.bk σ' H'
 |.cont=>∃σ' H',Inv X pins σ' H' s'/\D.ct σ' H'
 |.ret u=>∃v σ' H',Inv X pins σ' H' s'/\bo v u/\D.rt v H'
noncomputable def PEd(X:Cx)(e:Expr)(t:TE):Prop:=
 ∀(pins:List (Addr×Obj)) (s:Shared) (σ:St) (H:Hp) (Q:VK),Inv X pins σ H s->t σ H Q->wpAny (model X.prog X.w) X.A (eval e X.env) (EP X pins σ Q) X.xe s
structure PE(X:Cx)(e:Expr)(t:TE):Prop where
 run:PEd X e t
noncomputable instance {X:Cx} {e:Expr} {t:TE}:CoeFun (PE X e t) (fun _=>PEd X e t):=⟨PE.run⟩
noncomputable instance {X:Cx} {e:Expr} {t:TE}:Coe (PE X e t) (PEd X e t):=⟨PE.run⟩
noncomputable def PT(X:Cx)(e:Expr)(t:TT):Prop:=
 ∀(pins:List (Addr×Obj)) (s:Shared) (σ:St) (H:Hp) (Q:Bool->Hp->Prop),Inv X pins σ H s->t σ H Q->wpAny (model X.prog X.w) X.A (isTrue e X.env (eval e X.env)) (TP X pins σ Q) X.xe s
noncomputable def PW(X:Cx)(e:Expr)(t:TT):Prop:=
 ∀(whole:Sem Value) (pins:List (Addr×Obj)) (s:Shared) (σ:St) (H:Hp) (Q:Bool->Hp->Prop),Inv X pins σ H s->t σ H Q->wpAny (model X.prog X.w) X.A (isTrue e X.env whole) (TP X pins σ Q) X.xe s
theorem PW.pt{X:Cx}{e:Expr}{t:TT}(h:PW X e t):PT X e t:=h _
noncomputable def PAd(X:Cx)(es:List Expr)(t:TA):Prop:=
 ∀(pos:Pos) (pins:List (Addr×Obj)) (s:Shared) (σ:St) (H:Hp) (Q:List V->Hp->Prop),Inv X pins σ H s->t σ H Q->wpAny (model X.prog X.w) X.A (spliced (backTo pos (starEach es X.env))) (AP X pins σ Q) X.xe s
structure PA(X:Cx)(es:List Expr)(t:TA):Prop where
 run:PAd X es t
noncomputable instance {X:Cx} {es:List Expr} {t:TA}:CoeFun (PA X es t) (fun _=>PAd X es t):=⟨PA.run⟩
noncomputable instance {X:Cx} {es:List Expr} {t:TA}:Coe (PA X es t) (PAd X es t):=⟨PA.run⟩
noncomputable def PSd(X:Cx)(st:Stmt)(t:TS):Prop:=
 ∀(pins:List (Addr×Obj)) (s:Shared) (σ:St) (H:Hp) (D:ic),Inv X pins σ H s->t D σ H->wpAny (model X.prog X.w) X.A (exec st X.env) (SP X pins D) X.xe s
structure PS(X:Cx)(st:Stmt)(t:TS):Prop where
 run:PSd X st t
noncomputable instance {X:Cx} {st:Stmt} {t:TS}:CoeFun (PS X st t) (fun _=>PSd X st t):=⟨PS.run⟩
noncomputable instance {X:Cx} {st:Stmt} {t:TS}:Coe (PS X st t) (PSd X st t):=⟨PS.run⟩
noncomputable def Dp(X:Cx)(st:List Stmt)(t:TS):Prop:=
 ∀(pins:List (Addr×Obj)) (s:Shared) (σ:St) (H:Hp) (D:ic),Inv X pins σ H s->t D σ H->wpAny (model X.prog X.w) X.A (execs st X.env) (SP X pins D) X.xe s
structure PSs(X:Cx)(st:List Stmt)(t:TS):Prop where
 run:Dp X st t
noncomputable instance {X:Cx} {st:List Stmt} {t:TS}:CoeFun (PSs X st t) (fun _=>Dp X st t):=⟨PSs.run⟩
noncomputable instance {X:Cx} {st:List Stmt} {t:TS}:Coe (PSs X st t) (Dp X st t):=⟨PSs.run⟩
theorem thn{α:Type}{t:Sem α}{Q Q':α->Shared->Prop}{M:Model}{A:Around}{E:Value->Shared->Prop}{s:Shared}(h:wpAny M A t Q E s)(hQ:∀a s,Q a s->Q' a s):wpAny M A t Q' E s:=wpAny_mono h hQ fun _ _ x=>x
section
variable{X:Cx}
noncomputable def Bg(i:Nat):TE:=fun σ H Q=>∃v,σ[i]?=some (some v)/\Q v H
noncomputable def tC(v:V):TE:=fun _ H Q=>Q v H
theorem Ec{i:Nat}{x:Str}{pos:Pos}(hN:X.N[i]?=some x)(hv:Vis X.env.scope x)(hd:(x == ("__debug__":Str))=false:=by decide)(hcd:(x == ("__classdict__":Str))=false:=by decide):PE X (.Name x pos) (Bg i):=.mk <| by
 intro pins s σ H Q I h;obtain⟨v,e,h⟩:=h;obtain⟨m,hn,hl⟩:=I.loc;obtain⟨u,r,l⟩:=hl i x v hN e hv;have fin:EP X pins σ Q u s:=⟨v,H,I,r,h⟩;rcases l with⟨hk,hm⟩|⟨hk,c,hc,hcell⟩
 ·exact wpAny_Name (wpAny_loadName_local I.ok.kind hk hn hm fin) hd
 ·rcases hk with hk|hk
  ·exact wpAny_Name (wpAny_loadName_cell I.ok.kind hk hc hcell fin) hd
  ·exact wpAny_Name (wpAny_loadName_free I.ok.kind hk hc hcell fin hcd) hd
theorem ah{i j pos}:PE X (.Constant (.int i) j pos) (tC (.int i)):=.mk <| fun _ _ _ H _ I h=>wpAny_Constant_int ⟨.int i,H,I.tok _,⟨_,rfl⟩,h⟩
theorem iQ{b j pos}:PE X (.Constant (.bool b) j pos) (tC (.bl b)):=.mk <| fun _ _ _ H _ I h=>Constant_bool ⟨.bl b,H,I,rfl,h⟩
theorem f6{j pos}:PE X (.Constant .none j pos) (tC .non):=.mk <| fun _ _ _ H _ I h=>Constant_none ⟨.non,H,I,rfl,h⟩
theorem bQ{x j pos}:PE X (.Constant (.str x) j pos) (tC (.str x)):=.mk <| fun _ _ _ H _ I h=>Calls.Constant_str ⟨.str x,H,I.tok _,⟨_,rfl⟩,h⟩
noncomputable def Gl(X:Cx)(x:Str):Prop:=X.env.kindOf x=some .globalImplicit
theorem t8{E:Value->Shared->Prop}{pins:List (Addr×Obj)}{s:Shared}{σ:St}{H:Hp}{x:Str}{u:Value}{pos:Pos}{Q:Value->Shared->Prop}(I:Inv X pins σ H s)(hg:Gl X x)(hm:X.mg x=some u)(h:Q u s)(hd:(x == ("__debug__":Str))=false:=by decide):wpAny (model X.prog X.w) X.A (eval (.Name x pos) X.env) Q E s:=
 Calls.Name_function_global I.ok.kind hg (Calls.loadGlobal_global (by rw[I.ok.glob];exact I.mod.glob.keeps I.bk) hm h) hd
theorem iC{E:Value->Shared->Prop}{pins:List (Addr×Obj)}{s:Shared}{σ:St}{H:Hp}{x:Str}{u:Value}{pos:Pos}{Q:Value->Shared->Prop}(I:Inv X pins σ H s)(hg:Gl X x)(hm:X.mg x=none)(hv:bootBuiltins x=some u)(h:Q u s)(hn:x≠"__name__":=by decide)(hd:(x == ("__debug__":Str))=false:=by decide):wpAny (model X.prog X.w) X.A (eval (.Name x pos) X.env) Q E s:=by
 obtain⟨mb,h1,h2⟩:=I.mod.blt;exact Calls.Name_function_global I.ok.kind hg (Calls.loadGlobal_builtin (by rw[I.ok.glob];exact I.mod.glob.keeps I.bk) hm (by rw[I.ok.blt];exact h1.keeps I.bk) ((h2 x hn).trans hv) h) hd
theorem Ab{x:Str}{v:V}{u:Value}{pos:Pos}(hg:Gl X x)(hm:X.mg x=some u)(r:bo v u)(hd:(x == ("__debug__":Str))=false:=by decide):PE X (.Name x pos) (tC v):=.mk <|
 fun _ _ _ H _ I h=>t8 I hg hm ⟨v,H,I,r,h⟩ hd
theorem dr{x:Str}{v:V}{u:Value}{pos:Pos}(hg:Gl X x)(hm:X.mg x=none)(hv:bootBuiltins x=some u)(r:bo v u)(hn:x≠"__name__":=by decide)(hd:(x == ("__debug__":Str))=false:=by decide):PE X (.Name x pos) (tC v):=.mk <|
 fun _ _ _ H _ I h=>iC I hg hm hv ⟨v,H,I,r,h⟩ hn hd
variable{a b:Expr}{ta tb:TE}{pos:Pos}
variable{tA tB':TT}{be:List Expr}
noncomputable def E5(t u:TT):TT:=fun σ H Q=>t σ H fun c H1=>if c=true then u σ H1 Q else Q false H1
noncomputable def tOr(t u:TT):TT:=fun σ H Q=>t σ H fun c H1=>if c=true then Q true H1 else u σ H1 Q
noncomputable def Ei(t:TT):TT:=fun σ H Q=>t σ H fun c H1=>Q (!c) H1
theorem oo(ha:PT X a tA):PW X (.BoolOp .And [a] pos) tA:=by
 intro wh pins s σ H Q I h;refine isTrue_and (thn (ha pins s σ H Q I h) fun c s1 e=>?_)
 cases c with
 |true=>exact isTrue_and_nil e
 |false=>exact e
theorem eJ(ha:PT X a tA):PW X (.BoolOp .Or [a] pos) tA:=by
 intro wh pins s σ H Q I h;refine isTrue_or (thn (ha pins s σ H Q I h) fun c s1 e=>?_)
 cases c with
 |false=>exact isTrue_or_nil e
 |true=>exact e
theorem sB(ha:PT X a tA)(hb:PW X (.BoolOp .And (b::be) pos) tB'):PW X (.BoolOp .And (a::b::be) pos) (E5 tA tB'):=by
 intro wh pins s σ H Q I h;refine isTrue_and (thn (ha pins s σ H _ I h) fun c s1 ⟨H1,I1,q1⟩=>?_)
 cases c with
 |true=>exact hb wh pins s1 σ H1 Q I1 q1
 |false=>exact⟨H1,I1,q1⟩
theorem eU(ha:PT X a tA)(hb:PW X (.BoolOp .Or (b::be) pos) tB'):PW X (.BoolOp .Or (a::b::be) pos) (tOr tA tB'):=by
 intro wh pins s σ H Q I h;refine isTrue_or (thn (ha pins s σ H _ I h) fun c s1 ⟨H1,I1,q1⟩=>?_)
 cases c with
 |true=>exact⟨H1,I1,q1⟩
 |false=>exact hb wh pins s1 σ H1 Q I1 q1
theorem dg(ha:PT X a tA):PT X (.UnaryOp .Not a pos) (Ei tA):=by
 intro pins s σ H Q I h;exact isTrue_not (ha pins s σ H (fun c H1=>Q (!c) H1) I h)
theorem f8{op}{t:TE}(h:PE X a t):PE X (.BoolOp op [a] pos) t:=.mk <| fun pins s σ H Q I hw=>BoolOp_one (h pins s σ H Q I hw)
end
noncomputable def SqL(K:W.Frag)(H:Hp)(a:Addr)(xs:List V):Prop:=
 Rd H a (.lst xs) \/
  ∃(o:Obj)(its:Array Value)(n:Nat),K.lookup a=some o/\o.cls=.type "list"/\o.dict=none/\o.data=.seq its n/\its.size<=sizeLine/\aH xs its.toList
noncomputable def SqT(K:W.Frag)(H:Hp)(a:Addr)(xs:List V):Prop:=
 Rd H a (.tup xs) \/
  ∃(o:Obj)(its:Array Value)(n:Nat),K.lookup a=some o/\o.cls=.type "tuple"/\o.data=.seq its n/\its.size<=sizeLine/\aH xs its.toList
noncomputable def FS:Value->Option V
 |.none=>some .non
 |.bool b=>some (.bl b)
 |.int i _=>some (.int i)
 |.str x _=>some (.str x)
 |.bytes b _=>some (.byt b)
 |.float b _=>some (.flt b)
 |.ref a=>some (.ref a)
 |.type n=>some (.ty n)
 |_=>none
theorem bo.abs{x:V}{u:Value}(r:bo x u):FS u=some x:=by
 cases x with
 |non=>cases r;rfl
 |bl _=>cases r;rfl
 |int _=>obtain⟨t,rfl⟩:=r;rfl
 |str _=>obtain⟨t,rfl⟩:=r;rfl
 |byt _=>obtain⟨t,rfl⟩:=r;rfl
 |flt _=>obtain⟨t,rfl⟩:=r;rfl
 |ref _=>cases r;rfl
 |ty _=>cases r;rfl
theorem bo.inj{x y:V}{u:Value}(r:bo x u)(q:bo y u):x=y:=Option.some.inj (r.abs.symm.trans q.abs)
theorem aH.inj:∀ {xs ys:List V} {us:List Value},aH xs us->aH ys us->xs=ys
 |_,_,_,.nil,.nil=>rfl
 |_,_,_,.cons r t,.cons r' t'=>by rw[r.inj r',aH.inj t t']
section
variable{X:Cx}{pins:List (Addr×Obj)}{σ:St}{H:Hp}{s:Shared}{a:Addr}{xs ys:List V}
theorem SqL.of{K:W.Frag}(h:H a=some (.lst xs)):SqL K H a xs:=.inl (.inl h)
theorem SqT.of{K:W.Frag}(h:H a=some (.tup xs)):SqT K H a xs:=.inl (.inl h)
theorem Inv.list(I:Inv X pins σ H s)(h:SqL X.K H a xs):∃its:List Value,aH xs its/\PlainL s.heap a its.toArray/\xs.length<=sizeLine:=by
 rcases h with h|⟨o,its,n,hk,hc,hd,hs,hz,r⟩
 ·obtain⟨z,its,n,r,e⟩:=h.ok I.hok
  exact⟨its,r,⟨_,n,e,rfl,rfl,rfl⟩,z⟩
 ·refine⟨its.toList,r,⟨o,n,I.kIn a o hk,hc,hd,by simpa using hs⟩,?_⟩
  have e:=r.length;simp only[Array.length_toList] at e;omega
theorem Inv.tuple(I:Inv X pins σ H s)(h:SqT X.K H a xs):∃its:List Value,aH xs its/\IsTup s.heap a its.toArray/\xs.length<=sizeLine:=by
 rcases h with h|⟨o,its,n,hk,hc,hs,hz,r⟩
 ·obtain⟨z,its,r,p⟩:=h.ok I.hok
  exact⟨its,r,p.1,z⟩
 ·refine⟨its.toList,r,⟨o,I.kIn a o hk,hc,n,by simpa using hs⟩,?_⟩
  have e:=r.length;simp only[Array.length_toList] at e;omega
theorem Inv.Gy(I:Inv X pins σ H s)(h:SqL X.K H a xs)(h':SqL X.K H a ys):xs=ys:=by
 obtain⟨its,r,⟨o,n,e,_,_,d⟩,_⟩:=I.list h;obtain⟨its',r',⟨o',n',e',_,_,d'⟩,_⟩:=I.list h';rw[e] at e';cases e';rw[d] at d';injection d' with d1 _;have:its=its':=by simpa using congrArg Array.toList d1
 subst this;exact r.inj r'
theorem Inv.Gv(I:Inv X pins σ H s)(h:SqT X.K H a xs)(h':SqT X.K H a ys):xs=ys:=by
 obtain⟨its,r,⟨o,e,_,n,d⟩,_⟩:=I.tuple h;obtain⟨its',r',⟨o',e',_,n',d'⟩,_⟩:=I.tuple h';rw[e] at e';cases e';rw[d] at d';injection d' with d1 _;have:its=its':=by simpa using congrArg Array.toList d1
 subst this;exact r.inj r'
end
noncomputable abbrev Cx.wish(X:Cx)(E:Value->Shared->Prop):Cx:={ X with xe:=E }
noncomputable abbrev Cx.nox(X:Cx):Cx:=X.wish fun _ _=>False
theorem Cx.Ok.wish{X:Cx}(ok:X.Ok)(E:Value->Shared->Prop):(X.wish E).Ok:=
 ⟨ok.mod,ok.kind,ok.glob,ok.blt,ok.above,ok.inj,ok.has,ok.cab,ok.hd,ok.frames,ok.stk,ok.exf,ok.bs,ok.bsz,ok.noex,ok.exfs,ok.funs,ok.frf,ok.tt⟩
theorem Cx.Ok.unwish{X:Cx}{E:Value->Shared->Prop}(ok:(X.wish E).Ok):X.Ok:=
 ⟨ok.mod,ok.kind,ok.glob,ok.blt,ok.above,ok.inj,ok.has,ok.cab,ok.hd,ok.frames,ok.stk,ok.exf,ok.bs,ok.bsz,ok.noex,ok.exfs,ok.funs,ok.frf,ok.tt⟩
section
variable{X:Cx}{pins:List (Addr×Obj)}{σ:St}{H:Hp}{s:Shared}{E:Value->Shared->Prop}
theorem Inv.wish(I:Inv X pins σ H s)(E:Value->Shared->Prop):Inv (X.wish E) pins σ H s:=⟨I.ok.wish E,I.os,I.bare,I.base,I.loc,I.cell,I.free,I.freeC,I.pin,I.hok,I.len⟩
theorem Inv.unwish(I:Inv (X.wish E) pins σ H s):Inv X pins σ H s:=⟨I.ok.unwish,I.os,I.bare,I.base,I.loc,I.cell,I.free,I.freeC,I.pin,I.hok,I.len⟩
theorem SP.unwish{D:ic}{f:Flow}{s':Shared}(h:SP (X.wish E) pins D f s'):SP X pins D f s':=by
 cases f with
 |next=>obtain⟨σ',H',I,q⟩:=h;exact⟨σ',H',I.unwish,q⟩
 |brk=>obtain⟨σ',H',I,q⟩:=h;exact⟨σ',H',I.unwish,q⟩
 |cont=>obtain⟨σ',H',I,q⟩:=h;exact⟨σ',H',I.unwish,q⟩
 |ret u=>obtain⟨v,σ',H',I,r,q⟩:=h;exact⟨v,σ',H',I.unwish,r,q⟩
theorem PSs.nox{st:List Stmt}{t:TS}(h:PSs X.nox st t):PSs X st t:=.mk <| fun pins s σ H D I hw=>
 wpAny_mono (h pins s σ H D (I.wish _) hw) (fun _ _ q=>q.unwish) fun _ _ z=>False.elim z
end
section
variable{X:Cx}{st:Stmt}{be:List Stmt}{t u:TS}{e:Expr}{te:TE}{pos:Pos}
noncomputable def B7:TS:=fun D σ H=>D.nx σ H
noncomputable def Fi(t u:TS):TS:=fun D σ H=>t { D with nx:=u D } σ H
theorem bC:PSs X [] B7:=.mk <| fun _ _ σ H _ I h=>wpAny_execs_nil ⟨σ,H,I,h⟩
theorem aj(h1:PS X st t)(h2:PSs X be u):PSs X (st::be) (Fi t u):=.mk <| by
 intro pins s σ H D I h;refine wpAny_execs_cons (thn (h1 pins s σ H { D with nx:=u D } I h) fun f s1 q=>?_)
 cases f with
 |next=>
  obtain⟨σ',H',I',q⟩:=q;exact h2 pins s1 σ' H' D I' q
 |ret v=>exact q
 |brk=>exact q
 |cont=>exact q
theorem av(h1:PS X st t):PSs X [st] t:=.mk <| by
 intro pins s σ H D I h;refine wpAny_execs_cons (thn (h1 pins s σ H D I h) fun f s1 q=>?_)
 cases f with
 |next=>exact wpAny_execs_nil q
 |ret v=>exact q
 |brk=>exact q
 |cont=>exact q
theorem Inv.quiet{pins:List (Addr×Obj)}{σ:St}{H:Hp}{s:Shared}(I:Inv X pins σ H s):interactive X.env=false:=by simp[interactive,I.ok.kind]
noncomputable def BI(te:TE):TS:=fun D σ H=>te σ H fun _ H1=>D.nx σ H1
theorem og(he:PE X e te)(hs:swapsWith e none pos.line X.env=pure false:=by rfl):PS X (.Expr e pos) (BI te):=.mk <| by
 intro pins s σ H D I h;exact wpAny_Expr_any (thn (he pins s σ H _ I h) fun v s1 ⟨x,H1,I1,r1,q1⟩=>⟨σ,H1,I1,q1⟩) I.quiet hs
noncomputable def FC(te:TE):TS:=fun D σ H=>te σ H D.rt
theorem aO(he:PE X e te):PS X (.Return (some e) pos) (FC te):=.mk <| by
 intro pins s σ H D I h;exact wpAny_Return_some (thn (he pins s σ H _ I h) fun v s1 ⟨x,H1,I1,r1,q1⟩=>⟨x,σ,H1,I1,r1,q1⟩)
noncomputable def ED(c:TT)(t u:TS):TS:=fun D σ H=>c σ H fun b H1=>if b=true then t D σ H1 else u D σ H1
theorem cZ{c:Expr}{a b:List Stmt}{tc:TT}(hc:PT X c tc)(ha:PSs X a t)(hb:PSs X b u):PS X (.If c a b pos) (ED tc t u):=.mk <| by
 intro pins s σ H D I h;refine wpAny_If (thn (hc pins s σ H _ I h) fun d s1 ⟨H1,I1,q1⟩=>?_)
 cases d with
 |true=>exact ha pins s1 σ H1 D I1 q1
 |false=>exact hb pins s1 σ H1 D I1 q1
end
noncomputable abbrev TG:=V->St->Hp->(St->Hp->Prop)->Prop
noncomputable abbrev TGs:=List V->St->Hp->(St->Hp->Prop)->Prop
noncomputable def PG(X:Cx)(target:Expr)(t:TG):Prop:=
 ∀(pins:List (Addr×Obj)) (s:Shared) (σ:St) (H:Hp) (v:V) (u:Value) (Q:St->Hp->Prop),Inv X pins σ H s->bo v u->t v σ H Q ->
  wpAny (model X.prog X.w) X.A (assign target X.env u) (fun _ s'=>∃σ' H',Inv X pins σ' H' s'/\Q σ' H') X.xe s
noncomputable def PGs(X:Cx)(ts:List Expr)(t:TGs):Prop:=
 ∀(pins:List (Addr×Obj)) (s:Shared) (σ:St) (H:Hp) (vs:List V) (us:List Value) (Q:St->Hp->Prop),Inv X pins σ H s->aH vs us->t vs σ H Q ->
  wpAny (model X.prog X.w) X.A (assignInOrder ((assignEach ts X.env).map (·.2)) us) (fun _ s'=>∃σ' H',Inv X pins σ' H' s'/\Q σ' H') X.xe s
noncomputable abbrev D7:=V->V->V->Hp->(Hp->Prop)->Prop
noncomputable def EM(X:Cx)(t:D7):Prop:=
 ∀(pins:List (Addr×Obj)) (s:Shared) (σ:St) (H:Hp) (o i v:V) (ov iv u:Value) (Q:Hp->Prop),Inv X pins σ H s->bo o ov->bo i iv->bo v u->t o i v H Q ->
  wpAny (model X.prog X.w) X.A (setItem ov iv u) (fun _ s'=>∃H',Inv X pins σ H' s'/\Q H') X.xe s
section
variable{X:Cx}{pos:Pos}
noncomputable def xU(i:Nat):TG:=fun v σ H Q=>Q (σ.set i (some v)) H
theorem aX{i:Nat}{x:Str}(hN:X.N.Nodup)(hi:X.N[i]?=some x)(hx:Loc X.env.scope x)(hf:X.fn x=true\/X.env.scope.names.lookup x=some .local:=by first|exact .inl rfl|exact .inr rfl|assumption):PG X (.Name x pos) (xU i):=by
 intro pins s σ H v u Q I r h;exact wpAny_assign_Name (pJ I hN hi hx r (fun s' I'=>⟨_,H,I',h⟩) hf)
noncomputable def EJ:TGs:=fun vs σ H Q=>vs=[]/\Q σ H
noncomputable def B9(t:TG)(u:TGs):TGs:=fun vs σ H Q=>∃v r,vs=v::r/\t v σ H fun σ' H'=>u r σ' H' Q
theorem oh:PGs X [] EJ:=by
 intro pins s σ H vs us Q I r h;obtain⟨e,h⟩:=h;subst e;cases r;exact assignInOrder_nil ⟨σ,H,I,h⟩
theorem eH{e:Expr}{es:List Expr}{t:TG}{u:TGs}(h1:PG X e t)(h2:PGs X es u)(hs:(assignEach (e::es) X.env).map (·.2)=assign e X.env::(assignEach es X.env).map (·.2):=by rfl):PGs X (e::es) (B9 t u):=by
 intro pins s σ H vs us Q I r h;obtain⟨v,vr,e1,h⟩:=h;subst e1
 cases r with
 |cons r rr=>
  rw[hs];refine assignInOrder_cons (thn (h1 pins s σ H _ _ _ I r h) fun _ s1 ⟨σ1,H1,I1,q1⟩=>?_);exact h2 pins s1 σ1 H1 _ _ Q I1 rr q1
noncomputable def DK(K:W.Frag)(n:Nat)(t:TGs):TG:=fun v σ H Q=>∃a xs,v=.ref a/\SqT K H a xs/\xs.length=n/\t xs σ H Q
theorem DD{es:List Expr}{k:Nat}{t:TGs}{n:Nat}(hc:X.calm=true)(h:PGs X es t)(hn:(assignEach es X.env).length=n:=by rfl)(hst:(assignEach es X.env).findIdx? (·.1)=none:=by rfl):PG X (.Tuple es k pos) (DK X.K n t):=by
 intro pins s σ H v u Q I r hw;obtain⟨a,xs,e1,hq,hl,hw⟩:=hw;subst e1;cases r;obtain⟨its,rv,ht,hz⟩:=I.tuple hq;refine assign_Tuple_tuple (I.ok.hd hc) ht (by simp[hn,←hl,rv.length]) hst fun h' hx=>?_
 have I1:Inv X pins σ H { s with heap:=h' }:=I.kept (t':=s.toks) fun b o e=>hx b o (Nat.ne_of_lt (Heap.lt_size e)) e;exact h pins _ σ H xs _ Q I1 (by simpa using rv) hw
noncomputable def Ff(to ti:TE)(t:D7):TG:=fun v σ H Q=>to σ H fun o H1=>ti σ H1 fun i H2=>t o i v H2 fun H3=>Q σ H3
theorem jx{o i:Expr}{to ti:TE}{t:D7}(ho:PE X o to)(hi:PE X i ti)(hs:EM X t)
  (ha:∀v,assign (.Subscript o i pos) X.env v=(do
   let ov ← holding [v] (eval o X.env)
   let iv ← holding [v,ov] (eval i X.env)
   standAt pos
   holding [v,ov,iv] (setItem ov iv v)
   release [v,ov,iv] []):=by intro _;rfl):PG X (.Subscript o i pos) (Ff to ti t):=by
 intro pins s σ H v u Q I r h;rw[ha];refine wpAny_bind (wpAny_holding (thn (ho pins s σ H _ I h) fun ov s1 ⟨x,H1,I1,r1,q1⟩=>?_));refine wpAny_bind (wpAny_holding (thn (hi pins s1 σ H1 _ I1 q1) fun iv s2 ⟨y,H2,I2,r2,q2⟩=>?_));refine wpAny_bind (wpAny_standAt (wpAny_bind (wpAny_holding (thn (hs pins s2 σ H2 x y v ov iv u _ I2 r1 r2 r q2) fun _ s3 ⟨H3,I3,q3⟩=>?_))));exact wpAny_release ⟨σ,H3,I3,q3⟩
noncomputable def Dz(te:TE)(g:TG):TS:=fun D σ H=>te σ H fun x H1=>g x σ H1 D.nx
theorem gQ{tg e:Expr}{te:TE}{g:TG}(he:PE X e te)(hg:PG X tg g)(hs:swapsWithSole [tg] e pos.line X.env=pure false:=by rfl)(hw:swappedStores [tg] e X.env=pure none:=by rfl)(h1:(assignEach [tg] X.env).map (·.2)=[assign tg X.env]:=by rfl):PS X (.Assign [tg] e pos) (Dz te g):=.mk <| by
 intro pins s σ H D I h;refine wpAny_Assign_stores (thn (he pins s σ H _ I h) fun v s1 ⟨x,H1,I1,r1,q1⟩=>?_) hs hw;rw[h1];exact thn (hg pins s1 σ H1 x v _ I1 r1 q1) fun _ s2 q=>q
theorem aE{i:Nat}{x:Str}{e:Expr}{te:TE}{pos':Pos}(hN:X.N.Nodup)(hi:X.N[i]?=some x)(hx:Loc X.env.scope x)(he:PE X e te)(hs:swapsWith e (some (.Name x pos')) pos.line X.env=pure false:=by rfl)(hf:X.fn x=true\/X.env.scope.names.lookup x=some .local:=by first|exact .inl rfl|exact .inr rfl|assumption):
  PS X (.Assign [.Name x pos'] e pos) (Dz te (xU i)):=.mk <| by
 intro pins s σ H D I h;refine wpAny_Assign_Name (thn (he pins s σ H _ I h) fun v s1 ⟨y,H1,I1,r1,q1⟩=>?_) hs;exact pJ I1 hN hi hx r1 (fun s2 I2=>⟨_,H1,I2,q1⟩) hf
end
section
variable{X:Cx}{pos:Pos}
noncomputable def yV(c:TT)(tb:TS):TS:=fun D σ H=>∃W:Nat->St->Hp->Prop,(∃m,W m σ H)/\∀m σ H,W m σ H ->
 c σ H fun b H1=>if b=true then ∃N:St->Hp->Prop,(∀σ' H',N σ' H'->∃m',m'<m/\W m' σ' H')/\tb { D with nx:=N,ct:=N,bk:=D.nx } σ H1 else D.nx σ H1
theorem kZ{c:Expr}{body:List Stmt}{tc:TT}{tb:TS}(hp:PassesOwn (model X.prog X.w) X.A X.env X.xe)(hc:PT X c tc)(hb:PSs X body tb):PS X (.While c body [] pos) (yV tc tb):=.mk <| by
 intro pins s σ H D I h;obtain⟨W,⟨m0,w0⟩,turn⟩:=h;refine wpAny_While (codeAny_whileLoop (fun n s'=>∃σ' H',Inv X pins σ' H' s'/\W n σ' H') ?_ m0 ⟨σ,H,I,w0⟩);rintro n s1 ⟨σ1,H1,I1,w1⟩;refine wpAny_passesOwn hp (thn (hc pins s1 σ1 H1 _ I1 (turn n σ1 H1 w1)) fun b s2 ⟨H2,I2,q2⟩=>?_)
 cases b with
 |true=>
  obtain⟨N,hN,q2⟩:=q2;rw[if_pos rfl];refine wpAny_passesOwn hp (thn (hb pins s2 σ1 H2 _ I2 q2) fun f s3 q3=>?_)
  cases f with
  |next=>
   obtain⟨σ3,H3,I3,n3⟩:=q3;obtain⟨m',hm,w3⟩:=hN σ3 H3 n3;exact⟨m',hm,σ3,H3,I3,w3⟩
  |cont=>
   obtain⟨σ3,H3,I3,n3⟩:=q3;obtain⟨m',hm,w3⟩:=hN σ3 H3 n3;exact⟨m',hm,σ3,H3,I3,w3⟩
  |brk=>exact q3
  |ret v=>exact q3
 |false=>
  rw[if_neg Bool.false_ne_true];exact wpAny_execs_nil ⟨σ1,H2,I2,q2⟩
end
structure It where
 go:Nat->Hp->Prop
 yld:Nat->Hp->V->Hp->Prop
 stop:Nat->Hp->Prop
noncomputable def iT(X:Cx)(pins:List (Addr×Obj))(H:Hp)(b:Addr):Prop:=
 H b=none/\b≠X.env.locals/\b ∉ X.fs/\(b∈X.ex\/X.s₀.heap.objs.size<=b)/\(∀x c,X.env.cells.lookup x=some c->c≠b)/\∀p∈X.pn++pins,p.1≠b
theorem Inv.Gz{X:Cx}{pins:List (Addr×Obj)}{σ:St}{H H':Hp}{s:Shared}{b:Addr}(I:Inv X pins σ H s)(hb:s.heap.objs.size<=b)(hn:H' b=none):iT X pins H' b:=by
 refine⟨hn,Nat.ne_of_gt (Nat.lt_of_lt_of_le I.lt hb),I.nofs hb,.inr (Nat.le_trans I.sz hb),fun x c e z=>?_,fun p hp z=>?_⟩
 ·obtain⟨v,q⟩:=I.cell x c e
  exact absurd (Nat.lt_of_lt_of_le q.lt (by rw[z];exact hb)) (Nat.lt_irrefl _)
 ·exact absurd (Nat.lt_of_lt_of_le (Heap.lt_size (I.pin p hp).1) (by rw[z];exact hb)) (Nat.lt_irrefl _)
structure sL(P:Program)(w:World)(K:W.Frag)(tg:Expr)(J:It)(fp:List Addr)(it:Addr)(tn:Nat->Heap->Prop):Prop where
 mem:it∈fp
 obj:∀i h,tn i h->∀b∈fp,∃o,h.get? b=some o/\∀v,o.data≠.cell v
 keep:∀i h h',tn i h->(∀b∈fp,∀o,h.get? b=some o->h'.get? b=some o)->tn i h'
 item:∀(X:Cx),X.prog=P->X.w=w->X.K=K->X.calm=true->∀(i:Nat) (pins:List (Addr×Obj)) (s:Shared) (σ:St) (H:Hp) (E:Value->Shared->Prop),Inv X pins σ H s->(∀b∈fp,iT X pins H b)->tn i s.heap->J.go i H ->
  wpAny (model P w) X.A (pyNext (.ref it)) (fun r s1=>∃u,r=some u /\
   wpAny (model P w) X.A (letOwnedTupleGo tg (.ref it) u) (fun _ s2=>∃x H',Inv X pins σ H' s2/\bo x u/\J.yld i H x H'/\tn (i+1) s2.heap/\∀b∈fp,H' b=none) E s1) E s
 done:∀(X:Cx),X.prog=P->X.w=w->X.K=K->X.calm=true->∀(i:Nat) (pins:List (Addr×Obj)) (s:Shared) (σ:St) (H:Hp) (E:Value->Shared->Prop),Inv X pins σ H s->(∀b∈fp,iT X pins H b)->tn i s.heap->J.stop i H ->
  wpAny (model P w) X.A (pyNext (.ref it)) (fun r s1=>r=none/\Inv X pins σ H s1) E s
 self:∀(A:Around)(i:Nat)(s:Shared)(Q:Value->Shared->Prop)(E:Value->Shared->Prop),tn i s.heap->Q (.ref it) s->wpAny (model P w) A (pyIter (.ref it)) Q E s
noncomputable abbrev TI:=St->Hp->(It->Hp->Prop)->Prop
noncomputable def PIE(X:Cx)(pins:List (Addr×Obj))(σ:St)(tg:Expr)(R:It->Hp->Prop)(itv:Value)(s2:Shared):Prop:=
 ∃(it:Addr)(fp:List Addr)(tn:Nat->Heap->Prop)(J:It)(H':Hp),itv=.ref it/\Inv X pins σ H' s2/\sL X.prog X.w X.K tg J fp it tn/\tn 0 s2.heap/\(∀b∈fp,iT X pins H' b)/\R J H'
noncomputable def PI(X:Cx)(tg iter:Expr)(wi:TI):Prop:=
 ∀(pins:List (Addr×Obj)) (s:Shared) (σ:St) (H:Hp) (R:It->Hp->Prop),Inv X pins σ H s->wi σ H R ->
  wpAny (model X.prog X.w) X.A (eval iter X.env) (fun v s1=>wpAny (model X.prog X.w) X.A (pyIter v) (PIE X pins σ tg R) X.xe s1) X.xe s
theorem yk{M:Model}{A:Around}{E:Value->Shared->Prop}{s:Shared}{tg:Expr}{it:Addr}{u:Value}{o:Obj}{n:String}{vs:Array Value}{Q:Unit->Shared->Prop}(ho:s.heap.get? it=some o)(hc:o.cls=.type n)(hd:o.data=.fields vs)(hn:["enumerate","zip","dict_itemiterator","dict_reverseitemiterator","odict_iterator","itertools.zip_longest","itertools.pairwise"].contains n=false)(hQ:Q () s):wpAny M A (letOwnedTupleGo tg (.ref it) u) Q E s:=by
  unfold letOwnedTupleGo
  cases tg<;>first
    |exact wpAny_pure hQ
    | (cases u<;>first
        |exact wpAny_pure hQ
        | (refine wpAny_bind (wpAny_load ho ?_)
           rw[hc,hd];show wpAny M A (if (["enumerate","zip","dict_itemiterator","dict_reverseitemiterator","odict_iterator","itertools.zip_longest","itertools.pairwise"].contains n && vs[0]? == some (rawInt _))=true then _ else _) Q E s
           rw[if_neg (by intro h;rw[hn,Bool.false_and] at h;cases h)]
           exact wpAny_pure hQ))
noncomputable def Itl(K:W.Frag)(a:Addr):It:=
 ⟨fun i H=>∃xs x,SqL K H a xs/\xs[i]?=some x,fun i H x H'=>H'=H/\∀xs,SqL K H a xs->xs[i]?=some x,fun i H=>∃xs,SqL K H a xs/\xs.length<=i⟩
noncomputable def Itt(K:W.Frag)(a:Addr):It:=
 ⟨fun i H=>∃xs x,SqT K H a xs/\xs[i]?=some x,fun i H x H'=>H'=H/\∀xs,SqT K H a xs->xs[i]?=some x,fun i H=>∃xs,SqT K H a xs/\xs.length<=i⟩
noncomputable def Itr(lo:Int)(n:Nat):It:=⟨fun i _=>i<n,fun i H x H'=>H'=H/\x=.int (lo+i),fun i _=>n<=i⟩
theorem vR{P:Program}{w:World}{K:W.Frag}{tg:Expr}(a it:Addr):sL P w K tg (Itl K a) [it] it (fun i h=>h.IsListIter it a i) where
 mem:=by simp
 obj:=fun i h st b hb=>by
  have e:b=it:=by simpa using hb
  subst e;obtain⟨o,e,c,d⟩:=st;exact⟨o,e,fun v z=>by rw[d] at z;cases z⟩
 keep:=fun i h h' st k=>st.at fun o e=>k it (by simp) o e
 item:=by
  intro X hP hw hK hc i pins s σ H E I hf st hg;subst hP hw hK;obtain⟨xs,x,hq,hx⟩:=hg;obtain⟨its,rv,p,hz⟩:=I.list hq;obtain⟨u,hu,ru⟩:=rv.get hx;obtain⟨f0,f1,f2,f3,f4,f5⟩:=hf it (by simp)
  refine wpAny_pyNext_list_item st p.isList (x:=u) (by simpa using hu) fun h' st' sb=>?_
  have I1:Inv X pins σ H { s with heap:=h' }:=I.turned (t':=s.toks) (fun b o hb e=>(sb.2 b hb).trans e) f0 f1 f3 f4 f5;obtain⟨o,e,c,d⟩:=id st';exact⟨u,rfl,yk (s:={ s with heap:=h' }) e c d (by decide) ⟨x,H,I1,ru,⟨rfl,fun ys hy=>by rw[I.Gy hy hq];exact hx⟩,st',fun b hb=>(hf b hb).1⟩⟩
 done:=by
  intro X hP hw hK hc i pins s σ H E I hf st hg;subst hP hw hK;obtain⟨xs,hq,hx⟩:=hg;obtain⟨its,rv,p,hz⟩:=I.list hq;obtain⟨f0,f1,f2,f3,f4,f5⟩:=hf it (by simp)
  have hl:=rv.length;exact wpAny_pyNext_list_end (I.ok.hd hc) st p.isList (by simp;omega) fun h' eb=>⟨rfl,I.turned (t':=s.toks) (fun b o hb e=>eb b o hb e) f0 f1 f3 f4 f5⟩
 self:=fun _ _ _ _ _ st h=>wpAny_pyIter_listiter st h
theorem sM{P:Program}{w:World}{K:W.Frag}{tg:Expr}(a it:Addr):sL P w K tg (Itt K a) [it] it (fun i h=>h.IsTupleIter it a i) where
 mem:=by simp
 obj:=fun i h st b hb=>by
  have e:b=it:=by simpa using hb
  subst e;obtain⟨o,e,c,d⟩:=st;exact⟨o,e,fun v z=>by rw[d] at z;cases z⟩
 keep:=fun i h h' st k=>st.at fun o e=>k it (by simp) o e
 item:=by
  intro X hP hw hK hc i pins s σ H E I hf st hg;subst hP hw hK;obtain⟨xs,x,hq,hx⟩:=hg;obtain⟨its,rv,p,hz⟩:=I.tuple hq;obtain⟨u,hu,ru⟩:=rv.get hx;obtain⟨f0,f1,f2,f3,f4,f5⟩:=hf it (by simp)
  refine wpAny_pyNext_tuple_item st (show s.heap.IsTuple a its.toArray from p) (x:=u) (by simpa using hu) fun h' st' sb=>?_
  have I1:Inv X pins σ H { s with heap:=h' }:=I.turned (t':=s.toks) (fun b o hb e=>(sb.2 b hb).trans e) f0 f1 f3 f4 f5;obtain⟨o,e,c,d⟩:=id st';exact⟨u,rfl,yk (s:={ s with heap:=h' }) e c d (by decide) ⟨x,H,I1,ru,⟨rfl,fun ys hy=>by rw[I.Gv hy hq];exact hx⟩,st',fun b hb=>(hf b hb).1⟩⟩
 done:=by
  intro X hP hw hK hc i pins s σ H E I hf st hg;subst hP hw hK;obtain⟨xs,hq,hx⟩:=hg;obtain⟨its,rv,p,hz⟩:=I.tuple hq;obtain⟨f0,f1,f2,f3,f4,f5⟩:=hf it (by simp)
  have hl:=rv.length;exact wpAny_pyNext_tuple_end (I.ok.hd hc) st (show s.heap.IsTuple a its.toArray from p) (by simp;omega) fun h' eb=>⟨rfl,I.turned (t':=s.toks) (fun b o hb e=>eb b o hb e) f0 f1 f3 f4 f5⟩
 self:=fun _ _ _ _ _ st h=>wpAny_pyIter_tupleiter st h
theorem tF{P:Program}{w:World}{K:PySem.W.Frag}{tg:Expr}(it:Addr)(lo:Int)(n:Nat):sL P w K tg (Itr lo n) [it] it (fun i h=>IsRangeIter h it (lo+(i:Nat)*1) ((n:Int)-(i:Nat)) 1) where
 mem:=by simp
 obj:=fun i h st b hb=>by
  have e:b=it:=by simpa using hb
  subst e
  exact⟨_,st,fun v z=>by
   have z':Data.fields _=Data.cell v:=z
   cases z'⟩
 keep:=fun i h h' st k=>k it (by simp) _ st
 item:=by
  intro X hP hw hK hc i pins s σ H E I hf st hg;subst hP hw hK;obtain⟨f0,f1,f2,f3,f4,f5⟩:=hf it (by simp)
  have W:=Walks.range (prog:=X.prog) (w:=X.w) (I.ok.hd hc) it lo 1 n;refine W.item i s _ _ hg st fun v h' tk hv st' kk=>?_;obtain⟨t,rfl⟩:=hv;have I1:Inv X pins σ H { s with heap:=h',toks:=tk }:=I.turned (fun b o hb e=>kk b o (by simpa using hb) e) f0 f1 f3 f4 f5
  refine⟨_,rfl,yk (s:={ s with heap:=h',toks:=tk }) (n:="range_iterator") st' rfl rfl (by decide) ⟨.int (lo+i),H,I1,⟨t,?_⟩,⟨rfl,rfl⟩,st',fun b hb=>(hf b hb).1⟩⟩
  rw[Int.mul_one]
 done:=by
  intro X hP hw hK hc i pins s σ H E I hf st hg;subst hP hw hK;obtain⟨f0,f1,f2,f3,f4,f5⟩:=hf it (by simp)
  exact wpAny_pyNext_range_end (I.ok.hd hc) st (by have:n<=i:=hg;omega) fun h' eb=>⟨rfl,I.turned (t':=s.toks) (fun b o hb e=>eb b o hb e) f0 f1 f3 f4 f5⟩
 self:=fun _ _ _ _ _ st h=>wpAny_pyIter_rangeiter st h
section
variable{X:Cx}{tg:Expr}
theorem xG{pins:List (Addr×Obj)}{σ:St}{H:Hp}{s:Shared}{R:It->Hp->Prop}{E:Value->Shared->Prop}{lo hi:Int}{t u v:Tok}{tk:Nat}(I:Inv X pins σ H s)(h1:-(2^62)<=lo)(h2:lo<2^62)(h3:-(2^62)<=hi)(h4:hi<2^62)(q:R (Itr lo (hi-lo).toNat) H):wpAny (model X.prog X.w) X.A (pyIter (.ref s.heap.objs.size)) (PIE X pins σ tg R) E { s with heap:=s.heap.push { cls:=.type "range",data:=.fields #[.int lo t,.int hi u,.int 1 v] },toks:=tk }:=by
 refine wpAny_pyIter_range (IsRange.new ..) (small_one h1 h2 h3 h4) ?_;have I1:Inv X pins σ H { s with heap:=s.heap.push { cls:=.type "range",data:=.fields #[.int lo t,.int hi u,.int 1 v] },toks:=tk }:=I.kept fun b o e=>Heap.get?_push_of_some _ e
 refine⟨(s.heap.push { cls:=.type "range",data:=.fields #[.int lo t,.int hi u,.int 1 v] }).objs.size,[(s.heap.push { cls:=.type "range",data:=.fields #[.int lo t,.int hi u,.int 1 v] }).objs.size],_,_,H,rfl,
  I1.kept (t':=tk) fun b o e=>Heap.get?_push_of_some _ e,tF _ lo (hi-lo).toNat,?_,fun b hb=>?_,q⟩
 ·have e1:lo+((0:Nat):Int)*1=lo:=by simp
  have e2:(((hi-lo).toNat:Nat):Int)-((0:Nat):Int)=Builtin.Range.rangeSize lo hi 1:=by rw[rangeSize_one];split<;>omega
  show IsRangeIter _ _ (lo+((0:Nat):Int)*1) ((((hi-lo).toNat:Nat):Int)-((0:Nat):Int)) 1;rw[e1,e2];exact Heap.get?_push_size _ rfl
 ·have e:b=(s.heap.push { cls:=.type "range",data:=.fields #[.int lo t,.int hi u,.int 1 v] }).objs.size:=by simpa using hb
  subst e;exact I1.Gz (Nat.le_refl _) (I1.hok.fresh (Nat.le_refl _))
noncomputable def BO(ta:TA):TI:=fun σ H R=>ta σ H fun vs H1=>∃j:Int,vs=[.int j]/\-(2^62)<=j/\j<2^62/\R (Itr 0 j.toNat) H1
theorem d9{a:Expr}{ta:TA}{p pos:Pos}(hg:Gl X "range")(hm:X.mg "range"=none)(ha:PA X [a] ta)(hs:starEach [a] X.env=[(false,eval a X.env)]:=by rfl):PI X tg (.Call (.Name "range" p) [a] [] pos) (BO ta):=by
 intro pins s σ H R I h;refine Call_ (iC I hg hm boot_range (PyProof.Rows.callWith_type1 (thn (ha pos pins s σ H _ I h) fun us s1 ⟨vs,H1,I1,r1,q1⟩=>?_) hs rfl));obtain⟨j,e,q1,q2,q⟩:=q1;subst e
 cases r1 with
 |cons r rr=>
  cases rr;obtain⟨t,rfl⟩:=r;exact call_range_1 (xG I1 (by omega) (by omega) q1 q2 (by simpa using q))
noncomputable def Dc(wi:TI)(g:TG)(tb:TS):TS:=fun D σ H=>wi σ H fun J H1=>∃W:Nat->Nat->St->Hp->Prop,(∃m,W 0 m σ H1)/\∀i m σ H,W i m σ H ->
 (J.stop i H/\D.nx σ H)\/(J.go i H/\∃N:St->Hp->Prop,(∀σ' H',N σ' H'->∃m',m'<m/\W (i+1) m' σ' H')/\∀x H',J.yld i H x H'->g x σ H' fun σ2 H2=>tb { D with nx:=N,ct:=N,bk:=D.nx } σ2 H2)
noncomputable def l6(fp:List Addr)(h:Heap):List (Addr×Obj):=fp.filterMap fun b=>(h.get? b).map fun o=>(b,o)
theorem gj{fp:List Addr}{h:Heap}{b:Addr}{o:Obj}(hb:b∈fp)(e:h.get? b=some o):(b,o)∈l6 fp h:=List.mem_filterMap.mpr ⟨b,hb,by rw[e];rfl⟩
theorem wu{fp:List Addr}{h:Heap}{p:Addr×Obj}(hp:p∈l6 fp h):p.1∈fp/\h.get? p.1=some p.2:=by
 obtain⟨b,hb,e⟩:=List.mem_filterMap.mp hp
 cases q:h.get? b with
 |none=>rw[q] at e;cases e
 |some o=>
  rw[q] at e;have e':(b,o)=p:=Option.some.inj e;subst e';exact⟨hb,q⟩
theorem Inv.pinned{pins:List (Addr×Obj)}{σ:St}{H:Hp}{s:Shared}{fp:List Addr}(I:Inv X pins σ H s)(hf:∀b∈fp,iT X pins H b)(ho:∀b∈fp,∃o,s.heap.get? b=some o/\∀v,o.data≠.cell v):Inv X (pins++l6 fp s.heap) σ H s:=
 I.GB fun p hp=>(List.mem_append.mp hp).elim (fun z=>I.pin p (List.mem_append_right _ z)) fun z=>by
  obtain⟨hb,e⟩:=wu z;obtain⟨f0,f1,f2,_⟩:=hf p.1 hb;obtain⟨o,e',d⟩:=ho p.1 hb;rw[e] at e';cases e';exact⟨e,f0,f1,f2,d⟩
theorem Inv.unpinned{pins pl:List (Addr×Obj)}{σ:St}{H:Hp}{s:Shared}(I:Inv X (pins++pl) σ H s):Inv X pins σ H s:=I.GB fun p hp=>I.pin p (List.mem_append_right _ (List.mem_append_left _ hp))
theorem gn{iter:Expr}{body:List Stmt}{wi:TI}{g:TG}{tb:TS}{pos:Pos}(hp:PassesOwn (model X.prog X.w) X.A X.env X.xe)(hc:X.calm=true)(hi:PI X tg iter wi)(hg:PG X tg g)(hb:PSs X body tb)(hs:∀x,foldedSetIterable iter X.env x=pure x:=by intro _;rfl):PS X (.For tg iter body [] pos) (Dc wi g tb):=.mk <| by
 intro pins s σ H D I h;refine wpAny_For (thn (hi pins s σ H _ I h) fun v s1 h1=>thn h1 fun itv s2 h2=>?_) hs;obtain⟨it,fp,tn,J,H2,e,I2,T,st2,f2,W,⟨m0,w0⟩,turn⟩:=h2;subst e;have stat:∀ {H':Hp},(∀b∈fp,H' b=none)->∀b∈fp,iT X pins H' b:=fun hn b hb=>⟨hn b hb,(f2 b hb).2⟩;refine codeAny_forLoop_any (fun n s'=>∃i σ' H',Inv X pins σ' H' s'/\tn i s'.heap/\(∀b∈fp,H' b=none)/\W i n σ' H') ?_ m0 ⟨0,σ,H2,I2,st2,fun b hb=>(f2 b hb).1,w0⟩
 rintro n s3 ⟨i,σ3,H3,I3,st3,fr3,w3⟩;rcases turn i n σ3 H3 w3 with⟨stop,qn⟩|⟨go,N,hN,step⟩
 ·refine wpAny_passesOwn hp (thn (T.done X rfl rfl rfl hc i pins s3 σ3 H3 X.xe I3 (stat fr3) st3 stop) fun r s4 ⟨hr,I4⟩=>?_)
  subst hr;exact wpAny_execs_nil ⟨σ3,H3,I4,qn⟩
 ·refine wpAny_passesOwn hp (thn (T.item X rfl rfl rfl hc i pins s3 σ3 H3 X.xe I3 (stat fr3) st3 go) fun r s4 ⟨u,hr,h4⟩=>?_)
  subst hr;refine wpAny_passesOwn hp (thn h4 fun _ s5 ⟨x,H5,I5,r5,y5,st5,fr5⟩=>?_);have I5':=I5.pinned (stat fr5) (T.obj _ _ st5);refine wpAny_passesOwn hp (thn (hg _ s5 σ3 H5 x u _ I5' r5 (step x H5 y5)) fun _ s6 ⟨σ6,H6,I6,q6⟩=>?_);refine wpAny_passesOwn hp (thn (hb _ s6 σ6 H6 _ I6 q6) fun f s7 q7=>?_)
  have again:∀ {σ7:St} {H7:Hp},Inv X (pins++l6 fp s5.heap) σ7 H7 s7->N σ7 H7->∃m,m<n/\∃i σ' H',Inv X pins σ' H' s7/\tn i s7.heap/\(∀b∈fp,H' b=none)/\W i m σ' H':=fun {σ7 H7} I7 n7=>by
   obtain⟨m',hm,w7⟩:=hN σ7 H7 n7;refine⟨m',hm,i+1,σ7,H7,I7.unpinned,T.keep _ _ _ st5 fun b hb o e=>(I7.pin (b,o) (List.mem_append_right _ (List.mem_append_right _ (gj hb e)))).1,fun b hb=>?_,w7⟩;obtain⟨o,e,d⟩:=T.obj _ _ st5 b hb;exact(I7.pin (b,o) (List.mem_append_right _ (List.mem_append_right _ (gj hb e)))).2.1
  cases f with
  |next=>obtain⟨σ7,H7,I7,n7⟩:=q7;exact again I7 n7
  |cont=>obtain⟨σ7,H7,I7,n7⟩:=q7;exact again I7 n7
  |brk=>obtain⟨σ7,H7,I7,q7⟩:=q7;exact⟨σ7,H7,I7.unpinned,q7⟩
  |ret v=>obtain⟨x7,σ7,H7,I7,r7,q7⟩:=q7;exact⟨x7,σ7,H7,I7.unpinned,r7,q7⟩
end
noncomputable abbrev R2:=V->V->Hp->VK->Prop
noncomputable def OpR(X:Cx)(f:Value->Value->Sem Value)(r:R2):Prop:=
 ∀(pins:List (Addr×Obj)) (s:Shared) (σ:St) (H:Hp) (x y:V) (v u:Value) (Q:VK),Inv X pins σ H s->bo x v->bo y u->r x y H Q ->
  wpAny (model X.prog X.w) X.A (f v u) (EP X pins σ Q) X.xe s
noncomputable def UnR(X:Cx)(f:Value->Sem Value)(r:V->Hp->VK->Prop):Prop:=
 ∀(pins:List (Addr×Obj)) (s:Shared) (σ:St) (H:Hp) (x:V) (v:Value) (Q:VK),Inv X pins σ H s->bo x v->r x H Q ->
  wpAny (model X.prog X.w) X.A (f v) (EP X pins σ Q) X.xe s
noncomputable def cm(X:Cx)(f:Value)(r:List V->Hp->VK->Prop):Prop:=
 ∀(pins:List (Addr×Obj)) (s:Shared) (σ:St) (H:Hp) (xs:List V) (us:List Value) (Q:VK),Inv X pins σ H s->aH xs us->r xs H Q ->
  wpAny (model X.prog X.w) X.A (call f us) (EP X pins σ Q) X.xe s
noncomputable def FW(X:Cx)(r:V->Hp->(Bool->Hp->Prop)->Prop):Prop:=
 ∀(pins:List (Addr×Obj)) (s:Shared) (σ:St) (H:Hp) (x:V) (v:Value) (Q:Bool->Hp->Prop),Inv X pins σ H s->bo x v->r x H Q ->
  wpAny (model X.prog X.w) X.A (truthy v) (TP X pins σ Q) X.xe s
noncomputable def tOp(r:R2)(ta tb:TE):TE:=fun σ H Q=>ta σ H fun x H1=>tb σ H1 fun y H2=>r x y H2 Q
noncomputable def tUn(r:V->Hp->VK->Prop)(ta:TE):TE:=fun σ H Q=>ta σ H fun x H1=>r x H1 Q
noncomputable def rI(C:Int->Int->Prop)(g:Int->Int->V):R2:=fun x y H Q=>∃i j,x=.int i/\y=.int j/\C i j/\Q (g i j) H
noncomputable def rI0(g:Int->Int->V):R2:=fun x y H Q=>∃i j,x=.int i/\y=.int j/\Q (g i j) H
noncomputable def rU(g:Int->V):V->Hp->VK->Prop:=fun x H Q=>∃i,x=.int i/\Q (g i) H
section
variable{X:Cx}{a b c:Expr}{ta tb tc:TE}{pos:Pos}
theorem Db(ha:PE X a ta)(hb:PE X b tb){pins:List (Addr×Obj)}{s:Shared}{σ:St}{H:Hp}{R:V->V->Hp->Prop}(I:Inv X pins σ H s)(h:ta σ H fun x H1=>tb σ H1 fun y H2=>R x y H2){Q:Value->Shared->Prop}{f:Value->Value->Sem Value}(hf:∀v u s2 x y H2,Inv X pins σ H2 s2->bo x v->bo y u->R x y H2->wpAny (model X.prog X.w) X.A (f v u) Q X.xe s2):
  wpAny (model X.prog X.w) X.A (eval a X.env) (fun v s₁=>wpAny (model X.prog X.w) X.A (eval b X.env) (fun u s₂=>wpAny (model X.prog X.w) X.A (f v u) Q X.xe s₂) X.xe s₁) X.xe s:=by
 refine thn (ha pins s σ H _ I h) fun v s1 ⟨x,H1,I1,r1,q1⟩=>?_;refine thn (hb pins s1 σ H1 _ I1 q1) fun u s2 ⟨y,H2,I2,r2,q2⟩=>?_;exact hf v u s2 x y H2 I2 r1 r2 q2
theorem aF{op:Operator}{r:R2}(ho:OpR X (binaryOp op) r)(ha:PE X a ta)(hb:PE X b tb):PE X (.BinOp a op b pos) (tOp r ta tb):=.mk <| by
 intro pins s σ H Q I h;exact wpAny_BinOp (Db ha hb I h fun v u s2 x y H2 I2 rx ry q=>ho pins s2 σ H2 x y v u Q I2 rx ry q)
theorem ug{op:UnaryOp}{r:V->Hp->VK->Prop}(ho:UnR X (unaryOp op) r)(ha:PE X a ta):PE X (.UnaryOp op a pos) (tUn r ta):=.mk <| by
 intro pins s σ H Q I h;exact UnaryOp_ (thn (ha pins s σ H _ I h) fun v s1 ⟨x,H1,I1,r1,q1⟩=>ho pins s1 σ H1 x v Q I1 r1 q1)
theorem opI{f:Value->Value->Sem Value}{C:Int->Int->Prop}{g:Int->Int->Int}(rule:∀(i j:Int)(t u:Tok)(s:Shared)(Q:Value->Shared->Prop)(E:Value->Shared->Prop),C i j->Q (.int (g i j) s.toks) { s with toks:=s.toks+1 }->wpAny (model X.prog X.w) X.A (f (.int i t) (.int j u)) Q E s):
  OpR X f (rI C fun i j=>.int (g i j)):=by
 intro pins s σ H x y v u Q I rx ry h;obtain⟨i,j,rfl,rfl,hc,q⟩:=h;obtain⟨t,rfl⟩:=rx;obtain⟨t',rfl⟩:=ry;exact rule i j t t' s _ _ hc ⟨.int (g i j),H,I.tok _,⟨_,rfl⟩,q⟩
theorem EX{f:Value->Value->Sem Value}{g:Int->Int->Int}(rule:∀(i j:Int)(t u:Tok)(s:Shared)(Q:Value->Shared->Prop)(E:Value->Shared->Prop),Q (.int (g i j) s.toks) { s with toks:=s.toks+1 }->wpAny (model X.prog X.w) X.A (f (.int i t) (.int j u)) Q E s):
  OpR X f (rI0 fun i j=>.int (g i j)):=by
 intro pins s σ H x y v u Q I rx ry h;obtain⟨i,j,rfl,rfl,q⟩:=h;obtain⟨t,rfl⟩:=rx;obtain⟨t',rfl⟩:=ry;exact rule i j t t' s _ _ ⟨.int (g i j),H,I.tok _,⟨_,rfl⟩,q⟩
theorem Bi{f:Value->Value->Sem Value}{g:Int->Int->Bool}(rule:∀(i j:Int)(t u:Tok)(s:Shared)(Q:Value->Shared->Prop)(E:Value->Shared->Prop),Q (.bool (g i j)) s->wpAny (model X.prog X.w) X.A (f (.int i t) (.int j u)) Q E s):
  OpR X f (rI0 fun i j=>.bl (g i j)):=by
 intro pins s σ H x y v u Q I rx ry h;obtain⟨i,j,rfl,rfl,q⟩:=h;obtain⟨t,rfl⟩:=rx;obtain⟨t',rfl⟩:=ry;exact rule i j t t' s _ _ ⟨.bl (g i j),H,I,rfl,q⟩
noncomputable def EZ(i j:Int):Prop:=0<j/\j<1073741824
noncomputable def FZ(i j:Int):Prop:=0<=j/\j<=1000000/\i.natAbs<2^64
noncomputable def mm(i j:Int):Prop:=(-(2^64)<i/\i<2^64)\/(-(2^64)<j/\j<2^64)
theorem mm.ok{i j:Int}(h:mm i j):IntMulOk i j:=by
 rcases h with⟨h1,h2⟩|⟨h1,h2⟩
 ·exact .of_left (intBits_le_64 h1 h2)
 ·exact .of_right (intBits_le_64 h1 h2)
theorem aY:OpR X (binaryOp .Add) (rI0 fun i j=>.int (i+j)):=EX fun _ _ _ _ _ _ _ q=>add_int q
theorem gN:OpR X (binaryOp .Sub) (rI0 fun i j=>.int (i-j)):=EX fun _ _ _ _ _ _ _ q=>sub_int q
theorem dH:OpR X (binaryOp .Mult) (rI mm fun i j=>.int (i*j)):=opI fun _ _ _ _ _ _ _ hc q=>mul_int q hc.ok
theorem kG:OpR X (binaryOp .FloorDiv) (rI EZ fun i j=>.int (i / j)):=opI fun i j _ _ _ _ _ hc q=>by
 have h1:(0:Int)<j:=hc.1;have h2:j<1073741824:=hc.2;exact floordiv_int (by omega) (by rw[Int.fdiv_eq_ediv_of_nonneg i (by omega)];exact q) (.inl (PyProof.noPylong_small (by omega)))
theorem fj:OpR X (binaryOp .Mod) (rI (fun _ j=>0<j) fun i j=>.int (i%j)):=opI fun i j _ _ _ _ _ hc q=>by
 have h1:(0:Int)<j:=hc;exact mod_int' (by omega) (by rw[Int.fmod_eq_emod_of_nonneg i (by omega)];exact q)
theorem De:OpR X (binaryOp .Pow) (rI FZ fun i j=>.int (i^j.toNat)):=opI fun _ _ _ _ _ _ _ hc q=>pow_int_small hc.1 hc.2.1 hc.2.2 q
theorem unI{f:Value->Sem Value}{g:Int->Int}(rule:∀(i:Int)(t:Tok)(s:Shared)(Q:Value->Shared->Prop)(E:Value->Shared->Prop),Q (.int (g i) s.toks) { s with toks:=s.toks+1 }->wpAny (model X.prog X.w) X.A (f (.int i t)) Q E s):
  UnR X f (rU fun i=>.int (g i)):=by
 intro pins s σ H x v Q I rx h;obtain⟨i,rfl,q⟩:=h;obtain⟨t,rfl⟩:=rx;exact rule i t s _ _ ⟨.int (g i),H,I.tok _,⟨_,rfl⟩,q⟩
theorem oB:UnR X (unaryOp .USub) (rU fun i=>.int (-i)):=unI fun _ _ _ _ _ q=>neg_int q
end
section
variable{X:Cx}{a b c:Expr}{ta tb tc:TE}{pos:Pos}
theorem pX:OpR X (compareOp .Lt) (rI0 fun i j=>.bl (decide (i<j))):=Bi fun _ _ _ _ _ _ _ q=>lt_int q
theorem qF:OpR X (compareOp .LtE) (rI0 fun i j=>.bl (decide (i<=j))):=Bi fun _ _ _ _ _ _ _ q=>le_int q
theorem BQ:OpR X (compareOp .Gt) (rI0 fun i j=>.bl (decide (j<i))):=Bi fun _ _ _ _ _ _ _ q=>gt_int q
theorem Em:OpR X (compareOp .GtE) (rI0 fun i j=>.bl (decide (j<=i))):=Bi fun _ _ _ _ _ _ _ q=>ge_int q
theorem aT(b:Expr){op:CmpOp}(h:op≠.In:=by decide)(h2:op≠.NotIn:=by decide):behindInMarks op b=false:=by
 have e1:(op == CmpOp.In)=false:=by cases op<;>first|rfl|exact absurd rfl h
 have e2:(op == CmpOp.NotIn)=false:=by cases op<;>first|rfl|exact absurd rfl h2
 cases b<;>simp[behindInMarks,e1,e2]
theorem ci{op:CmpOp}{r:R2}(ho:OpR X (compareOp op) r)(ha:PE X a ta)(hb:PE X b tb)(hm:behindInMarks op b=false):PE X (.Compare a [op] [b] pos) (tOp r ta tb):=.mk <| by
 intro pins s σ H Q I h;exact wpAny_Compare1 (Db ha hb I h fun v u s2 x y H2 I2 rx ry q=>ho pins s2 σ H2 x y v u Q I2 rx ry q) hm
noncomputable def Cm(t:TE):TT:=fun σ H Q=>t σ H fun x H'=>∃k,x=.bl k/\Q k H'
theorem aV{op:CmpOp}{r:R2}(ho:OpR X (compareOp op) r)(ha:PE X a ta)(hb:PE X b tb)(hm:behindInMarks op b=false):PT X (.Compare a [op] [b] pos) (Cm (tOp r ta tb)):=by
 intro pins s σ H Q I h
 refine wpAny_isTrue_Compare1 (thn (ha pins s σ H _ I h) fun v s1 ⟨x,H1,I1,r1,q1⟩=>thn (hb pins s1 σ H1 _ I1 q1) fun u s2 ⟨y,H2,I2,r2,q2⟩=>
  thn (ho pins s2 σ H2 x y v u _ I2 r1 r2 q2) fun c s3 ⟨z,H3,I3,r3,k,e,q3⟩=>?_) hm
 subst e;cases r3;exact wpAny_truthy_bool ⟨H3,I3,q3⟩
noncomputable def yO(r r':R2)(ta tb tc:TE):TE:=fun σ H Q=>ta σ H fun x H1=>tb σ H1 fun y H2=>r x y H2 fun z H3=>∃k,z=.bl k /\
 (if k=true then tc σ H3 fun w' H4=>r' y w' H4 Q else Q (.bl false) H3)
theorem qH{op op':CmpOp}{r r':R2}(ho:OpR X (compareOp op) r)(ho':OpR X (compareOp op') r')(ha:PE X a ta)(hb:PE X b tb)(hc:PE X c tc)(hm:lastMarks [op,op'] [b,c]=false:=by with_unfolding_all rfl):PE X (.Compare a [op,op'] [b,c] pos) (yO r r' ta tb tc):=.mk <| by
 intro pins s σ H Q I h
 refine Compare_chain (thn (ha pins s σ H _ I h) fun v s1 ⟨x,H1,I1,r1,q1⟩=>chain_link (thn (hb pins s1 σ H1 _ I1 q1) fun u s2 ⟨y,H2,I2,r2,q2⟩=>
  thn (ho pins s2 σ H2 x y v u _ I2 r1 r2 q2) fun d s3 ⟨z,H3,I3,r3,k,e,q3⟩=>?_)) hm
 subst e;cases r3;refine wpAny_truthy_bool ?_
 cases k with
 |false=>exact ite_ff ⟨.bl false,H3,I3,rfl,q3⟩
 |true=>exact ite_tt (chain_last (thn (hc pins s3 σ H3 _ I3 q3) fun w' s4 ⟨z',H4,I4,r4,q4⟩=>ho' pins s4 σ H4 y z' u w' Q I4 r2 r4 q4))
noncomputable def qT(K:W.Frag)(x:V)(H:Hp)(k:Bool):Prop:=
 match x with
 |.non=>k=false
 |.bl b=>k=b
 |.int i=>k=(i != 0)
 |.str y=>y.length<=sizeLine/\k=((y.length:Int) != 0)
 |.byt y=>y.size<=sizeLine/\k=((y.size:Int) != 0)
 |.ref p=>(∃xs,SqL K H p xs/\k=!xs.isEmpty)\/(∃xs,SqT K H p xs/\k=!xs.isEmpty)\/∃kvs,H p=some (.dK kvs)/\k=!kvs.isEmpty
 |_=>False
theorem rM{κ:Type}{kvs:List (κ×V)}{vs:List (κ×Value)}(r:KV kvs vs):(!vs.isEmpty)=!kvs.isEmpty:=by
 cases r<;>rfl
theorem lI{xs:List V}{its:List Value}(r:aH xs its):(!its.toArray.isEmpty)=!xs.isEmpty:=by
 cases r<;>simp
theorem jR:(sizeLine:Nat)<2^63:=by rw[sizeLine_eq];decide
theorem rZ:FW X (fun x H Q=>∃k,qT X.K x H k/\Q k H):=by
 intro pins s σ H x v Q I rx h;obtain⟨k,e,q⟩:=h;have hl:=jR;have hs:sizeLine=16777216:=sizeLine_eq
 cases x with
 |non=>
  cases rx;have e':k=false:=e;subst e';exact truthy_none ⟨H,I,q⟩
 |bl b=>
  cases rx;have e':k=b:=e;subst e';exact wpAny_truthy_bool ⟨H,I,q⟩
 |int i=>
  obtain⟨t,rfl⟩:=rx;have e':k=(i != 0):=e;subst e';exact PySem.P.truthy_int ⟨H,I,q⟩
 |str y=>
  obtain⟨t,rfl⟩:=rx;obtain⟨hy,e'⟩:y.length<=sizeLine/\k=((y.length:Int) != 0):=e;subst e';exact PySem.P.truthy_str (by omega) ⟨H,I.tok _,q⟩
 |byt y=>
  obtain⟨t,rfl⟩:=rx;obtain⟨hy,e'⟩:y.size<=sizeLine/\k=((y.size:Int) != 0):=e;subst e';exact W.truthy_bytes (by omega) ⟨H,I.tok _,q⟩
 |ref p=>
  cases rx;have e':(∃xs,SqL X.K H p xs/\k=!xs.isEmpty)\/(∃xs,SqT X.K H p xs/\k=!xs.isEmpty)\/∃kvs,H p=some (.dK kvs)/\k=!kvs.isEmpty:=e;rcases e' with⟨xs,hx,e'⟩|⟨xs,hx,e'⟩|⟨kvs,hx,e'⟩
  ·subst e'
   obtain⟨its,r,pl,hz⟩:=I.list hx;have hlen:=r.length;exact wpAny_truthy_list pl.isList (by simp only[List.size_toArray];omega) ⟨H,I.tok _,by rw[lI r];exact q⟩
  ·subst e'
   obtain⟨its,r,pl,hz⟩:=I.tuple hx;have hlen:=r.length;exact truthy_tuple pl (by simp only[List.size_toArray];omega) ⟨H,I.tok _,by rw[lI r];exact q⟩
  ·subst e'
   obtain⟨hz,hS,vs,r,m⟩:kvs.length<=sizeLine/\(p == sysModules)=false/\∃vs,KV kvs vs/\s.heap.DictOf (hJ X.prog X.w) p vs:=I.hok p _ hx;have hlen:kvs.length=vs.length:=Paired.length r;exact wpAny_truthy_dict hS m (by omega) ⟨H,I.tok _,by rw[rM r];exact q⟩
 |_=>exact(show False from e).elim
theorem zg(ha:PE X a ta)(he:∀whole,isTrue a X.env whole=(do let v ← whole;standAt a.pos;holding [v] (truthy v))):
  PT X a (fun σ H Q=>ta σ H fun x H'=>∃k,qT X.K x H' k/\Q k H'):=by
 intro pins s σ H Q I h;exact isTrue_plain (thn (ha pins s σ H _ I h) fun v s1 ⟨x,H1,I1,r1,q1⟩=>rZ pins s1 σ H1 x v Q I1 r1 q1) (he _)
theorem du{x:V}{us:List Value}(r:aH [x] us):∃u,us=[u]/\bo x u:=by
 cases r with
 |cons r1 r2=>cases r2;exact⟨_,rfl,r1⟩
theorem Fd{x y:V}{us:List Value}(r:aH [x,y] us):∃u w',us=[u,w']/\bo x u/\bo y w':=by
 cases r with
 |cons r1 r2=>
  cases r2 with
  |cons r3 r4=>cases r4;exact⟨_,_,rfl,r1,r3⟩
theorem lN:cm X (.builtin "abs") (fun xs H Q=>∃i,xs=[.int i]/\Q (.int (if i<0 then -i else i)) H):=by
 intro pins s σ H xs us Q I r h;obtain⟨i,rfl,q⟩:=h;obtain⟨u,rfl,t,rfl⟩:=du r;exact call_abs_int fun u tk=>⟨.int (if i<0 then -i else i),H,I.tok _,⟨_,rfl⟩,q⟩
theorem mZ:cm X (.type "int") (fun xs H Q=>(∃i,xs=[.int i]/\Q (.int i) H)\/∃k,xs=[.bl k]/\Q (.int (if k then 1 else 0)) H):=by
 intro pins s σ H xs us Q I r h;rcases h with⟨i,rfl,q⟩|⟨k,rfl,q⟩
 ·obtain⟨u,rfl,t,rfl⟩:=du r
  exact call_int_int ⟨.int i,H,I,⟨_,rfl⟩,q⟩
 ·obtain⟨u,rfl,r1⟩:=du r
  cases r1;exact call_int_bool ⟨.int (if k then 1 else 0),H,I.tok _,⟨_,rfl⟩,q⟩
theorem n9:cm X (.type "str") (fun xs H Q=>∃i,xs=[.int i]/\i.natAbs.log2<1920/\Q (.str (toString i)) H):=by
 intro pins s σ H xs us Q I r h;obtain⟨i,rfl,hz,q⟩:=h;obtain⟨u,rfl,t,rfl⟩:=du r;exact PySem.P.str_of_int hz ⟨.str _,H,I.tok _,⟨_,rfl⟩,q⟩
noncomputable def CC(K:W.Frag)(x:V)(H:Hp)(n:Nat):Prop:=
 match x with
 |.str y=>y.length<=sizeLine/\n=y.length
 |.byt y=>y.size<=sizeLine/\n=y.size
 |.ref p=>(∃xs,SqL K H p xs/\n=xs.length)\/∃xs,SqT K H p xs/\n=xs.length
 |_=>False
theorem xC:cm X (.builtin "len") (fun xs H Q=>∃x n,xs=[x]/\CC X.K x H n/\Q (.int n) H):=by
 intro pins s σ H xs us Q I r h;obtain⟨x,n,rfl,e,q⟩:=h;obtain⟨u,rfl,rx⟩:=du r;have hl:=jR;have hs:sizeLine=16777216:=sizeLine_eq
 cases x with
 |str y=>
  obtain⟨t,rfl⟩:=rx;obtain⟨hy,e'⟩:y.length<=sizeLine/\n=y.length:=e;subst e';exact len_str (by omega) ⟨.int _,H,I.tok _,⟨_,rfl⟩,q⟩
 |byt y=>
  obtain⟨t,rfl⟩:=rx;obtain⟨hy,e'⟩:y.size<=sizeLine/\n=y.size:=e;subst e';exact W.len_bytes (by omega) ⟨.int _,H,I.tok _,⟨_,rfl⟩,q⟩
 |ref p=>
  cases rx;have e':(∃xs,SqL X.K H p xs/\n=xs.length)\/∃xs,SqT X.K H p xs/\n=xs.length:=e;rcases e' with⟨xs,hx,e'⟩|⟨xs,hx,e'⟩
  ·subst e'
   obtain⟨its,r',pl,hz⟩:=I.list hx;have hlen:=r'.length;exact Calls.call_len_list pl.isList (by simp only[List.size_toArray];omega) ⟨.int xs.length,H,I.tok _,⟨_,by simp only[List.size_toArray];rw[hlen]⟩,q⟩
  ·subst e'
   obtain⟨its,r',pl,hz⟩:=I.tuple hx;have hlen:=r'.length;exact len_tuple pl (by simp only[List.size_toArray];omega) ⟨.int xs.length,H,I.tok _,⟨_,by simp only[List.size_toArray];rw[hlen]⟩,q⟩
 |_=>exact(show False from e).elim
end
structure DH(h:Heap)(x dx C:Addr)(mA:Str->Option Value):Prop where
 obj:h.get? x=some (W.instObj C dx)
 ns:h.Ns1 dx mA
 ne:dx≠x
theorem vH{h:Heap}{dx:Addr}{mA:Str->Option Value}(n:h.Ns1 dx mA):∃od,h.get? dx=some od/\∀name,W.lookIn name od=some (mA name):=by
 obtain⟨o,es,ep,ho,hd,hk,_,hm⟩:=n;refine⟨o,ho,fun name=>?_⟩;have e:=hm name;unfold nsFind findBy at e;rw[←Array.find?_toList] at e
 unfold W.lookIn;rw[hd];dsimp only;split
 ·rename_i y q
  rw[q] at e;exact congrArg some e
 ·rename_i q
  rw[q] at e
  have a:es.toList.any (·.refKey)=false:=by
   rw[List.any_eq_false];intro y hy;obtain⟨z,t,hkey⟩:=hk y (Array.mem_toList_iff.mp hy);simp[DictEntry.refKey,hkey]
  have a':¬ es.toList.any (·.refKey)=true:=by rw[a];exact Bool.false_ne_true
  rw[if_neg a'];exact congrArg some e
theorem DH.look{h:Heap}{x dx C:Addr}{mA:Str->Option Value}(I:DH h x dx C mA):∃od,W.InstAt h x (W.instObj C dx) C (some od)/\∀name,W.lookIn name od=some (mA name):=
 let ⟨od,ho,hl⟩:=vH I.ns
 ⟨od,⟨I.obj,rfl,rfl,ho⟩,hl⟩
section
variable{P:Program}{w:World}{H H':Hp}{h h':Heap}{a C dx:Addr}{fs fs':List (Str×V)}
theorem Au(hok:HOk P w H h)(e:H a=some (.ins C dx fs)):∃mA,DH h a dx C mA/\(∀f,DF (fs.lookup f) (mA f))/\PySem.Within mA (fs.map (·.1))/\fs.length<=1000/\H dx=some (.own a):=by
 obtain⟨d,z,ne,ob,mA,n,r,q⟩:=(show bV P w H h a (.ins C dx fs) from hok a _ e)
 exact⟨mA,⟨ob,n,ne⟩,r,q,z,d⟩
end
structure Cls(K:W.Frag)(C:Addr):Prop where
 pg:W.plainGet K C Str.empty=true
 hd:W.hasDictIn K C=true
 po:W.plainOver K C=true
 sa:W.findIn K (.ref C) "__setattr__"=some (some (.builtin "object.__setattr__"))
theorem Cls.get{K:W.Frag}{C:Addr}(c:Cls K C)(f:Str):W.plainGet K C f=true:=c.pg
structure Con(K:W.Frag)(C:Addr)(f:Str)(v:V)(u:Value):Prop where
 at_:W.findIn K (.ref C) f=some (some u)
 rel:bo v u
 get:W.specialIn K u "__get__"=some none
 cp:W.copiedNames.contains f=false
structure Gk(K:W.Frag)(C:Addr)(m:Str)(f:Addr):Prop where
 at_:W.findIn K (.ref C) m=some (some (.ref f))
 fn:W.isFn K (.ref f)=true
 kp:W.keepIn K (.ref f)=true
section
variable{X:Cx}{pins:List (Addr×Obj)}{σ:St}{H:Hp}{s:Shared}{A:Around}{E:Value->Shared->Prop}{Q:Value->Shared->Prop}{c:Value}{b:Bool}
inductive j3 (K:PySem.W.Frag) (H:Hp):V->Value->Prop where
 |non:j3 K H .non (.type "NoneType")
 |bl (x:Bool):j3 K H (.bl x) (.type "bool")
 |int (i:Int):j3 K H (.int i) (.type "int")
 |str (x:Str):j3 K H (.str x) (.type "str")
 |flt (x:UInt64):j3 K H (.flt x) (.type "float")
 |lst {a:Addr} {xs:List V} (e:H a=some (.lst xs)):j3 K H (.ref a) (.type "list")
 |frz {a:Addr} {o:Obj} {xs:List V} (e:H a=some (.frz o (.lst xs))):j3 K H (.ref a) (.type "list")
 |tup {a:Addr} {xs:List V} (e:H a=some (.tup xs)):j3 K H (.ref a) (.type "tuple")
 |dK {a:Addr} {kvs:List (Key×V)} (e:H a=some (.dK kvs)):j3 K H (.ref a) (.type "dict")
 |dT {a:Addr} {kvs:List (List Key×V)} (e:H a=some (.dT kvs)):j3 K H (.ref a) (.type "dict")
 |ins {a C dx:Addr} {fs:List (Str×V)} (e:H a=some (.ins C dx fs)) (cl:Cls K C) (ha:PySem.W.findIn K (.ref C) "__class__"=some (some (.builtin "object.__class__")))
   (hn:PySem.W.specialIn K (.builtin "object.__class__") "__get__"=some (some (.builtin "getset_descriptor.__get__"))) (htk:PySem.W.takesIn K (.builtin "object.__class__")=some true)
   (hm:PySem.W.mroIn K C (.type "object")=some true):j3 K H (.ref a) (.ref C)
theorem wa{x:V}{u t:Value}(I:Inv X pins σ H s)(rx:bo x u)(ty:j3 X.K H x t)(e:W.kitOne X.K t c=some b)(h:∀tk,Q (.bool b) { s with toks:=tk }):
  wpAny (model X.prog X.w) A (call (.builtin "isinstance") [u,c]) Q E s:=by
 cases ty with
 |non=>cases (show u=Value.none from rx);exact W.kia_one W.kitx_none I.kIn True.intro e (fun z=>nomatch z) h
 |bl y=>cases (show u=Value.bool y from rx);exact W.kia_one W.kitx_bool I.kIn True.intro e (fun z=>nomatch z) h
 |int i=>obtain⟨t,q⟩:=(show ∃t,u=Value.int i t from rx);cases q;exact W.kia_one W.kitx_int I.kIn True.intro e (fun z=>nomatch z) h
 |str y=>obtain⟨t,q⟩:=(show ∃t,u=Value.str y t from rx);cases q;exact W.kia_one W.kitx_str I.kIn True.intro e (fun z=>nomatch z) h
 |flt y=>obtain⟨t,q⟩:=(show ∃t,u=Value.float y t from rx);cases q;exact W.kia_one W.kitx_float I.kIn True.intro e (fun z=>nomatch z) h
 | @lst a xs ea=>
  cases (show u=Value.ref a from rx)
  obtain⟨_,_,n,_,h1⟩:=(show bV X.prog X.w H s.heap a (.lst xs) from I.hok a _ ea)
  exact W.kia_one W.kitx_list I.kIn ⟨_,h1,rfl⟩ e (fun z=>nomatch z) h
 | @frz a ob xs ea=>
  cases (show u=Value.ref a from rx)
  obtain⟨_,_,_,n,_,h1⟩:=(show bV X.prog X.w H s.heap a (.frz ob (.lst xs)) from I.hok a _ ea)
  exact W.kia_one W.kitx_list I.kIn ⟨_,h1,rfl⟩ e (fun z=>nomatch z) h
 | @tup a xs ea=>
  cases (show u=Value.ref a from rx)
  obtain⟨_,_,_,p⟩:=(show bV X.prog X.w H s.heap a (.tup xs) from I.hok a _ ea)
  obtain⟨o,h1,h2,_⟩:=p.1;exact W.kia_one W.kitx_tuple I.kIn ⟨o,h1,h2⟩ e (fun z=>nomatch z) h
 | @dK a kvs ea=>
  cases (show u=Value.ref a from rx)
  obtain⟨_,_,vs,_,p⟩:=(show bV X.prog X.w H s.heap a (.dK kvs) from I.hok a _ ea)
  obtain⟨o,es,ep,h1,h2,_⟩:=p;exact W.kia_one W.kitx_dict I.kIn ⟨o,h1,h2.1⟩ e (fun z=>nomatch z) h
 | @dT a kvs ea=>
  cases (show u=Value.ref a from rx)
  obtain⟨_,_,xs,_,o,es,ep,h1,h2,_⟩:=(show bV X.prog X.w H s.heap a (.dT kvs) from I.hok a _ ea)
  exact W.kia_one W.kitx_dict I.kIn ⟨o,h1,h2.1⟩ e (fun z=>nomatch z) h
 | @ins a C dx fs ea cl ha hn htk hm=>
  cases (show u=Value.ref a from rx)
  obtain⟨mA,O,_⟩:=Au I.hok ea;obtain⟨od,J,_⟩:=O.look;exact W.kia_one (W.kitx_own (cl.get _) cl.hd ha hn htk hm) I.kIn J e (fun z=>nomatch z) h
end
structure d6(k:Nat)(A:Around):Prop where
 hd:A.handled=none
 dp:A.depth+3*k+5<recursionLimit
 un:A.units+16*k+200<cLine
 gd:A.guards=some []
theorem d6.mono{j k:Nat}{A:Around}(r:d6 k A)(h:j<=k):d6 j A:=⟨r.hd,by have:=r.dp;omega,by have:=r.un;omega,r.gd⟩
theorem d6.deeper{k:Nat}{A:Around}(r:d6 (k+1) A)(env:Env):d6 k (A.deeper env):=
 ⟨r.hd,by have:=r.dp;show A.depth+1+3*k+5<_;omega,by have:=r.un;show A.units+3+16*k+200<_;omega,r.gd⟩
theorem d6.depth{k:Nat}{A:Around}(r:d6 k A):A.depth<recursionLimit:=by have:=r.dp;omega
noncomputable def EF:TA:=fun _ H Q=>Q [] H
noncomputable def pP(ta:TE)(tr:TA):TA:=fun σ H Q=>ta σ H fun x H1=>tr σ H1 fun xs H2=>Q (x::xs) H2
section
variable{X:Cx}{e:Expr}{es:List Expr}{te:TE}{t:TA}{pos:Pos}
theorem af:PA X [] EF:=.mk <| fun _ _ _ _ H Q I h=>Calls.spliced_nil ⟨[],H,I,.nil,h⟩
theorem ac(ha:PE X e te)(hr:PA X es t)(hs:starEach (e::es) X.env=(false,eval e X.env)::starEach es X.env:=by rfl):PA X (e::es) (pP te t):=.mk <| by
 intro pos pins s σ H Q I h;rw[hs];show wpAny _ _ (spliced ((false,eval e X.env)::backTo pos (starEach es X.env))) _ _ s;refine Calls.spliced_cons (thn (ha pins s σ H _ I h) fun u s1 ⟨x,H1,I1,r1,q1⟩=>?_);exact thn (hr pos pins s1 σ H1 _ I1 q1) fun us s2 ⟨xs,H2,I2,r2,q2⟩=>⟨x::xs,H2,I2,.cons r1 r2,q2⟩
noncomputable def Fk(t:TA):TE:=fun σ H Q=>t σ H fun xs H1=>xs.length<=sizeLine/\∀p,H1 p=none->Q (.ref p) (upd H1 p (.tup xs))
noncomputable def Di(t:TA):TE:=fun σ H Q=>t σ H fun xs H1=>xs.length<=sizeLine/\∀p,H1 p=none->Q (.ref p) (upd H1 p (.lst xs))
theorem a0{x1}(h:PA X es t):PE X (.Tuple es x1 pos) (Fk t):=.mk <| by
 intro pins s σ H Q I hq;refine wpAny_Tuple_spliced (thn (h pos pins s σ H _ I hq) fun us s1 ⟨xs,H1,I1,r,z,q⟩=>⟨by rw[←r.length];exact z,?_⟩)
 have hf:H1 s1.heap.objs.size=none:=I1.hok.fresh (Nat.le_refl _);refine⟨.ref s1.heap.objs.size,upd H1 s1.heap.objs.size (.tup xs),I1.laid (t':=s1.toks) (fun b u e=>Heap.get?_push_of_some _ e) (Nat.le_refl _) ?_,rfl,q _ hf⟩;exact⟨z,us,r,⟨_,Heap.get?_push_size _ rfl,rfl,_,rfl⟩,_,Heap.get?_push_size _ rfl,rfl⟩
theorem bE(h:PA X es t):PE X (.List es pos) (Di t):=.mk <| by
 intro pins s σ H Q I hq;refine wpAny_List_spliced (thn (h pos pins s σ H _ I hq) fun us s1 ⟨xs,H1,I1,r,z,q⟩=>⟨by rw[←r.length];exact z,?_⟩)
 have hf:H1 s1.heap.objs.size=none:=I1.hok.fresh (Nat.le_refl _);refine⟨.ref s1.heap.objs.size,upd H1 s1.heap.objs.size (.lst xs),I1.laid (t':=s1.toks) (fun b u e=>Heap.get?_push_of_some _ e) (Nat.le_refl _) ?_,rfl,q _ hf⟩;exact⟨z,us,0,r,Heap.get?_push_size _ rfl⟩
end
noncomputable abbrev Sp:=List V->Hp->VK->XK->Prop
noncomputable abbrev CXT:=List Env->Hp->Shared->XK->Value->Shared->Prop
structure sn(P:Program)(w:World)(K:W.Frag)(mg:Str->Option Value)(base:Heap)(A:Around)(outer:List Env)(s:Shared)(H:Hp):Prop where
 frames:A.frames=some outer
 mod:Mod K mg base
 bs:∀b o,base.get? b=some o->s.heap.get? b=some o/\H b=none
 bsz:base.objs.size<=s.heap.objs.size
 funs:s.heap.FunFrames base outer
 frf:∀b∈frs outer,H b=none
 tt:vq K H
 hok:HOk P w H s.heap
 bare:AllBare s.gens
noncomputable def CE(outer:List Env)(P:Program)(w:World)(H:Hp)(s:Shared)(Q:VK)(u:Value)(s':Shared):Prop:=
 ∃v H',s'.os=s.os/\AllBare s'.gens/\Un (frs outer) [] H H' s.heap s'.heap/\HOk P w H' s'.heap/\bo v u/\Q v H'
noncomputable def CR(CX:CXT)(outer:List Env)(P:Program)(w:World)(H:Hp)(s:Shared)(Q:VK)(E:XK)(r:Result)(s':Shared):Prop:=
 match r with
 |.ok (.ret u)=>CE outer P w H s Q u s'
 |.ok _=>False
 |.error e=>CX outer H s E e s'
structure a7(P:Program)(w:World)(K:W.Frag)(mg:Str->Option Value)(base:Heap)(CX:CXT)(k:Nat)(f:Addr)(fd:FuncData)(ps:List Str)(sp:Sp):Prop where
 len:∀vs H Q E,sp vs H Q E->vs.length=ps.length
 run:∀(A:Around)(outer:List Env)(s:Shared)(H:Hp)(args:Args)(us:List Value)(vs:List V)(Q:VK)(E:XK),d6 k A->sn P w K mg base A outer s H->BindsTo s fd args (ps.zip us)->aH vs us->sp vs H Q E ->
  codeAny (model P w) A (.call (.ref f) args) (CR CX outer P w H s Q E) s
section
variable{X:Cx}{pins:List (Addr×Obj)}{σ:St}{H:Hp}{s s':Shared}
theorem Inv.env0(I:Inv X pins σ H s):sn X.prog X.w X.K X.mg X.base X.A X.stack s H:=
 ⟨I.ok.frames,I.ok.mod,I.bs,Nat.le_trans I.ok.bsz I.sz,I.stack,I.GA,I.ok.tt.mono I.base.tbls,I.hok,I.bare⟩
theorem Inv.after{Q:VK}{u:Value}(I:Inv X pins σ H s)(h:CE X.stack X.prog X.w H s Q u s'):EP X pins σ Q u s':=by
 obtain⟨v,H',os,bare,un,hok,r,q⟩:=h;obtain⟨hh,g,d,t,os'⟩:=s';obtain rfl:os'=s.os:=os;exact⟨v,H',I.call (h':=hh) (g':=g) (d':=d) (t':=t) (ch:=[]) un hok bare (fun b z=>absurd z (by simp)),r,q⟩
end
noncomputable def BB(sp:Sp)(dvs:List V)(E:XK)(t:TA):TE:=fun σ H Q=>t σ H fun vs H1=>sp (vs++dvs) H1 Q E
noncomputable def bq(K:W.Frag)(fd:FuncData)(ps:List Str)(ds:List Value):Prop:=
 ∀(s:Shared)(us:List Value),K.In s.heap->(us++ds).length=ps.length->BindsTo s fd ⟨us,[]⟩ (ps.zip (us++ds))
theorem bq.all{K:W.Frag}{fd:FuncData}{ps:List Str}(h:∀us:List Value,us.length=ps.length->bindArgs fd ⟨us,[]⟩=pure (ps.zip us)):bq K fd ps []:=fun s us _ hl=>by
 rw[List.append_nil] at hl ⊢;exact .of_eq (h us hl)
noncomputable def sF(CX:CXT)(X:Cx)(E:XK):Prop:=∀(pins:List (Addr×Obj)) (σ:St) (H:Hp) (s:Shared) (e:Value) (s':Shared),Inv X pins σ H s->CX X.stack H s E e s'->X.xe e s'
section
variable{X:Cx}{CX:CXT}{k:Nat}{f C:Addr}{fd:FuncData}{ps:List Str}{sp:Sp}{dvs:List V}{ds:List Value}{E:XK}{x m:Str}{p pos apos:Pos}{e o:Expr}{es:List Expr}{ta:TE}{t:TA}
theorem Dg{pins:List (Addr×Obj)}{σ:St}{H:Hp}{s:Shared}{Q:VK}{us:List Value}{vs:List V}(F:a7 X.prog X.w X.K X.mg X.base CX k f fd ps sp)(hr:d6 k X.A)(hb:bq X.K fd ps ds)(hd:aH dvs ds)(hx:sF CX X E)(I:Inv X pins σ H s)(r:aH vs us)(h:sp (vs++dvs) H Q E):wpAny (model X.prog X.w) X.A (call (.ref f) us) (EP X pins σ Q) X.xe s:=by
 have r2:aH (vs++dvs) (us++ds):=r.append hd;have hl:(us++ds).length=ps.length:=by rw[←r2.length];exact F.len _ _ _ _ h
 refine wpAny_call (codeAny_mono (F.run X.A X.stack s H ⟨us,[]⟩ (us++ds) (vs++dvs) Q E hr I.env0 (hb s us I.kIn hl) r2 h) fun r s' hq=>?_)
 cases r with
 |error e=>exact hx pins σ H s e s' I hq
 |ok fl=>
  cases fl with
  |ret u=>exact I.after hq
  |next=>exact False.elim hq
  |brk=>exact False.elim hq
  |cont=>exact False.elim hq
theorem aA(F:a7 X.prog X.w X.K X.mg X.base CX k f fd ps sp)(hr:d6 k X.A)(hg:Gl X x)(hm:X.mg x=some (.ref f))(hk:W.keepIn X.K (.ref f)=true)(hb:bq X.K fd ps ds)(hd:aH dvs ds)(hx:sF CX X E)(ha:PA X (e::es) t)(hdb:(x == ("__debug__":Str))=false:=by decide)(he:starEach (e::es) X.env=(false,eval e X.env)::starEach es X.env:=by rfl)(hpl:(backTo pos (starEach es X.env)).any (·.1)=false:=by rfl):
  PE X (.Call (.Name x p) (e::es) [] pos) (BB sp dvs E t):=.mk <| by
 intro pins s σ H Q I h;refine wpAny_Call_Name_kw (t8 I hg hm ?_ hdb);refine W.callWith_K (h₀:=X.base) I.ok.mod.kin hk (thn (ha pos pins s σ H _ I h) fun us s1 ⟨vs,H1,I1,r,q⟩=>⟨I1.kIn,?_⟩) he hpl;exact Dg F hr hb hd hx I1 r q
structure Mk(K:W.Frag)(C f:Addr):Prop where
 makes:W.makesIn K C=true
 init:W.findIn K (.ref C) "__init__"=some (some (.ref f))
 fn:W.isFn K (.ref f)=true
 kp:W.keepIn K (.ref C)=true
end
section
variable{X:Cx}{CX:CXT}{k:Nat}{f C:Addr}{fd:FuncData}{ps ks:List Str}{sp:Sp}{E:XK}{x m:Str}{p pos apos kpos:Pos}{e o:Expr}{es:List Expr}{kws:List Keyword}{te ta:TE}{t tk:TA}{nm:Option Str}
structure FV(K:W.Frag)(fd:FuncData)(ps ks:List Str)(g:List Value->List Value->List Value)(gV:List V->List V->List V):Prop where
 to:∀(s:Shared)(us ws:List Value),K.In s.heap->(g us ws).length=ps.length->BindsTo s fd ⟨us,ks.zip ws⟩ (ps.zip (g us ws))
 rel:∀ {vs:List V} {us:List Value} {zs:List V} {ws:List Value},aH vs us->aH zs ws->aH (gV vs zs) (g us ws)
variable{g:List Value->List Value->List Value}{gV:List V->List V->List V}
end
structure aN(N P:List Str)(sc:Scope):Prop where
 kind:sc.kind=.function
 co:sc.isCoroutine=false
 gen:sc.isGenerator=false
 nd:N.Nodup
 pre:N.take P.length=P
 par:∀x∈P,sc.names.lookup x=some .local\/sc.names.lookup x=some .cell
 nofree:∀y∈sc.names,y.2≠.free
theorem nz{kindOf:Str->Option NameKind}{x:Str}:∀ {binds:List (Str×Value)} {m:Str->Option Value},(∀v,(x,v) ∉ binds)->bindL kindOf binds m x=m x
 | [],_,_=>rfl
 |(n,v)::r,m,h=>by
  unfold bindL;rw[nz fun w hw=>h w (List.mem_cons_of_mem _ hw)];split
  ·have:x≠n:=by rintro rfl;exact h v List.mem_cons_self
   simp[this]
  ·rfl
theorem nA{kindOf:Str->Option NameKind}{x:Str}:∀ {binds:List (Str×Value)} {m:Str->Option Value},(∀v,(x,v) ∉ binds)->bindC kindOf binds m x=m x
 | [],_,_=>rfl
 |(n,v)::r,m,h=>by
  unfold bindC;rw[nA fun w hw=>h w (List.mem_cons_of_mem _ hw)];split
  ·rfl
  ·have:x≠n:=by rintro rfl;exact h v List.mem_cons_self
   simp[this]
theorem m5{kindOf:Str->Option NameKind}{x:Str}{v:Value}:∀ {P:List Str} {vs:List Value} {i:Nat} {m:Str->Option Value},P.Nodup->P[i]?=some x->vs[i]?=some v->kindOf x=some .local ->
  bindL kindOf (P.zip vs) m x=some v
 | [],_,_,_,_,h,_,_=>by simp at h
 |_::_,[],_,_,_,_,h,_=>by simp at h
 |p::P,w::vs,0,m,nd,h1,h2,hk=>by
  simp at h1 h2;subst h1;subst h2;show bindL kindOf ((p,w)::P.zip vs) m p=_;unfold bindL;rw[nz fun v hv=>(List.nodup_cons.mp nd).1 (List.of_mem_zip hv).1,if_pos hk];simp
 |p::P,w::vs,i+1,m,nd,h1,h2,hk=>by
  show bindL kindOf ((p,w)::P.zip vs) m x=_;unfold bindL;exact m5 (i:=i) (List.nodup_cons.mp nd).2 (by simpa using h1) (by simpa using h2) hk
theorem m9{kindOf:Str->Option NameKind}{x:Str}{v:Value}:∀ {P:List Str} {vs:List Value} {i:Nat} {m:Str->Option Value},P.Nodup->P[i]?=some x->vs[i]?=some v->kindOf x≠some .local ->
  bindC kindOf (P.zip vs) m x=some v
 | [],_,_,_,_,h,_,_=>by simp at h
 |_::_,[],_,_,_,_,h,_=>by simp at h
 |p::P,w::vs,0,m,nd,h1,h2,hk=>by
  simp at h1 h2;subst h1;subst h2;show bindC kindOf ((p,w)::P.zip vs) m p=_;unfold bindC;rw[nA fun v hv=>(List.nodup_cons.mp nd).1 (List.of_mem_zip hv).1,if_neg hk];simp
 |p::P,w::vs,i+1,m,nd,h1,h2,hk=>by
  show bindC kindOf ((p,w)::P.zip vs) m x=_;unfold bindC;exact m9 (i:=i) (List.nodup_cons.mp nd).2 (by simpa using h1) (by simpa using h2) hk
noncomputable def start(N:List Str)(vs:List V):St:=vs.map some++List.replicate (N.length-vs.length) none
noncomputable def qk(CX:CXT)(P:Program)(w:World)(K:W.Frag)(mg:Str->Option Value)(base:Heap)(N:List Str)(qual:Str)(scope:Scope)(f:Addr)(cd:Value)(A:Around)(outer:List Env)(s:Shared)(H:Hp)(E:XK):Cx where
 prog:=P
 w:=w
 K:=K
 mg:=mg
 base:=base
 A:=A.deeper (envOfC qual scope s.heap.objs.size f cd)
 N:=N
 s₀:=s
 H₀:=H
 env:=envOfC qual scope s.heap.objs.size f cd
 outer:=outer
 stack:=envOfC qual scope s.heap.objs.size f cd::outer
 ex:=[]
 calm:=true
 fn:=fun _=>true
 pn:=[]
 xe:=fun e s'=>wpAny (model P w) (A.deeper (envOfC qual scope s.heap.objs.size f cd)) (leaving (envOfC qual scope s.heap.objs.size f cd) e) (fun _ s''=>CX outer H s E e s'') (fun e' s''=>CX outer H s E e' s'') s'
theorem qD{sc:Scope}{n:Nat}{x:Str}(h:sc.names.lookup x=some .cell):∃c,(cellsFrom n sc.names []).lookup x=some c:=by
 have q:=W.cellsFrom_some sc.names n [] (.inl h);exact Option.isSome_iff_exists.mp q
theorem wA{CX:CXT}{P:Program}{w:World}{K:W.Frag}{mg:Str->Option Value}{base:Heap}{N ps:List Str}{qual:Str}{scope:Scope}{f:Addr}{cd:Value}{A:Around}{outer:List Env}{s s1:Shared}{H:Hp}{E:XK}{us:List Value}{vs:List V}(S:aN N ps scope)(hd:A.handled=none)(e0:sn P w K mg base A outer s H)(hl:vs.length=ps.length)(r:aH vs us)(x:InCallC s s.heap.objs.size (bindL (envOfC qual scope s.heap.objs.size f cd).kindOf (ps.zip us) fun _=>none) (cellsFrom (s.heap.objs.size+1) scope.names []) (bindC (envOfC qual scope s.heap.objs.size f cd).kindOf (ps.zip us) fun _=>none) s1):
  Inv (qk CX P w K mg base N qual scope f cd A outer s H E) [] (start N vs) H s1:=by
 have hpl:ps.length<=N.length:=by have:=congrArg List.length S.pre;rw[List.length_take] at this;omega
 obtain⟨h1,tk,rfl,hk⟩:=x.done;have noA:∀b:Addr,b ∉ (qk CX P w K mg base N qual scope f cd A outer s H E).ex:=fun b z=>absurd (show b∈([]:List Addr) from z) (by simp)
 refine⟨⟨e0.mod,S.kind,rfl,rfl,Nat.le_refl _,fun y z c h1 h2=>?_,fun y hy=>?_,fun y c _ h=>?_,fun _=>hd,Around.frames_deeper e0.frames,.inr ⟨rfl,rfl⟩,fun b z=>absurd z (noA b),e0.bs,e0.bsz,fun b _ _=>noA b,fun b z=>absurd z (noA b),e0.funs,e0.frf,e0.tt⟩,
  rfl,e0.bare,Un.kept hk,⟨_,x.toInCall.ns,fun i y v h1 h2 h3=>?_⟩,fun y c h=>⟨_,x.cell y c h⟩,e0.hok.fresh (Nat.le_refl _),fun y c h=>?_,fun p hp=>absurd (show p∈([]:List (Addr×Obj)) from hp) (by simp),e0.hok.kept hk,?_⟩
 ·exact name_of_addr x.apart (PySem.mem_of_lookup h1) (PySem.mem_of_lookup h2)
 ·have hy:scope.names.lookup y=some .cell\/scope.names.lookup y=some .free:=hy
  rcases hy with hy|hy
  ·exact qD hy
  ·exact absurd rfl (S.nofree _ (PySem.mem_of_lookup hy))
 ·exact Nat.le_of_lt (x.above y c (PySem.mem_of_lookup h))
 ·have hi:i<vs.length:=by
   unfold start at h2;by_cases hi:i<vs.length
   ·exact hi
   ·rw[List.getElem?_append_right (by simpa using hi)] at h2
    rw[List.getElem?_replicate] at h2;split at h2<;>cases h2
  have ha:vs[i]?=some v:=by
   unfold start at h2;rw[List.getElem?_append_left (by simpa using hi),List.getElem?_map] at h2
   cases e:vs[i]? with
   |none=>rw[e] at h2;cases h2
   |some a=>rw[e] at h2;cases h2;rfl
  obtain⟨u,hu,rv⟩:=r.get ha
  have hp:ps[i]?=some y:=by
   rw[←S.pre,List.getElem?_take_of_lt (by omega)];exact h1
  have ndP:ps.Nodup:=by rw[←S.pre];exact S.nd.sublist (List.take_sublist _ _)
  refine⟨u,rv,?_⟩;rcases S.par y (List.mem_of_getElem? hp) with k|k
  ·exact .inl ⟨k,m5 ndP hp hu k⟩
  ·obtain⟨c,e⟩:=qD (n:=s.heap.objs.size+1) k
   refine .inr ⟨.inl k,c,e,?_⟩;have q:=x.cell y c e;rw[m9 ndP hp hu (by show scope.names.lookup y≠_;rw[k];decide)] at q
   exact q
 ·exact e0.hok.fresh (Nat.le_of_lt (x.above y c (PySem.mem_of_lookup h)))
 ·unfold start
  show _=N.length;rw[List.length_append,List.length_map,List.length_replicate];omega
theorem Eo{CX:CXT}{P:Program}{w:World}{K:W.Frag}{mg:Str->Option Value}{base:Heap}{k:Nat}{f:Addr}{name qual:Str}{params:Arguments}{body:List Stmt}{scope:Scope}{dV kV doc pm cdv ct oc:Value}{an od:Option Addr}{osl:Array (Option Value)}{N ps:List Str}{sp:Sp}(lk:K.lookup f=some ⟨oc,od,.func (W.fnOf name qual params body scope dV kV doc pm an cdv ct),osl⟩)(hcd:W.codeIn K cdv qual=true)(S:aN N ps scope)(len:∀vs H Q E,sp vs H Q E->vs.length=ps.length)
  (hbody:∀(A:Around)(outer:List Env)(s:Shared)(H:Hp)(vs:List V)(Q:VK)(E:XK),d6 k (A.deeper (envOfC qual scope s.heap.objs.size f cdv))->sp vs H Q E ->
   ∃t,PSs (qk CX P w K mg base N qual scope f cdv A outer s H E) body t/\t { nx:=fun _ H'=>Q .non H',rt:=Q } (start N vs) H) :
  a7 P w K mg base CX (k+1) f (W.fnOf name qual params body scope dV kV doc pm an cdv ct) ps sp:=by
 refine⟨len,fun A outer s H args us vs Q E hr e0 hb r hsp=>?_⟩;have hl:=len _ _ _ _ hsp;have KX:K.In s.heap:=e0.mod.kin.keeps fun b o e=>(e0.bs b o e).1;have lim:s.heap.NoLimit:=e0.mod.nolimit.keeps fun b o e=>(e0.bs b o e).1
 have hkind:∀y∈ps.zip us,scope.names.lookup y.1=some .local\/(scope.names.lookup y.1=some .cell/\((cellsFrom (s.heap.objs.size+1) scope.names []).lookup y.1).isSome=true):=fun⟨n,v⟩ hy=>by
  rcases S.par n (List.of_mem_zip hy).1 with q|q
  ·exact .inl q
  ·exact .inr ⟨q,W.cellsFrom_some _ _ _ (.inl q)⟩
 refine codeAny_call_function hr.depth (KX _ _ lk) rfl S.co S.gen rfl (W.codeRec_of KX hcd) (hb _ _ _ _ ?_);refine wpAny_newFunctionEnv_cells S.kind hkind fun env he s1 x=>?_;subst he;refine⟨lim.keeps x.toInCall.keep,codeAny_func ?_⟩;obtain⟨t,ht,hq⟩:=hbody A outer s H vs Q E (hr.deeper _) hsp;have I:Inv (qk CX P w K mg base N qual scope f cdv A outer s H E) [] (start N vs) H s1:=wA S hr.hd e0 hl r x
 refine wpAny_mono (ht [] s1 (start N vs) H _ I hq) (fun fl s' hs=>?_) fun e s' hs=>hs
 have fin:∀ {σ':St} {H':Hp} {v:V} {u:Value},Inv (qk CX P w K mg base N qual scope f cdv A outer s H E) [] σ' H' s'->bo v u->Q v H'->CE outer P w H s Q u s':=
  fun {σ' H' v u} J rv q=>⟨v,H',J.os,J.bare,J.base,J.hok,rv,q⟩
 cases fl with
 |ret u=>
  obtain⟨v,σ',H',J,rv,q⟩:=hs;exact fin J rv q
 |next=>
  obtain⟨σ',H',J,q⟩:=hs;exact fin (v:=V.non) (u:=Value.none) J rfl q
 |brk=>
  obtain⟨_,_,_,q⟩:=hs;exact False.elim q
 |cont=>
  obtain⟨_,_,_,q⟩:=hs;exact False.elim q
section
variable{X:Cx}{x:Str}{p pos:Pos}{e:Expr}{es:List Expr}{t:TA}{id T:String}{r:List V->Hp->VK->Prop}
noncomputable def tCB(r:List V->Hp->VK->Prop)(t:TA):TE:=fun σ H Q=>t σ H fun vs H1=>r vs H1 Q
theorem ax(hc:cm X (.builtin id) r)(hg:Gl X x)(hm:X.mg x=none)(hv:bootBuiltins x=some (.builtin id))(ha:PA X (e::es) t)(hn:x≠"__name__":=by decide)(hdb:(x == ("__debug__":Str))=false:=by decide)(he:starEach (e::es) X.env=(false,eval e X.env)::starEach es X.env:=by rfl)(hpl:(backTo pos (starEach es X.env)).any (·.1)=false:=by rfl):PE X (.Call (.Name x p) (e::es) [] pos) (tCB r t):=.mk <| by
 intro pins s σ H Q I h;refine wpAny_Call_Name_kw (iC I hg hm hv ?_ hn hdb);exact PyProof.Rows.callWith_builtin1 (thn (ha pos pins s σ H _ I h) fun us s1 ⟨vs,H1,I1,r1,q1⟩=>hc pins s1 σ H1 vs us Q I1 r1 q1) he hpl
theorem bv(hc:cm X (.type T) r)(hg:Gl X x)(hm:X.mg x=none)(hv:bootBuiltins x=some (.type T))(ha:PA X (e::es) t)(hn:x≠"__name__":=by decide)(hdb:(x == ("__debug__":Str))=false:=by decide)(he:starEach (e::es) X.env=(false,eval e X.env)::starEach es X.env:=by rfl)(hpl:(backTo pos (starEach es X.env)).any (·.1)=false:=by rfl):PE X (.Call (.Name x p) (e::es) [] pos) (tCB r t):=.mk <| by
 intro pins s σ H Q I h;refine wpAny_Call_Name_kw (iC I hg hm hv ?_ hn hdb);exact PyProof.Rows.callWith_type1 (thn (ha pos pins s σ H _ I h) fun us s1 ⟨vs,H1,I1,r1,q1⟩=>hc pins s1 σ H1 vs us Q I1 r1 q1) he hpl
end
end L2
namespace HT
open PySem PyProof.Rows
section
open PySem.SeqAt
open PySem.AutoSeq1 (wpAny_loadPart')
open PySem.MeetsSeq PySem.MeetsSeq2 PySem.MeetsSeq3
end
section
variable{prog:Program}{w:World}{A:Around}{E:Value->Shared->Prop}{s:Shared}
theorem cat_tup{t b:Addr}{vs ws:List Value}{Q:Value->Shared->Prop}(ht:IsTup s.heap t vs.toArray)(hb:IsTup s.heap b ws.toArray)(hv:vs≠[])(h1:ws=[]->Q (.ref t) s)(h2:ws≠[]->Q (.ref s.heap.objs.size) { s with heap:=s.heap.push { cls:=.type "tuple",data:=.seq (vs++ws).toArray } })(hsz:vs.length+ws.length<=sizeLine):wpAny (model prog w) A (binaryOp .Add (.ref t) (.ref b)) Q E s:=by
 obtain⟨⟨cls,dd,data,sl⟩,ho,hc,n,hd⟩:=id ht;obtain⟨⟨cls2,dd2,data2,sl2⟩,ho2,hc2,n2,hd2⟩:=id hb;simp only at hc hd hc2 hd2;subst hc hd hc2 hd2;have e:vs.toArray++ws.toArray=(vs++ws).toArray:=by simp
 by_cases hw:ws=[]
 ·exact concat_meets ⟨_,ho,rfl⟩ ⟨_,ho2,rfl⟩ noFill_tuple_add seq_tuple_add PySem.F.slot_tuple_add PySem.F.entry_tuple_add (PySem.F.args_tuple_add_2 _ _)
   (tuple_addW1 t b vs.toArray ws.toArray n n2 dd dd2 sl sl2 (by simpa using hv) (by simp[hw])) ⟨ho,ho2,h1 hw⟩
 ·refine concat_meets ⟨_,ho,rfl⟩ ⟨_,ho2,rfl⟩ noFill_tuple_add seq_tuple_add PySem.F.slot_tuple_add PySem.F.entry_tuple_add (PySem.F.args_tuple_add_2 _ _)
   (tuple_addW2 t b vs.toArray ws.toArray n n2 dd dd2 sl sl2 (by simpa using hv) (by simpa using hw) (by rw[List.size_toArray,List.size_toArray];exact hsz)) ⟨ho,ho2,?_⟩
  rw[e];exact h2 hw
noncomputable def sIx(n d:Nat):Option Int->Nat
 |none=>d
 |some v=>if v<0 then (v+(n:Int)).toNat else min v.toNat n
theorem sIx_none(n d:Nat):sIx n d none=d:=rfl
theorem sIx_nat(n d k:Nat):sIx n d (some (k:Int))=min k n:=by
 show (if (k:Int)<0 then ((k:Int)+(n:Int)).toNat else min (k:Int).toNat n)=min k n
 rw[if_neg (by omega),Int.toNat_natCast]
theorem CL(n d:Nat)(hd:d<=n)(o:Option Int):sIx n d o<=n:=by
 cases o with
 |none=>exact hd
 |some v=>
  show (if v<0 then (v+(n:Int)).toNat else min v.toNat n)<=n
  by_cases hv:v<0
  ·rw[if_pos hv];omega
  ·rw[if_neg hv];exact Nat.min_le_right _ _
theorem tQ(v:Int)(n d:Nat):(if v<0 then max (v+(n:Int)) 0 else min v (n:Int))=((sIx n d (some v):Nat):Int):=by
 show (if v<0 then max (v+(n:Int)) 0 else min v (n:Int))=(((if v<0 then (v+(n:Int)).toNat else min v.toNat n):Nat):Int)
 by_cases hv:v<0
 ·simp only[if_pos hv];omega
 ·simp only[if_neg hv];omega
theorem rR(lo hi:Option Int)(n:Nat):Builtin.Slice.sliceAdjust lo hi 1 (n:Int)=(((sIx n 0 lo:Nat):Int),((sIx n n hi:Nat):Int)):=by
 have h1:¬ ((1:Int)<0):=by omega
 unfold Builtin.Slice.sliceAdjust;simp only[h1,if_false];refine Prod.ext ?_ ?_
 ·cases lo with
  |none=>rfl
  |some v=>exact tQ v n 0
 ·cases hi with
  |none=>rfl
  |some v=>exact tQ v n n
theorem sJ(i j:Nat):Builtin.Slice.slicePlaces (i:Int) (j:Int) 1=j-i:=by
 unfold Builtin.Slice.slicePlaces;have h1:(1:Int)>0:=by omega
 simp only[h1,if_true,Int.ediv_one];split<;>omega
theorem kX{v:Value}{o:Option Int}{Q:Option Int->Shared->Prop}(p:IsPart v o)(h:Q o s):wpAny (model prog w) A (Builtin.Slice.slicePartIndex v) Q E s:=by
 cases p with
 |none=>exact slicePart_none h
 |int i t=>exact slicePart_int h
theorem sliceApplied_gen{sl:Addr}{vl vu:Value}{lo hi:Option Int}{n:Nat}{Q:Int×Int×Nat->Shared->Prop}(hs:s.heap.IsSliceOf sl vl vu .none)(pl:IsPart vl lo)(pu:IsPart vu hi)(h:Q (((sIx n 0 lo:Nat):Int),1,sIx n n hi-sIx n 0 lo) s):wpAny (model prog w) A (Builtin.Slice.sliceApplied (.ref sl) (pure (n:Int))) Q E s:=by
 obtain⟨os,hos,hcs,hds⟩:=id hs;unfold Builtin.Slice.sliceApplied Builtin.Slice.sliceFields;refine wpAny_bind (wpAny_bind (wpAny_field hos hds (x:=vl) rfl (wpAny_bind (wpAny_field hos hds (x:=vu) rfl (wpAny_bind (wpAny_field hos hds (x:=.none) rfl (wpAny_pure ?_)))))));refine wpAny_bind (slicePart_none ?_);show wpAny _ _ (if ((1:Int) == 0)=true then _ else _) _ _ s
 rw[if_neg (by decide)]
 refine wpAny_bind (kX pl (wpAny_bind (kX pu (wpAny_bind (wpAny_pure ?_)))));show wpAny _ _ (match Builtin.Slice.sliceAdjust lo hi 1 (n:Int) with|(lo,hi)=>pure (lo,(1:Int),Builtin.Slice.slicePlaces lo hi 1)) _ _ s
 rw[rR lo hi n];show wpAny _ _ (pure (((sIx n 0 lo:Nat):Int),(1:Int),Builtin.Slice.slicePlaces ((sIx n 0 lo:Nat):Int) ((sIx n n hi:Nat):Int) 1)) _ _ s;rw[sJ];exact wpAny_pure h
theorem xf(xs:Array Value)(i k:Nat):((List.range k).filterMap fun(m:Nat)=>xs[((i:Int)+(m:Int)*1).toNat]?).toArray=((xs.toList.drop i).take k).toArray:=by
 have e:(fun(m:Nat)=>xs[((i:Int)+(m:Int)*1).toNat]?)=fun m=>xs[i+m]?:=by
  funext m
  have:((i:Int)+(m:Int)*1).toNat=i+m:=by omega
  rw[this]
 rw[e];have:=pick_run xs i k;rw[List.filterMap_map] at this;have e2:((fun x=>xs[x]?) ∘ fun x=>i+x)=fun m=>xs[i+m]?:=rfl;rw[e2] at this;rw[this]
theorem getItem_tuple_cut{t sl:Addr}{items:Array Value}{vl vu:Value}{lo hi:Option Int}{Q:Value->Shared->Prop}(ht:IsTup s.heap t items)(hs:s.heap.IsSliceOf sl vl vu .none)(pl:IsPart vl lo)(pu:IsPart vu hi)(hw:¬ (sIx items.size 0 lo=0/\sIx items.size items.size hi=items.size))(h:Q (.ref s.heap.objs.size) { s with heap:=s.heap.push { cls:=.type "tuple",data:=.seq ((items.toList.drop (sIx items.size 0 lo)).take (sIx items.size items.size hi-sIx items.size 0 lo)).toArray } })(hsz:items.size<=sizeLine):wpAny (model prog w) A (getItem (.ref t) (.ref sl)) Q E s:=by
 have htake:sizeOk (.seq ((items.toList.drop (sIx items.size 0 lo)).take (sIx items.size items.size hi-sIx items.size 0 lo)).toArray):=by
  show ((items.toList.drop (sIx items.size 0 lo)).take (sIx items.size items.size hi-sIx items.size 0 lo)).toArray.size<=sizeLine;rw[List.size_toArray,List.length_take,List.length_drop,Array.length_toList];omega
 have hj:sIx items.size items.size hi<=items.size:=CL _ _ (Nat.le_refl _) hi;obtain⟨os,hos,hcs,hds⟩:=id hs;have hTs:s.TypeIs (.ref sl) "slice":=⟨os,hos,hcs⟩;unfold getItem
 try with_reducible refine wpAny_holding ?_
 first|refine wpAny_bind (wpAny_pure ?_)|skip
 refine wpAny_bind (wpAny_sequenceKey ht.typeIs (by decide) ?_)
 refine wpAny_bind (wpAny_callSpecial?_slot (name:=Str.ofString "__getitem__") ht.typeIs PyProof.Rows.slot_tuple_getitem
  (wpAny_call_entry PyProof.Rows.slot_tuple_getitem ht.typeIs entry_tuple_getitem ?_ (args_tuple_getitem _ _)))
 show wpAny _ _ (Builtin.Tuple.tupleItemsOf (.ref t) >>= _) _ _ s;refine wpAny_bind (tupleItemsOf_ ht ?_);refine wpAny_bind (wpAny_typeOf hTs ?_);rw[if_pos (by decide)]
 refine wpAny_bind (sliceApplied_gen hs pl pu ?_)
 have hno:¬ ((((sIx items.size 0 lo:Nat):Int) == 0 && (1:Int) == 1 && (sIx items.size items.size hi-sIx items.size 0 lo) == items.size)=true):=by
  intro q;rw[Bool.and_eq_true,Bool.and_eq_true] at q;have q1:((sIx items.size 0 lo:Nat):Int)=0:=eq_of_beq q.1.1;have q2:sIx items.size items.size hi-sIx items.size 0 lo=items.size:=eq_of_beq q.2;exact hw ⟨by omega,by omega⟩
 show wpAny _ _ (if (((sIx items.size 0 lo:Nat):Int) == 0 && (1:Int) == 1 && (sIx items.size items.size hi-sIx items.size 0 lo) == items.size)=true then _ else _) _ _ s
 rw[if_neg hno,xf]
 first
  |exact wpAny_bind (m:=Builtin.Tuple.tupleExact _) (wpAny_newObj_type (wpAny_pure ⟨_,rfl,wpAny_pure h⟩) htake)
  |exact wpAny_bind (m:=Builtin.Tuple.tupleExact _) (wpAny_newObj_type (wpAny_bind (wpAny_pure (wpAny_pure ⟨_,rfl,wpAny_pure h⟩))) htake)
  |exact wpAny_bind (wpAny_bind (m:=Builtin.Tuple.tupleExact _) (wpAny_newObj_type (wpAny_pure (wpAny_pure ⟨_,rfl,wpAny_pure h⟩)) htake))
  |exact wpAny_bind (wpAny_bind (m:=Builtin.Tuple.tupleExact _) (wpAny_newObj_type (wpAny_pure ⟨_,rfl,wpAny_pure h⟩) htake))
end
end HT
namespace L2
open PySem PySem.Spec PyProof.Rows
noncomputable abbrev TO:=St->Hp->(Option Int->Hp->Prop)->Prop
noncomputable def PO(X:Cx)(e:Option Expr)(t:TO):Prop:=
 ∀(pins:List (Addr×Obj)) (s:Shared) (σ:St) (H:Hp) (Q:Option Int->Hp->Prop),Inv X pins σ H s->t σ H Q ->
  wpAny (model X.prog X.w) X.A (evalPart e X.env) (fun u s'=>∃o H',Inv X pins σ H' s'/\IsPart u o/\Q o H') X.xe s
noncomputable def vf:TO:=fun _ H Q=>Q none H
noncomputable def Ce(t:TE):TO:=fun σ H Q=>t σ H fun x H1=>∃i,x=.int i/\Q (some i) H1
section
variable{X:Cx}{e:Expr}{te:TE}{lo hi:Option Expr}{tl th:TO}{pos p2:Pos}
theorem cj:PO X none vf:=by
 intro pins s σ H Q I h;rw[evalPart_none];exact wpAny_pure ⟨none,H,I,.none,h⟩
theorem cn(h:PE X e te):PO X (some e) (Ce te):=by
 intro pins s σ H Q I hw;rw[evalPart_some];refine thn (h pins s σ H _ I hw) fun u s1 ⟨x,H1,I1,r1,q1⟩=>?_;obtain⟨i,rfl,q⟩:=q1;obtain⟨t,rfl⟩:=r1;exact⟨some i,H1,I1,.int i t,q⟩
noncomputable def SlR(X:Cx)(r:V->Option Int->Option Int->Hp->VK->Prop):Prop:=
 ∀(pins:List (Addr×Obj)) (s:Shared) (σ:St) (H:Hp) (x:V) (v vl vu:Value) (lo hi:Option Int) (sl:Addr) (Q:VK),Inv X pins σ H s->bo x v->s.heap.IsSliceOf sl vl vu .none->IsPart vl lo->IsPart vu hi->r x lo hi H Q ->
  ∃T id,typeLookup (.type T) "__getitem__"=pure (some (.builtin id))/\s.TypeIs v T/\wpAny (model X.prog X.w) X.A (getItem v (.ref sl)) (EP X pins σ Q) X.xe s
noncomputable def tSl(r:V->Option Int->Option Int->Hp->VK->Prop)(te:TE)(tl th:TO):TE:=fun σ H Q=>te σ H fun x H1=>tl σ H1 fun l H2=>th σ H2 fun u H3=>r x l u H3 Q
theorem bL{r:V->Option Int->Option Int->Hp->VK->Prop}(hr:SlR X r)(he:PE X e te)(hl:PO X lo tl)(hu:PO X hi th):PE X (.Subscript e (.Slice lo hi none p2) pos) (tSl r te tl th):=.mk <| by
 intro pins s σ H Q I h;refine Subscript_ (thn (he pins s σ H _ I h) fun v s1 ⟨x,H1,I1,r1,q1⟩=>?_);refine wpAny_Slice (thn (hl pins s1 σ H1 _ I1 q1) fun vl s2 ⟨l,H2,I2,pl,q2⟩=>thn (hu pins s2 σ H2 _ I2 q2) fun vu s3 ⟨u,H3,I3,pu,q3⟩=>?_);rw[evalPart_none];refine wpAny_pure ?_;have I4:Inv X pins σ H3 { s3 with heap:=s3.heap.push { cls:=.type "slice",data:=.fields #[vl,vu,.none] } }:=I3.kept (t':=s3.toks) fun b ob q=>Heap.get?_push_of_some _ q
 obtain⟨T,id,hT,ht,hg⟩:=hr pins { s3 with heap:=s3.heap.push { cls:=.type "slice",data:=.fields #[vl,vu,.none] } } σ H3 x v vl vu l u s3.heap.objs.size Q I4 r1 (Heap.IsSliceOf.new ..) pl pu q3;show wpAny (model X.prog X.w) X.A (subscriptTail e (.Slice lo hi none p2) v (.ref s3.heap.objs.size)) (EP X pins σ Q) X.xe { s3 with heap:=s3.heap.push { cls:=.type "slice",data:=.fields #[vl,vu,.none] } };exact tail_any (ops:=[.ref s3.heap.objs.size,v]) ht hT hg (by with_unfolding_all rfl)
noncomputable def oX(xs:List V)(lo hi:Option Int):List V:=(xs.drop (HT.sIx xs.length 0 lo)).take (HT.sIx xs.length xs.length hi-HT.sIx xs.length 0 lo)
theorem km(xs:List V)(lo hi:Option Int):(oX xs lo hi).length<=xs.length:=by
 unfold oX;rw[List.length_take,List.length_drop];omega
noncomputable def F7(K:W.Frag):V->Option Int->Option Int->Hp->VK->Prop:=fun x lo hi H Q=>∃a xs,x=.ref a/\SqT K H a xs /\
 ¬ (HT.sIx xs.length 0 lo=0/\HT.sIx xs.length xs.length hi=xs.length)/\∀p,H p=none->Q (.ref p) (upd H p (.tup (oX xs lo hi)))
theorem C8:SlR X (F7 X.K):=by
 intro pins s σ H x v vl vu lo hi sl Q I rx hs pl pu h;obtain⟨a,xs,rfl,hx,hw,q⟩:=h;cases rx;obtain⟨its,r,ht,hz⟩:=I.tuple hx;have hlen:its.toArray.size=xs.length:=by rw[List.size_toArray];exact r.length.symm
 refine⟨"tuple",_,PyProof.Rows.slot_tuple_getitem.lookup,ht.typeIs,?_⟩;refine HT.getItem_tuple_cut ht hs pl pu (by rw[hlen];exact hw) ?_ (by rw[hlen];exact hz)
 rw[hlen];refine⟨.ref s.heap.objs.size,_,I.laid (t':=s.toks) (o:=.tup (oX xs lo hi)) (fun b ob q=>Heap.get?_push_of_some _ q) (Nat.le_refl _) ?_,rfl,q _ (I.hok.fresh (Nat.le_refl _))⟩;exact⟨Nat.le_trans (km xs lo hi) hz,_,(r.drop (HT.sIx xs.length 0 lo)).take (HT.sIx xs.length xs.length hi-HT.sIx xs.length 0 lo),oA.new _ _⟩
noncomputable def EE(K:W.Frag):R2:=fun x y H Q=>∃a b xs ys,x=.ref a/\y=.ref b/\SqT K H a xs/\SqT K H b ys/\xs≠[]/\xs.length+ys.length<=sizeLine /\
 (ys=[]->Q (.ref a) H)/\(ys≠[]->∀p,H p=none->Q (.ref p) (upd H p (.tup (xs++ys))))
theorem aH.Gx{xs:List V}{us:List Value}(r:aH xs us):us=[]↔xs=[]:=by
 cases r with
 |nil=>simp
 |cons _ _=>simp
theorem An:OpR X (binaryOp .Add) (EE X.K):=by
 intro pins s σ H x y v u Q I rx ry h;obtain⟨a,b,xs,ys,rfl,rfl,ha,hb,hx,hz,q1,q2⟩:=h;cases rx;cases ry;obtain⟨its,r1,p1,_⟩:=I.tuple ha;obtain⟨its2,r2,p2,_⟩:=I.tuple hb;refine HT.cat_tup p1 p2 (fun z=>hx (r1.Gx.mp z)) (fun z=>⟨.ref a,H,I,rfl,q1 (r2.Gx.mp z)⟩) (fun z=>?_) (by rw[←r1.length,←r2.length];exact hz)
 refine⟨.ref s.heap.objs.size,_,I.laid (t':=s.toks) (o:=.tup (xs++ys)) (fun b ob q=>Heap.get?_push_of_some _ q) (Nat.le_refl _) ?_,rfl,q2 (fun w=>z (r2.Gx.mpr w)) _ (I.hok.fresh (Nat.le_refl _))⟩;exact⟨by rw[List.length_append];exact hz,_,r1.append r2,oA.new _ _⟩
end
noncomputable def ixN(n:Nat)(i:Int):Option Nat:=if 0<=i then (if i<n then some i.toNat else none) else if -(n:Int)<=i then some (i+n).toNat else none
noncomputable def atI{α:Type}(xs:List α)(i:Int):Option α:=(ixN xs.length i).bind fun j=>xs[j]?
theorem uN{n:Nat}{i:Int}{j:Nat}(h:ixN n i=some j):seqIndex? i n=some j/\j<n/\-(n:Int)<=i/\i<n:=by
 unfold ixN at h;by_cases h0:0<=i
 ·rw[if_pos h0] at h
  by_cases h1:i<n
  ·rw[if_pos h1] at h
   have e:i.toNat=j:=Option.some.inj h;exact⟨by rw[seqIndex_of h0 h1,e],by omega,by omega,h1⟩
  ·rw[if_neg h1] at h;cases h
 ·rw[if_neg h0] at h
  by_cases h1:-(n:Int)<=i
  ·rw[if_pos h1] at h
   have e:(i+n).toNat=j:=Option.some.inj h;exact⟨by rw[seqIndex_neg (by omega) h1,e],by omega,h1,by omega⟩
  ·rw[if_neg h1] at h;cases h
theorem om{α:Type}{xs:List α}{i:Int}{v:α}(h:atI xs i=some v):∃j,seqIndex? i xs.length=some j/\xs[j]?=some v/\j<xs.length/\-(xs.length:Int)<=i/\i<xs.length:=by
 unfold atI at h
 cases e:ixN xs.length i with
 |none=>rw[e] at h;cases h
 |some j=>
  rw[e] at h;obtain⟨h1,h2,h3,h4⟩:=uN e;exact⟨j,h1,h,h2,h3,h4⟩
theorem uq{α:Type}{xs:List α}{j:Nat}{v:α}(h:xs[j]?=some v):atI xs (j:Int)=some v:=by
 have hj:j<xs.length:=(List.getElem?_eq_some_iff.mp h).1
 have e:ixN xs.length (j:Int)=some j:=by
  unfold ixN;rw[if_pos (by omega),if_pos (by omega)];simp
 unfold atI;rw[e];exact h
noncomputable def Bn(b:Expr):Prop:=∀o i,subscripted b false o i=operate [o,i] (getItem o i)
noncomputable def IxR(X:Cx)(r:R2):Prop:=
 ∀(value slice:Expr) (pins:List (Addr×Obj)) (s:Shared) (σ:St) (H:Hp) (x y:V) (v u:Value) (Q:VK),Inv X pins σ H s->bo x v->bo y u->r x y H Q ->
  subscripted slice false v u=operate [v,u] (getItem v u)->wpAny (model X.prog X.w) X.A (subscriptTail value slice v u) (EP X pins σ Q) X.xe s
noncomputable def MtR(X:Cx)(id:String)(r:V->List V->Hp->VK->Prop):Prop:=
 ∀(pins:List (Addr×Obj)) (s:Shared) (σ:St) (H:Hp) (x:V) (xs:List V) (v:Value) (us:List Value) (Q:VK),Inv X pins σ H s->bo x v->aH xs us->r x xs H Q ->
  wpAny (model X.prog X.w) X.A (call (.builtin id) (v::us)) (EP X pins σ Q) X.xe s
section
variable{X:Cx}{a b:Expr}{ta tb:TE}{pos:Pos}
theorem IxR.or{r r':R2}(h:IxR X r)(h':IxR X r'):IxR X (fun x y H Q=>r x y H Q\/r' x y H Q):=by
 intro value slice pins s σ H x y v u Q I rx ry q hs;rcases q with q|q
 ·exact h value slice pins s σ H x y v u Q I rx ry q hs
 ·exact h' value slice pins s σ H x y v u Q I rx ry q hs
theorem aQ{r:R2}(hr:IxR X r)(ha:PE X a ta)(hb:PE X b tb)(hs:Bn b):PE X (.Subscript a b pos) (tOp r ta tb):=.mk <| by
 intro pins s σ H Q I h;exact Subscript_ (Db ha hb I h fun v u s2 x y H2 I2 rx ry q=>hr a b pins s2 σ H2 x y v u Q I2 rx ry q (hs _ _))
noncomputable def D1(K:W.Frag):R2:=fun x y H Q=>∃p xs i v,x=.ref p/\y=.int i/\SqL K H p xs/\atI xs i=some v/\Q v H
noncomputable def Dw(K:W.Frag):R2:=fun x y H Q=>∃p xs i v,x=.ref p/\y=.int i/\SqT K H p xs/\atI xs i=some v/\Q v H
noncomputable def ER:R2:=fun x y H Q=>∃z i c,x=.str z/\y=.int i/\z.length<=sizeLine/\atI z.cps.toList i=some c/\Q (.str ⟨#[c]⟩) H
theorem AM:IxR X (D1 X.K):=by
 intro value slice pins s σ H x y v u Q I rx ry h hs;obtain⟨p,xs,i,z,rfl,rfl,hq,he,q⟩:=h;cases rx;obtain⟨t,rfl⟩:=ry;obtain⟨its,r,pl,hz⟩:=I.list hq;obtain⟨j,h1,h2,h3,h4,h5⟩:=om he;obtain⟨w,ew,rw'⟩:=r.get h2;have hl:=r.length;have hn:=jR;have fin:EP X pins σ Q w s:=⟨z,H,I,rw',q⟩;by_cases h0:0<=i
 ·have hj:i.toNat=j:=by
   rw[seqIndex_of h0 h5] at h1;exact Option.some.inj h1
  exact item_listR pl.isList h0 (by omega) (by rw[hj];simpa using ew) fin hs
 ·have hj:(i+(its.toArray.size:Int)).toNat=j:=by
   rw[seqIndex_neg (by omega) h4] at h1
   rw[List.size_toArray,←hl]
   exact Option.some.inj h1
  exact subscriptTail_builtinR (x:=w) pl.isList.typeIs slot_list_getitem.lookup
   (wpAny_getItem_list_neg (Q:=fun r s'=>r=w/\EP X pins σ Q r s') pl.isList (by omega) (by rw[List.size_toArray]<;>omega) (by omega) (by rw[hj];simpa using ew) ⟨rfl,fin⟩) hs
theorem DA:IxR X (Dw X.K):=by
 intro value slice pins s σ H x y v u Q I rx ry h hs;obtain⟨p,xs,i,z,rfl,rfl,hq,he,q⟩:=h;cases rx;obtain⟨t,rfl⟩:=ry;obtain⟨its,r,pl,hz⟩:=I.tuple hq;obtain⟨j,h1,h2,h3,h4,h5⟩:=om he;obtain⟨w,ew,rw'⟩:=r.get h2;have hl:=r.length;have hn:=jR;have fin:EP X pins σ Q w s:=⟨z,H,I,rw',q⟩
 exact subscriptTail_builtinR (x:=w) pl.typeIs slot_tuple_getitem.lookup
  (getItem_tuple (j:=j) (Q:=fun r s'=>r=w/\EP X pins σ Q r s') pl (by omega) (by omega) (by rw[List.size_toArray,←hl];exact h1) (by simpa using ew) ⟨rfl,fin⟩) hs
theorem CA:IxR X ER:=by
 intro value slice pins s σ H x y v u Q I rx ry h hs;obtain⟨z,i,c,rfl,rfl,hz,he,q⟩:=h;obtain⟨t,rfl⟩:=rx;obtain⟨t',rfl⟩:=ry;obtain⟨j,h1,h2,h3,h4,h5⟩:=om he;have hl:z.cps.toList.length=z.length:=by simp[Str.length]
 rw[hl] at h1 h4 h5;have hn:=jR
 exact tail_any (typeIs_str s z t) slot_str_getitem.lookup (getItem_str (c:=c) (by
  have e1:decide (i < -(2^63:Int))=false:=decide_eq_false (by omega)
  have e2:decide (i ≥ 2^63)=false:=decide_eq_false (by omega)
  rw[e1,e2,Bool.or_false]) (by rw[h1];simpa using h2) ⟨.str ⟨#[c]⟩,H,I.tok _,⟨_,rfl⟩,q⟩) hs
noncomputable def rIx(K:W.Frag):R2:=fun x y H Q=>D1 K x y H Q\/Dw K x y H Q\/ER x y H Q
theorem Dv:IxR X (rIx X.K):=AM.or (DA.or CA)
theorem r9(its:List Value)(n j:Nat)(u:Value):Obj.mapSeq (·.setIfInBounds j u) { cls:=.type "list",data:=.seq its.toArray n }={ cls:=.type "list",data:=.seq (its.set j u).toArray n }:=by
 simp[Obj.mapSeq]
theorem Inv.lst{pins:List (Addr×Obj)}{σ:St}{H:Hp}{s:Shared}{p:Addr}{xs:List V}(I:Inv X pins σ H s)(h:H p=some (.lst xs)):
  ∃(its:List Value)(n:Nat),aH xs its/\s.heap.get? p=some { cls:=.type "list",data:=.seq its.toArray n }/\xs.length<=sizeLine:=by
 obtain⟨z,its,n,r,e⟩:=I.hok p _ h;exact⟨its,n,r,e,z⟩
theorem Inv.GJ{pins:List (Addr×Obj)}{σ:St}{H:Hp}{s:Shared}{p:Addr}{xs ys:List V}{its its':List Value}{n n':Nat}{f:Obj->Obj}(I:Inv X pins σ H s)(h:H p=some (.lst xs))(ho:s.heap.get? p=some { cls:=.type "list",data:=.seq its.toArray n })(hf:f { cls:=.type "list",data:=.seq its.toArray n }={ cls:=.type "list",data:=.seq its'.toArray n' })(r:aH ys its')(hz:ys.length<=sizeLine)(t:Nat):
  Inv X pins σ (upd H p (.lst ys)) { s with heap:=s.heap.update p f,toks:=t }:=by
 have e:(s.heap.update p f).get? p=some { cls:=.type "list",data:=.seq its'.toArray n' }:=by
  rw[Heap.get?_update_self f ho (by rw[hf]<;>rfl),hf]
 refine I.write (x:=p) (e:=p) (by rw[h];trivial) (.inl rfl) (fun b u hb q=>(Heap.get?_update_other _ _ (Ne.symm hb)).trans q) ⟨_,e⟩ ?_
 exact⟨hz,its',n',r,e⟩
noncomputable def Cg:V->V->V->Hp->(Hp->Prop)->Prop:=fun o i v H Q=>∃p xs k j,o=.ref p/\i=.int k/\H p=some (.lst xs)/\ixN xs.length k=some j/\Q (upd H p (.lst (xs.set j v)))
theorem fD:EM X Cg:=by
 intro pins s σ H o i v ov iv u Q I ro ri rv h;obtain⟨p,xs,k,j,rfl,rfl,hp,hj,q⟩:=h;cases ro;obtain⟨t,rfl⟩:=ri;obtain⟨its,n,r,ho,hz⟩:=I.lst hp;obtain⟨h1,h2,h3,h4⟩:=uN hj;have hl:=r.length;have hn:=jR
 have I':Inv X pins σ (upd H p (.lst (xs.set j v))) { s with heap:=s.heap.update p (Obj.mapSeq (·.setIfInBounds j u)) }:=
  I.GJ hp ho (r9 its n j u) (r.set rv j) (by rw[List.length_set];exact hz) s.toks
 by_cases h0:0<=k
 ·have hk:k.toNat=j:=by
   rw[seqIndex_of h0 h4] at h1;exact Option.some.inj h1
  exact W.ki_setAt ho h0 (by omega) (by rw[List.size_toArray,←hl];exact h4) (by rw[hk];exact⟨_,I',q⟩)
 ·have hk:(k+(its.toArray.size:Int)).toNat=j:=by
   rw[seqIndex_neg (by omega) h3] at h1
   rw[List.size_toArray,←hl]
   exact Option.some.inj h1
  exact W.ki_setBack ho (by omega) (by rw[List.size_toArray,←hl];exact h3) (by omega) (by rw[hk];exact⟨_,I',q⟩)
theorem oM(lo hi:Option Int)(n:Nat):(sliceBounds lo hi none n).1=((HT.sIx n 0 lo:Nat):Int)/\(sliceBounds lo hi none n).2.1=((HT.sIx n n hi:Nat):Int)/\(sliceBounds lo hi none n).2.2=1:=by
 refine⟨?_,?_,rfl⟩
 ·cases lo with
  |none=>simp[sliceBounds,HT.sIx]
  |some i=>
   simp only[sliceBounds,HT.sIx,Option.getD_none,show (1:Int)>0 by decide,if_true]
   by_cases h:i<0
   ·simp only[h,if_true]<;>omega
   ·simp only[h,if_false]<;>omega
 ·cases hi with
  |none=>simp[sliceBounds,HT.sIx]
  |some i=>
   simp only[sliceBounds,HT.sIx,Option.getD_none,show (1:Int)>0 by decide,if_true]
   by_cases h:i<0
   ·simp only[h,if_true]<;>omega
   ·simp only[h,if_false]<;>omega
theorem mj(its:List Value)(lo hi:Option Int):slicePick its.toArray lo hi none=((its.drop (HT.sIx its.length 0 lo)).take (HT.sIx its.length its.length hi-HT.sIx its.length 0 lo)).toArray:=by
 obtain⟨h1,h2,h3⟩:=oM lo hi its.toArray.size;unfold slicePick;rw[h1,h2,h3];simp only[sliceRange_one,pick_run,List.size_toArray]<;>rfl
noncomputable def Fy(K:W.Frag):V->Option Int->Option Int->Hp->VK->Prop:=fun x lo hi H Q=>∃a xs,x=.ref a/\SqL K H a xs/\∀p,H p=none->Q (.ref p) (upd H p (.lst (oX xs lo hi)))
theorem Ai:SlR X (Fy X.K):=by
 intro pins s σ H x v vl vu lo hi sl Q I rx hs pl pu h;obtain⟨a,xs,rfl,hx,q⟩:=h;cases rx;obtain⟨its,r,ht,hz⟩:=I.list hx;have hlen:=r.length;refine⟨"list",_,slot_list_getitem.lookup,ht.isList.typeIs,?_⟩;refine wpAny_getItem_list_slice ht.isList hs pl pu .none (by simp) ?_ (by rw[List.size_toArray]<;>omega)
 rw[mj,←hlen]
 refine⟨.ref s.heap.objs.size,_,I.laid (t':=s.toks) (o:=.lst (oX xs lo hi)) (fun b ob q=>Heap.get?_push_of_some _ q) (Nat.le_refl _) ?_,rfl,q _ (I.hok.fresh (Nat.le_refl _))⟩;exact⟨Nat.le_trans (km xs lo hi) hz,_,0,(r.drop (HT.sIx xs.length 0 lo)).take (HT.sIx xs.length xs.length hi-HT.sIx xs.length 0 lo),Heap.get?_push_size _ rfl⟩
theorem o8:cm X (.type "list") (fun xs H Q=>∃p ys,xs=[.ref p]/\(SqL X.K H p ys\/SqT X.K H p ys)/\∀l,H l=none->Q (.ref l) (upd H l (.lst ys))):=by
 intro pins s σ H xs us Q I r h;obtain⟨p,ys,rfl,hq,q⟩:=h;obtain⟨u,rfl,rx⟩:=du r;cases rx
 have fin:∀(its:List Value),aH ys its->ys.length<=sizeLine->∀(h':Heap)(c':Nat),(∀b o',s.heap.get? b=some o'->h'.get? b=some o') ->
   h'.get? s.heap.objs.size=some { cls:=.type "list",dict:=none,data:=.seq its.toArray c',slots:=#[] }->EP X pins σ Q (.ref s.heap.objs.size) { s with heap:=h' }:=fun its r' hz h' c' kp e=>
  ⟨.ref s.heap.objs.size,_,I.laid (t':=s.toks) kp (Nat.le_refl _) (show bV X.prog X.w _ h' _ (.lst ys) from ⟨hz,its,c',r',e⟩),rfl,q _ (I.hok.fresh (Nat.le_refl _))⟩
 rcases hq with hq|hq
 ·obtain⟨its,r',pl,hz⟩:=I.list hq
  have hlen:=r'.length;obtain⟨o,ho,hc,n,hd⟩:=pl.isList;exact call_list_seq p (.inl rfl) ho hc hd (fun h' c' kp e=>fin its r' hz h' c' kp e) (by simp only[List.size_toArray]<;>omega)
 ·obtain⟨its,r',pl,hz⟩:=I.tuple hq
  have hlen:=r'.length;obtain⟨o,ho,hc,n,hd⟩:=pl;exact call_list_seq p (.inr rfl) ho hc hd (fun h' c' kp e=>fin its r' hz h' c' kp e) (by simp only[List.size_toArray]<;>omega)
theorem mq:cm X (.type "tuple") (fun xs H Q=>∃p ys,xs=[.ref p]/\((SqL X.K H p ys/\∀l,H l=none->Q (.ref l) (upd H l (.tup ys)))\/(SqT X.K H p ys/\Q (.ref p) H))):=by
 intro pins s σ H xs us Q I r h;obtain⟨p,ys,rfl,h⟩:=h;obtain⟨u,rfl,rx⟩:=du r;cases rx;rcases h with⟨hq,q⟩|⟨hq,q⟩
 ·obtain⟨its,r',pl,hz⟩:=I.list hq
  have hlen:=r'.length;refine call_tuple_list pl.isList (fun h' kp=>?_) (by simp only[List.size_toArray]<;>omega)
  have I1:Inv X pins σ H { s with heap:=h' }:=I.kept (t':=s.toks) kp
  have I2:Inv X pins σ (upd H h'.objs.size (.tup ys)) { s with heap:=h'.push { cls:=.type "tuple",data:=.seq its.toArray } }:=
   I1.laid (t':=s.toks) (fun b o e=>Heap.get?_push_of_some _ e) (Nat.le_refl _) (show bV X.prog X.w _ _ _ (.tup ys) from ⟨hz,its,r',oA.new _ _⟩)
  exact⟨.ref h'.objs.size,_,I2,rfl,q _ (I1.hok.fresh (Nat.le_refl _))⟩
 ·obtain⟨its,r',pl,hz⟩:=I.tuple hq
  exact call_tuple_same pl ⟨.ref p,H,I,rfl,q⟩
noncomputable def tyV(K:W.Frag)(T:String)(x:V)(H:Hp):Prop:=match x with
 |.str _=>T="str"
 |.int _=>T="int"
 |.ref p=>(T="list"/\∃xs,SqL K H p xs)\/(T="tuple"/\∃o,K.lookup p=some o/\o.cls=.type "tuple"/\o.dict=none) \/
   (T="dict"/\((∃kvs,H p=some (.dK kvs))\/∃kvs,H p=some (.dT kvs)))\/(T="set"/\∃S n,H p=some (.set S n))
 |_=>False
theorem zF{pins:List (Addr×Obj)}{σ:St}{H:Hp}{s:Shared}{T:String}{x:V}{v:Value}(I:Inv X pins σ H s)(r:bo x v)(ty:tyV X.K T x H):
  s.TypeIs v T/\∀a,v=.ref a->∃ob,s.heap.get? a=some ob/\ob.dict=none:=by
 cases x with
 |str z=>
  obtain⟨t,rfl⟩:=r;cases (show T="str" from ty)
  exact⟨typeIs_str s z t,fun _ e=>nomatch e⟩
 |int i=>
  obtain⟨t,rfl⟩:=r;cases (show T="int" from ty)
  exact⟨typeIs_int s i t,fun _ e=>nomatch e⟩
 |ref p=>
  cases r;rcases ty with⟨rfl,xs,hq⟩|⟨rfl,o,hk,hc,hd⟩|⟨rfl,hk⟩|⟨rfl,S,n,hk⟩
  ·obtain⟨its,_,pl,_⟩:=I.list hq
   refine⟨pl.isList.typeIs,fun a e=>?_⟩;cases e;obtain⟨o,n,e,c,hd,_⟩:=pl;exact⟨o,e,hd⟩
  ·refine⟨⟨o,I.kIn p o hk,hc⟩,fun a e=>?_⟩
   cases e;exact⟨o,I.kIn _ o hk,hd⟩
  ·have z:∃o,s.heap.get? p=some o/\o.ExactDict:=by
    rcases hk with⟨kvs,hk⟩|⟨kvs,hk⟩
    ·obtain⟨_,_,_,_,o,_,_,e,ex,_⟩:=I.hok p _ hk
     exact⟨o,e,ex⟩
    ·obtain⟨_,_,_,_,o,_,_,e,ex,_⟩:=I.hok p _ hk
     exact⟨o,e,ex⟩
   obtain⟨o,e,ex⟩:=z;refine⟨⟨o,e,ex.1⟩,fun a e2=>?_⟩;cases e2;exact⟨o,e,ex.2.1⟩
  ·obtain⟨o,_,_,_,e,ex,_⟩:=I.hok p _ hk
   refine⟨⟨o,e,ex.1⟩,fun a e2=>?_⟩;cases e2;exact⟨o,e,ex.2.1⟩
 |_=>exact False.elim ty
noncomputable def FA(K:W.Frag)(T:String)(r:V->List V->Hp->VK->Prop)(to:TE):TE:=fun σ H Q=>to σ H fun x H1=>tyV K T x H1/\r x [] H1 Q
noncomputable def tBM(K:W.Frag)(T:String)(r:V->List V->Hp->VK->Prop)(to:TE)(t:TA):TE:=fun σ H Q=>to σ H fun x H1=>tyV K T x H1/\t σ H1 fun xs H2=>r x xs H2 Q
variable{o e:Expr}{es:List Expr}{to:TE}{t:TA}{name:Str}{apos cpos:Pos}{T id:String}{r:V->List V->Hp->VK->Prop}
theorem Dt(pa:PlainAttrs T)(slot:Slot T name id)(hty:typeOf (.builtin id)=pure (.type "method_descriptor"))(hm:MtR X id r)(ho:PE X o to)(hbase:attributeBase o name X.env (eval o X.env)=eval o X.env:=by rfl)(hline:(apos.endLine == cpos.line)=true:=by rfl):PE X (.Call (.Attribute o name apos) [] [] cpos) (FA X.K T r to):=.mk <| by
 intro pins s σ H Q I h;refine wpAny_Call_method0_late hbase hline (thn (ho pins s σ H _ I h) fun v s1 ⟨x,H1,I1,r1,ty,q1⟩=>?_);obtain⟨h1,h2⟩:=zF I1 r1 ty;exact⟨T,id,pa,slot,hty,h1,h2,Calls.callWith_builtin rfl (PySem.evalArgs_none (hm pins s1 σ H1 x [] v [] Q I1 r1 .nil q1))⟩
theorem pV(pa:PlainAttrs T)(slot:Slot T name id)(hty:typeOf (.builtin id)=pure (.type "method_descriptor"))(hm:MtR X id r)(ho:PE X o to)(ha:PA X (e::es) t)(hbase:attributeBase o name X.env (eval o X.env)=eval o X.env:=by rfl)
  (hfew:((backTo cpos (starEach (e::es) X.env)).all (fun x=>!x.1) && (backToKw cpos (keywordEach [] X.env)).all (fun x=>x.1.isSome)
   && decide ((e::es).length+([]:List Keyword).length+(if ([]:List Keyword).isEmpty then 0 else 1)<30))=true:=by rfl)
  (hline:(apos.endLine == cpos.line)=true:=by rfl) (hs:starEach (e::es) X.env=(false,eval e X.env)::starEach es X.env:=by rfl) (hplain:(backTo cpos (starEach es X.env)).any (·.1)=false:=by rfl) :
  PE X (.Call (.Attribute o name apos) (e::es) [] cpos) (tBM X.K T r to t):=.mk <| by
 intro pins s σ H Q I h;refine wpAny_Call_method_late hbase hfew hline rfl (thn (ho pins s σ H _ I h) fun v s1 ⟨x,H1,I1,r1,ty,q1⟩=>?_);obtain⟨h1,h2⟩:=zF I1 r1 ty;refine⟨T,id,pa,slot,hty,h1,h2,?_⟩;have hA:=ha cpos pins s1 σ H1 _ I1 q1;rw[hs] at hA ⊢;refine Calls.callWith_builtin (by show (false || (backTo cpos (starEach es X.env)).any (·.1))=false;rw[hplain]<;>rfl) (Calls.evalArgs_plain ?_)
 exact thn hA fun us s2 ⟨vs,H2,I2,r2,q2⟩=>hm pins s2 σ H2 x vs v us Q I2 r1 r2 q2
end
noncomputable def MtM(X:Cx)(id:String)(r:V->List V->Hp->VK->Prop):Prop:=
 ∀(pins:List (Addr×Obj)) (s:Shared) (σ:St) (H:Hp) (x:V) (xs:List V) (v:Value) (us:List Value) (Q:VK),Inv X pins σ H s->bo x v->aH xs us->r x xs H Q ->
  wpAny (model X.prog X.w) X.A (call (.builtin id) (v::us)) (EP X pins σ Q) X.xe s
theorem aH.one:∀ {x:V} {us:List Value},aH [x] us->∃u,us=[u]/\bo x u
 |_,_,.cons r .nil=>⟨_,rfl,r⟩
theorem aH.eraseIdx:∀ {xs:List V} {us:List Value} (i:Nat),aH xs us->aH (xs.eraseIdx i) (us.eraseIdx i)
 |_,_,_,.nil=>.nil
 |_,_,0,.cons _ t=>t
 |_,_,i+1,.cons r t=>.cons r (aH.eraseIdx i t)
theorem aH.reverse{xs:List V}{us:List Value}(h:aH xs us):aH xs.reverse us.reverse:=by
 induction h with
 |nil=>exact .nil
 |cons r t ih=>rw[List.reverse_cons,List.reverse_cons];exact aH.append ih (.cons r .nil)
theorem aH.rep{xs:List V}{us:List Value}(h:aH xs us):∀k:Nat,aH (List.replicate k xs).flatten (List.replicate k us).flatten
 |0=>.nil
 |k+1=>by
  rw[List.replicate_succ,List.replicate_succ,List.flatten_cons,List.flatten_cons];exact aH.append h (aH.rep h k)
theorem m8{α:Type}:∀(l:List α)(i:Nat),(l.eraseIdx i).length<=l.length
 | [],_=>Nat.le_refl _
 |_::_,0=>Nat.le_succ _
 |_::r,i+1=>Nat.succ_le_succ (m8 r i)
theorem nI(its:List Value):∀(k:Nat)(acc:List Value),
  List.foldl (fun x1 x2=>x1++x2) acc.toArray (List.replicate k its.toArray)=(acc++(List.replicate k its).flatten).toArray
 |0,acc=>by simp
 |k+1,acc=>by
  have e:acc.toArray++its.toArray=(acc++its).toArray:=by simp
  have e2:(acc++its)++(List.replicate k its).flatten=acc++(List.replicate (k+1) its).flatten:=by
   rw[List.replicate_succ,List.flatten_cons,List.append_assoc]
  rw[←e2,←nI its k (acc++its),←e,List.replicate_succ,List.foldl_cons]
section
variable{X:Cx}{pins:List (Addr×Obj)}{σ:St}{H:Hp}{s:Shared}{l b:Addr}{xs ys zs:List V}
theorem Inv.lset{its its':List Value}{n:Nat}{f:Array Value->Array Value}{t':Nat}(I:Inv X pins σ H s)(hH:H l=some (.lst xs))(e:s.heap.get? l=some { cls:=.type "list",data:=.seq its.toArray n })(hf:f its.toArray=its'.toArray)(hv:aH ys its')(hz:ys.length<=sizeLine):
  Inv X pins σ (upd H l (.lst ys)) { s with heap:=s.heap.update l (Obj.mapSeq f),toks:=t' }:=by
 have q:=PySem.IsL.update e f;rw[hf] at q;refine I.write (x:=l) (e:=l) (by rw[hH];exact trivial) (.inl rfl) (fun b' u hb hu=>(Heap.get?_update_other s.heap (Obj.mapSeq f) (Ne.symm hb)).trans hu) ⟨_,q⟩ ?_
 exact⟨hz,its',_,hv,q⟩
theorem Inv.lnew{its:List Value}{t':Nat}(I:Inv X pins σ H s)(hv:aH ys its)(hz:ys.length<=sizeLine):
  Inv X pins σ (upd H s.heap.objs.size (.lst ys)) { s with heap:=s.heap.push { cls:=.type "list",data:=.seq its.toArray },toks:=t' }:=
 I.laid (fun _ _ q=>Heap.get?_push_of_some _ q) (Nat.le_refl _) ⟨hz,its,0,hv,Heap.get?_push_size _ rfl⟩
theorem Inv.fresh(I:Inv X pins σ H s):H s.heap.objs.size=none:=I.hok.fresh (Nat.le_refl _)
theorem Inv.GD(I:Inv X pins σ H s)(hH:H l=some (.lst xs)):xs.length<=sizeLine/\∃(its:List Value)(n:Nat),aH xs its/\xs.length=its.length/\s.heap.get? l=some { cls:=.type "list",data:=.seq its.toArray n }:=by
 obtain⟨z,its,n,r,e⟩:=I.hok l _ hH;exact⟨z,its,n,r,r.length,e⟩
theorem xL{n:Nat}(h:n<=sizeLine):Builtin.List.listTooLong n=false:=by
 unfold Builtin.List.listTooLong;exact decide_eq_false (by omega)
end
section
variable{X:Cx}
noncomputable def ut:V->List V->Hp->VK->Prop:=fun x vs H Q=>∃l xs y,x=.ref l/\vs=[y]/\H l=some (.lst xs)/\xs.length<sizeLine/\Q .non (upd H l (.lst (xs++[y])))
theorem hU:MtM X "list.append" ut:=by
 intro pins s σ H x vs v us Q I rx rv h;obtain⟨l,xs,y,rfl,rfl,hH,hz,q⟩:=h;cases rx;obtain⟨u,rfl,ru⟩:=rv.one;obtain⟨z,its,n,r,hl,e⟩:=I.GD hH;refine call_meets F.slot_list_append ⟨_,e,rfl⟩ F.entry_list_append (F.args_list_append_2 _ _) (PySem.list_append l its.toArray n u (by rw[List.size_toArray];omega)) ⟨e,?_⟩
 refine⟨.non,_,I.lset (its':=its++[u]) hH e (by simp) (r.append (.cons ru .nil)) ?_,rfl,q⟩
 rw[List.length_append,List.length_singleton];omega
noncomputable def zy:V->List V->Hp->VK->Prop:=fun x vs H Q=>∃l xs i k y,x=.ref l/\vs=[.int i]/\H l=some (.lst xs)/\-(2^63)<=i/\i<2^63/\seqIndex? i xs.length=some k/\xs[k]?=some y/\Q y (upd H l (.lst (xs.eraseIdx k)))
theorem yS:MtM X "list.pop" zy:=by
 intro pins s σ H x vs v us Q I rx rv h;obtain⟨l,xs,i,k,y,rfl,rfl,hH,h1,h2,hk,hy,q⟩:=h;cases rx;obtain⟨u,rfl,ru⟩:=rv.one;obtain⟨t,rfl⟩:=ru;obtain⟨z,its,n,r,hl,e⟩:=I.GD hH;obtain⟨w,hw,rw'⟩:=r.get hy
 refine call_meets F.slot_list_pop ⟨_,e,rfl⟩ F.entry_list_pop (F.args_list_pop_2 _ _)
  (MeetsSeq.list_pop_at l its.toArray n i t k w (fitsIndex_both h1 h2) (by rw[List.size_toArray,←hl];exact hk) (by rw[←Array.getElem?_toList];exact hw) (by rw[List.size_toArray];omega)) ⟨e,?_⟩
 refine⟨y,_,I.lset (its':=its.eraseIdx k) hH e ?_ (r.eraseIdx k) ?_,rw',q⟩
 ·show its.toArray.eraseIdxIfInBounds k=(its.eraseIdx k).toArray
  rw[List.eraseIdxIfInBounds_toArray]
 ·have:=m8 xs k
  omega
noncomputable def rK:R2:=fun x y H Q=>∃l b xs zs,x=.ref l/\y=.ref b/\H l=some (.lst xs)/\H b=some (.lst zs)/\xs.length+zs.length<=sizeLine/\∀p,H p=none->Q (.ref p) (upd H p (.lst (xs++zs)))
theorem aZ:OpR X (binaryOp .Add) rK:=by
 intro pins s σ H x y v u Q I rx ry h;obtain⟨l,b,xs,zs,rfl,rfl,hH,hB,hz,q⟩:=h;cases rx;cases ry;obtain⟨z,its,n,r,hl,e⟩:=I.GD hH;obtain⟨z2,its2,n2,r2,hl2,e2⟩:=I.GD hB;refine PySem.P.add_list e e2 ?_ (by rw[List.size_toArray,List.size_toArray];omega)
 have ea:its.toArray++its2.toArray=(its++its2).toArray:=by simp
 rw[ea];exact⟨.ref _,_,I.lnew (t':=s.toks) (r.append r2) (by rw[List.length_append];omega),rfl,q _ I.fresh⟩
noncomputable def Af:R2:=fun x y H Q=>∃l k xs,x=.ref l/\y=.int k/\H l=some (.lst xs)/\-(2^63)<=k/\k<2^63/\xs.length*k.toNat<=sizeLine /\
 ∀p,H p=none->Q (.ref p) (upd H p (.lst (List.replicate k.toNat xs).flatten))
theorem z8{α:Type}(xs:List α)(k:Nat):(List.replicate k xs).flatten.length=k*xs.length:=by
 induction k with
 |zero=>simp
 |succ k ih=>rw[List.replicate_succ,List.flatten_cons,List.length_append,ih,Nat.succ_mul,Nat.add_comm]
theorem dB:OpR X (binaryOp .Mult) Af:=by
 intro pins s σ H x y v u Q I rx ry h;obtain⟨l,k,xs,rfl,rfl,hH,h1,h2,hz,q⟩:=h;cases rx;obtain⟨t,rfl⟩:=ry;obtain⟨z,its,n,r,hl,e⟩:=I.GD hH;have hlen:its.toArray.size*k.toNat<=sizeLine:=by rw[List.size_toArray,←hl];exact hz
 have hcap:¬ its.toArray.size*k.toNat>(2^63-1) / 8:=by
  have:(sizeLine:Nat)<=(2^63-1) / 8:=by decide
  omega
 have hfit:¬ (!Builtin.List.listFitsIndex k)=true:=by
  rw[fitsIndex_both h1 h2];exact Bool.false_ne_true
 have hlong:¬ Builtin.List.listTooLong (its.toArray.size*k.toNat)=true:=by
  rw[xL hlen];exact Bool.false_ne_true
 have hnew:List.foldl (fun x1 x2=>x1++x2) #[] (List.replicate (if its.toArray.isEmpty=true then 0 else k.toNat) its.toArray)=(List.replicate k.toNat its).flatten.toArray:=by
  have f0:∀m:Nat,List.foldl (fun x1 x2=>x1++x2) #[] (List.replicate m its.toArray)=(List.replicate m its).flatten.toArray:=fun m=>by
   have:=nI its m [];rw[List.nil_append] at this;exact this
  rw[f0]
  cases its with
  |nil=>simp
  |cons a r'=>rw[if_neg (by simp)]
 refine wpAny_binaryOp_repeat_ref (T:="list") (U:="int") (by decide) ⟨_,e,rfl⟩ (fun s'=>typeIs_int s' k t) noFill_list_mul F.fills_int_mul F.slot_int_rmul repeat_list F.slot_int_index.lookup
  (call_meets F.slot_int_rmul (typeIs_int s k t) F.entry_int_rmul (F.args_int_rmul_2 _ _) (int___rmul___int_list k t l its.toArray n)
   ⟨e,rfl,⟨_,e,rfl⟩,call_meets F.slot_list_mul ⟨_,e,rfl⟩ F.entry_list_mul (F.args_list_mul_2 _ _) (AutoListH.list___mul___list_int_3 l its.toArray n k t hfit hcap hlong) ⟨e,?_⟩⟩)
 rw[hnew];exact⟨.ref _,_,I.lnew (t':=s.toks) (r.rep k.toNat) (by rw[z8,Nat.mul_comm];exact hz),rfl,q _ I.fresh⟩
end
section
variable{prog:Program}{w:World}{A:Around}{E:Value->Shared->Prop}{s:Shared}
set_option maxRecDepth 100000 in
end
section
variable{X:Cx}{pins:List (Addr×Obj)}{σ:St}{H:Hp}{s:Shared}{a:Addr}{y v:V}{u r:Value}{o:Option V}{A:Around}{E:Value->Shared->Prop}
theorem Inv.big(I:Inv X pins σ H s):sysModules<s.heap.objs.size:=by
 have h:mainGlobals<s.heap.objs.size:=(I.mod.glob.keeps I.bk).lt;exact Nat.lt_trans (by decide) h
end
theorem wX{P:Program}{w:World}{H:Hp}(h:Heap)(hb:sysModules<h.objs.size):bV P w H (h.push { cls:=.type "dict",data:=.dict #[] }) h.objs.size (.dK []):=
 ⟨Nat.zero_le _,beq_eq_false_iff_ne.mpr (Ne.symm (Nat.ne_of_lt hb)),[],.nil,Heap.DictOf.new h⟩
noncomputable def yA:TE:=fun _ H Q=>∀p,H p=none->Q (.ref p) (upd H p (.dK []))
section
variable{X:Cx}{pos:Pos}
theorem yh:PE X (.Dict [] [] pos) yA:=.mk <| fun pins s σ H Q I h=>
 wpAny_Dict_empty ⟨.ref s.heap.objs.size,_,I.laid (a:=s.heap.objs.size) (o:=.dK []) (t':=s.toks) (fun _ _ q=>Heap.get?_push_of_some _ q) (Nat.le_refl _) (wX s.heap I.big),rfl,h _ (I.hok.fresh (Nat.le_refl _))⟩
end
structure M1(X:Cx)(o:Expr)(m:Str)(apos:Pos)(e:Expr)(cpos:Pos):Prop where
 base:attributeBase o m X.env (eval o X.env)=eval o X.env
 few:((backTo cpos (starEach [e] X.env)).all (fun x=>!x.1) && (backToKw cpos (keywordEach [] X.env)).all (fun x=>x.1.isSome)
  && decide (([e]:List Expr).length+([]:List Keyword).length+(if ([]:List Keyword).isEmpty then 0 else 1)<30))=true
 line:(apos.endLine == cpos.line)=true
 trees:backTo cpos (starEach [e] X.env)=[(false,eval e X.env)]
structure M2(X:Cx)(o:Expr)(m:Str)(apos:Pos)(e f:Expr)(cpos:Pos):Prop where
 base:attributeBase o m X.env (eval o X.env)=eval o X.env
 few:((backTo cpos (starEach [e,f] X.env)).all (fun x=>!x.1) && (backToKw cpos (keywordEach [] X.env)).all (fun x=>x.1.isSome)
  && decide (([e,f]:List Expr).length+([]:List Keyword).length+(if ([]:List Keyword).isEmpty then 0 else 1)<30))=true
 line:(apos.endLine == cpos.line)=true
 trees:backTo cpos (starEach [e,f] X.env)=[(false,eval e X.env),(false,eval f X.env)]
end L2
namespace Att
open PySem PySem.W PySem.Calls PyProof.Rows
theorem ko{P:Params}{h:Heap}:∀(ns:List Int)(vs:List Value),WellAll P h vs (ns.map WData.int)->IntsAre vs ns:=by
 intro ns
 induction ns with
 |nil=>
  intro vs w;rw[List.map_nil] at w;cases w;exact .nil
 |cons n ns ih=>
  intro vs w;rw[List.map_cons] at w
  cases w with
  |cons a b=>
   cases a;exact .cons _ _ (ih _ b)
theorem ww{l:OpenLaw}{n:Nat}(hn:l.most=some n){P:Params}{h:Heap}{args:List WData}{vals:List Value}(hpre:l.row.toRowW.claim.pre args=true)(hwl:WellAll P h vals args):
  ∃a vs ns,vals=[Value.ref a]/\args=[WData.list (ns.map WData.int)]/\h.get? a=some { cls:=.type "list",data:=.seq vs.toArray }/\IntsAre vs ns/\ns.length<=n:=by
 have hsh:WShape.hasAll [] args [.list .int]=true:=(pre_splitW hpre).1;have hc:l.pre.holds [] { args:=args }=true:=(pre_splitW hpre).2;obtain⟨d,r,rfl,h1,h2⟩:=hasAllW_cons hsh;obtain rfl:=hasAllW_nil h2;obtain⟨xs,rfl,h3⟩:=hasW_list h1;obtain⟨ns,rfl⟩:=items_int h3
 have hlen:ns.length<=n:=by
  unfold OpenLaw.pre at hc
  have h4:(WTm.not (.lt (.lit (.int (n:Int))) (.len (.arg 0)))).holds [] { args:=[.list (ns.map .int)] }=true:=by
   have h4:=(holds_andW hc).1;rw[hn] at h4;exact h4
  have h5:=condW_of h4 (w_not (w_lt w_lit (w_len_list (w_arg rfl))));rw[List.length_map] at h5;refine Nat.le_of_not_lt fun q=>?_;have q':(n:Int)<((ns.length:Nat):Int):=by omega
  first
   |(rw[decide_eq_true q'] at h5;exact absurd h5 (by decide))
   |(simp at h5;omega)
 cases hwl with
 |cons w1 w2=>
  cases w2
  cases w1 with
  |list ho hall=>exact⟨_,_,ns,rfl,rfl,ho,ko ns _ hall,hlen⟩
theorem vP(l:OpenLaw)(args:List WData):l.row.toRowW.claim.post args (.bool true) args=true:=
 postW_of (r:=l.row.toRowW) (X:=(true == true))
  (show WShape.has [] (.bool true) .bool=true by first|rfl|decide|simp[WShape.has,WShape.arms,WShape.armsAll])
  (show (WTm.eq .res (.lit (.bool true))).value [] { args:=args,res:=some (.bool true),after:=args }=some (.bool (true == true)) from w_eq_bool (w_res rfl) w_lit) rfl
theorem qV{l:OpenLaw}{n:Nat}{q:Program}{loose:List Str}{XP:(Str->Option Value)->Heap->Prop}{YP:World->Heap->Prop}{d:DefRec}(hn:l.most=some n)(hdf:d.params.defaults=[])
  (call:∀(w:World)(s₀ s₁:Shared)(mg mb:Str->Option Value)(fa:Addr)(o:Obj)(pm cd doc:Value)(a:Addr)(vs:List Value)(ns:List Int),
   Ground q loose [] XP w s₀ mg mb s₁.heap->YP w s₁.heap ->
   s₁.heap.get? fa=some o->o.data=.func (docDef d.name d.params d.body d.scope pm cd doc)->s₁.heap.CodeRec cd d.name->mg d.name=some (.ref fa) ->
   s₁.heap.get? a=some { cls:=.type "list",data:=.seq vs.toArray }->IntsAre vs ns->ns.length<=n->s₁.gens=#[] ->
   codeAny (model l.prog w) callerA (.call (.ref fa) ⟨[.ref a],[]⟩) (fun r s'=>r=.ok (.ret (.bool true))/\OldK s₁.heap s'.heap/\s'.os=s₁.os/\AllBare s'.gens) s₁) :
  WalkO q loose XP YP l.row.toRowW d [] (fun f vs=>PySem.call f vs):=by
 intro w s₀ s₁ mg mb G Y fa o pm cd doc dV kV ho hd hcd hD hmg hg args vals as hpre hlay hrd hwl hlo;obtain rfl:dV=.none:=Dflts.none hD hdf;obtain rfl:kV=.none:=Dflts.noKw hD;obtain⟨a,vs,ns,rfl,rfl,hobj,hints,hlen⟩:=ww hn hpre hwl;refine enter_call (codeAny_mono (call w s₀ s₁ mg mb fa o pm cd doc a vs ns G Y ho (fd_plain hd) hcd hmg hobj hints hlen hg) fun r s' hq=>?_);obtain⟨rfl,h2,h3,h4⟩:=hq
 exact⟨.inl ⟨.bool true,.bool true,[],rfl,fun _=>rfl,.bool true,vP l _,fun _=>⟨List.Pairwise.nil,fun _ hm=>(nomatch hm)⟩⟩,h2,h3,h4⟩
end Att
namespace L2
open PySem PySem.Spec PyProof.Rows
theorem nj:∀ {vs:List Value} {ns:List Int},IntsAre vs ns->aH (ns.map V.int) vs
 |_,_,.nil=>.nil
 |_,_,.cons n t h=>.cons ⟨t,rfl⟩ (nj h)
noncomputable def Fh(_:Hp):Prop:=True
noncomputable abbrev KOf{K:W.Frag}{h:Heap}(_:K.In h):W.Frag:=K
noncomputable def defArgs(s:Stmt):Arguments:=match s with
 |.FunctionDef _ a _ _ _ _ _ _ _ _=>a
 |_=>{ posonlyargs:=[],args:=[],vararg:=none,kwonlyargs:=[],kw_defaults:=[],kwarg:=none,defaults:=[] }
noncomputable def defBody(s:Stmt):List Stmt:=match s with
 |.FunctionDef _ _ b _ _ _ _ _ _ _=>b
 |_=>[]
noncomputable def defScope(s:Stmt):Scope:=match s with
 |.FunctionDef _ _ _ _ _ _ sc _ _ _=>sc
 |_=>{ kind:=.function,names:=[],isGenerator:=false,isCoroutine:=false }
noncomputable abbrev CX0:CXT:=fun _ _ _ _ _ _=>False
noncomputable abbrev E0:XK:=fun _ _ _=>False
theorem aW{X:Cx}:sF CX0 X E0:=fun _ _ _ _ _ _ _ h=>h.elim
structure Fun(K:W.Frag)(x qual:Str)(st:Stmt)(f:Addr)(fd:FuncData):Prop where
 ex:∃(oc:Value)(od:Option Addr)(kV doc pm:Value)(an:Option Addr)(cdv ct:Value) (osl:Array (Option Value)),
  fd=W.fnOf x qual (defArgs st) (defBody st) (defScope st) .none kV doc pm an cdv ct/\K.lookup f=some ⟨oc,od,.func fd,osl⟩/\W.codeIn K cdv qual=true
 kp:W.keepIn K (.ref f)=true
section
variable{P:Program}{w:World}{K:W.Frag}{mg:Str->Option Value}{base:Heap}
theorem Fun.ok{x qual:Str}{st:Stmt}{f:Addr}{fd:FuncData}{N ps:List Str}{k:Nat}{sp:Sp}(F:Fun K x qual st f fd)(S:aN N ps (defScope st))(len:∀vs H Q E,sp vs H Q E->vs.length=ps.length)
  (hbody:∀(cdv:Value)(A:Around)(outer:List Env)(s:Shared)(H:Hp)(vs:List V)(Q:VK)(E:XK),d6 k (A.deeper (envOfC qual (defScope st) s.heap.objs.size f cdv))->sp vs H Q E ->
   ∃t,PSs (qk CX0 P w K mg base N qual (defScope st) f cdv A outer s H E).nox (defBody st) t/\t { nx:=fun _ H'=>Q .non H',rt:=Q } (start N vs) H):a7 P w K mg base CX0 (k+1) f fd ps sp:=by
 obtain⟨oc,od,kV,doc,pm,an,cdv,ct,osl,rfl,lk,hcd⟩:=F.ex;refine Eo lk hcd S len fun A outer s H vs Q E hr hsp=>?_;obtain⟨t,h,q⟩:=hbody cdv A outer s H vs Q E hr hsp;exact⟨t,h.nox,q⟩
theorem Fun.binds{x qual:Str}{st:Stmt}{f:Addr}{fd:FuncData}{ps:List Str}(F:Fun K x qual st f fd)(h:∀(kV doc pm:Value)(an:Option Addr)(cdv ct:Value)(us:List Value),us.length=ps.length->bindArgs (W.fnOf x qual (defArgs st) (defBody st) (defScope st) .none kV doc pm an cdv ct) ⟨us,[]⟩=pure (ps.zip us)):bq K fd ps []:=by
 obtain⟨oc,od,kV,doc,pm,an,cdv,ct,osl,rfl,lk,hcd⟩:=F.ex;exact .all (h kV doc pm an cdv ct)
theorem yD{x qual:Str}{st:Stmt}{f:Addr}{oc:Value}{od an:Option Addr}{osl:Array (Option Value)}{kV doc pm cdv ct:Value}(l:K.lookup f=some ⟨oc,od,.func (W.fnOf x qual (defArgs st) (defBody st) (defScope st) .none kV doc pm an cdv ct),osl⟩)(c:W.codeIn K cdv qual=true)(k:W.keepIn K (.ref f)=true):Fun K x qual st f (W.fnOf x qual (defArgs st) (defBody st) (defScope st) .none kV doc pm an cdv ct):=⟨⟨oc,od,kV,doc,pm,an,cdv,ct,osl,rfl,l,c⟩,k⟩
end
theorem aR{n:Nat}(h:n<=1000):n<sizeLine:=Nat.lt_of_le_of_lt h (by decide)
section
variable{X:Cx}
theorem pv(i:Nat){x:Str}{pos:Pos}(hN:X.N[i]?=some x:=by rfl)(hv:Vis X.env.scope x:=by first|exact Or.inl rfl|exact Or.inr (Or.inl rfl)|exact Or.inr (Or.inr rfl))(hd:(x == ("__debug__":Str))=false:=by decide)(hcd:(x == ("__classdict__":Str))=false:=by decide):PE X (.Name x pos) (Bg i):=Ec hN hv hd hcd
end
theorem vM{c A B:Prop}[Decidable c](h1:c->A)(h2:¬ c->B):if c then A else B:=by
 by_cases h:c
 ·rw[if_pos h]
  exact h1 h
 ·rw[if_neg h]
  exact h2 h
noncomputable def cS(H H':Hp):Prop:=∀b o,H b=some o->H' b=some o
theorem cS.refl(H:Hp):cS H H:=fun _ _ h=>h
theorem cS.trans{H H1 H2:Hp}(a:cS H H1)(b:cS H1 H2):cS H H2:=fun c o h=>b c o (a c o h)
end L2
set_option maxHeartbeats 1000000
namespace L2
open PySem PySem.Spec PyProof.Rows
section
variable{prog:Program}{w:World}{A:Around}{E:Value->Shared->Prop}{R:Result->Shared->Prop}{s:Shared}
noncomputable def fJ(elt:Expr)(gens:List Comprehension)(scope:Scope)(pos:Pos)(d:Nat)(acc:Value)(env:Env):Sem Unit:=
 match gens[d+1]? with
 |some g'=>do
  let x ← eval g'.iter env
  standAt g'.iter.pos
  let x ← if g'.is_async != 0 then foldedIterable g'.iter x else foldedSetIterable g'.iter env x
  let _ ← runOwn (.compStart (.ListComp elt gens scope pos) (d+1) (← holding [x] (if g'.is_async != 0 then asyncIter x else pyIter x)) acc env) env
 |none=>do let _ ← call (.builtin "list.append") [acc,←eval elt env]
theorem oQ{elt target iter:Expr}{gens:List Comprehension}{ifs:List Expr}{scope:Scope}{pos:Pos}{d:Nat}{it acc:Value}{env:Env}(I:Nat->Shared->Prop)(hg:gens[d]?=some ⟨target,iter,ifs,0⟩)(ha:∀g',gens[d+1]?=some g'->g'.is_async=0)
  (turn:∀n s,I n s->wpAny (model prog w) A (pyNext it) (fun r s₁=>match r with
   |none=>R (.ok .next) s₁
   | some v=>wpAny (model prog w) A (letOwnedTupleGo target it v) (fun _ s₁'=>wpAny (model prog w) A (assign target env v) (fun _ s₂ =>
     wpAny (model prog w) A (forIn ifs true fun c r=>if r=true then do let ok ← isTrue c env (eval c env);pure (ForInStep.yield ok) else pure (ForInStep.yield r)) (fun ok s₃=>
      if ok=true then wpAny (model prog w) A (fJ elt gens scope pos d acc env) (fun _ s₅=>∃m,m<n/\I m s₅) (fun _ _=>False) s₃
      else ∃m,m<n/\I m s₃) (fun _ _=>False) s₂) (fun _ _=>False) s₁') (fun _ _=>False) s₁) (fun _ _=>False) s)
  (n:Nat) (h:I n s) :
  codeAny (model prog w) A (.compLoop (.ListComp elt gens scope pos) d it acc env) R s:=by
 refine codeAny_loop rfl I (fun n s hI=>?_) n h;show wpAny _ A ((compTurn (.ListComp elt gens scope pos) d it acc env).onRaise (fun x=>do noteFrame x env;theTreesLotGoes x)) _ _ s
 refine wpAny_noted ?_;unfold compTurn;simp only[hg];refine wpAny_bind (wpAny_standAt (wpAny_bind (wpAny_mono (turn n s hI) (fun r s₁ h₁=>?_) fun _ _ x=>x.elim)))
 cases r with
 |none=>exact wpAny_pure h₁
 |some v=>
  refine wpAny_bind (wpAny_mono h₁ (fun _ s₁' h₁'=>?_) fun _ _ x=>x.elim);refine wpAny_bind (wpAny_mono h₁' (fun _ s₂ h₂=>wpAny_bind (wpAny_mono h₂ (fun ok s₃ h₃=>?_) fun _ _ x=>x.elim)) fun _ _ x=>x.elim)
  cases ok with
  |false=>exact wpAny_pure ⟨rfl,h₃⟩
  |true=>
   have h₃':wpAny (model prog w) A (fJ elt gens scope pos d acc env) (fun _ s₅=>∃m,m<n/\I m s₅) (fun _ _=>False) s₃:=h₃;unfold fJ at h₃';rw[if_pos rfl]
   cases hd:gens[d+1]? with
   |none=>
    rw[hd] at h₃';exact wpAny_bind (wpAny_mono h₃' (fun _ s₅ h₅=>wpAny_pure ⟨rfl,h₅⟩) fun _ _ x=>x.elim)
   |some g'=>
    rw[hd] at h₃';have h0:=ha g' hd;have e0:(g'.is_async != 0)=false:=by rw[h0];rfl
    dsimp only at h₃' ⊢;simp only[e0,Bool.false_eq_true,if_false] at h₃' ⊢;intro Γ p hΓ;have q:=h₃' Γ p hΓ;simp only[Sem.wp_bind'] at q ⊢;refine Sem.wp_mono _ Γ _ (fun x p₁ s₄ q₁=>?_) (fun _ _ _ z=>z.elim) _ _ q;refine Sem.wp_mono _ Γ _ (fun _ p₂ s₄ q₂=>?_) (fun _ _ _ z=>z.elim) _ _ q₁;refine Sem.wp_mono _ Γ _ (fun x p₂ s₄ q₂=>?_) (fun _ _ _ z=>z.elim) _ _ q₂;refine Sem.wp_mono _ Γ _ (fun x p₂ s₄ q₂=>?_) (fun _ _ _ z=>z.elim) _ _ q₂
    refine Sem.wp_mono _ Γ _ (fun x p₂ s₄ q₂=>?_) (fun _ _ _ z=>z.elim) _ _ q₂;exact⟨rfl,q₂⟩
end
section
variable{prog:Program}{w:World}{A:Around}{E:Value->Shared->Prop}{R:Result->Shared->Prop}{s:Shared}
theorem ir{elt target iter:Expr}{gens:List Comprehension}{ifs:List Expr}{scope:Scope}{pos:Pos}{d:Nat}{it acc:Value}{env:Env}(hg:gens[d]?=some ⟨target,iter,ifs,0⟩)(h0:codeAny (model prog w) A (.compLoop (.ListComp elt gens scope pos) d it acc env) R s)(h:wpAny (model prog w) A (pyIter it) (fun it' s'=>codeAny (model prog w) A (.compLoop (.ListComp elt gens scope pos) d it' acc env) R s') (fun _ _=>False) s):
  codeAny (model prog w) A (.compStart (.ListComp elt gens scope pos) d it acc env) R s:=by
 refine codeAny_of_tree ?_;show wpAny _ _ ((compStart (.ListComp elt gens scope pos) d it acc env).onRaise (fun x=>do noteFrame x env;standAt theWindowsPlace)) _ _ s
 refine wpAny_notedAt ?_;unfold compStart;have hcl:clausesOf (.ListComp elt gens scope pos)=gens:=rfl;simp only[hcl,hg,Option.elim];refine wpAny_ite ?_;rw[if_neg (by decide)]
 refine wpAny_bind (wpAny_askSetting (wpAny_ite ?_));split
 ·first
   |exact wpAny_bind (wpAny_pure (wpAny_pure (And.intro rfl h0)))
   |exact wpAny_pure (And.intro rfl h0)
 ·exact wpAny_bind (wpAny_rule (wpAny_bind (wpAny_standAt (wpAny_bind (wpAny_mono h (fun it' s' h'=>wpAny_pure (And.intro rfl h')) fun _ _ x=>x.elim)))))
end
noncomputable abbrev TL:=Addr->St->Hp->(St->Hp->Prop)->Prop
noncomputable def PL(X:Cx)(elt:Expr)(gens:List Comprehension)(scope:Scope)(pos:Pos)(d:Nat)(t:TL):Prop:=
 ∀(pins:List (Addr×Obj)) (s:Shared) (σ:St) (H:Hp) (acc:Addr) (K:St->Hp->Prop),Inv X pins σ H s->t acc σ H K ->
  wpAny (model X.prog X.w) X.A (fJ elt gens scope pos d (.ref acc) X.env) (fun _ s'=>∃σ' H',Inv X pins σ' H' s'/\K σ' H') (fun _ _=>False) s
noncomputable def PTs(X:Cx)(ifs:List Expr)(t:TT):Prop:=
 ∀(pins:List (Addr×Obj)) (s:Shared) (σ:St) (H:Hp) (Q:Bool->Hp->Prop),Inv X pins σ H s->t σ H Q ->
  wpAny (model X.prog X.w) X.A (forIn ifs true fun c r=>if r=true then do let ok ← isTrue c X.env (eval c X.env);pure (ForInStep.yield ok) else pure (ForInStep.yield r)) (TP X pins σ Q) X.xe s
noncomputable def t7:TT:=fun _ H Q=>Q true H
noncomputable def Cl(te:TE):TL:=fun acc σ H K=>te σ H fun y H1=>∃xs,H1 acc=some (.lst xs)/\xs.length<sizeLine/\K σ (upd H1 acc (.lst (xs++[y])))
noncomputable def tU(J:It)(g:TG)(tc:TT)(l:TL):TL:=fun acc σ H K=>∃W:Nat->Nat->St->Hp->Prop,(∃m,W 0 m σ H)/\∀i m σ H,W i m σ H ->
 (J.stop i H/\K σ H)\/(J.go i H/\∀x H',J.yld i H x H'->g x σ H' fun σ2 H2=>tc σ2 H2 fun b H3=>
  if b=true then l acc σ2 H3 (fun σ3 H4=>∃m',m'<m/\W (i+1) m' σ3 H4) else ∃m',m'<m/\W (i+1) m' σ2 H3)
noncomputable def ES(wi:TI)(g:TG)(tc:TT)(l:TL):TL:=fun acc σ H K=>wi σ H fun J H1=>tU J g tc l acc σ H1 K
section
variable{X:Cx}{elt:Expr}{gens:List Comprehension}{scope:Scope}{pos:Pos}{d:Nat}{te:TE}{l:TL}{tg iter:Expr}{ifs:List Expr}{wi:TI}{g:TG}{tc:TT}
theorem fZ:PTs X [] t7:=fun pins s σ H Q I h=>wpAny_tests_nil ⟨H,I,h⟩
theorem eV{c:Expr}(hc:PT X c tc):PTs X [c] tc:=fun pins s σ H Q I h=>wpAny_tests_one (hc pins s σ H Q I h)
theorem cq(hx:X.xe=fun _ _=>False)(hd:gens[d+1]?=none)(he:PE X elt te):PL X elt gens scope pos d (Cl te):=by
 intro pins s σ H acc K I h;unfold fJ;rw[hd];have he':=he pins s σ H _ I h;rw[hx] at he';refine wpAny_bind (thn he' fun u s1 ⟨y,H1,I1,r1,xs,e1,z1,k1⟩=>?_);have ha:=hU pins s1 σ H1 (.ref acc) [y] (.ref acc) [u] (fun v H2=>v=.non/\H2=upd H1 acc (.lst (xs++[y]))) I1 rfl (.cons r1 .nil) ⟨acc,xs,y,rfl,rfl,e1,z1,rfl,rfl⟩;rw[hx] at ha;refine wpAny_bind (thn ha fun v s2 ⟨v',H2,I2,r2,e2,e3⟩=>wpAny_pure ⟨σ,H2,I2,by rw[e3];exact k1⟩)
theorem nk(hx:X.xe=fun _ _=>False)(hc:X.calm=true)(hd:gens[d]?=some ⟨tg,iter,ifs,0⟩)(ha:∀g',gens[d+1]?=some g'->g'.is_async=0)(hg:PG X tg g)(ht:PTs X ifs tc)(hl:PL X elt gens scope pos d l){pins:List (Addr×Obj)}{s:Shared}{σ:St}{H:Hp}{acc it:Addr}{fp:List Addr}{tn:Nat->Heap->Prop}{J:It}{K:St->Hp->Prop}{R:Result->Shared->Prop}(I:Inv X pins σ H s)(T:sL X.prog X.w X.K tg J fp it tn)(st:tn 0 s.heap)(f2:∀b∈fp,iT X pins H b)(h:tU J g tc l acc σ H K)(hR:∀σ' H' s',Inv X pins σ' H' s'->K σ' H'->R (.ok .next) s'):
  codeAny (model X.prog X.w) X.A (.compLoop (.ListComp elt gens scope pos) d (.ref it) (.ref acc) X.env) R s:=by
 obtain⟨W,⟨m0,w0⟩,turn⟩:=h;have stat:∀ {H':Hp},(∀b∈fp,H' b=none)->∀b∈fp,iT X pins H' b:=fun hn b hb=>⟨hn b hb,(f2 b hb).2⟩;refine oQ (fun n s'=>∃i σ' H',Inv X pins σ' H' s'/\tn i s'.heap/\(∀b∈fp,H' b=none)/\W i n σ' H') hd ha ?_ m0 ⟨0,σ,H,I,st,fun b hb=>(f2 b hb).1,w0⟩;rintro n s3 ⟨i,σ3,H3,I3,st3,fr3,w3⟩;rcases turn i n σ3 H3 w3 with⟨stop,qn⟩|⟨go,step⟩
 ·refine thn (T.done X rfl rfl rfl hc i pins s3 σ3 H3 _ I3 (stat fr3) st3 stop) fun r s4 ⟨hr,I4⟩=>?_
  subst hr;exact hR σ3 H3 s4 I4 qn
 ·refine thn (T.item X rfl rfl rfl hc i pins s3 σ3 H3 _ I3 (stat fr3) st3 go) fun r s4 ⟨u,hr,h4⟩=>?_
  subst hr;refine thn h4 fun _ s5 ⟨x,H5,I5,r5,y5,st5,fr5⟩=>?_;have I5':=I5.pinned (stat fr5) (T.obj _ _ st5)
  have again:∀ {σ7:St} {H7:Hp} {s7:Shared} {m':Nat},Inv X (pins++l6 fp s5.heap) σ7 H7 s7->m'<n->W (i+1) m' σ7 H7->∃m,m<n/\∃i σ' H',Inv X pins σ' H' s7/\tn i s7.heap/\(∀b∈fp,H' b=none)/\W i m σ' H':=fun {σ7 H7 s7 m'} I7 hm w7=>by
   refine⟨m',hm,i+1,σ7,H7,I7.unpinned,T.keep _ _ _ st5 fun b hb o e=>(I7.pin (b,o) (List.mem_append_right _ (List.mem_append_right _ (gj hb e)))).1,fun b hb=>?_,w7⟩;obtain⟨o,e,d⟩:=T.obj _ _ st5 b hb;exact(I7.pin (b,o) (List.mem_append_right _ (List.mem_append_right _ (gj hb e)))).2.1
  have hg':=hg _ s5 σ3 H5 x u _ I5' r5 (step x H5 y5);rw[hx] at hg';refine thn hg' fun _ s6 ⟨σ6,H6,I6,q6⟩=>?_;have ht':=ht _ s6 σ6 H6 _ I6 q6;rw[hx] at ht';refine thn ht' fun ok s7 ⟨H7,I7,q7⟩=>?_
  cases ok with
  |false=>
   rw[if_neg Bool.false_ne_true] at q7 ⊢;obtain⟨m',hm,w7⟩:=q7;exact again I7 hm w7
  |true=>
   rw[if_pos rfl] at q7 ⊢;refine thn (hl _ s7 σ6 H7 acc _ I7 q7) fun _ s8 ⟨σ8,H8,I8,m',hm,w8⟩=>?_;exact again I8 hm w8
theorem CF(hx:X.xe=fun _ _=>False)(hc:X.calm=true)(hd:gens[d+1]?=some ⟨tg,iter,ifs,0⟩)(ha:∀g',gens[d+2]?=some g'->g'.is_async=0)(hi:PI X tg iter wi)(hg:PG X tg g)(ht:PTs X ifs tc)(hl:PL X elt gens scope pos (d+1) l)(hs:∀x,foldedSetIterable iter X.env x=pure x:=by intro _;rfl):PL X elt gens scope pos d (ES wi g tc l):=by
 intro pins s σ H acc K I h;unfold fJ;rw[hd];dsimp only;have e0:((0:Int) != 0)=false:=by decide
 simp only[show (((⟨tg,iter,ifs,0⟩:Comprehension).is_async != 0)=false) from rfl,Bool.false_eq_true,if_false]
 have hi':=hi pins s σ H _ I h;rw[hx] at hi';refine wpAny_bind (thn hi' fun v s1 h1=>wpAny_bind (wpAny_standAt (wpAny_bind (wpAny_of_eq (hs v) ?_))));refine wpAny_bind (wpAny_holding (thn h1 fun itv s2 h2=>?_));obtain⟨it,fp,tn,J,H2,e,I2,T,st2,f2,q⟩:=h2;subst e
 have loop:codeAny (model X.prog X.w) X.A (.compLoop (.ListComp elt gens scope pos) (d+1) (.ref it) (.ref acc) X.env) (fun r s'=>match r with|.ok f=>wpAny (model X.prog X.w) X.A (pure ():Sem Unit) (fun _ s'=>∃σ' H',Inv X pins σ' H' s'/\K σ' H') (fun _ _=>False) s'|.error e=>cameBackBy (model X.prog X.w) X.A X.env (fun _ _=>False) e s') s2:=
  nk hx hc hd ha hg ht hl I2 T st2 f2 q fun σ' H' s' I' k'=>wpAny_pure ⟨σ',H',I',k'⟩
 exact wpAny_bind (wpAny_runOwn (ir hd loop (T.self X.A 0 s2 _ _ st2 loop)))
end
noncomputable def gx(env:Env):List (Str×NameKind)->List (Str×Addr)->List (Str×Addr)
 | [],acc=>acc
 |(n,k)::r,acc=>if k == .free then gx env r ((n,(env.cells.lookup n).getD 0)::acc) else gx env r acc
theorem rP{scope:Scope}{env:Env}(h:∀y∈scope.names,y.2=.free->∃c,env.cells.lookup y.1=some c):closureFor scope env=pure (gx env scope.names []):=by
 have gen:∀(names:List (Str×NameKind)) (acc:List (Str×Addr)),(∀y∈names,y.2=.free->∃c,env.cells.lookup y.1=some c) ->
   (forIn names acc fun(x:Str×NameKind) (r:List (Str×Addr))=>(if (x.2 == NameKind.free)=true then do let a ← cellOf env x.1;pure (ForInStep.yield ((x.1,a)::r)) else pure (ForInStep.yield r):Sem _))=pure (gx env names acc):=by
  intro names
  induction names with
  |nil=>intro acc _;rfl
  |cons y r ih=>
   intro acc hy;obtain⟨n,k⟩:=y;rw[List.forIn_cons];unfold gx
   cases hk:k == NameKind.free with
   |true=>
    obtain⟨c,hc⟩:=hy (n,k) (List.mem_cons_self ..) (by simpa using hk)
    simp only[hk,if_true,cellOf,hc,Option.getD_some];exact ih _ fun y hy'=>hy y (List.mem_cons_of_mem _ hy')
   |false=>
    simp only[hk,Bool.false_eq_true,if_false];exact ih _ fun y hy'=>hy y (List.mem_cons_of_mem _ hy')
 have:=gen scope.names [] h;unfold closureFor;show ((forIn scope.names ([]:List (Str×Addr)) fun(x:Str×NameKind) (r:List (Str×Addr))=>(if (x.2 == NameKind.free)=true then do let a ← cellOf env x.1;pure (ForInStep.yield ((x.1,a)::r)) else pure (ForInStep.yield r):Sem _)) >>= fun z=>pure z)=_
 rw[this];rfl
theorem fG{env:Env}:∀ {names:List (Str×NameKind)} {acc:List (Str×Addr)} {n:Str} {c:Addr},(n,c)∈gx env names acc->(n,c)∈acc\/((n,NameKind.free)∈names/\c=(env.cells.lookup n).getD 0)
 | [],_,_,_,h=>.inl h
 |(m,k)::r,acc,n,c,h=>by
  unfold gx at h;split at h
  ·rename_i hk
   rcases fG h with h|⟨h1,h2⟩
   ·rcases List.mem_cons.mp h with e|e
    ·cases e
     have:k=.free:=by simpa using hk
     subst this;exact .inr ⟨List.mem_cons_self ..,rfl⟩
    ·exact .inl e
   ·exact .inr ⟨List.mem_cons_of_mem _ h1,h2⟩
  ·rcases fG h with h|⟨h1,h2⟩
   ·exact .inl h
   ·exact .inr ⟨List.mem_cons_of_mem _ h1,h2⟩
theorem jt{env:Env}:∀ {names:List (Str×NameKind)} {acc:List (Str×Addr)} {n:Str},((n,NameKind.free)∈names\/∃c,(n,c)∈acc)->∃c,(n,c)∈gx env names acc
 | [],_,_,h=>by
  rcases h with h|h
  ·cases h
  ·exact h
 |(m,k)::r,acc,n,h=>by
  unfold gx;split
  ·rename_i hk
   apply jt;rcases h with h|⟨c,h⟩
   ·rcases List.mem_cons.mp h with e|e
    ·cases e;exact .inr ⟨_,List.mem_cons_self ..⟩
    ·exact .inl e
   ·exact .inr ⟨c,List.mem_cons_of_mem _ h⟩
  ·rename_i hk
   apply jt;rcases h with h|h
   ·rcases List.mem_cons.mp h with e|e
    ·cases e;simp at hk
    ·exact .inl e
   ·exact .inr h
theorem ff:∀ {names:List (Str×NameKind)} {h:Heap} {acc:List (Str×Addr)} {n:Str} {c:Addr},(n,c)∈cellsFrom h.objs.size names acc ->
  (n,c)∈acc\/((n,NameKind.cell)∈names/\h.objs.size<=c/\(pushCells h names).IsCell c none)
 | [],_,_,_,_,m=>.inl m
 |(x,k)::r,h,acc,n,c,m=>by
  unfold cellsFrom at m;unfold pushCells;split at m
  ·rename_i hk
   rw[if_pos hk];have sz:(h.push { cls:=.type "cell",data:=.cell none }).objs.size=h.objs.size+1:=Heap.size_push ..;rw[←sz] at m
   rcases ff m with m|⟨m1,m2,m3⟩
   ·rcases List.mem_cons.mp m with e|e
    ·cases e
     have:k=.cell:=by simpa using hk
     subst this;exact .inr ⟨List.mem_cons_self ..,Nat.le_refl _,⟨_,pushCells_keeps _ _ _ _ (Heap.get?_push_size _ rfl),rfl⟩⟩
    ·exact .inl e
   ·exact .inr ⟨List.mem_cons_of_mem _ m1,by omega,m3⟩
  ·rename_i hk
   rw[if_neg hk];rcases ff m with m|⟨m1,m2,m3⟩
   ·exact .inl m
   ·exact .inr ⟨List.mem_cons_of_mem _ m1,m2,m3⟩
theorem cK:∀ {names:List (Str×NameKind)} {k:Nat} {acc:List (Str×Addr)} {n:Str},((n,NameKind.cell)∈names\/∃c,(n,c)∈acc)->∃c,(n,c)∈cellsFrom k names acc
 | [],_,_,_,h=>by
  rcases h with h|h
  ·cases h
  ·exact h
 |(m,k)::r,j,acc,n,h=>by
  unfold cellsFrom;split
  ·rename_i hk
   apply cK;rcases h with h|⟨c,h⟩
   ·rcases List.mem_cons.mp h with e|e
    ·cases e;exact .inr ⟨_,List.mem_cons_self ..⟩
    ·exact .inl e
   ·exact .inr ⟨c,List.mem_cons_of_mem _ h⟩
  ·rename_i hk
   apply cK;rcases h with h|h
   ·rcases List.mem_cons.mp h with e|e
    ·cases e;simp at hk
    ·exact .inl e
   ·exact .inr h
theorem fk:∀ {names:List (Str×NameKind)} {k:Nat} {acc:List (Str×Addr)},(∀n c,(n,c)∈acc->c<k)->(∀n m c,(n,c)∈acc->(m,c)∈acc->n=m) ->
  ∀n m c,(n,c)∈cellsFrom k names acc->(m,c)∈cellsFrom k names acc->n=m
 | [],_,_,_,h2,n,m,c,a,b=>h2 n m c a b
 |(x,kd)::r,k,acc,h1,h2,n,m,c,a,b=>by
  unfold cellsFrom at a b;split at a
  ·rename_i hk
   rw[if_pos hk] at b;refine fk (k:=k+1) ?_ ?_ n m c a b
   ·intro n c h
    rcases List.mem_cons.mp h with e|e
    ·cases e;exact Nat.lt_succ_self _
    ·exact Nat.lt_succ_of_lt (h1 n c e)
   ·intro n m c h h'
    rcases List.mem_cons.mp h with e|e<;>rcases List.mem_cons.mp h' with e'|e'
    ·cases e;cases e';rfl
    ·cases e;exact absurd (h1 _ _ e') (Nat.lt_irrefl _)
    ·cases e';exact absurd (h1 _ _ e) (Nat.lt_irrefl _)
    ·exact h2 n m c e e'
  ·rename_i hk
   rw[if_neg hk] at b;exact fk h1 h2 n m c a b
theorem cR{α:Type}:∀ {l:List (Str×α)} {n:Str},(∃c,(n,c)∈l)->∃c,l.lookup n=some c
 | [],_,⟨_,h⟩=>by cases h
 |(k,v)::r,n,⟨c,h⟩=>by
  rw[List.lookup_cons]
  cases hb:n == k with
  |true=>exact⟨v,rfl⟩
  |false=>
   rcases List.mem_cons.mp h with e|e
   ·cases e;simp at hb
   ·exact cR ⟨c,e⟩
noncomputable def df(scope osc:Scope)(N:List Str)(src:List (Option Nat))(ON:List Str):Bool:=
 (scope.kind == .function) && (osc.kind == .function) && decide (src.length=N.length) &&
 (scope.names.all fun y=>(scope.names.lookup y.1 == some y.2) && (if y.2 == .free then osc.names.lookup y.1 == some .cell else true)) &&
 ((N.zip src).all fun p=>match p.2 with|none=>true|some j=>(ON[j]? == some p.1) && (scope.names.lookup p.1 == some .free))
noncomputable def p9(src:List (Option Nat))(σ:St):St:=src.map fun o=>match o with|none=>none|some j=>(σ[j]?).join
noncomputable def Cx.blk(X:Cx)(scope:Scope)(N:List Str)(cs:List (Str×Addr))(C:Addr)(s:Shared)(H:Hp)(ex:List Addr)(pn:List (Addr×Obj)):Cx:=
 { X with N:=N,s₀:=s,H₀:=H,env:=compEnvC scope cs C X.env,outer:=X.stack,stack:=X.stack,ex:=ex,fn:=fun x=>decide (scope.names.lookup x=some .cell),pn:=pn,xe:=fun _ _=>False }
section
variable{X:Cx}{pins:List (Addr×Obj)}{σ:St}{H:Hp}{s:Shared}{scope:Scope}{N:List Str}{src:List (Option Nat)}
theorem nK{osc:Scope}{ON:List Str}(h:df scope osc N src ON=true):scope.kind=.function/\osc.kind=.function/\src.length=N.length /\
  (∀y∈scope.names,scope.names.lookup y.1=some y.2)/\(∀y∈scope.names,y.2=.free->osc.names.lookup y.1=some .cell) /\
  (∀(i:Nat)(x:Str)(j:Nat),N[i]?=some x->src[i]?=some (some j)->ON[j]?=some x/\scope.names.lookup x=some .free):=by
 unfold df at h;simp only[Bool.and_eq_true,decide_eq_true_eq,beq_iff_eq,List.all_eq_true] at h;obtain⟨⟨⟨⟨h1,h2⟩,h3⟩,h4⟩,h5⟩:=h;refine⟨h1,h2,h3,fun y hy=>(h4 y hy).1,fun y hy e=>?_,fun i x j e1 e2=>?_⟩
 ·have:=(h4 y hy).2
  rw[e] at this;simpa using this
 ·have hm:(x,some j)∈N.zip src:=by
   apply List.mem_of_getElem? (i:=i);rw[List.getElem?_zip_eq_some];exact⟨e1,e2⟩
  have:=h5 _ hm;simpa using this
theorem gE{env:Env}(hk:env.scope.kind=.function):∀ {names:List (Str×NameKind)} {x:Str} {k:NameKind},names.lookup x=some k->(k=.free->env.kindOf x=some .cell) ->
  (names.map fun(n,k)=>if (k == NameKind.free && env.scope.kind == .function && env.kindOf n == some .cell) then (n,NameKind.cell) else (n,k)).lookup x=some (if k=.free then .cell else k)
 | [],_,_,h,_=>by simp at h
 |(n,k')::r,x,k,h,hf=>by
  have ih:=@gE env hk r x k;show List.lookup x ((if (k' == NameKind.free && env.scope.kind == .function && env.kindOf n == some .cell)=true then (n,NameKind.cell) else (n,k'))::_)=_
  cases hx:x == n with
  |true=>
   simp only[List.lookup_cons,hx] at h;have e:x=n:=by simpa using hx
   subst e;cases h;by_cases hfr:k'=.free
   ·have:=hf hfr
    subst hfr;rw[if_pos (by rw[this,hk];rfl)]
    simp[List.lookup_cons]
   ·have hfr':(k' == NameKind.free)=false:=by simpa using hfr
    rw[if_neg (by rw[hfr'];simp),if_neg hfr]
    simp[List.lookup_cons]
  |false=>
   simp only[List.lookup_cons,hx] at h;by_cases hc:(k' == NameKind.free && env.scope.kind == .function && env.kindOf n == some .cell)=true
   ·rw[if_pos hc];simp only[List.lookup_cons,hx];exact ih h hf
   ·rw[if_neg hc];simp only[List.lookup_cons,hx];exact ih h hf
theorem qL{env:Env}{names:List (Str×NameKind)}{x:Str}(h:(names.map fun(n,k)=>if (k == NameKind.free && env.scope.kind == .function && env.kindOf n == some .cell) then (n,NameKind.cell) else (n,k)).lookup x=some .cell):
  (x,NameKind.cell)∈names\/(x,NameKind.free)∈names:=by
 have hm:=mem_of_lookup h;obtain⟨⟨n,k⟩,hy,e⟩:=List.mem_map.mp hm;dsimp only at e;split at e
 ·rename_i hc
  cases e;simp only[Bool.and_eq_true,beq_iff_eq] at hc;rw[hc.1.1] at hy;exact .inr hy
 ·cases e;exact .inl hy
theorem nU{env:Env}{names:List (Str×NameKind)}{x:Str}(hk:env.scope.kind=.function)(hfr:∀y∈names,y.2=.free->env.kindOf y.1=some .cell)(h:(names.map fun(n,k)=>if (k == NameKind.free && env.scope.kind == .function && env.kindOf n == some .cell) then (n,NameKind.cell) else (n,k)).lookup x=some .free):False:=by
 have hm:=mem_of_lookup h;obtain⟨⟨n,k⟩,hy,e⟩:=List.mem_map.mp hm;dsimp only at e;split at e
 ·cases e
 ·rename_i hc
  cases e;have:=hfr _ hy rfl;exact hc (by rw[this,hk];rfl)
theorem vZ{fp:List Addr}(I:Inv X pins σ H s)(hb:df scope X.env.scope N src X.N=true)(f2:∀b∈fp,iT X pins H b)(fo:∀b∈fp,∃o,s.heap.get? b=some o){t:Nat}:
  Inv (X.blk scope N (cellsFrom (s.heap.objs.size+1) scope.names (gx X.env scope.names [])) s.heap.objs.size s H fp (X.pn++pins)) [] (p9 src σ) H { s with heap:=pushCells (s.heap.push { cls:=.type "dict",data:=.dict #[] }) scope.names,toks:=t }:=by
 obtain⟨hk,hok,hlen,hnd,hfr,hsrc⟩:=nK hb;have keep:∀b o,s.heap.get? b=some o->(pushCells (s.heap.push { cls:=.type "dict",data:=.dict #[] }) scope.names).get? b=some o:=fun b o e=>pushCells_keeps _ _ b o (Heap.get?_push_of_some _ e);have hfr':∀y∈scope.names,y.2=.free->X.env.kindOf y.1=some .cell:=hfr;have sz:(s.heap.push { cls:=.type "dict",data:=.dict #[] }).objs.size=s.heap.objs.size+1:=Heap.size_push ..
 have cell:∀n c,(n,c)∈cellsFrom (s.heap.objs.size+1) scope.names (gx X.env scope.names []) ->
   (X.env.cells.lookup n=some c/\(n,NameKind.free)∈scope.names)\/((n,NameKind.cell)∈scope.names/\s.heap.objs.size<c/\(pushCells (s.heap.push { cls:=.type "dict",data:=.dict #[] }) scope.names).IsCell c none):=by
  intro n c h;rw[←sz] at h
  rcases ff h with h|⟨h1,h2,h3⟩
  ·rcases fG h with h|⟨h1,h2⟩
   ·cases h
   ·obtain⟨c',hc'⟩:=I.ok.has n (.inl (hfr' _ h1 rfl))
    rw[hc'] at h2;exact .inl ⟨by rw[hc',h2];rfl,h1⟩
  ·exact .inr ⟨h1,by rw[sz] at h2;exact h2,h3⟩
 have oldc:∀n c,X.env.cells.lookup n=some c->c<s.heap.objs.size:=fun n c e=>by
  obtain⟨v,o,ho,_⟩:=I.cell n c e;exact Heap.lt_size ho
 have hH:H s.heap.objs.size=none:=I.hok.fresh (Nat.le_refl _)
 have ok:(X.blk scope N (cellsFrom (s.heap.objs.size+1) scope.names (gx X.env scope.names [])) s.heap.objs.size s H fp (X.pn++pins)).Ok:={
  mod:=I.ok.mod
  kind:=hk
  glob:=I.ok.glob
  blt:=I.ok.blt
  above:=Nat.le_refl _
  inj:=fun x y c a b=>by
   refine fk (k:=s.heap.objs.size+1) (acc:=gx X.env scope.names []) ?_ ?_ x y c (mem_of_lookup a) (mem_of_lookup b)
   ·intro n c h
    rcases fG h with h|⟨h1,h2⟩
    ·cases h
    ·obtain⟨c',hc'⟩:=I.ok.has n (.inl (hfr' _ h1 rfl))
     rw[hc'] at h2;rw[h2];exact Nat.lt_succ_of_lt (oldc n c' hc')
   ·intro n m c h h'
    rcases fG h with h|⟨h1,h2⟩
    ·cases h
    ·rcases fG h' with h'|⟨h1',h2'⟩
     ·cases h'
     ·obtain⟨c1,hc1⟩:=I.ok.has n (.inl (hfr' _ h1 rfl))
      obtain⟨c2,hc2⟩:=I.ok.has m (.inl (hfr' _ h1' rfl));rw[hc1] at h2;rw[hc2] at h2';have e1:c=c1:=h2;have e2:c=c2:=h2';exact I.ok.inj n m c (by rw[e1];exact hc1) (by rw[e2];exact hc2)
  has:=fun x h=>by
   have hm:(x,NameKind.cell)∈scope.names\/(x,NameKind.free)∈scope.names:=by
    rcases h with h|h
    ·exact qL (env:=X.env) h
    ·exact(nU (env:=X.env) hok hfr' h).elim
   have:∃c,(x,c)∈cellsFrom (s.heap.objs.size+1) scope.names (gx X.env scope.names []):=by
    rcases hm with hm|hm
    ·exact cK (.inl hm)
    ·exact cK (.inr (jt (.inl hm)))
   exact cR this
  cab:=fun x c hf e=>by
   have hf':scope.names.lookup x=some .cell:=of_decide_eq_true hf;rcases cell x c (mem_of_lookup e) with⟨_,h⟩|⟨_,h,_⟩
   ·have:=hnd _ h
    rw[hf'] at this;cases this
   ·exact Nat.le_of_lt h
  hd:=I.ok.hd
  frames:=I.ok.frames
  stk:=.inl rfl
  exf:=fun b hb=>by
   obtain⟨o,ho⟩:=fo b hb;have hlt:=Heap.lt_size ho;refine⟨Nat.ne_of_lt hlt,fun x c e=>?_⟩;rcases cell x c (mem_of_lookup e) with⟨h,_⟩|⟨_,h,_⟩
   ·exact(f2 b hb).2.2.2.2.1 x c h
   ·exact Nat.ne_of_gt (Nat.lt_trans hlt h)
  bs:=I.bs
  bsz:=Nat.le_trans I.ok.bsz I.sz
  noex:=fun b o e hb=>by
   rcases(f2 b hb).2.2.2.1 with h|h
   ·exact I.ok.noex b o e h
   ·exact absurd (Nat.lt_of_lt_of_le (Heap.lt_size e) (Nat.le_trans I.ok.bsz h)) (Nat.lt_irrefl _)
  exfs:=fun b hb hm=>by
   rcases List.mem_cons.mp (I.Gw b hm) with h|h
   ·exact(f2 b hb).2.1 h
   ·exact(f2 b hb).2.2.1 h
  funs:=I.stack
  frf:=I.GA
  tt:=I.ok.tt.mono I.base.tbls }
 refine⟨ok,rfl,I.bare,Un.kept keep,⟨fun _=>none,(Heap.Ns.new s.heap (.type "dict")).keeps (pushCells_keeps _ _),fun i x v e1 e2 e3=>?_⟩,fun x c e=>?_,hH,fun x c e=>?_,fun p hp=>?_,I.hok.kept keep,?_⟩
 ·-- a captured name
  have e2':(src.map fun o=>match o with|none=>none|some j=>(σ[j]?).join)[i]?=some (some v):=e2
  rw[List.getElem?_map] at e2'
  cases hs:src[i]? with
  |none=>rw[hs] at e2';cases e2'
  |some o=>
   rw[hs] at e2'
   cases o with
   |none=>cases e2'
   |some j=>
    have ej:(σ[j]?).join=some v:=by simpa using e2'
    have ej':σ[j]?=some (some v):=by
     cases hq:σ[j]? with
     |none=>rw[hq] at ej;cases ej
     |some z=>rw[hq] at ej;simpa using ej
    obtain⟨n1,n2⟩:=hsrc i x j e1 hs;have hfree:X.env.kindOf x=some .cell:=hfr' (x,.free) (mem_of_lookup n2) rfl;obtain⟨m,hn,hl⟩:=I.loc;obtain⟨u,r,l⟩:=hl j x v n1 ej' (.inr (.inl hfree));refine⟨u,r,.inr ⟨.inl ?_,?_⟩⟩
    ·have:=gE (env:=X.env) hok n2 (fun _=>hfree)
     exact this
    ·rcases l with⟨h,_⟩|⟨_,c,hc,hcell⟩
     ·rw[hfree] at h;cases h
     ·have:∃c',(x,c')∈cellsFrom (s.heap.objs.size+1) scope.names (gx X.env scope.names []):=cK (.inr (jt (.inl (mem_of_lookup n2))))
      obtain⟨c',hc'⟩:=cR this;refine⟨c',hc',?_⟩;rcases cell x c' (mem_of_lookup hc') with⟨h,_⟩|⟨h,_,_⟩
      ·rw[hc] at h
       cases h;obtain⟨oc,ho,hd⟩:=hcell;exact⟨oc,keep _ _ ho,hd⟩
      ·have:=hnd _ h
       rw[n2] at this;cases this
 ·rcases cell x c (mem_of_lookup e) with⟨h,_⟩|⟨_,_,h⟩
  ·obtain⟨v,o,ho,hd⟩:=I.cell x c h
   exact⟨v,o,keep _ _ ho,hd⟩
  ·exact⟨_,h⟩
 ·rcases cell x c (mem_of_lookup e) with⟨h,_⟩|⟨_,h,_⟩
  ·exact I.freeC x c h
  ·exact I.hok.fresh (Nat.le_of_lt h)
 ·rw[List.append_nil] at hp
  obtain⟨e,n,ne,nf,d⟩:=I.pin p hp;refine⟨keep _ _ e,n,Nat.ne_of_lt (Heap.lt_size e),fun hm=>?_,d⟩;rcases List.mem_cons.mp (I.Gw _ hm) with h|h
  ·exact ne h
  ·exact nf h
 ·show (src.map _).length=N.length
  rw[List.length_map];exact hlen
theorem zV{fp:List Addr}{cs:List (Str×Addr)}{C:Addr}{σ':St}{H':Hp}{s':Shared}{pins':List (Addr×Obj)}(I:Inv X pins σ H s)(f2:∀b∈fp,iT X pins H b)(I':Inv (X.blk scope N cs C s H fp (X.pn++pins)) pins' σ' H' s'):Inv X pins σ H' s':=
 I.call' (ch:=fp) I'.os I'.base I'.hok I'.bare fun b hb=>⟨(f2 b hb).2.2.2.1,(f2 b hb).2.1,(f2 b hb).2.2.2.2.1,(f2 b hb).2.2.2.2.2⟩
theorem zt{C:Addr}{h':Heap}(I:Inv X pins σ H s)(hC:H C=none)(hL:C≠X.env.locals)(h1:X.s₀.heap.objs.size<=C)(h2:∀x c,X.env.cells.lookup x=some c->c≠C)(h3:∀p∈X.pn++pins,p.1≠C)(hs:Heap.SameBut C s.heap h'):Inv X pins σ H { s with heap:=h' }:=
 I.turned (t':=s.toks) (fun b o hb e=>(hs.2 b hb).trans e) hC hL (.inr h1) h2 h3
end
section
variable{M:Model}{A:Around}{E:Value->Shared->Prop}{s:Shared}
theorem pO{scope:Scope}{globals:Addr}{cl:List (Str×Addr)}{qual:Str}{env:Env}{Q:Env->Shared->Prop}(hQ:Q (newEnv scope s.heap.objs.size globals (cellsFrom (s.heap.objs.size+1) scope.names cl) qual none .none (some env) builtinsNs) { s with heap:=pushCells (s.heap.push { cls:=.type "dict",data:=.dict #[] }) scope.names }):
  wpAny M A (newFunctionEnv scope globals cl [] qual none .none (some env)) Q E s:=by
 simp only[newFunctionEnv,Option.isSome_some,if_true];refine wpAny_bind (wpAny_alloc ?_);refine wpAny_bind (wpAny_layCells _ (fun name kind cells=>by cases hkc:kind == NameKind.cell<;>simp[hkc]) _ _ _ _ ?_)
 rw[show ({ s with heap:=s.heap.push { cls:=.type "dict",data:=.dict #[] } }:Shared).heap.objs.size=s.heap.objs.size+1 from Heap.size_push ..]
 simp only[List.forIn_nil];exact wpAny_bind (wpAny_pure (wpAny_pure hQ))
end
section
variable{X:Cx}{elt tg iter:Expr}{ifs:List Expr}{be:List Comprehension}{scope:Scope}{pos:Pos}{N:List Str}{src:List (Option Nat)}{wi:TI}{g:TG}{tc:TT}{l:TL}
noncomputable def pZ(src:List (Option Nat))(wi:TI)(g:TG)(tc:TT)(l:TL):TE:=fun σ H Q=>wi σ H fun J H1=>∀acc,H1 acc=none->tU J g tc l acc (p9 src σ) (upd H1 acc (.lst [])) fun _ H'=>Q (.ref acc) H'
theorem xx{use:Option (Value->Sem Unit)}{pins:List (Addr×Obj)}{s:Shared}{σ:St}{H:Hp}{Q:Value->Shared->Prop}{Q':VK}(hc:X.calm=true)(hb:df scope X.env.scope N src X.N=true)(ha:∀g',be[0]?=some g'->g'.is_async=0)(hi:PI X tg iter wi)(hg:∀cs C s H ex pn,PG (X.blk scope N cs C s H ex pn) tg g)(ht:∀cs C s H ex pn,PTs (X.blk scope N cs C s H ex pn) ifs tc)(hl:∀cs C s H ex pn,PL (X.blk scope N cs C s H ex pn) elt (⟨tg,iter,ifs,0⟩::be) scope pos 0 l)(hs:∀x,foldedSetIterable iter X.env x=pure x)(I:Inv X pins σ H s)(h:pZ src wi g tc l σ H Q')
  (hQ:∀(acc C:Addr)(H':Hp)(s':Shared)(m:Str->Option Value),Inv X pins σ H' s'->Q' (.ref acc) H'->s'.heap.Ns C m->H' C=none->C≠X.env.locals->X.s₀.heap.objs.size<=C->(∀x c,X.env.cells.lookup x=some c->c≠C)->(∀p∈X.pn++pins,p.1≠C) ->
   compPost (model X.prog X.w) X.A X.xe use Q (.ref acc) C (.ok .next) s') :
  wpAny (model X.prog X.w) X.A (comprehension (.ListComp elt (⟨tg,iter,ifs,0⟩::be) scope pos) scope X.env (firstIterPos (⟨tg,iter,ifs,0⟩::be) pos) (newList []) false (firstIter (⟨tg,iter,ifs,0⟩::be) X.env) use) Q X.xe s:=by
 obtain⟨hk,hok,hlen,hnd,hfr,hsrc⟩:=nK hb;refine wpAny_comprehension_free (g:=⟨tg,iter,ifs,0⟩) (gs:=be) rfl hs (rP fun y hy e=>I.ok.has y.1 (.inl (hfr y hy e))) hk (fun y hy e=>by have:=hnd y hy;rw[e] at this;exact this) ?_
 refine thn (hi pins s σ H _ I h) fun v s1 h1=>thn h1 fun itv s2 h2=>?_;obtain⟨it,fp,tn,J,H2,e,I2,T,st2,f2,q⟩:=h2;subst e;have hfresh:H2 s2.heap.objs.size=none:=I2.hok.fresh (Nat.le_refl _);refine wpAny_newObj_type (pO ?_);dsimp only;have old:∀b o,s2.heap.get? b=some o->(s2.heap.push { cls:=.type "list",dict:=none,data:=.seq ([]:List Value).toArray }).get? b=some o:=fun b o e=>Heap.get?_push_of_some _ e
 have I3:Inv X pins σ (upd H2 s2.heap.objs.size (.lst [])) { s2 with heap:=s2.heap.push { cls:=.type "list",dict:=none,data:=.seq ([]:List Value).toArray } }:=
  I2.lnew (its:=[]) (t':=s2.toks) .nil (by decide)
 have f3:∀b∈fp,iT X pins (upd H2 s2.heap.objs.size (.lst [])) b:=fun b hb=>by
  obtain⟨o,ho,_⟩:=T.obj _ _ st2 b hb;exact⟨by rw[aG (Nat.ne_of_lt (Heap.lt_size ho))];exact(f2 b hb).1,(f2 b hb).2⟩
 have fo3:∀b∈fp,∃o,({ s2 with heap:=s2.heap.push { cls:=.type "list",dict:=none,data:=.seq ([]:List Value).toArray } }:Shared).heap.get? b=some o:=fun b hb=>by
  obtain⟨o,ho,_⟩:=T.obj _ _ st2 b hb;exact⟨o,old b o ho⟩
 generalize hs3:({ s2 with heap:=s2.heap.push { cls:=.type "list",dict:=none,data:=.seq ([]:List Value).toArray } }:Shared)=s3 at I3 fo3 ⊢
 have st3:tn 0 s3.heap:=by
  rw[←hs3]
  exact T.keep _ _ _ st2 fun b _ o e=>old b o e
 have IB:=vZ (t:=s3.toks) I3 hb f3 fo3;have stB:tn 0 (pushCells (s3.heap.push { cls:=.type "dict",data:=.dict #[] }) scope.names):=T.keep _ _ _ st3 fun b _ o e=>pushCells_keeps _ _ b o (Heap.get?_push_of_some _ e)
 have fB:∀b∈fp,iT (X.blk scope N (cellsFrom (s3.heap.objs.size+1) scope.names (gx X.env scope.names [])) s3.heap.objs.size s3 (upd H2 s2.heap.objs.size (.lst [])) fp (X.pn++pins)) [] (upd H2 s2.heap.objs.size (.lst [])) b:=fun b hb=>by
  obtain⟨n0,n1,n2,n3,n4,n5⟩:=f3 b hb;refine⟨n0,(IB.ok.exf b hb).1,IB.ok.exfs b hb,.inl hb,(IB.ok.exf b hb).2,fun p hp=>?_⟩;rw[List.append_nil] at hp;exact n5 p hp
 have loop:codeAny (model X.prog X.w) X.A (.compLoop (.ListComp elt (⟨tg,iter,ifs,0⟩::be) scope pos) 0 (.ref it) (.ref s2.heap.objs.size) (compEnvC scope (cellsFrom (s3.heap.objs.size+1) scope.names (gx X.env scope.names [])) s3.heap.objs.size X.env))
   (compPost (model X.prog X.w) X.A X.xe use Q (.ref s2.heap.objs.size) s3.heap.objs.size) { s3 with heap:=pushCells (s3.heap.push { cls:=.type "dict",data:=.dict #[] }) scope.names }:=by
  refine nk (X:=X.blk scope N (cellsFrom (s3.heap.objs.size+1) scope.names (gx X.env scope.names [])) s3.heap.objs.size s3 (upd H2 s2.heap.objs.size (.lst [])) fp (X.pn++pins)) rfl hc rfl (by simpa using ha) (hg _ _ _ _ _ _) (ht _ _ _ _ _ _) (hl _ _ _ _ _ _) IB T stB fB (q _ hfresh) fun σ' H' s' I' k'=>?_
  obtain⟨m,hn,_⟩:=I'.loc;refine hQ _ _ H' s' m (zV I3 f3 I') k' hn I'.free ?_ I3.sz ?_ ?_
  ·exact Nat.ne_of_gt I3.lt
  ·intro x c e
   obtain⟨v,o,ho,_⟩:=I3.cell x c e;exact Nat.ne_of_lt (Heap.lt_size ho)
  ·intro p hp
   exact Nat.ne_of_lt (Heap.lt_size (I3.pin p hp).1)
 subst hs3;exact ir (d:=0) rfl loop (T.self X.A 0 _ _ _ stB loop)
theorem ck(hc:X.calm=true)(hb:df scope X.env.scope N src X.N=true)(ha:∀g',be[0]?=some g'->g'.is_async=0)(hi:PI X tg iter wi)(hg:∀cs C s H ex pn,PG (X.blk scope N cs C s H ex pn) tg g)(ht:∀cs C s H ex pn,PTs (X.blk scope N cs C s H ex pn) ifs tc)(hl:∀cs C s H ex pn,PL (X.blk scope N cs C s H ex pn) elt (⟨tg,iter,ifs,0⟩::be) scope pos 0 l)(hs:∀x,foldedSetIterable iter X.env x=pure x:=by intro _;rfl):PE X (.ListComp elt (⟨tg,iter,ifs,0⟩::be) scope pos) (pZ src wi g tc l):=.mk <| by
 intro pins s σ H Q I h;rw[eval_ListComp];refine xx (use:=none) hc hb ha hi hg ht hl hs I h fun acc C H' s' m I' q' hn hC hL h1 h2 h3=>?_;exact⟨m,hn,fun h' hs'=>⟨.ref acc,H',zt I' hC hL h1 h2 h3 hs',rfl,q'⟩⟩
end
section
variable{X:Cx}
noncomputable def gq(H:Hp):V->Option String
 |.non=>some "NoneType"
 |.bl _=>some "bool"
 |.int _=>some "int"
 |.str _=>some "str"
 |.ref a=>match H a with
  |some (.lst _)=>some "list"
  |some (.tup _)=>some "tuple"
  |some (.dK _)=>some "dict"
  |some (.dT _)=>some "dict"
  |some (.frz _ (.lst _))=>some "list"
  |_=>none
 |_=>none
noncomputable def isA(H:Hp)(x:V)(T:String):Bool:=match gq H x with
 |some t=>t == T || (t == "bool" && T == "int")
 |none=>false
theorem wd{K:W.Frag}{H:Hp}{x:V}{t:String}(h:gq H x=some t):j3 K H x (.type t):=by
 cases x with
 |non=>cases h;exact .non
 |bl b=>cases h;exact .bl b
 |int i=>cases h;exact .int i
 |str z=>cases h;exact .str z
 |byt b=>cases h
 |flt b=>cases h
 |ty n=>cases h
 |ref a=>
  unfold gq at h;dsimp only at h;split at h
  ·rename_i e;cases h;exact .lst e
  ·rename_i e;cases h;exact .tup e
  ·rename_i e;cases h;exact .dK e
  ·rename_i e;cases h;exact .dT e
  ·rename_i e;cases h;exact .frz e
  ·cases h
noncomputable def kj:List String:=["NoneType","bool","int","str","list","tuple","dict"]
theorem pY{H:Hp}{x:V}{t:String}(h:gq H x=some t):t∈kj:=by
 cases x with
 |non=>cases h;decide
 |bl b=>cases h;decide
 |int i=>cases h;decide
 |str z=>cases h;decide
 |byt b=>cases h
 |flt b=>cases h
 |ty n=>cases h
 |ref a=>
  unfold gq at h;dsimp only at h;split at h<;>first|(cases h;decide)|cases h
theorem DQ(K:W.Frag){t T:String}(ht:t∈kj)(hT:T∈kj):W.kitOne K (.type t) (.type T)=some (t == T || (t == "bool" && T == "int")):=by
 simp only[kj,List.mem_cons,List.not_mem_nil,or_false] at ht hT;rcases ht with rfl|rfl|rfl|rfl|rfl|rfl|rfl<;>rcases hT with rfl|rfl|rfl|rfl|rfl|rfl|rfl<;>with_unfolding_all rfl
theorem cz:cm X (.builtin "isinstance") (fun xs H Q=>∃x T,xs=[x,.ty T]/\T∈kj/\(gq H x).isSome=true/\Q (.bl (isA H x T)) H):=by
 intro pins s σ H xs us Q I r h;obtain⟨x,T,rfl,hT,hs,q⟩:=h;obtain⟨u,w',rfl,rx,rT⟩:=Fd r;cases (show w'=Value.type T from rT)
 obtain⟨t,ht⟩:=Option.isSome_iff_exists.mp hs;refine wa I rx (wd ht) (DQ X.K (pY ht) hT) fun tk=>⟨.bl (isA H x T),H,I.tok tk,?_,q⟩;show _=Value.bool (isA H x T);unfold isA;rw[ht]
theorem vk:∀ {bs:List Bool} {its:List Value},aH (bs.map V.bl) its->its=bs.map Value.bool
 | [],_,.nil=>rfl
 |_::_,_,.cons r t=>by
  have e:_=Value.bool _:=r;rw[e,vk t];rfl
theorem wx(bs:List Bool):(List.range bs.length).all (fun i=>bs.getD i false)=bs.all id:=by
 rw[Bool.eq_iff_iff];simp only[List.all_eq_true,List.mem_range,id];constructor
 ·intro h b hb
  obtain⟨i,hi,e⟩:=List.getElem_of_mem hb;have:=h i hi;rw[List.getD_eq_getElem?_getD,List.getElem?_eq_getElem hi] at this;rw[←e];exact this
 ·intro h i hi
  rw[List.getD_eq_getElem?_getD,List.getElem?_eq_getElem hi];exact h _ (List.getElem_mem hi)
theorem y8(hc:X.calm=true):cm X (.builtin "all") (fun xs H Q=>∃(a:Addr)(bs:List Bool),xs=[.ref a]/\SqL X.K H a (bs.map V.bl)/\Q (.bl (bs.all id)) H):=by
 intro pins s σ H xs us Q I r h;obtain⟨a,bs,rfl,hq,q⟩:=h;obtain⟨u,rfl,rx⟩:=du r;cases rx;obtain⟨its,rv,p,hz⟩:=I.list hq;have e:=vk rv;subst e
 have hlt:a<s.heap.objs.size:=by
  obtain⟨o,ho,_⟩:=p.isList;exact Heap.lt_size ho
 refine call_all_walk (wpAny_pyIter_list p.isList ?_);refine⟨s.heap.objs.size,_,_,_,_,_,fun i=>bs.getD i false,rfl,Walks.list (A:=X.A.in1) (I.ok.hd hc) _ a (Nat.ne_of_lt hlt) _,⟨⟨_,Heap.get?_push_size _ rfl,rfl,rfl⟩,p.isList.push _⟩,?_,fun h' tk hk=>?_⟩
 ·intro i v s' Q' E' hP hQ'
  have:(bs.map Value.bool)[i]?=some v:=by simpa using hP
  rw[List.getElem?_map] at this
  cases e:bs[i]? with
  |none=>rw[e] at this;cases this
  |some b=>
   rw[e] at this;cases this;refine wpAny_truthy_bool ?_;dsimp only at hQ';rw[List.getD_eq_getElem?_getD,e] at hQ';exact hQ'
 ·refine⟨.bl (bs.all id),H,I.kept (t':=tk) fun b o e=>hk b o (fun hm=>?_) (Heap.get?_push_of_some _ e),?_,q⟩
  ·have:b=s.heap.objs.size:=by simpa using hm
   exact absurd (this ▸ Heap.lt_size e) (Nat.lt_irrefl _)
  ·show _=Value.bool _
   rw[←wx]
   simp
end
end L2
set_option autoImplicit false
namespace L2
open PySem PySem.Spec PyProof.Rows
inductive D where
 |non|bl (b:Bool)|int (i:Int)|str (x:Str)|tup (ds:List D)|lst (ds:List D)
 |dk (ks:List Int)|dt (ks:List (List Int))
noncomputable def dkO(ks:List Int):List (Key×V):=ks.map fun k=>(Sum.inl k,V.int 1)
noncomputable def dtO(ks:List (List Int)):List (List Key×V):=ks.map fun k=>(k.map Sum.inl,V.int 1)
theorem uT:∀ {a b:List Int},dkO a=dkO b->a=b
 | [],[],_=>rfl
 |x::a,y::b,h=>by
  simp only[dkO,List.map_cons,List.cons.injEq,Prod.mk.injEq,Sum.inl.injEq,and_true] at h;rw[h.1,uT h.2]
 | [],_::_,h=>by simp[dkO] at h
 |_::_,[],h=>by simp[dkO] at h
theorem uK:∀ {a b:List Int},(a.map Sum.inl:List Key)=b.map Sum.inl->a=b
 | [],[],_=>rfl
 |x::a,y::b,h=>by
  simp only[List.map_cons,List.cons.injEq,Sum.inl.injEq] at h;rw[h.1,uK h.2]
 | [],_::_,h=>by simp at h
 |_::_,[],h=>by simp at h
theorem uM:∀ {a b:List (List Int)},dtO a=dtO b->a=b
 | [],[],_=>rfl
 |x::a,y::b,h=>by
  simp only[dtO,List.map_cons,List.cons.injEq,Prod.mk.injEq,and_true] at h;rw[uK h.1,uM h.2]
 | [],_::_,h=>by simp[dtO] at h
 |_::_,[],h=>by simp[dtO] at h
mutual
noncomputable def Dat(H:Hp):D->V->Prop
 |.non,v=>v=.non
 |.bl b,v=>v=.bl b
 |.int i,v=>v=.int i
 |.str x,v=>v=.str x
 |.tup ds,v=>∃a xs,v=.ref a/\H a=some (.tup xs)/\ay H ds xs
 |.lst ds,v=>∃a xs,v=.ref a/\H a=some (.lst xs)/\ay H ds xs
 |.dk ks,v=>∃a xs,v=.ref a/\H a=some (.dK (dkO xs))/\xs=ks
 |.dt ks,v=>∃a xs,v=.ref a/\H a=some (.dT (dtO xs))/\xs=ks
noncomputable def ay(H:Hp):List D->List V->Prop
 | [],xs=>xs=[]
 |d::ds,xs=>∃x r,xs=x::r/\Dat H d x/\ay H ds r
end
mutual
noncomputable def dep:D->Nat
 |.tup ds=>cx ds+1
 |.lst ds=>cx ds+1
 |.dk _=>1000000
 |.dt _=>1000000
 |_=>0
noncomputable def cx:List D->Nat
 | []=>0
 |d::ds=>max (dep d) (cx ds)
end
mutual
noncomputable def eqD:D->D->Bool
 |.non,.non=>true
 |.bl a,.bl b=>a == b
 |.bl a,.int b=>(if a then 1 else 0) == b
 |.int a,.bl b=>a == (if b then 1 else 0)
 |.int a,.int b=>a == b
 |.str a,.str b=>a == b
 |.tup a,.tup b=>dG a b
 |.lst a,.lst b=>dG a b
 |.dk a,.dk b=>a == b
 |.dt a,.dt b=>a == b
 |_,_=>false
noncomputable def dG:List D->List D->Bool
 | [],[]=>true
 |x::xs,y::ys=>eqD x y && dG xs ys
 |_,_=>false
end
theorem eK:∀ {ds:List D} {d:D},d∈ds->dep d<=cx ds
 |d::ds,e,h=>by
  unfold cx;rcases List.mem_cons.mp h with rfl|h
  ·exact Nat.le_max_left _ _
  ·exact Nat.le_trans (eK h) (Nat.le_max_right _ _)
theorem ay.length:∀ {H:Hp} {ds:List D} {xs:List V},ay H ds xs->xs.length=ds.length
 |H,[],xs,h=>by
  have e:xs=[]:=by simpa[ay] using h
  rw[e];rfl
 |H,d::ds,xs,h=>by
  obtain⟨x,r,rfl,_,t⟩:∃x r,xs=x::r/\Dat H d x/\ay H ds r:=by simpa only[ay] using h
  rw[List.length_cons,List.length_cons,ay.length t]
theorem ay.get:∀ {H:Hp} {ds:List D} {xs:List V} {i:Nat} {d:D},ay H ds xs->ds[i]?=some d->∃x,xs[i]?=some x/\Dat H d x
 |H,[],xs,i,d,h,e=>by simp at e
 |H,d'::ds,xs,i,d,h,e=>by
  obtain⟨x,r,rfl,hx,t⟩:∃x r,xs=x::r/\Dat H d' x/\ay H ds r:=by simpa only[ay] using h
  cases i with
  |zero=>simp at e;subst e;exact⟨x,rfl,hx⟩
  |succ i=>simpa using ay.get t (i:=i) (by simpa using e)
theorem ay.of_get:∀ {H:Hp} {ds:List D} {xs:List V},xs.length=ds.length->(∀(i:Nat)(d:D)(x:V),ds[i]?=some d->xs[i]?=some x->Dat H d x)->ay H ds xs
 |H,[],[],_,_=>by simp[ay]
 |H,d::ds,x::xs,hl,h=>by
  simp only[ay];exact⟨x,xs,rfl,h 0 d x rfl rfl,ay.of_get (by simpa using hl) fun i d x e1 e2=>h (i+1) d x (by simpa using e1) (by simpa using e2)⟩
 |H,[],_::_,hl,_=>by simp at hl
 |H,_::_,[],hl,_=>by simp at hl
theorem ay.append:∀ {H:Hp} {ds es:List D} {xs ys:List V},ay H ds xs->ay H es ys->ay H (ds++es) (xs++ys)
 |H,[],es,xs,ys,h,h'=>by
  have e:xs=[]:=by simpa[ay] using h
  rw[e];exact h'
 |H,d::ds,es,xs,ys,h,h'=>by
  obtain⟨x,r,rfl,hx,t⟩:∃x r,xs=x::r/\Dat H d x/\ay H ds r:=by simpa only[ay] using h
  show ay H (d::(ds++es)) (x::(r++ys));simp only[ay];exact⟨x,r++ys,rfl,hx,ay.append t h'⟩
theorem ay.one{H:Hp}{d:D}{x:V}(h:Dat H d x):ay H [d] [x]:=by
 simp only[ay];exact⟨x,[],rfl,h,rfl⟩
mutual
theorem Dat.same{H H':Hp}(e:cS H H'):∀ {d:D} {v:V},Dat H d v->Dat H' d v
 |.non,v,h=>by simpa only[Dat] using h
 |.bl b,v,h=>by simpa only[Dat] using h
 |.int i,v,h=>by simpa only[Dat] using h
 |.str x,v,h=>by simpa only[Dat] using h
 |.tup ds,v,h=>by
  simp only[Dat] at h ⊢;obtain⟨a,xs,rfl,h1,h2⟩:=h;exact⟨a,xs,rfl,e a _ h1,ay.same e h2⟩
 |.lst ds,v,h=>by
  simp only[Dat] at h ⊢;obtain⟨a,xs,rfl,h1,h2⟩:=h;exact⟨a,xs,rfl,e a _ h1,ay.same e h2⟩
 |.dk ks,v,h=>by
  simp only[Dat] at h ⊢;obtain⟨a,xs,rfl,h1,h2⟩:=h;exact⟨a,xs,rfl,e a _ h1,h2⟩
 |.dt ks,v,h=>by
  simp only[Dat] at h ⊢;obtain⟨a,xs,rfl,h1,h2⟩:=h;exact⟨a,xs,rfl,e a _ h1,h2⟩
theorem ay.same{H H':Hp}(e:cS H H'):∀ {ds:List D} {xs:List V},ay H ds xs->ay H' ds xs
 | [],xs,h=>by simpa only[ay] using h
 |d::ds,xs,h=>by
  simp only[ay] at h ⊢;obtain⟨x,r,rfl,h1,h2⟩:=h;exact⟨x,r,rfl,Dat.same e h1,ay.same e h2⟩
end
mutual
theorem Dat.inj{H:Hp}:∀ {d e:D} {v:V},Dat H d v->Dat H e v->d=e
 |.non,e,v,h,h'=>by
  simp only[Dat] at h;subst h;cases e<;>simp only[Dat] at h'<;>first|rfl|(obtain⟨_,_,h',_⟩:=h';cases h';done)|(cases h';done)
 |.bl b,e,v,h,h'=>by
  simp only[Dat] at h;subst h;cases e<;>simp only[Dat] at h'<;>first|(obtain⟨_,_,h',_⟩:=h';cases h';done)|(cases h';rfl)|(cases h';done)
 |.int i,e,v,h,h'=>by
  simp only[Dat] at h;subst h;cases e<;>simp only[Dat] at h'<;>first|(obtain⟨_,_,h',_⟩:=h';cases h';done)|(cases h';rfl)|(cases h';done)
 |.str x,e,v,h,h'=>by
  simp only[Dat] at h;subst h;cases e<;>simp only[Dat] at h'<;>first|(obtain⟨_,_,h',_⟩:=h';cases h';done)|(cases h';rfl)|(cases h';done)
 |.tup ds,e,v,h,h'=>by
  simp only[Dat] at h;obtain⟨a,xs,rfl,h1,h2⟩:=h
  cases e with
  |tup es=>
   simp only[Dat] at h';obtain⟨b,ys,e1,h3,h4⟩:=h';cases e1;rw[h1] at h3;cases h3;rw[ay.inj h2 h4]
  |lst es=>
   simp only[Dat] at h';obtain⟨b,ys,e1,h3,h4⟩:=h';cases e1;rw[h1] at h3;cases h3
  |dk es=>
   simp only[Dat] at h';obtain⟨b,ys,e1,h3,h4⟩:=h';cases e1;rw[h1] at h3;cases h3
  |dt es=>
   simp only[Dat] at h';obtain⟨b,ys,e1,h3,h4⟩:=h';cases e1;rw[h1] at h3;cases h3
  |_=>simp only[Dat] at h';cases h'
 |.lst ds,e,v,h,h'=>by
  simp only[Dat] at h;obtain⟨a,xs,rfl,h1,h2⟩:=h
  cases e with
  |lst es=>
   simp only[Dat] at h';obtain⟨b,ys,e1,h3,h4⟩:=h';cases e1;rw[h1] at h3;cases h3;rw[ay.inj h2 h4]
  |tup es=>
   simp only[Dat] at h';obtain⟨b,ys,e1,h3,h4⟩:=h';cases e1;rw[h1] at h3;cases h3
  |dk es=>
   simp only[Dat] at h';obtain⟨b,ys,e1,h3,h4⟩:=h';cases e1;rw[h1] at h3;cases h3
  |dt es=>
   simp only[Dat] at h';obtain⟨b,ys,e1,h3,h4⟩:=h';cases e1;rw[h1] at h3;cases h3
  |_=>simp only[Dat] at h';cases h'
 |.dk ds,e,v,h,h'=>by
  simp only[Dat] at h;obtain⟨a,xs,rfl,h1,rfl⟩:=h
  cases e with
  |tup es=>
   simp only[Dat] at h';obtain⟨b,ys,e1,h3,h4⟩:=h';cases e1;rw[h1] at h3;cases h3
  |lst es=>
   simp only[Dat] at h';obtain⟨b,ys,e1,h3,h4⟩:=h';cases e1;rw[h1] at h3;cases h3
  |dk es=>
   simp only[Dat] at h';obtain⟨b,ys,e1,h3,h4⟩:=h';cases e1;rw[h1] at h3;rw[←h4,uT (a:=xs) (b:=ys)]
   simpa using h3
  |dt es=>
   simp only[Dat] at h';obtain⟨b,ys,e1,h3,h4⟩:=h';cases e1;rw[h1] at h3;cases h3
  |_=>simp only[Dat] at h';cases h'
 |.dt ds,e,v,h,h'=>by
  simp only[Dat] at h;obtain⟨a,xs,rfl,h1,rfl⟩:=h
  cases e with
  |tup es=>
   simp only[Dat] at h';obtain⟨b,ys,e1,h3,h4⟩:=h';cases e1;rw[h1] at h3;cases h3
  |lst es=>
   simp only[Dat] at h';obtain⟨b,ys,e1,h3,h4⟩:=h';cases e1;rw[h1] at h3;cases h3
  |dk es=>
   simp only[Dat] at h';obtain⟨b,ys,e1,h3,h4⟩:=h';cases e1;rw[h1] at h3;cases h3
  |dt es=>
   simp only[Dat] at h';obtain⟨b,ys,e1,h3,h4⟩:=h';cases e1;rw[h1] at h3;rw[←h4,uM (a:=xs) (b:=ys)]
   simpa using h3
  |_=>simp only[Dat] at h';cases h'
theorem ay.inj{H:Hp}:∀ {ds es:List D} {xs:List V},ay H ds xs->ay H es xs->ds=es
 | [],[],_,_,_=>rfl
 | [],e::es,xs,h,h'=>by
  simp only[ay] at h h';obtain⟨x,r,rfl,_⟩:=h';cases h
 |d::ds,[],xs,h,h'=>by
  simp only[ay] at h h';obtain⟨x,r,rfl,_⟩:=h;cases h'
 |d::ds,e::es,xs,h,h'=>by
  simp only[ay] at h h';obtain⟨x,r,rfl,h1,h2⟩:=h;obtain⟨x',r',e1,h3,h4⟩:=h';cases e1;rw[Dat.inj h1 h3,ay.inj h2 h4]
end
mutual
theorem wU:∀d:D,eqD d d=true
 |.non=>by simp[eqD]
 |.bl b=>by simp[eqD]
 |.int i=>by simp[eqD]
 |.str x=>by simp[eqD]
 |.tup ds=>by simp only[eqD];exact fN ds
 |.lst ds=>by simp only[eqD];exact fN ds
 |.dk ks=>by simp[eqD]
 |.dt ks=>by simp[eqD]
theorem fN:∀ds:List D,dG ds ds=true
 | []=>by simp[dG]
 |d::ds=>by simp only[dG,wU d,fN ds,Bool.and_self]
end
theorem kW:∀ {ds es:List D},ds.length≠es.length->dG ds es=false
 | [],[],h=>absurd rfl h
 | [],_::_,_=>by simp[dG]
 |_::_,[],_=>by simp[dG]
 |d::ds,e::es,h=>by
  simp only[dG,kW (ds:=ds) (es:=es) (by simpa using h),Bool.and_false]
theorem iJ:∀ {ds es:List D},ds.length=es.length->(List.range ds.length).all (fun j=>eqD (ds.getD j .non) (es.getD j .non))=dG ds es
 | [],[],_=>by simp[dG]
 | [],_::_,h=>by simp at h
 |_::_,[],h=>by simp at h
 |d::ds,e::es,h=>by
  have ih:=iJ (ds:=ds) (es:=es) (by simpa using h)
  rw[List.length_cons,List.range_succ_eq_map,List.all_cons,List.all_map];simp only[dG,←ih]
  rfl
end L2
namespace L2
open PySem PySem.Spec PyProof.Rows AutoSeq1
noncomputable def qf(h:Heap)(l:Addr):Prop:=∃es ep,h.get? l=some { cls:=.type "dict",data:=.dict es ep }
theorem jh:isSubtype (.type "NoneType") (.type "dict")=pure false:=by rw[isSubtype_type];kernel_rfl
theorem kg:isSubtype (.type "bool") (.type "dict")=pure false:=by rw[isSubtype_type];kernel_rfl
theorem j7:isSubtype (.type "int") (.type "dict")=pure false:=by rw[isSubtype_type];kernel_rfl
theorem j9:isSubtype (.type "str") (.type "dict")=pure false:=by rw[isSubtype_type];kernel_rfl
theorem kl:isSubtype (.type "tuple") (.type "dict")=pure false:=by rw[isSubtype_type];kernel_rfl
theorem j8:isSubtype (.type "list") (.type "dict")=pure false:=by rw[isSubtype_type];kernel_rfl
theorem pE:isSubtype (.type "dict") (.type "NoneType")=pure false:=by rw[isSubtype_type];kernel_rfl
theorem u4:isSubtype (.type "dict") (.type "bool")=pure false:=by rw[isSubtype_type];kernel_rfl
theorem h9:isSubtype (.type "dict") (.type "int")=pure false:=by rw[isSubtype_type];kernel_rfl
theorem kO:isSubtype (.type "dict") (.type "str")=pure false:=by rw[isSubtype_type];kernel_rfl
theorem kB:isSubtype (.type "dict") (.type "tuple")=pure false:=by rw[isSubtype_type];kernel_rfl
theorem kQ:isSubtype (.type "dict") (.type "list")=pure false:=by rw[isSubtype_type];kernel_rfl
section
variable(l b:Addr)(es:Array DictEntry)(ep:Nat)
noncomputable abbrev DO(es:Array DictEntry)(ep:Nat):Obj:={ cls:=.type "dict",data:=.dict es ep }
theorem Cy:Meets (Builtin.«dict.__eq__» ⟨[.ref l,.none],[]⟩) (fun _ R s=>s.heap.get? l=some (DO es ep)/\R (.ok (.ret .notImplemented)) s):=
 .of_wp fun prog w A R s h=>by obtain⟨hp,g,d,tk,os⟩:=s;obtain⟨hl,h⟩:=h;have f1:=jh;wp_walk using wpAny_loadPart' hl,wpAny_load hl;exact⟨_,rfl,h⟩
theorem DP:Meets (Builtin.«dict.__ne__» ⟨[.ref l,.none],[]⟩) (fun _ R s=>s.heap.get? l=some (DO es ep)/\R (.ok (.ret .notImplemented)) s):=
 .of_wp fun prog w A R s h=>by obtain⟨hp,g,d,tk,os⟩:=s;obtain⟨hl,h⟩:=h;have f1:=jh;wp_walk using wpAny_loadPart' hl,wpAny_load hl;exact⟨_,rfl,h⟩
theorem Fz(c:Bool):Meets (Builtin.«dict.__eq__» ⟨[.ref l,.bool c],[]⟩) (fun _ R s=>s.heap.get? l=some (DO es ep)/\R (.ok (.ret .notImplemented)) s):=
 .of_wp fun prog w A R s h=>by obtain⟨hp,g,d,tk,os⟩:=s;obtain⟨hl,h⟩:=h;have f1:=kg;wp_walk using wpAny_loadPart' hl,wpAny_load hl;exact⟨_,rfl,h⟩
theorem FF(c:Bool):Meets (Builtin.«dict.__ne__» ⟨[.ref l,.bool c],[]⟩) (fun _ R s=>s.heap.get? l=some (DO es ep)/\R (.ok (.ret .notImplemented)) s):=
 .of_wp fun prog w A R s h=>by obtain⟨hp,g,d,tk,os⟩:=s;obtain⟨hl,h⟩:=h;have f1:=kg;wp_walk using wpAny_loadPart' hl,wpAny_load hl;exact⟨_,rfl,h⟩
theorem El(c:Int)(u:Tok):Meets (Builtin.«dict.__eq__» ⟨[.ref l,.int c u],[]⟩) (fun _ R s=>s.heap.get? l=some (DO es ep)/\R (.ok (.ret .notImplemented)) s):=
 .of_wp fun prog w A R s h=>by obtain⟨hp,g,d,tk,os⟩:=s;obtain⟨hl,h⟩:=h;have f1:=j7;wp_walk using wpAny_loadPart' hl,wpAny_load hl;exact⟨_,rfl,h⟩
theorem Es(c:Int)(u:Tok):Meets (Builtin.«dict.__ne__» ⟨[.ref l,.int c u],[]⟩) (fun _ R s=>s.heap.get? l=some (DO es ep)/\R (.ok (.ret .notImplemented)) s):=
 .of_wp fun prog w A R s h=>by obtain⟨hp,g,d,tk,os⟩:=s;obtain⟨hl,h⟩:=h;have f1:=j7;wp_walk using wpAny_loadPart' hl,wpAny_load hl;exact⟨_,rfl,h⟩
theorem EB(c:Str)(u:Tok):Meets (Builtin.«dict.__eq__» ⟨[.ref l,.str c u],[]⟩) (fun _ R s=>s.heap.get? l=some (DO es ep)/\R (.ok (.ret .notImplemented)) s):=
 .of_wp fun prog w A R s h=>by obtain⟨hp,g,d,tk,os⟩:=s;obtain⟨hl,h⟩:=h;have f1:=j9;wp_walk using wpAny_loadPart' hl,wpAny_load hl;exact⟨_,rfl,h⟩
theorem Er(c:Str)(u:Tok):Meets (Builtin.«dict.__ne__» ⟨[.ref l,.str c u],[]⟩) (fun _ R s=>s.heap.get? l=some (DO es ep)/\R (.ok (.ret .notImplemented)) s):=
 .of_wp fun prog w A R s h=>by obtain⟨hp,g,d,tk,os⟩:=s;obtain⟨hl,h⟩:=h;have f1:=j9;wp_walk using wpAny_loadPart' hl,wpAny_load hl;exact⟨_,rfl,h⟩
theorem EY(its:Array Value)(n:Nat)(dd:Option Addr)(sl:Array (Option Value)):Meets (Builtin.«dict.__eq__» ⟨[.ref l,.ref b],[]⟩) (fun _ R s=>s.heap.get? l=some (DO es ep)/\s.heap.get? b=some ⟨.type "tuple",dd,.seq its n,sl⟩/\R (.ok (.ret .notImplemented)) s):=
 .of_wp fun prog w A R s h=>by obtain⟨hp,g,d,tk,os⟩:=s;obtain⟨hl,hb,h⟩:=h;have f1:=kl;wp_walk using wpAny_loadPart' hl,wpAny_load hl,wpAny_loadPart' hb,wpAny_load hb;exact⟨_,rfl,h⟩
theorem E6(its:Array Value)(n:Nat)(dd:Option Addr)(sl:Array (Option Value)):Meets (Builtin.«dict.__ne__» ⟨[.ref l,.ref b],[]⟩) (fun _ R s=>s.heap.get? l=some (DO es ep)/\s.heap.get? b=some ⟨.type "tuple",dd,.seq its n,sl⟩/\R (.ok (.ret .notImplemented)) s):=
 .of_wp fun prog w A R s h=>by obtain⟨hp,g,d,tk,os⟩:=s;obtain⟨hl,hb,h⟩:=h;have f1:=kl;wp_walk using wpAny_loadPart' hl,wpAny_load hl,wpAny_loadPart' hb,wpAny_load hb;exact⟨_,rfl,h⟩
theorem FH(its:Array Value)(n:Nat)(dd:Option Addr)(sl:Array (Option Value)):Meets (Builtin.«dict.__eq__» ⟨[.ref l,.ref b],[]⟩) (fun _ R s=>s.heap.get? l=some (DO es ep)/\s.heap.get? b=some ⟨.type "list",dd,.seq its n,sl⟩/\R (.ok (.ret .notImplemented)) s):=
 .of_wp fun prog w A R s h=>by obtain⟨hp,g,d,tk,os⟩:=s;obtain⟨hl,hb,h⟩:=h;have f1:=j8;wp_walk using wpAny_loadPart' hl,wpAny_load hl,wpAny_loadPart' hb,wpAny_load hb;exact⟨_,rfl,h⟩
theorem Eu(its:Array Value)(n:Nat)(dd:Option Addr)(sl:Array (Option Value)):Meets (Builtin.«dict.__ne__» ⟨[.ref l,.ref b],[]⟩) (fun _ R s=>s.heap.get? l=some (DO es ep)/\s.heap.get? b=some ⟨.type "list",dd,.seq its n,sl⟩/\R (.ok (.ret .notImplemented)) s):=
 .of_wp fun prog w A R s h=>by obtain⟨hp,g,d,tk,os⟩:=s;obtain⟨hl,hb,h⟩:=h;have f1:=j8;wp_walk using wpAny_loadPart' hl,wpAny_load hl,wpAny_loadPart' hb,wpAny_load hb;exact⟨_,rfl,h⟩
theorem Fe(c:Bool):Meets (Builtin.«int.__eq__» ⟨[.bool c,.ref l],[]⟩) (fun _ R s=>s.heap.get? l=some (DO es ep)/\R (.ok (.ret .notImplemented)) s):=
 .of_wp fun prog w A R s h=>by obtain⟨hp,g,d,tk,os⟩:=s;obtain⟨hl,h⟩:=h;have f1:=h9;wp_walk using wpAny_loadPart' hl,wpAny_load hl;exact⟨_,rfl,h⟩
theorem Ep(c:Bool):Meets (Builtin.«int.__ne__» ⟨[.bool c,.ref l],[]⟩) (fun _ R s=>s.heap.get? l=some (DO es ep)/\R (.ok (.ret .notImplemented)) s):=
 .of_wp fun prog w A R s h=>by obtain⟨hp,g,d,tk,os⟩:=s;obtain⟨hl,h⟩:=h;have f1:=h9;wp_walk using wpAny_loadPart' hl,wpAny_load hl;exact⟨_,rfl,h⟩
theorem FK(c:Int)(u:Tok):Meets (Builtin.«int.__eq__» ⟨[.int c u,.ref l],[]⟩) (fun _ R s=>s.heap.get? l=some (DO es ep)/\R (.ok (.ret .notImplemented)) s):=
 .of_wp fun prog w A R s h=>by obtain⟨hp,g,d,tk,os⟩:=s;obtain⟨hl,h⟩:=h;have f1:=h9;wp_walk using wpAny_loadPart' hl,wpAny_load hl;exact⟨_,rfl,h⟩
theorem EQ(c:Int)(u:Tok):Meets (Builtin.«int.__ne__» ⟨[.int c u,.ref l],[]⟩) (fun _ R s=>s.heap.get? l=some (DO es ep)/\R (.ok (.ret .notImplemented)) s):=
 .of_wp fun prog w A R s h=>by obtain⟨hp,g,d,tk,os⟩:=s;obtain⟨hl,h⟩:=h;have f1:=h9;wp_walk using wpAny_loadPart' hl,wpAny_load hl;exact⟨_,rfl,h⟩
theorem F3(c:Str)(u:Tok):Meets (Builtin.«str.__eq__» ⟨[.str c u,.ref l],[]⟩) (fun _ R s=>s.heap.get? l=some (DO es ep)/\R (.ok (.ret .notImplemented)) s):=
 .of_wp fun prog w A R s h=>by obtain⟨hp,g,d,tk,os⟩:=s;obtain⟨hl,h⟩:=h;have f1:=kO;wp_walk using wpAny_loadPart' hl,wpAny_load hl;exact⟨_,rfl,h⟩
theorem FY(c:Str)(u:Tok):Meets (Builtin.«str.__ne__» ⟨[.str c u,.ref l],[]⟩) (fun _ R s=>s.heap.get? l=some (DO es ep)/\R (.ok (.ret .notImplemented)) s):=
 .of_wp fun prog w A R s h=>by obtain⟨hp,g,d,tk,os⟩:=s;obtain⟨hl,h⟩:=h;have f1:=kO;wp_walk using wpAny_loadPart' hl,wpAny_load hl;exact⟨_,rfl,h⟩
theorem FU(its:Array Value)(n:Nat)(dd:Option Addr)(sl:Array (Option Value)):Meets (Builtin.«tuple.__eq__» ⟨[.ref b,.ref l],[]⟩) (fun _ R s=>s.heap.get? l=some (DO es ep)/\s.heap.get? b=some ⟨.type "tuple",dd,.seq its n,sl⟩/\R (.ok (.ret .notImplemented)) s):=
 .of_wp fun prog w A R s h=>by obtain⟨hp,g,d,tk,os⟩:=s;obtain⟨hl,hb,h⟩:=h;have f1:=kB;wp_walk using wpAny_loadPart' hl,wpAny_load hl,wpAny_loadPart' hb,wpAny_load hb;exact⟨_,rfl,h⟩
theorem FQ(its:Array Value)(n:Nat)(dd:Option Addr)(sl:Array (Option Value)):Meets (Builtin.«tuple.__ne__» ⟨[.ref b,.ref l],[]⟩) (fun _ R s=>s.heap.get? l=some (DO es ep)/\s.heap.get? b=some ⟨.type "tuple",dd,.seq its n,sl⟩/\R (.ok (.ret .notImplemented)) s):=
 .of_wp fun prog w A R s h=>by obtain⟨hp,g,d,tk,os⟩:=s;obtain⟨hl,hb,h⟩:=h;have f1:=kB;wp_walk using wpAny_loadPart' hl,wpAny_load hl,wpAny_loadPart' hb,wpAny_load hb;exact⟨_,rfl,h⟩
theorem F1(its:Array Value)(n:Nat)(dd:Option Addr)(sl:Array (Option Value)):Meets (Builtin.«list.__eq__» ⟨[.ref b,.ref l],[]⟩) (fun _ R s=>s.heap.get? l=some (DO es ep)/\s.heap.get? b=some ⟨.type "list",dd,.seq its n,sl⟩/\R (.ok (.ret .notImplemented)) s):=
 .of_wp fun prog w A R s h=>by obtain⟨hp,g,d,tk,os⟩:=s;obtain⟨hl,hb,h⟩:=h;have f1:=kQ;wp_walk using wpAny_loadPart' hl,wpAny_load hl,wpAny_loadPart' hb,wpAny_load hb;exact⟨_,rfl,h⟩
theorem F8(its:Array Value)(n:Nat)(dd:Option Addr)(sl:Array (Option Value)):Meets (Builtin.«list.__ne__» ⟨[.ref b,.ref l],[]⟩) (fun _ R s=>s.heap.get? l=some (DO es ep)/\s.heap.get? b=some ⟨.type "list",dd,.seq its n,sl⟩/\R (.ok (.ret .notImplemented)) s):=
 .of_wp fun prog w A R s h=>by obtain⟨hp,g,d,tk,os⟩:=s;obtain⟨hl,hb,h⟩:=h;have f1:=kQ;wp_walk using wpAny_loadPart' hl,wpAny_load hl,wpAny_loadPart' hb,wpAny_load hb;exact⟨_,rfl,h⟩
end
noncomputable def Eq3(A:Around)(s:Shared)(v u:Value)(b:Bool):Prop:=SeqAt.RcAt A s v u b/\SeqAt.EqAt A s v u b/\SeqAt.RcNeAt A s v u (!b)
section
variable{A:Around}{s:Shared}{l:Addr}
theorem fM{v:Value}(hne:v≠.ref l)(h:SeqAt.RcAt A s v (.ref l) false):SeqAt.EqAt A s v (.ref l) false:=fun prog w E Q q=>by
 unfold eqBool;refine wpAny_holding ?_;refine wpAny_ite_split (fun hab=>absurd (eq_of_beq hab) hne) (fun _=>?_);cases v<;>exact wpAny_bind (h prog w E _ (wpAny_truthy_bool q))
theorem xI(d:qf s.heap l)(hu:A.units<cLine):Eq3 A s .none (.ref l) false:=by
 obtain⟨es,ep,ho⟩:=d
 have a:SeqAt.RcAt A s .none (.ref l) false:=fun prog w E Q h=>SeqAt.rc_eq_decline_or (k:=false) rfl ⟨_,ho,rfl⟩ (by decide) pE F.slot_NoneType_eq F.slot_dict_eq_refl
  (fun _ hq=>call_gives F.slot_NoneType_eq rfl F.entry_NoneType_eq (F.args_NoneType_eq_2 _ _) (SeqAt.NoneType___eq___none_ref_0 l) hq)
  (fun _ hq=>call_meets F.slot_dict_eq_refl ⟨_,ho,rfl⟩ F.entry_dict_eq (F.args_dict_eq_2 _ _) (Cy l es ep) ⟨ho,hq⟩)
  (fun _ hq=>wpAny_of_eq (rfl:isSame .none (.ref l)=pure false) hq) (.inr hu) h
 exact⟨a,fM nofun a,fun prog w E Q h=>SeqAt.rc_ne_decline_or (k:=false) rfl ⟨_,ho,rfl⟩ (by decide) pE F.slot_NoneType_ne F.slot_dict_ne_refl
  (fun _ hq=>call_gives F.slot_NoneType_ne rfl F.entry_NoneType_ne (F.args_NoneType_ne_2 _ _) (SeqAt.NoneType___ne___none_ref_0 l) hq)
  (fun _ hq=>call_meets F.slot_dict_ne_refl ⟨_,ho,rfl⟩ F.entry_dict_ne (F.args_dict_ne_2 _ _) (DP l es ep) ⟨ho,hq⟩)
  (fun _ hq=>wpAny_of_eq (rfl:isSame .none (.ref l)=pure false) hq) (.inr hu) h⟩
theorem BF(c:Bool)(d:qf s.heap l)(hu:A.units<cLine):Eq3 A s (.bool c) (.ref l) false:=by
 obtain⟨es,ep,ho⟩:=d
 have a:SeqAt.RcAt A s (.bool c) (.ref l) false:=fun prog w E Q h=>SeqAt.rc_eq_decline_or (k:=false) rfl ⟨_,ho,rfl⟩ (by decide) u4 F.slot_bool_eq F.slot_dict_eq_refl
  (fun _ hq=>call_meets F.slot_bool_eq rfl F.entry_int_eq (F.args_int_eq_2 _ _) (Fe l es ep c) ⟨ho,hq⟩)
  (fun _ hq=>call_meets F.slot_dict_eq_refl ⟨_,ho,rfl⟩ F.entry_dict_eq (F.args_dict_eq_2 _ _) (Fz l es ep c) ⟨ho,hq⟩)
  (fun _ hq=>wpAny_of_eq (rfl:isSame (.bool c) (.ref l)=pure false) hq) (.inr hu) h
 exact⟨a,fM nofun a,fun prog w E Q h=>SeqAt.rc_ne_decline_or (k:=false) rfl ⟨_,ho,rfl⟩ (by decide) u4 F.slot_bool_ne F.slot_dict_ne_refl
  (fun _ hq=>call_meets F.slot_bool_ne rfl F.entry_int_ne (F.args_int_ne_2 _ _) (Ep l es ep c) ⟨ho,hq⟩)
  (fun _ hq=>call_meets F.slot_dict_ne_refl ⟨_,ho,rfl⟩ F.entry_dict_ne (F.args_dict_ne_2 _ _) (FF l es ep c) ⟨ho,hq⟩)
  (fun _ hq=>wpAny_of_eq (rfl:isSame (.bool c) (.ref l)=pure false) hq) (.inr hu) h⟩
theorem BG(c:Int)(u:Tok)(d:qf s.heap l)(hu:A.units<cLine):Eq3 A s (.int c u) (.ref l) false:=by
 obtain⟨es,ep,ho⟩:=d
 have a:SeqAt.RcAt A s (.int c u) (.ref l) false:=fun prog w E Q h=>SeqAt.rc_eq_decline_or (k:=false) (typeIs_int s c u) ⟨_,ho,rfl⟩ (by decide) h9 F.slot_int_eq F.slot_dict_eq_refl
  (fun _ hq=>call_meets F.slot_int_eq (typeIs_int s c u) F.entry_int_eq (F.args_int_eq_2 _ _) (FK l es ep c u) ⟨ho,hq⟩)
  (fun _ hq=>call_meets F.slot_dict_eq_refl ⟨_,ho,rfl⟩ F.entry_dict_eq (F.args_dict_eq_2 _ _) (El l es ep c u) ⟨ho,hq⟩)
  (fun _ hq=>wpAny_of_eq (rfl:isSame (.int c u) (.ref l)=pure false) hq) (.inr hu) h
 exact⟨a,fM nofun a,fun prog w E Q h=>SeqAt.rc_ne_decline_or (k:=false) (typeIs_int s c u) ⟨_,ho,rfl⟩ (by decide) h9 F.slot_int_ne F.slot_dict_ne_refl
  (fun _ hq=>call_meets F.slot_int_ne (typeIs_int s c u) F.entry_int_ne (F.args_int_ne_2 _ _) (EQ l es ep c u) ⟨ho,hq⟩)
  (fun _ hq=>call_meets F.slot_dict_ne_refl ⟨_,ho,rfl⟩ F.entry_dict_ne (F.args_dict_ne_2 _ _) (Es l es ep c u) ⟨ho,hq⟩)
  (fun _ hq=>wpAny_of_eq (rfl:isSame (.int c u) (.ref l)=pure false) hq) (.inr hu) h⟩
theorem Cp(c:Str)(u:Tok)(d:qf s.heap l)(hu:A.units<cLine):Eq3 A s (.str c u) (.ref l) false:=by
 obtain⟨es,ep,ho⟩:=d
 have a:SeqAt.RcAt A s (.str c u) (.ref l) false:=fun prog w E Q h=>SeqAt.rc_eq_decline_or (k:=false) (typeIs_str s c u) ⟨_,ho,rfl⟩ (by decide) kO F.slot_str_eq F.slot_dict_eq_refl
  (fun _ hq=>call_meets F.slot_str_eq (typeIs_str s c u) F.entry_str_eq (F.args_str_eq_2 _ _) (F3 l es ep c u) ⟨ho,hq⟩)
  (fun _ hq=>call_meets F.slot_dict_eq_refl ⟨_,ho,rfl⟩ F.entry_dict_eq (F.args_dict_eq_2 _ _) (EB l es ep c u) ⟨ho,hq⟩)
  (fun _ hq=>wpAny_of_eq (rfl:isSame (.str c u) (.ref l)=pure false) hq) (.inr hu) h
 exact⟨a,fM nofun a,fun prog w E Q h=>SeqAt.rc_ne_decline_or (k:=false) (typeIs_str s c u) ⟨_,ho,rfl⟩ (by decide) kO F.slot_str_ne F.slot_dict_ne_refl
  (fun _ hq=>call_meets F.slot_str_ne (typeIs_str s c u) F.entry_str_ne (F.args_str_ne_2 _ _) (FY l es ep c u) ⟨ho,hq⟩)
  (fun _ hq=>call_meets F.slot_dict_ne_refl ⟨_,ho,rfl⟩ F.entry_dict_ne (F.args_dict_ne_2 _ _) (Er l es ep c u) ⟨ho,hq⟩)
  (fun _ hq=>wpAny_of_eq (rfl:isSame (.str c u) (.ref l)=pure false) hq) (.inr hu) h⟩
theorem kI{b:Addr}{ob ol:Obj}{Q:Bool->Shared->Prop}{M:Model}{E:Value->Shared->Prop}(h1:s.heap.get? b=some ob)(h2:s.heap.get? l=some ol)(hb:ob.cls≠ol.cls)(hl:ol.cls≠.type "tuple")(q:Q false s):wpAny M A (isSame (.ref b) (.ref l)) Q E s:=
 SeqAt.wpAny_isSame_ref_other' (fun e=>by subst e;rw[h1] at h2;cases h2;exact hb rfl) h1 h2 hl q
theorem Ci{b:Addr}{its:Array Value}(hb:s.heap.IsTuple b its)(d:qf s.heap l)(hu:A.units<cLine):Eq3 A s (.ref b) (.ref l) false:=by
 obtain⟨es,ep,ho⟩:=d;obtain⟨⟨cls,dd,data,sl⟩,hp,hc,n,hd⟩:=id hb;simp only at hc hd;subst hc hd;have ne:Value.ref b≠Value.ref l:=fun e=>by cases e;exact absurd (congrArg (fun o:Obj=>o.cls) (Option.some.inj (hp.symm.trans ho))) (by simp)
 have a:SeqAt.RcAt A s (.ref b) (.ref l) false:=fun prog w E Q h=>SeqAt.rc_eq_decline_or (k:=false) ⟨_,hp,rfl⟩ ⟨_,ho,rfl⟩ (by decide) kB F.slot_tuple_eq F.slot_dict_eq_refl
  (fun _ hq=>call_meets F.slot_tuple_eq ⟨_,hp,rfl⟩ F.entry_tuple_eq (F.args_tuple_eq_2 _ _) (FU l b es ep _ _ _ _) ⟨ho,hp,hq⟩)
  (fun _ hq=>call_meets F.slot_dict_eq_refl ⟨_,ho,rfl⟩ F.entry_dict_eq (F.args_dict_eq_2 _ _) (EY l b es ep _ _ _ _) ⟨ho,hp,hq⟩)
  (fun _ hq=>kI hp ho (by simp) (by simp) hq) (.inr hu) h
 exact⟨a,fM ne a,fun prog w E Q h=>SeqAt.rc_ne_decline_or (k:=false) ⟨_,hp,rfl⟩ ⟨_,ho,rfl⟩ (by decide) kB F.slot_tuple_ne F.slot_dict_ne_refl
  (fun _ hq=>call_meets F.slot_tuple_ne ⟨_,hp,rfl⟩ F.entry_tuple_ne (F.args_tuple_ne_2 _ _) (FQ l b es ep _ _ _ _) ⟨ho,hp,hq⟩)
  (fun _ hq=>call_meets F.slot_dict_ne_refl ⟨_,ho,rfl⟩ F.entry_dict_ne (F.args_dict_ne_2 _ _) (E6 l b es ep _ _ _ _) ⟨ho,hp,hq⟩)
  (fun _ hq=>kI hp ho (by simp) (by simp) hq) (.inr hu) h⟩
theorem Cd{b:Addr}{its:Array Value}(hb:s.heap.IsList b its)(d:qf s.heap l)(hu:A.units<cLine):Eq3 A s (.ref b) (.ref l) false:=by
 obtain⟨es,ep,ho⟩:=d;obtain⟨⟨cls,dd,data,sl⟩,hp,hc,n,hd⟩:=id hb;simp only at hc hd;subst hc hd;have ne:Value.ref b≠Value.ref l:=fun e=>by cases e;exact absurd (congrArg (fun o:Obj=>o.cls) (Option.some.inj (hp.symm.trans ho))) (by simp)
 have a:SeqAt.RcAt A s (.ref b) (.ref l) false:=fun prog w E Q h=>SeqAt.rc_eq_decline_or (k:=false) ⟨_,hp,rfl⟩ ⟨_,ho,rfl⟩ (by decide) kQ F.slot_list_eq F.slot_dict_eq_refl
  (fun _ hq=>call_meets F.slot_list_eq ⟨_,hp,rfl⟩ F.entry_list_eq (F.args_list_eq_2 _ _) (F1 l b es ep _ _ _ _) ⟨ho,hp,hq⟩)
  (fun _ hq=>call_meets F.slot_dict_eq_refl ⟨_,ho,rfl⟩ F.entry_dict_eq (F.args_dict_eq_2 _ _) (FH l b es ep _ _ _ _) ⟨ho,hp,hq⟩)
  (fun _ hq=>kI hp ho (by simp) (by simp) hq) (.inr hu) h
 exact⟨a,fM ne a,fun prog w E Q h=>SeqAt.rc_ne_decline_or (k:=false) ⟨_,hp,rfl⟩ ⟨_,ho,rfl⟩ (by decide) kQ F.slot_list_ne F.slot_dict_ne_refl
  (fun _ hq=>call_meets F.slot_list_ne ⟨_,hp,rfl⟩ F.entry_list_ne (F.args_list_ne_2 _ _) (F8 l b es ep _ _ _ _) ⟨ho,hp,hq⟩)
  (fun _ hq=>call_meets F.slot_dict_ne_refl ⟨_,ho,rfl⟩ F.entry_dict_ne (F.args_dict_ne_2 _ _) (Eu l b es ep _ _ _ _) ⟨ho,hp,hq⟩)
  (fun _ hq=>kI hp ho (by simp) (by simp) hq) (.inr hu) h⟩
end
end L2
namespace L2
open PySem PySem.Spec PyProof.Rows
section
variable{X:Cx}{pins:List (Addr×Obj)}{σ:St}{H:Hp}{s:Shared}
theorem uI:∀ {xs:List V} {us:List Value} {j:Nat} {x:V},aH xs us->xs[j]?=some x->∀(h:j<us.toArray.size),bo x us.toArray[j]:=fun {xs us j x} r e h=>by
 obtain⟨u,h1,h2⟩:=r.get e
 have:us[j]?=some us.toArray[j]:=by
  rw[List.getElem?_eq_getElem (by simpa using h)]
  simp
 rw[h1] at this;cases this;exact h2
theorem eI(I:Inv X pins σ H s){a:Addr}{xs:List V}(h:H a=some (.tup xs)):∃its:List Value,aH xs its/\s.heap.IsTuple a its.toArray:=by
 obtain⟨its,r,p,_⟩:=I.tuple (SqT.of (K:=X.K) h);exact⟨its,r,p⟩
theorem iP(I:Inv X pins σ H s){a:Addr}{xs:List V}(h:H a=some (.lst xs)):∃its:List Value,aH xs its/\s.heap.IsList a its.toArray:=by
 obtain⟨its,r,p,_⟩:=I.list (SqL.of (K:=X.K) h);exact⟨its,r,p.isList⟩
theorem mU(I:Inv X pins σ H s){a:Addr}{kvs:List (Key×V)}(h:H a=some (.dK kvs)):qf s.heap a:=by
 obtain⟨_,_,vs,_,o,es,ep,e1,⟨c1,c2,c3⟩,e2,_⟩:=I.hok _ _ h;obtain⟨cls,dd,data,sl⟩:=o;simp only at c1 c2 c3 e2;subst c1 c2 c3 e2;exact⟨_,_,e1⟩
theorem mJ(I:Inv X pins σ H s){a:Addr}{kvs:List (List Key×V)}(h:H a=some (.dT kvs)):qf s.heap a:=by
 obtain⟨_,_,vs,_,o,es,ep,e1,⟨c1,c2,c3⟩,e2,_⟩:=I.hok _ _ h;obtain⟨cls,dd,data,sl⟩:=o;simp only at c1 c2 c3 e2;subst c1 c2 c3 e2;exact⟨_,_,e1⟩
theorem zN{ds es:List D}:((List.range (min ds.length es.length)).all (fun j=>eqD (ds.getD j .non) (es.getD j .non)) && ds.length == es.length)=dG ds es:=by
 by_cases h:ds.length=es.length
 ·rw[←iJ h]
  have:min ds.length es.length=ds.length:=by omega
  rw[this];simp[h]
 ·rw[kW h]
  have:(ds.length == es.length)=false:=by simpa using h
  rw[this,Bool.and_false]
theorem jV(I:Inv X pins σ H s)(n:Nat):∀(d e:D)(x y:V)(v u:Value)(A:Around),dep d<=n->A.units+n<cLine->Dat H d x->Dat H e y->bo x v->bo y u ->
  SeqAt.RcAt A s v u (eqD d e)/\SeqAt.EqAt A s v u (eqD d e)/\SeqAt.RcNeAt A s v u (!eqD d e):=by
 induction n with
 |zero=>
  intro d e x y v u A hd hu hx hy rx ry;have hu':A.units<cLine:=by omega
  cases d with
  |tup ds=>simp only[dep] at hd;omega
  |lst ds=>simp only[dep] at hd;omega
  |dk ds=>simp only[dep] at hd;omega
  |dt ds=>simp only[dep] at hd;omega
  |non=>
   simp only[Dat] at hx;subst hx;cases rx
   cases e with
   |non=>simp only[Dat] at hy;subst hy;cases ry;exact⟨SeqAt.RcAt.none_none,SeqAt.EqAt.same _,SeqAt.RcNeAt.none_none⟩
   |bl b=>simp only[Dat] at hy;subst hy;cases ry;exact⟨SeqAt.RcAt.none_bool b,SeqAt.EqAt.none_bool b,SeqAt.RcNeAt.none_bool b⟩
   |int b=>simp only[Dat] at hy;subst hy;obtain⟨t,rfl⟩:=ry;exact⟨SeqAt.RcAt.none_int b t,SeqAt.EqAt.none_int b t,SeqAt.RcNeAt.none_int b t⟩
   |str b=>simp only[Dat] at hy;subst hy;obtain⟨t,rfl⟩:=ry;exact⟨SeqAt.RcAt.none_str b t,SeqAt.EqAt.none_str b t,SeqAt.RcNeAt.none_str b t⟩
   |tup es=>
    simp only[Dat] at hy;obtain⟨b,ys,rfl,hb,_⟩:=hy;cases ry;obtain⟨its,_,p⟩:=eI I hb;exact⟨SeqAt.RcAt.none_tuple p hu',SeqAt.EqAt.none_tuple p hu',SeqAt.RcNeAt.none_tuple p hu'⟩
   |lst es=>
    simp only[Dat] at hy;obtain⟨b,ys,rfl,hb,_⟩:=hy;cases ry;obtain⟨its,_,p⟩:=iP I hb;exact⟨SeqAt.RcAt.none_list p hu',SeqAt.EqAt.none_list p hu',SeqAt.RcNeAt.none_list p hu'⟩
   |dk es=>
    simp only[Dat] at hy;obtain⟨b,ys,rfl,hb,_⟩:=hy;cases ry;exact xI (mU I hb) hu'
   |dt es=>
    simp only[Dat] at hy;obtain⟨b,ys,rfl,hb,_⟩:=hy;cases ry;exact xI (mJ I hb) hu'
  |bl a=>
   simp only[Dat] at hx;subst hx;cases rx
   cases e with
   |non=>simp only[Dat] at hy;subst hy;cases ry;exact⟨SeqAt.RcAt.bool_none a,SeqAt.EqAt.bool_none a,SeqAt.RcNeAt.bool_none a⟩
   |bl b=>simp only[Dat] at hy;subst hy;cases ry;exact⟨SeqAt.RcAt.bool_bool a b,SeqAt.EqAt.bool_bool a b,SeqAt.RcNeAt.bool_bool a b⟩
   |int b=>simp only[Dat] at hy;subst hy;obtain⟨t,rfl⟩:=ry;exact⟨SeqAt.RcAt.bool_int a b t,SeqAt.EqAt.bool_int a b t,SeqAt.RcNeAt.bool_int a b t⟩
   |str b=>simp only[Dat] at hy;subst hy;obtain⟨t,rfl⟩:=ry;exact⟨SeqAt.RcAt.bool_str a b t,SeqAt.EqAt.bool_str a b t,SeqAt.RcNeAt.bool_str a b t⟩
   |tup es=>
    simp only[Dat] at hy;obtain⟨b,ys,rfl,hb,_⟩:=hy;cases ry;obtain⟨its,_,p⟩:=eI I hb;exact⟨SeqAt.RcAt.bool_tuple a p hu',SeqAt.EqAt.bool_tuple a p hu',SeqAt.RcNeAt.bool_tuple a p hu'⟩
   |lst es=>
    simp only[Dat] at hy;obtain⟨b,ys,rfl,hb,_⟩:=hy;cases ry;obtain⟨its,_,p⟩:=iP I hb;exact⟨SeqAt.RcAt.bool_list a p hu',SeqAt.EqAt.bool_list a p hu',SeqAt.RcNeAt.bool_list a p hu'⟩
   |dk es=>
    simp only[Dat] at hy;obtain⟨b,ys,rfl,hb,_⟩:=hy;cases ry;exact BF a (mU I hb) hu'
   |dt es=>
    simp only[Dat] at hy;obtain⟨b,ys,rfl,hb,_⟩:=hy;cases ry;exact BF a (mJ I hb) hu'
  |int a=>
   simp only[Dat] at hx;subst hx;obtain⟨t',rfl⟩:=rx
   cases e with
   |non=>simp only[Dat] at hy;subst hy;cases ry;exact⟨SeqAt.RcAt.int_none a t',SeqAt.EqAt.int_none a t',SeqAt.RcNeAt.int_none a t'⟩
   |bl b=>simp only[Dat] at hy;subst hy;cases ry;exact⟨SeqAt.RcAt.int_bool a t' b,SeqAt.EqAt.int_bool a t' b,SeqAt.RcNeAt.int_bool a t' b⟩
   |int b=>simp only[Dat] at hy;subst hy;obtain⟨t,rfl⟩:=ry;exact⟨SeqAt.RcAt.int_int a t' b t,SeqAt.EqAt.int_int a t' b t,SeqAt.RcNeAt.int_int a t' b t⟩
   |str b=>simp only[Dat] at hy;subst hy;obtain⟨t,rfl⟩:=ry;exact⟨SeqAt.RcAt.int_str a t' b t,SeqAt.EqAt.int_str a t' b t,SeqAt.RcNeAt.int_str a t' b t⟩
   |tup es=>
    simp only[Dat] at hy;obtain⟨b,ys,rfl,hb,_⟩:=hy;cases ry;obtain⟨its,_,p⟩:=eI I hb;exact⟨SeqAt.RcAt.int_tuple a t' p hu',SeqAt.EqAt.int_tuple a t' p hu',SeqAt.RcNeAt.int_tuple a t' p hu'⟩
   |lst es=>
    simp only[Dat] at hy;obtain⟨b,ys,rfl,hb,_⟩:=hy;cases ry;obtain⟨its,_,p⟩:=iP I hb;exact⟨SeqAt.RcAt.int_list a t' p hu',SeqAt.EqAt.int_list a t' p hu',SeqAt.RcNeAt.int_list a t' p hu'⟩
   |dk es=>
    simp only[Dat] at hy;obtain⟨b,ys,rfl,hb,_⟩:=hy;cases ry;exact BG a t' (mU I hb) hu'
   |dt es=>
    simp only[Dat] at hy;obtain⟨b,ys,rfl,hb,_⟩:=hy;cases ry;exact BG a t' (mJ I hb) hu'
  |str a=>
   simp only[Dat] at hx;subst hx;obtain⟨t',rfl⟩:=rx
   cases e with
   |non=>simp only[Dat] at hy;subst hy;cases ry;exact⟨SeqAt.RcAt.str_none a t',SeqAt.EqAt.str_none a t',SeqAt.RcNeAt.str_none a t'⟩
   |bl b=>simp only[Dat] at hy;subst hy;cases ry;exact⟨SeqAt.RcAt.str_bool a t' b,SeqAt.EqAt.str_bool a t' b,SeqAt.RcNeAt.str_bool a t' b⟩
   |int b=>simp only[Dat] at hy;subst hy;obtain⟨t,rfl⟩:=ry;exact⟨SeqAt.RcAt.str_int a t' b t,SeqAt.EqAt.str_int a t' b t,SeqAt.RcNeAt.str_int a t' b t⟩
   |str b=>simp only[Dat] at hy;subst hy;obtain⟨t,rfl⟩:=ry;exact⟨SeqAt.RcAt.str_str a t' b t,SeqAt.EqAt.str_str a t' b t,SeqAt.RcNeAt.str_str a t' b t⟩
   |tup es=>
    simp only[Dat] at hy;obtain⟨b,ys,rfl,hb,_⟩:=hy;cases ry;obtain⟨its,_,p⟩:=eI I hb;exact⟨SeqAt.RcAt.str_tuple a t' p hu',SeqAt.EqAt.str_tuple a t' p hu',SeqAt.RcNeAt.str_tuple a t' p hu'⟩
   |lst es=>
    simp only[Dat] at hy;obtain⟨b,ys,rfl,hb,_⟩:=hy;cases ry;obtain⟨its,_,p⟩:=iP I hb;exact⟨SeqAt.RcAt.str_list a t' p hu',SeqAt.EqAt.str_list a t' p hu',SeqAt.RcNeAt.str_list a t' p hu'⟩
   |dk es=>
    simp only[Dat] at hy;obtain⟨b,ys,rfl,hb,_⟩:=hy;cases ry;exact Cp a t' (mU I hb) hu'
   |dt es=>
    simp only[Dat] at hy;obtain⟨b,ys,rfl,hb,_⟩:=hy;cases ry;exact Cp a t' (mJ I hb) hu'
 |succ n ih=>
  intro d e x y v u A hd hu hx hy rx ry;have hu':A.units<cLine:=by omega
  by_cases h0:dep d<=n
  ·exact ih d e x y v u A h0 (by omega) hx hy rx ry
  have hin:A.in1.units+n<cLine:=by show A.units+1+n<cLine;omega
  have items:∀(ds es:List D)(xs ys:List V)(its its2:List Value),cx ds<=n->ay H ds xs->ay H es ys->aH xs its->aH ys its2 ->
    ∀j (h1:j<its.toArray.size) (h2:j<its2.toArray.size),SeqAt.EqAt A.in1 s its.toArray[j] its2.toArray[j] (eqD (ds.getD j .non) (es.getD j .non)):=by
   intro ds es xs ys its its2 hdp hxs hys r1 r2 j h1 h2;have l1:j<ds.length:=by rw[←hxs.length,r1.length];simpa using h1
   have l2:j<es.length:=by rw[←hys.length,r2.length];simpa using h2
   obtain⟨x',ex,hx'⟩:=hxs.get (List.getElem?_eq_getElem l1);obtain⟨y',ey,hy'⟩:=hys.get (List.getElem?_eq_getElem l2);have g1:ds.getD j .non=ds[j]:=by rw[List.getD_eq_getElem?_getD,List.getElem?_eq_getElem l1];rfl
   have g2:es.getD j .non=es[j]:=by rw[List.getD_eq_getElem?_getD,List.getElem?_eq_getElem l2];rfl
   rw[g1,g2];exact(ih ds[j] es[j] x' y' _ _ A.in1 (Nat.le_trans (eK (List.getElem_mem l1)) hdp) hin hx' hy' (uI r1 ex h1) (uI r2 ey h2)).2.1
  cases d with
  |non=>simp only[dep] at h0;omega
  |bl a=>simp only[dep] at h0;omega
  |int a=>simp only[dep] at h0;omega
  |str a=>simp only[dep] at h0;omega
  |dk ds=>simp only[dep] at hd;have:cLine=9900:=rfl;omega
  |dt ds=>simp only[dep] at hd;have:cLine=9900:=rfl;omega
  |tup ds=>
   simp only[dep] at hd;have hx0:=hx;simp only[Dat] at hx;obtain⟨a,xs,rfl,ha,hxs⟩:=hx;cases rx;obtain⟨its,r1,p⟩:=eI I ha
   cases e with
   |non=>simp only[Dat] at hy;subst hy;cases ry;exact⟨SeqAt.RcAt.tuple_none p hu',SeqAt.EqAt.tuple_none p hu',SeqAt.RcNeAt.tuple_none p hu'⟩
   |bl b=>simp only[Dat] at hy;subst hy;cases ry;exact⟨SeqAt.RcAt.tuple_bool b p hu',SeqAt.EqAt.tuple_bool b p hu',SeqAt.RcNeAt.tuple_bool b p hu'⟩
   |int b=>simp only[Dat] at hy;subst hy;obtain⟨t,rfl⟩:=ry;exact⟨SeqAt.RcAt.tuple_int b t p hu',SeqAt.EqAt.tuple_int b t p hu',SeqAt.RcNeAt.tuple_int b t p hu'⟩
   |str b=>simp only[Dat] at hy;subst hy;obtain⟨t,rfl⟩:=ry;exact⟨SeqAt.RcAt.tuple_str b t p hu',SeqAt.EqAt.tuple_str b t p hu',SeqAt.RcNeAt.tuple_str b t p hu'⟩
   |lst es=>
    simp only[Dat] at hy;obtain⟨b,ys,rfl,hb,_⟩:=hy;cases ry;obtain⟨its2,_,p2⟩:=iP I hb;exact⟨SeqAt.RcAt.tuple_list p p2 hu',SeqAt.EqAt.tuple_list p p2 hu',SeqAt.RcNeAt.tuple_list p p2 hu'⟩
   |dk es=>
    simp only[Dat] at hy;obtain⟨b,ys,rfl,hb,_⟩:=hy;cases ry;exact Ci p (mU I hb) hu'
   |dt es=>
    simp only[Dat] at hy;obtain⟨b,ys,rfl,hb,_⟩:=hy;cases ry;exact Ci p (mJ I hb) hu'
   |tup es=>
    have hy0:=hy;simp only[Dat] at hy;obtain⟨b,ys,rfl,hb,hys⟩:=hy;cases ry;obtain⟨its2,r2,p2⟩:=eI I hb;have it:=items ds es xs ys its its2 (by omega) hxs hys r1 r2
    have z1:its.toArray.size=ds.length:=by rw[←hxs.length,r1.length];simp
    have z2:its2.toArray.size=es.length:=by rw[←hys.length,r2.length];simp
    have e0:=zN (ds:=ds) (es:=es)
    have rc:SeqAt.RcAt A s (.ref a) (.ref b) (dG ds es):=by
     have:=SeqAt.RcAt.tuples p p2 hu' it;rw[z1,z2,e0] at this;exact this
    have rn:SeqAt.RcNeAt A s (.ref a) (.ref b) (!dG ds es):=by
     have:=SeqAt.RcNeAt.tuples p p2 hu' it;rw[z1,z2,e0] at this;exact this
    simp only[eqD];refine⟨rc,?_,rn⟩;by_cases hab:a=b
    ·subst hab
     have:D.tup ds=D.tup es:=hx0.inj hy0;cases this;rw[fN];exact SeqAt.EqAt.same _
    ·exact .of_refs hab rc
  |lst ds=>
   simp only[dep] at hd;have hx0:=hx;simp only[Dat] at hx;obtain⟨a,xs,rfl,ha,hxs⟩:=hx;cases rx;obtain⟨its,r1,p⟩:=iP I ha
   cases e with
   |non=>simp only[Dat] at hy;subst hy;cases ry;exact⟨SeqAt.RcAt.list_none p hu',SeqAt.EqAt.list_none p hu',SeqAt.RcNeAt.list_none p hu'⟩
   |bl b=>simp only[Dat] at hy;subst hy;cases ry;exact⟨SeqAt.RcAt.list_bool b p hu',SeqAt.EqAt.list_bool b p hu',SeqAt.RcNeAt.list_bool b p hu'⟩
   |int b=>simp only[Dat] at hy;subst hy;obtain⟨t,rfl⟩:=ry;exact⟨SeqAt.RcAt.list_int b t p hu',SeqAt.EqAt.list_int b t p hu',SeqAt.RcNeAt.list_int b t p hu'⟩
   |str b=>simp only[Dat] at hy;subst hy;obtain⟨t,rfl⟩:=ry;exact⟨SeqAt.RcAt.list_str b t p hu',SeqAt.EqAt.list_str b t p hu',SeqAt.RcNeAt.list_str b t p hu'⟩
   |tup es=>
    simp only[Dat] at hy;obtain⟨b,ys,rfl,hb,_⟩:=hy;cases ry;obtain⟨its2,_,p2⟩:=eI I hb;exact⟨SeqAt.RcAt.list_tuple p p2 hu',SeqAt.EqAt.list_tuple p p2 hu',SeqAt.RcNeAt.list_tuple p p2 hu'⟩
   |dk es=>
    simp only[Dat] at hy;obtain⟨b,ys,rfl,hb,_⟩:=hy;cases ry;exact Cd p (mU I hb) hu'
   |dt es=>
    simp only[Dat] at hy;obtain⟨b,ys,rfl,hb,_⟩:=hy;cases ry;exact Cd p (mJ I hb) hu'
   |lst es=>
    have hy0:=hy;simp only[Dat] at hy;obtain⟨b,ys,rfl,hb,hys⟩:=hy;cases ry;obtain⟨its2,r2,p2⟩:=iP I hb;have it:=items ds es xs ys its its2 (by omega) hxs hys r1 r2
    have z1:its.toArray.size=ds.length:=by rw[←hxs.length,r1.length];simp
    have z2:its2.toArray.size=es.length:=by rw[←hys.length,r2.length];simp
    have both:SeqAt.RcAt A s (.ref a) (.ref b) (dG ds es)/\SeqAt.RcNeAt A s (.ref a) (.ref b) (!dG ds es):=by
     by_cases hl:ds.length=es.length
     ·have r:=SeqAt.RcAt.lists p p2 (by rw[z1,z2];exact hl) hu' it
      have q:=SeqAt.RcNeAt.lists p p2 (by rw[z1,z2];exact hl) hu' it
      rw[z1,iJ hl] at r q;exact⟨r,q⟩
     ·have hne:(its.toArray.size != its2.toArray.size)=true:=by rw[z1,z2];simpa using hl
      rw[kW hl];exact⟨SeqAt.RcAt.lists_lengths p p2 hne hu',SeqAt.RcNeAt.lists_lengths p p2 hne hu'⟩
    simp only[eqD];refine⟨both.1,?_,both.2⟩;by_cases hab:a=b
    ·subst hab
     have:D.lst ds=D.lst es:=hx0.inj hy0;cases this;rw[fN];exact SeqAt.EqAt.same _
    ·exact .of_refs hab both.1
noncomputable def Dr(neg:Bool):R2:=fun x y H Q=>∃d e,Dat H d x/\Dat H e y/\dep d<=100/\Q (.bl (if neg then !eqD d e else eqD d e)) H
theorem ce(hu:X.A.units+100<cLine):OpR X (compareOp .Eq) (Dr false):=by
 intro pins s σ H x y v u Q I rx ry h;obtain⟨d,e,hx,hy,hd,q⟩:=h;exact(jV I 100 d e x y v u X.A hd hu hx hy rx ry).1 X.prog X.w _ _ ⟨.bl _,H,I,rfl,q⟩
theorem fm(hu:X.A.units+100<cLine):OpR X (compareOp .NotEq) (Dr true):=by
 intro pins s σ H x y v u Q I rx ry h;obtain⟨d,e,hx,hy,hd,q⟩:=h;exact(jV I 100 d e x y v u X.A hd hu hx hy rx ry).2.2 X.prog X.w _ _ ⟨.bl _,H,I,rfl,q⟩
end
theorem ln{H:Hp}{p:Addr}{o:HO}(h:H p=none):cS H (upd H p o):=fun b u e=>by
 rw[aG (bb e h)];exact e
theorem nE(H:Hp):∀ns:List Int,ay H (ns.map D.int) (ns.map V.int)
 | []=>by simp[ay]
 |n::r=>by
  simp only[List.map_cons,ay];exact⟨_,_,rfl,by simp[Dat],nE H r⟩
theorem gm{H:Hp}:∀ {ns:List Int} {xs:List V},ay H (ns.map D.int) xs->xs=ns.map V.int
 | [],xs,h=>by simpa[ay] using h
 |n::r,xs,h=>by
  simp only[List.map_cons,ay] at h;obtain⟨x,t,rfl,h1,h2⟩:=h;rw[gm h2];simp only[Dat] at h1;rw[h1];rfl
section
variable{X:Cx}
theorem wq:MtR X "int.bit_length" (fun x xs H Q=>∃i,x=.int i/\xs=[]/\Q (.int ((Builtin.Int.intBits i:Nat):Int)) H):=by
 intro pins s σ H x xs v us Q I rx rv h;obtain⟨i,rfl,rfl,q⟩:=h;obtain⟨t,rfl⟩:=rx;cases rv;refine call_gives F.slot_int_bit_length (typeIs_int s i t) F.entry_int_bit_length (F.args_int_bit_length_1 _) (AutoIntG2.int_bit_length_int_0 i t) ?_;exact⟨.int _,H,I.tok _,⟨_,rfl⟩,q⟩
end
theorem pd{e k y:Int}(h:0<k)(h2:k<=2^64):mm (e%k) y:=by
 have h1:=Int.emod_nonneg e (Int.ne_of_gt h);have h3:=Int.emod_lt_of_pos e h;exact .inl ⟨by omega,by omega⟩
theorem gD{x y:Int}(h:-(2^64)<x/\x<2^64):mm x y:=.inl h
theorem sg{x y:Int}(h:-(2^64)<y/\y<2^64):mm x y:=.inr h
section
variable{X:Cx}{tg a b l:Expr}{ta tb tl:TE}{pos:Pos}
theorem az(K:W.Frag)(h:X.K=K):IxR X (rIx K):=h ▸ Dv
theorem aP(K:W.Frag)(h:X.K=K):cm X (.builtin "len") (fun xs H Q=>∃x n,xs=[x]/\CC K x H n/\Q (.int n) H):=h ▸ xC
theorem jE(K:W.Frag)(h:X.K=K)(hc:X.calm=true):cm X (.builtin "all") (fun xs H Q=>∃(a:Addr)(bs:List Bool),xs=[.ref a]/\SqL K H a (bs.map V.bl)/\Q (.bl (bs.all id)) H):=h ▸ y8 hc
theorem bf(K:W.Frag)(h:X.K=K)(ha:PE X a ta)(he:∀whole,isTrue a X.env whole=(do let v ← whole;standAt a.pos;holding [v] (truthy v))):
  PT X a (fun σ H Q=>ta σ H fun x H'=>∃k,qT K x H' k/\Q k H'):=h ▸ zg ha he
theorem dP(K:W.Frag)(h:X.K=K):cm X (.type "list") (fun xs H Q=>∃p ys,xs=[.ref p]/\(SqL K H p ys\/SqT K H p ys)/\∀l,H l=none->Q (.ref l) (upd H l (.lst ys))):=h ▸ o8
theorem bA(K:W.Frag)(h:X.K=K):cm X (.type "tuple") (fun xs H Q=>∃p ys,xs=[.ref p]/\((SqL K H p ys/\∀l,H l=none->Q (.ref l) (upd H l (.tup ys)))\/(SqT K H p ys/\Q (.ref p) H))):=h ▸ mq
end
noncomputable def F2(J:It)(g:TG)(tb:TS)(D:ic)(σ:St)(H:Hp):Prop:=∃W:Nat->Nat->St->Hp->Prop,(∃m,W 0 m σ H)/\∀i m σ H,W i m σ H ->
 (J.stop i H/\D.nx σ H)\/(J.go i H/\∃N:St->Hp->Prop,(∀σ' H',N σ' H'->∃m',m'<m/\W (i+1) m' σ' H')/\∀x H',J.yld i H x H'->g x σ H' fun σ2 H2=>tb { D with nx:=N,ct:=N,bk:=D.nx } σ2 H2)
theorem zU(wi:TI)(g:TG)(tb:TS)(D:ic)(σ:St)(H:Hp):Dc wi g tb D σ H=wi σ H fun J H1=>F2 J g tb D σ H1:=rfl
noncomputable def x3(H H':Hp):Prop:=∀b xs,H b=some (.tup xs)->H' b=some (.tup xs)
mutual
noncomputable def noL:D->Bool
 |.lst _=>false
 |.dk _=>false
 |.dt _=>false
 |.tup ds=>Gr ds
 |_=>true
noncomputable def Gr:List D->Bool
 | []=>true
 |d::ds=>noL d && Gr ds
end
mutual
theorem Dat.t{H H':Hp}(e:x3 H H'):∀ {d:D} {v:V},noL d=true->Dat H d v->Dat H' d v
 |.non,v,_,h=>by simpa only[Dat] using h
 |.bl b,v,_,h=>by simpa only[Dat] using h
 |.int i,v,_,h=>by simpa only[Dat] using h
 |.str x,v,_,h=>by simpa only[Dat] using h
 |.tup ds,v,n,h=>by
  simp only[Dat] at h ⊢;simp only[noL] at n;obtain⟨a,xs,rfl,h1,h2⟩:=h;exact⟨a,xs,rfl,e a _ h1,ay.t e n h2⟩
 |.lst ds,v,n,h=>by simp[noL] at n
 |.dk ds,v,n,h=>by simp[noL] at n
 |.dt ds,v,n,h=>by simp[noL] at n
theorem ay.t{H H':Hp}(e:x3 H H'):∀ {ds:List D} {xs:List V},Gr ds=true->ay H ds xs->ay H' ds xs
 | [],xs,_,h=>by simpa only[ay] using h
 |d::ds,xs,n,h=>by
  simp only[ay] at h ⊢;simp only[Gr,Bool.and_eq_true] at n;obtain⟨x,r,rfl,h1,h2⟩:=h;exact⟨x,r,rfl,Dat.t e n.1 h1,ay.t e n.2 h2⟩
end
theorem jq:∀ {ds:List D},(∀d∈ds,noL d=true)->Gr ds=true
 | [],_=>by simp[Gr]
 |d::ds,h=>by
  simp only[Gr,Bool.and_eq_true];exact⟨h d (List.mem_cons_self ..),jq fun e he=>h e (List.mem_cons_of_mem _ he)⟩
theorem vL(ns:List Int):Gr (ns.map D.int)=true:=jq fun d hd=>by
 obtain⟨n,_,rfl⟩:=List.mem_map.mp hd;simp[noL]
end L2
namespace L2
theorem inv(F:Nat->St->Hp->Prop):∃Pv:Nat->St->Hp->Prop,∀i σ H,Pv i σ H↔F i σ H:=⟨F,fun _ _ _=>Iff.rfl⟩
end L2
namespace L2
open PySem
theorem d6.Go{k:Nat}{A:Around}(r:d6 k A):A.units+100<cLine:=by have:=r.un;omega
theorem gf:∀ {ds:List D} {n:Nat},(∀d∈ds,dep d<=n)->cx ds<=n
 | [],n,_=>by simp[cx]
 |d::ds,n,h=>by
  simp only[cx];exact Nat.max_le.mpr ⟨h d (List.mem_cons_self ..),gf fun e he=>h e (List.mem_cons_of_mem _ he)⟩
theorem vy(ns:List Int):cx (ns.map D.int)=0:=by
 have:cx (ns.map D.int)<=0:=gf fun d hd=>by
  obtain⟨n,_,rfl⟩:=List.mem_map.mp hd;simp[dep]
 omega
end L2
namespace L2
open PySem PySem.Spec PyProof.Rows
section
variable{X:Cx}
theorem zr(hu:X.A.units+100<cLine):OpR X (compareOp .NotEq) (fun x y H Q=>∃a b xs,x=.ref a/\y=.ref b/\SqL X.K H a xs/\SqL X.K H b []/\Q (.bl (!xs.isEmpty)) H):=by
 intro pins s σ H x y v u Q I rx ry h;obtain⟨a,b,xs,rfl,rfl,ha,hb,q⟩:=h;cases rx;cases ry;obtain⟨its,r1,p1,_⟩:=I.list ha;obtain⟨its2,r2,p2,_⟩:=I.list hb;cases r2;have hu':X.A.units<cLine:=by omega
 cases xs with
 |nil=>
  cases r1;have:=SeqAt.RcNeAt.lists (e:=fun _=>true) p1.isList p2.isList rfl hu' (fun j h1 _=>absurd h1 (by simp))
  exact this X.prog X.w _ _ ⟨.bl _,H,I,rfl,q⟩
 |cons x xs=>
  have hne:(its.toArray.size != ([]:List Value).toArray.size)=true:=by
   have:=r1.length;rw[List.size_toArray,←this]
   simp
  exact SeqAt.RcNeAt.lists_lengths p1.isList p2.isList hne hu' X.prog X.w _ _ ⟨.bl _,H,I,rfl,q⟩
end
end L2
namespace L2
open PySem
theorem ay.take{H:Hp}:∀ {ds:List D} {xs:List V} (n:Nat),ay H ds xs->ay H (ds.take n) (xs.take n):=fun {ds xs} n h=>by
 refine ay.of_get (by rw[List.length_take,List.length_take,h.length]) fun i d x e1 e2=>?_
 rw[List.getElem?_take] at e1 e2;split at e1
 ·rename_i hi
  rw[if_pos hi] at e2;obtain⟨x',h1,h2⟩:=h.get e1;rw[e2] at h1;cases h1;exact h2
 ·cases e1
theorem ay.drop{H:Hp}:∀ {ds:List D} {xs:List V} (n:Nat),ay H ds xs->ay H (ds.drop n) (xs.drop n):=fun {ds xs} n h=>by
 refine ay.of_get (by rw[List.length_drop,List.length_drop,h.length]) fun i d x e1 e2=>?_
 rw[List.getElem?_drop] at e1 e2;obtain⟨x',h1,h2⟩:=h.get e1;rw[e2] at h1;cases h1;exact h2
end L2
namespace L2
open PySem PySem.Spec PyProof.Rows
noncomputable def LD(H:Hp)(l:Addr)(ds:List D):Prop:=Gr ds=true/\∃xs,H l=some (.lst xs)/\ay H ds xs
theorem pj{ds es:List D}:Gr (ds++es)=(Gr ds && Gr es):=by
 induction ds with
 |nil=>simp[Gr]
 |cons d ds ih=>simp[Gr,ih,Bool.and_assoc]
inductive Tr where
 |lf (x:List D)
 |nd (x:List D) (l r:Tr)
namespace Tr
noncomputable def d:Tr->D
 |.lf x=>.tup x
 |.nd x l r=>.tup (x++[l.d,r.d])
noncomputable def size:Tr->Nat
 |.lf _=>1
 |.nd _ l r=>l.size+r.size+1
noncomputable def dp:Tr->Nat
 |.lf _=>0
 |.nd _ l r=>1+max l.dp r.dp
noncomputable def post:Tr->List Tr
 |.lf x=>[.lf x]
 |.nd x l r=>l.post++r.post++[.nd x l r]
noncomputable def pre:Tr->List Tr
 |.lf x=>[.lf x]
 |.nd x l r=>.nd x l r::(r.pre++l.pre)
noncomputable def ok(lw:Str):Tr->Prop
 |.lf x=>x[0]?=some (.str lw)/\Gr x=true
 |.nd x l r=>(∃w,x[0]?=some (.str w)/\w≠lw)/\Gr x=true/\l.ok lw/\r.ok lw
theorem ok.noL{lw:Str}:∀ {t:Tr},t.ok lw->noL t.d=true
 |.lf x,h=>by simp only[d,L2.noL];exact h.2
 |.nd x l r,h=>by
  obtain⟨_,h1,h2,h3⟩:=h;simp only[d,L2.noL,pj,Bool.and_eq_true];exact⟨h1,by simp[Gr,ok.noL h2,ok.noL h3]⟩
theorem ok.post{lw:Str}:∀ {t:Tr},t.ok lw->∀u∈t.post,u.ok lw
 |.lf x,h,u,hu=>by simp only[Tr.post,List.mem_singleton] at hu;subst hu;exact h
 |.nd x l r,h,u,hu=>by
  simp only[Tr.post,List.mem_append,List.mem_singleton] at hu;rcases hu with(hu|hu)|hu
  ·exact ok.post h.2.2.1 u hu
  ·exact ok.post h.2.2.2 u hu
  ·subst hu;exact h
theorem ok.Gr{lw:Str}{ts:List Tr}(h:∀t∈ts,t.ok lw):Gr (ts.map d)=true:=jq fun e he=>by
 obtain⟨t,ht,rfl⟩:=List.mem_map.mp he;exact(h t ht).noL
end Tr
section
variable{X:Cx}
theorem gi:∀ {ns:List Int} {its:List Value},aH (ns.map V.int) its->∀(i:Nat)(v:Value),its[i]?=some v->∃t,v=.int (ns.getD i 0) t
 | [],_,.nil,i,v,h=>by simp at h
 |n::ns,_,.cons r t,0,v,h=>by
  simp at h;subst h;obtain⟨t',e⟩:=r;exact⟨t',by rw[e];rfl⟩
 |n::ns,_,.cons r t,i+1,v,h=>by
  obtain⟨t',e⟩:=gi t i v (by simpa using h)
  exact⟨t',by rw[e];rfl⟩
theorem jW(ns:List Int):∀j,j<=ns.length->preSum (fun i=>ns.getD i 0) j=(ns.take j).sum
 |0,_=>by simp[preSum]
 |j+1,h=>by
  have hj:j<ns.length:=by omega
  have e:ns.getD j 0=ns[j]:=by
   rw[List.getD_eq_getElem?_getD,List.getElem?_eq_getElem hj];rfl
  rw[preSum,jW ns j (by omega),e,List.take_succ,List.getElem?_eq_getElem hj,List.sum_append]
  simp
theorem zz(hc:X.calm=true):cm X (.builtin "sum") (fun xs H Q=>∃(a:Addr)(ns:List Int),xs=[.ref a]/\SqL X.K H a (ns.map V.int)/\Q (.int ns.sum) H):=by
 intro pins s σ H xs us Q I r h;obtain⟨a,ns,rfl,hq,q⟩:=h;obtain⟨u,rfl,rx⟩:=du r;cases rx;obtain⟨its,rv,p,hz⟩:=I.list hq
 have hlt:a<s.heap.objs.size:=by
  obtain⟨o,ho,_⟩:=p.isList;exact Heap.lt_size ho
 have hlen:its.length=ns.length:=by rw[←rv.length,List.length_map]
 refine call_sum_walkG (wpAny_pyIter_list p.isList ?_);refine⟨s.heap.objs.size,_,_,_,_,_,fun i=>ns.getD i 0,rfl,Walks.list (A:=X.A.in1) (I.ok.hd hc) _ a (Nat.ne_of_lt hlt) _,⟨⟨_,Heap.get?_push_size _ rfl,rfl,rfl⟩,p.isList.push _⟩,?_,?_,fun h' tk t' hk=>?_⟩
 ·intro b hb
  show b<(s.heap.push _).objs.size;rw[Heap.size_push];simp only[List.mem_cons,List.not_mem_nil,or_false] at hb;rcases hb with e|e
  ·rw[e];exact Nat.lt_succ_self _
  ·rw[e];exact Nat.lt_succ_of_lt hlt
 ·intro i v hP
  exact gi rv i v (by simpa using hP)
 ·refine⟨.int ns.sum,H,I.kept (t':=tk) fun b o e=>hk b o (fun hm=>?_) (Heap.get?_push_of_some _ e),⟨t',?_⟩,q⟩
  ·have:b=s.heap.objs.size:=by simpa using hm
   exact absurd (this ▸ Heap.lt_size e) (Nat.lt_irrefl _)
  ·rw[List.size_toArray,hlen,jW ns _ (Nat.le_refl _),List.take_length]
theorem ie{prog:Program}{w:World}{A:Around}{E:Value->Shared->Prop}{s:Shared}{t sl:Addr}{items:Array Value}{vl vu:Value}{lo hi:Option Int}{Q:Value->Shared->Prop}(ht:IsTup s.heap t items)(hs:s.heap.IsSliceOf sl vl vu .none)(pl:IsPart vl lo)(pu:IsPart vu hi)(hw:HT.sIx items.size 0 lo=0/\HT.sIx items.size items.size hi=items.size)(h:Q (.ref t) s):wpAny (model prog w) A (getItem (.ref t) (.ref sl)) Q E s:=by
 obtain⟨os,hos,hcs,hds⟩:=id hs;have hTs:s.TypeIs (.ref sl) "slice":=⟨os,hos,hcs⟩;unfold getItem
 try with_reducible refine wpAny_holding ?_
 first|refine wpAny_bind (wpAny_pure ?_)|skip
 refine wpAny_bind (wpAny_sequenceKey ht.typeIs (by decide) ?_)
 refine wpAny_bind (wpAny_callSpecial?_slot (name:=Str.ofString "__getitem__") ht.typeIs PyProof.Rows.slot_tuple_getitem
  (wpAny_call_entry PyProof.Rows.slot_tuple_getitem ht.typeIs PyProof.Rows.entry_tuple_getitem ?_ (PyProof.Rows.args_tuple_getitem _ _)))
 show wpAny _ _ (Builtin.Tuple.tupleItemsOf (.ref t) >>= _) _ _ s;refine wpAny_bind (tupleItemsOf_ ht ?_);refine wpAny_bind (wpAny_typeOf hTs ?_);rw[if_pos (by decide)]
 refine wpAny_bind (HT.sliceApplied_gen hs pl pu ?_)
 have hyes:(((HT.sIx items.size 0 lo:Nat):Int) == 0 && (1:Int) == 1 && (HT.sIx items.size items.size hi-HT.sIx items.size 0 lo) == items.size)=true:=by
  rw[hw.1,hw.2];simp
 show wpAny _ _ (if (((HT.sIx items.size 0 lo:Nat):Int) == 0 && (1:Int) == 1 && (HT.sIx items.size items.size hi-HT.sIx items.size 0 lo) == items.size)=true then _ else _) _ _ s
 rw[if_pos hyes];unfold Builtin.Tuple.tupleIsExact;refine wpAny_bind (wpAny_bind (wpAny_typeOf ht.typeIs (wpAny_pure ?_)));rw[if_pos (by decide)]
 exact wpAny_bind (wpAny_rule (wpAny_pure ⟨_,rfl,wpAny_pure h⟩))
noncomputable def BC(K:W.Frag):V->Option Int->Option Int->Hp->VK->Prop:=fun x lo hi H Q=>∃a xs,x=.ref a/\SqT K H a xs /\
 if HT.sIx xs.length 0 lo=0/\HT.sIx xs.length xs.length hi=xs.length then Q (.ref a) H else ∀p,H p=none->Q (.ref p) (upd H p (.tup (oX xs lo hi)))
theorem zR:SlR X (BC X.K):=by
 intro pins s σ H x v vl vu lo hi sl Q I rx hs pl pu h;obtain⟨a,xs,rfl,hx,h⟩:=h;by_cases hw:HT.sIx xs.length 0 lo=0/\HT.sIx xs.length xs.length hi=xs.length
 ·rw[if_pos hw] at h
  cases rx;obtain⟨its,r,ht,hz⟩:=I.tuple hx;have hlen:its.toArray.size=xs.length:=by rw[List.size_toArray];exact r.length.symm
  exact⟨"tuple",_,PyProof.Rows.slot_tuple_getitem.lookup,ht.typeIs,ie ht hs pl pu (by rw[hlen];exact hw) ⟨.ref a,H,I,rfl,h⟩⟩
 ·rw[if_neg hw] at h
  exact C8 pins s σ H (.ref a) v vl vu lo hi sl Q I rx hs pl pu ⟨a,xs,rfl,hx,hw,h⟩
end
noncomputable def wdD(w:List Int):D:=.tup (w.map D.int)
theorem Du(w:List Int):noL (wdD w)=true:=by simp only[wdD,noL];exact vL w
theorem qp(ws:List (List Int)):Gr (ws.map wdD)=true:=jq fun d hd=>by
 obtain⟨w,_,rfl⟩:=List.mem_map.mp hd;exact Du w
structure SN(n:Nat)(H:Hp)(S:Addr)(ad:Nat->Addr)(fs:Nat->List D):Prop where
 s:H S=some (.lst ((List.range n).map fun i=>.ref (ad i)))
 l:∀i,i<n->LD H (ad i) (fs i)
open Classical in
noncomputable def eqF(H:Hp)(dx:D)(u:Value):Bool:=if h:∃d,∃x,bo x u/\Dat H d x then eqD (Classical.choose h) dx else false
theorem rH{H:Hp}{dx d:D}{x:V}{u:Value}(r:bo x u)(h:Dat H d x):eqF H dx u=eqD d dx:=by
 have hex:∃d,∃x,bo x u/\Dat H d x:=⟨d,x,r,h⟩;unfold eqF;rw[dif_pos hex];obtain⟨x',r',h'⟩:=Classical.choose_spec hex;have:x'=x:=r'.inj r;subst this;rw[Dat.inj h' h]
theorem jb{H:Hp}{dx:D}:∀ {ds:List D} {xs:List V} {its:List Value},ay H ds xs->aH xs its->its.any (eqF H dx)=ds.any fun d=>eqD d dx
 | [],xs,its,h,r=>by
  simp only[ay] at h;subst h;cases r;rfl
 |d::ds,xs,its,h,r=>by
  simp only[ay] at h;obtain⟨x,xr,rfl,h1,h2⟩:=h
  cases r with
  |cons r1 r2=>rw[List.any_cons,List.any_cons,rH r1 h1,jb h2 r2]
theorem lA{H:Hp}:∀ {ds:List D} {xs:List V} {its:List Value},ay H ds xs->aH xs its->∀u∈its,∃d x,d∈ds/\bo x u/\Dat H d x
 | [],xs,its,h,r,u,hu=>by simp only[ay] at h;subst h;cases r;cases hu
 |d::ds,xs,its,h,r,u,hu=>by
  simp only[ay] at h;obtain⟨x,xr,rfl,h1,h2⟩:=h
  cases r with
  |cons r1 r2=>
   rcases List.mem_cons.mp hu with rfl|hu
   ·exact⟨d,x,List.mem_cons_self ..,r1,h1⟩
   ·obtain⟨d',x',m,q⟩:=lA h2 r2 u hu
    exact⟨d',x',List.mem_cons_of_mem _ m,q⟩
theorem o0:∀ {ds:List D} {d:D},d∈ds->dep d<=cx ds
 |e::ds,d,h=>by
  simp only[cx];rcases List.mem_cons.mp h with rfl|h
  ·omega
  ·have:=o0 h;omega
noncomputable def inD(dx:D)(ds:List D):Bool:=ds.any fun d=>eqD d dx
noncomputable def DR(neg:Bool):R2:=fun x y H Q=>∃dx ds,Dat H dx x/\(Dat H (.lst ds) y\/Dat H (.tup ds) y)/\cx ds<=90/\Q (.bl (if neg then !inD dx ds else inD dx ds)) H
section
variable{X:Cx}
theorem yx(hu:X.A.units+100<cLine):OpR X (compareOp .In) (DR false):=by
 intro pins s σ H x y v u Q I rx ry h;obtain⟨dx,ds,hx,hy,hdp,q⟩:=h
 have he:∀ {xs:List V} {its:List Value},ay H ds xs->aH xs its->∀w,w∈its.toArray->SeqAt.EqAt X.A.in1 s w v (eqF H dx w):=fun hd r w hw=>by
  obtain⟨d,z,hm,rz,hz⟩:=lA hd r w (by simpa using hw)
  rw[rH rz hz];exact(jV I 90 d dx z x w v X.A.in1 (Nat.le_trans (o0 hm) hdp) (by show X.A.units+1+90<cLine;omega) hz hx rz rx).2.1
 rcases hy with hy|hy
 ·simp only[Dat] at hy
  obtain⟨a,xs,rfl,ha,hd⟩:=hy;cases ry;obtain⟨its,r,pl,_⟩:=I.list (SqL.of ha);refine SeqAt.in_listAt (eqF H dx) pl.isList (he hd r) ⟨.bl _,H,I,rfl,?_⟩;rw[show its.toArray.any (eqF H dx)=its.any (eqF H dx) by simp,jb hd r]
  exact q
 ·simp only[Dat] at hy
  obtain⟨a,xs,rfl,ha,hd⟩:=hy;cases ry;obtain⟨its,r,pl,_⟩:=I.tuple (SqT.of ha);refine SeqAt.in_tupleAt (eqF H dx) pl (he hd r) ⟨.bl _,H,I,rfl,?_⟩;rw[show its.toArray.any (eqF H dx)=its.any (eqF H dx) by simp,jb hd r]
  exact q
theorem gZ(hu:X.A.units+100<cLine):OpR X (compareOp .NotIn) (DR true):=by
 intro pins s σ H x y v u Q I rx ry h;obtain⟨dx,ds,hx,hy,hdp,q⟩:=h
 have he:∀ {xs:List V} {its:List Value},ay H ds xs->aH xs its->∀w,w∈its.toArray->SeqAt.EqAt X.A.in1 s w v (eqF H dx w):=fun hd r w hw=>by
  obtain⟨d,z,hm,rz,hz⟩:=lA hd r w (by simpa using hw)
  rw[rH rz hz];exact(jV I 90 d dx z x w v X.A.in1 (Nat.le_trans (o0 hm) hdp) (by show X.A.units+1+90<cLine;omega) hz hx rz rx).2.1
 rcases hy with hy|hy
 ·simp only[Dat] at hy
  obtain⟨a,xs,rfl,ha,hd⟩:=hy;cases ry;obtain⟨its,r,pl,_⟩:=I.list (SqL.of ha);refine SeqAt.notIn_listAt (eqF H dx) pl.isList (he hd r) ⟨.bl _,H,I,rfl,?_⟩;rw[show its.toArray.any (eqF H dx)=its.any (eqF H dx) by simp,jb hd r]
  exact q
 ·simp only[Dat] at hy
  obtain⟨a,xs,rfl,ha,hd⟩:=hy;cases ry;obtain⟨its,r,pl,_⟩:=I.tuple (SqT.of ha);refine SeqAt.notIn_tupleAt (eqF H dx) pl (he hd r) ⟨.bl _,H,I,rfl,?_⟩;rw[show its.toArray.any (eqF H dx)=its.any (eqF H dx) by simp,jb hd r]
  exact q
theorem vV(hc:X.calm=true):cm X (.builtin "sum") (fun xs H Q=>∃(a:Addr)(ns:List Int),xs=[.ref a]/\SqT X.K H a (ns.map V.int)/\Q (.int ns.sum) H):=by
 intro pins s σ H xs us Q I r h;obtain⟨a,ns,rfl,hq,q⟩:=h;obtain⟨u,rfl,rx⟩:=du r;cases rx;obtain⟨its,rv,p,hz⟩:=I.tuple hq
 have hlt:a<s.heap.objs.size:=by
  obtain⟨o,ho,_⟩:=p;exact Heap.lt_size ho
 have hlen:its.length=ns.length:=by rw[←rv.length,List.length_map]
 have p':s.heap.IsTuple a its.toArray:=p;refine call_sum_walkG (wpAny_pyIter_tuple p' ?_);refine⟨s.heap.objs.size,_,_,_,_,_,fun i=>ns.getD i 0,rfl,Walks.tuple (A:=X.A.in1) (I.ok.hd hc) _ a (Nat.ne_of_lt hlt) _,⟨⟨_,Heap.get?_push_size _ rfl,rfl,rfl⟩,p'.push _⟩,?_,?_,fun h' tk t' hk=>?_⟩
 ·intro b hb
  show b<(s.heap.push _).objs.size;rw[Heap.size_push];simp only[List.mem_cons,List.not_mem_nil,or_false] at hb;rcases hb with e|e
  ·rw[e];exact Nat.lt_succ_self _
  ·rw[e];exact Nat.lt_succ_of_lt hlt
 ·intro i v hP
  exact gi rv i v (by simpa using hP)
 ·refine⟨.int ns.sum,H,I.kept (t':=tk) fun b o e=>hk b o (fun hm=>?_) (Heap.get?_push_of_some _ e),⟨t',?_⟩,q⟩
  ·have:b=s.heap.objs.size:=by simpa using hm
   exact absurd (this ▸ Heap.lt_size e) (Nat.lt_irrefl _)
  ·rw[List.size_toArray,hlen,jW ns _ (Nat.le_refl _),List.take_length]
end
end L2
namespace L2
open PySem PySem.Spec PyProof.Rows
mutual
noncomputable def pyD:D->PyData
 |.non=>.none
 |.bl b=>.bool b
 |.int i=>.int i
 |.str x=>.str x
 |.tup ds=>.tuple (fe ds)
 |.lst ds=>.list (fe ds)
 |.dk ks=>.dict (ks.map fun k=>(.int k,.int 1))
 |.dt ks=>.dict (ks.map fun k=>(.tuple (k.map .int),.int 1))
noncomputable def fe:List D->List PyData
 | []=>[]
 |d::ds=>pyD d::fe ds
end
noncomputable def kw(d:D):Str:=(pyD d).shown
theorem qg{P:Program}{w:World}{h:Heap}:∀ {ks:List Int} {vs:List (Key×Value)} {es:List DictEntry},KV (dkO ks) vs->Pairs (hJ P w) es vs ->
  ReadsAll h (es.map (·.key)) (ks.map PyData.int) []/\ReadsAll h (es.map (·.val)) (ks.map fun _=>PyData.int 1) []
 | [],vs,es,r,p=>by
  cases r;cases p;exact⟨.nil,.nil⟩
 |k::ks,vs,es,r,p=>by
  cases r with
  |cons r1 r2=>
   cases p with
   |cons hk hv p2=>
    obtain⟨e1,e2⟩:=r1;obtain⟨q1,q2⟩:=qg r2 p2;dsimp only at e1 e2;rw[←e1] at hk
    rcases bH (k:=Sum.inl k) hk with⟨i,t,e3,e4⟩|⟨x,t,e3,e4⟩
    ·cases e3
     obtain⟨u,e2⟩:=e2;refine⟨?_,?_⟩
     ·show ReadsAll h (_::_) (_::_) ([]++[])
      refine .cons ?_ q1;dsimp only;rw[e4];exact .int k t
     ·show ReadsAll h (_::_) (_::_) ([]++[])
      refine .cons ?_ q2;dsimp only;rw[hv,e2];exact .int 1 u
    ·cases e3
theorem lR{h:Heap}:∀ {k:List Int} {its:List Value},aH ((k.map Sum.inl).map kV) its->ReadsAll h its (k.map PyData.int) []
 | [],its,r=>by cases r;exact .nil
 |i::k,its,r=>by
  cases r with
  |cons r1 r2=>
   obtain⟨u,rfl⟩:=r1;exact ReadsAll.cons (as:=[]) (bs:=[]) (.int i u) (lR r2)
section
variable{X:Cx}{pins:List (Addr×Obj)}{σ:St}{H:Hp}{s:Shared}
theorem qr(I:Inv X pins σ H s):∀ {ks:List (List Int)} {xs:List (List Key×Addr×Value)},Paired (fun(p:List Key×V) (q:List Key×Addr×Value)=>p.1=q.1/\H q.2.1=some (.tup (p.1.map kV))/\bo p.2 q.2.2) (dtO ks) xs ->
  ReadsAll s.heap ((xs.map (entryOfKey (tupleKind (hJ X.prog X.w)))).map (·.key)) (ks.map fun k=>PyData.tuple (k.map .int)) []/\ReadsAll s.heap ((xs.map (entryOfKey (tupleKind (hJ X.prog X.w)))).map (·.val)) (ks.map fun _=>PyData.int 1) []
 | [],xs,r=>by cases r;exact⟨.nil,.nil⟩
 |k::ks,xs,r=>by
  cases r with
  |cons r1 r2=>
   obtain⟨e1,e2,e3⟩:=r1;obtain⟨q1,q2⟩:=qr I r2;obtain⟨its,rv,⟨o,h1,h2,n,h3⟩,_⟩:=I.tuple (SqT.of (K:=X.K) e2);obtain⟨u,e3⟩:=e3;refine⟨?_,?_⟩
   ·show ReadsAll s.heap (_::_) (_::_) ([]++[])
    refine .cons ?_ q1;show Reads s.heap (.ref _) (.tuple _) [];exact .tuple h1 h2 h3 (by simpa using lR rv)
   ·show ReadsAll s.heap (_::_) (_::_) ([]++[])
    refine .cons ?_ q2;dsimp only[entryOfKey];rw[e3];exact .int 1 u
mutual
theorem lc(I:Inv X pins σ H s):∀ {d:D} {v:V} {u:Value},Dat H d v->bo v u->∃as,Reads s.heap u (pyD d) as/\∀b∈as,∃o,H b=some o
 |.non,v,u,h,r=>by
  simp only[Dat] at h;subst h;cases r;exact⟨_,.none,by simp⟩
 |.bl b,v,u,h,r=>by
  simp only[Dat] at h;subst h;cases r;exact⟨_,.bool b,by simp⟩
 |.int i,v,u,h,r=>by
  simp only[Dat] at h;subst h;obtain⟨t,rfl⟩:=r;exact⟨_,.int i t,by simp⟩
 |.str x,v,u,h,r=>by
  simp only[Dat] at h;subst h;obtain⟨t,rfl⟩:=r;exact⟨_,.str x t,by simp⟩
 |.tup ds,v,u,h,r=>by
  simp only[Dat] at h;obtain⟨a,xs,rfl,ha,hd⟩:=h;cases r;obtain⟨its,rv,⟨o,h1,h2,n,h3⟩,_⟩:=I.tuple (SqT.of ha);obtain⟨as,hr,hm⟩:=gK I hd rv;exact⟨_,.tuple h1 h2 h3 (by simpa using hr),hm⟩
 |.lst ds,v,u,h,r=>by
  simp only[Dat] at h;obtain⟨a,xs,rfl,ha,hd⟩:=h;cases r;obtain⟨its,rv,⟨o,n,h1,h2,h3,h4⟩,_⟩:=I.list (SqL.of ha);obtain⟨as,hr,hm⟩:=gK I hd rv;refine⟨_,.list h1 h2 h4 (by simpa using hr),fun b hb=>?_⟩
  rcases List.mem_cons.mp hb with rfl|hb
  ·exact⟨_,ha⟩
  ·exact hm b hb
 |.dk ks,v,u,h,r=>by
  simp only[Dat] at h;obtain⟨a,xs,rfl,ha,rfl⟩:=h;cases r;obtain⟨_,_,vs,kv,o,es,ep,e1,⟨c1,_,_⟩,e2,_,p,_⟩:=I.hok _ _ ha;obtain⟨q1,q2⟩:=qg (h:=s.heap) kv p;refine⟨_,.dict (kvs:=xs.map fun k=>(PyData.int k,PyData.int 1)) e1 c1 e2 (by simpa[List.map_map,Function.comp_def] using q1) (by simpa[List.map_map,Function.comp_def] using q2),fun b hb=>?_⟩
  simp only[List.append_nil,List.mem_singleton] at hb;subst hb;exact⟨_,ha⟩
 |.dt ks,v,u,h,r=>by
  simp only[Dat] at h;obtain⟨a,xs,rfl,ha,rfl⟩:=h;cases r;obtain⟨_,_,ys,pr,o,es,ep,e1,⟨c1,_,_⟩,e2,e3,_⟩:=I.hok _ _ ha;obtain⟨q1,q2⟩:=qr I pr;rw[←e3] at q1 q2
  refine⟨_,.dict (kvs:=xs.map fun k:List Int=>(PyData.tuple (k.map PyData.int),PyData.int 1)) e1 c1 e2 (by simpa[List.map_map,Function.comp_def] using q1) (by simpa[List.map_map,Function.comp_def] using q2),fun b hb=>?_⟩
  simp only[List.append_nil,List.mem_singleton] at hb;subst hb;exact⟨_,ha⟩
theorem gK(I:Inv X pins σ H s):∀ {ds:List D} {xs:List V} {us:List Value},ay H ds xs->aH xs us->∃as,ReadsAll s.heap us (fe ds) as/\∀b∈as,∃o,H b=some o
 | [],xs,us,h,r=>by
  simp only[ay] at h;subst h;cases r;exact⟨_,.nil,by simp⟩
 |d::ds,xs,us,h,r=>by
  simp only[ay] at h;obtain⟨x,xr,rfl,h1,h2⟩:=h
  cases r with
  |cons r1 r2=>
   obtain⟨as,a1,m1⟩:=lc I h1 r1;obtain⟨bs,b1,m2⟩:=gK I h2 r2;exact⟨_,.cons a1 b1,fun b hb=>(List.mem_append.mp hb).elim (m1 b) (m2 b)⟩
end
end
mutual
noncomputable def wt:D->Nat
 |.non=>4
 |.bl _=>5
 |.int i=>i.natAbs.log2+3
 |.str x=>(reprText x).length
 |.tup ds=>wts ds+3
 |.lst ds=>wts ds+2
 |.dk ks=>(ks.map fun k=>k.natAbs.log2+10).sum+2
 |.dt ks=>(ks.map fun k=>(k.map fun i=>i.natAbs.log2+5).sum+10).sum+2
noncomputable def wts:List D->Nat
 | []=>0
 |d::ds=>wt d+2+wts ds
end
mutual
noncomputable def fit:D->Bool
 |.int i=>decide (i.natAbs.log2<1920)
 |.tup ds=>fits ds
 |.lst ds=>fits ds
 |.dk ks=>ks.all fun i=>decide (i.natAbs.log2<1920)
 |.dt ks=>ks.all fun k=>k.all fun i=>decide (i.natAbs.log2<1920)
 |_=>true
noncomputable def fits:List D->Bool
 | []=>true
 |d::ds=>fit d && fits ds
end
theorem mY:∀ {k:List Int},(k.all fun i=>decide (i.natAbs.log2<1920))=true->PyData.showableAll (k.map .int)=true
 | [],_=>rfl
 |i::k,h=>by
  simp only[List.all_cons,Bool.and_eq_true] at h;simp only[List.map_cons,PyData.showableAll,PyData.showable,Bool.and_eq_true];exact⟨h.1,mY h.2⟩
theorem va:∀ {ks:List Int},(ks.all fun i=>decide (i.natAbs.log2<1920))=true->PyData.showableKv (ks.map fun k=>(PyData.int k,PyData.int 1))=true
 | [],_=>rfl
 |i::k,h=>by
  simp only[List.all_cons,Bool.and_eq_true] at h;simp only[List.map_cons,PyData.showableKv,PyData.showable,Bool.and_eq_true];exact⟨⟨h.1,by decide⟩,va h.2⟩
theorem uh:∀ {ks:List (List Int)},(ks.all fun k=>k.all fun i=>decide (i.natAbs.log2<1920))=true->PyData.showableKv (ks.map fun k=>(PyData.tuple (k.map .int),PyData.int 1))=true
 | [],_=>rfl
 |i::k,h=>by
  simp only[List.all_cons,Bool.and_eq_true] at h;simp only[List.map_cons,PyData.showableKv,PyData.showable,Bool.and_eq_true];exact⟨⟨mY h.1,by decide⟩,uh h.2⟩
mutual
theorem lu:∀ {d:D},fit d=true->(pyD d).showable=true
 |.non,h=>rfl
 |.bl b,h=>rfl
 |.int i,h=>h
 |.str x,h=>rfl
 |.tup ds,h=>jy (ds:=ds) (by simpa only[fit] using h)
 |.lst ds,h=>jy (ds:=ds) (by simpa only[fit] using h)
 |.dk ks,h=>va (ks:=ks) (by simpa only[fit] using h)
 |.dt ks,h=>uh (ks:=ks) (by simpa only[fit] using h)
theorem jy:∀ {ds:List D},fits ds=true->PyData.showableAll (fe ds)=true
 | [],h=>rfl
 |d::ds,h=>by
  simp only[fits,Bool.and_eq_true] at h;simp only[fe,PyData.showableAll,Bool.and_eq_true];exact⟨lu h.1,jy h.2⟩
end
mutual
theorem tT:∀(d:D),dep d<=1000->(pyD d).hasDict=false/\(pyD d).depth=dep d
 |.non,_=>by simp[pyD,PyData.depth,PyData.hasDict,dep]
 |.bl b,_=>by simp[pyD,PyData.depth,PyData.hasDict,dep]
 |.int i,_=>by simp[pyD,PyData.depth,PyData.hasDict,dep]
 |.str x,_=>by simp[pyD,PyData.depth,PyData.hasDict,dep]
 |.tup ds,h=>by
  simp only[dep] at h;obtain⟨a,b⟩:=lg ds (by omega)
  simp only[pyD,PyData.depth,PyData.hasDict,dep,a,b,true_and]
 |.lst ds,h=>by
  simp only[dep] at h;obtain⟨a,b⟩:=lg ds (by omega)
  simp only[pyD,PyData.depth,PyData.hasDict,dep,a,b,true_and]
 |.dk ks,h=>by simp[dep] at h
 |.dt ks,h=>by simp[dep] at h
theorem lg:∀(ds:List D),cx ds<=1000->PyData.hasDictAll (fe ds)=false/\PyData.depthAll (fe ds)=cx ds
 | [],_=>by simp[fe,PyData.depthAll,PyData.hasDictAll,cx]
 |d::ds,h=>by
  simp only[cx] at h;obtain⟨a,b⟩:=tT d (by omega)
  obtain⟨a',b'⟩:=lg ds (by omega)
  simp only[fe,PyData.hasDictAll,PyData.depthAll,cx,a,a',b,b',Bool.or_self,true_and]
end
theorem kc:∀(ts:List Str)(k:Nat)(acc:Str),(textFrom k acc ts).length<=acc.length+(ts.map fun t=>t.length+2).sum
 | [],k,acc=>by simp[textFrom]
 |t::ts,k,acc=>by
  have ih:=kc ts (k+1) (acc++(if k>0 then ", " else "":String)++t)
  have e:(acc++(if k>0 then ", " else "":String)++t).length<=acc.length+2+t.length:=by
   rw[strLen_append,strLen_append];have:(((if k>0 then ", " else "":String):Str)).length<=2:=by split<;>decide
   omega
  simp only[textFrom,List.map_cons,List.sum_cons];omega
theorem je:∀ts:List Str,(Str.join ", " ts).length<=(ts.map fun t=>t.length+2).sum
 | []=>by simp[Str.join];decide
 | [x]=>by
  show x.length<=_;simp
 |x::y::r=>by
  have ih:=je (y::r);show (x ++ ", "++Str.join ", " (y::r)).length<=_;rw[strLen_append,strLen_append];have e2:((", ":String):Str).length=2:=rfl;simp only[List.map_cons,List.sum_cons] at ih ⊢;omega
theorem ky(i:Int):((toString i:String):Str).length<=i.natAbs.log2+3:=by
 have h:=int_text_length_le (a:=i) (k:=i.natAbs.log2+1) (Nat.succ_pos _) (Nat.lt_succ_self _);rw[show ((toString i:String):Str).length=(toString i).length from PySem.ofString_length _]
 omega
theorem qz:∀(k:List Int),((PyData.shownAll (k.map .int)).map fun t=>t.length+2).sum<=(k.map fun i=>i.natAbs.log2+5).sum
 | []=>by simp[PyData.shownAll]
 |i::k=>by
  have h1:=ky i;have h2:=qz k;simp only[List.map_cons,PyData.shownAll,PyData.shown,List.sum_cons];omega
theorem pz(ps:List Str):(dictText ps).length<=(ps.map fun t=>t.length+2).sum+2:=by
 unfold dictText;rw[strLen_append,strLen_append];have h1:=je ps;have h2:(("{":String):Str).length=1:=rfl;have h3:(("}":String):Str).length=1:=rfl;omega
theorem BN:∀(ks:List Int),((PyData.shownKv (ks.map fun k=>(PyData.int k,PyData.int 1))).map fun t=>t.length+2).sum<=(ks.map fun k=>k.natAbs.log2+10).sum
 | []=>by simp[PyData.shownKv]
 |i::k=>by
  have h1:=ky i;have h2:=BN k;have h3:=ky 1;have h4:((1:Int).natAbs).log2=0:=by decide
  have h5:((": ":String):Str).length=2:=rfl;simp only[List.map_cons,PyData.shownKv,PyData.shown,List.sum_cons,strLen_append];have h6:((toString (1:Int):String):Str).length=1:=rfl;omega
theorem B0:∀(ks:List (List Int)),((PyData.shownKv (ks.map fun k=>(PyData.tuple (k.map .int),PyData.int 1))).map fun t=>t.length+2).sum<=(ks.map fun k=>(k.map fun i=>i.natAbs.log2+5).sum+10).sum
 | []=>by simp[PyData.shownKv]
 |i::k=>by
  have h1:=qz i;have h2:=B0 k;have h5:((": ":String):Str).length=2:=rfl
  have h7:(tupleText (PyData.shownAll (i.map .int))).length<=(i.map fun i=>i.natAbs.log2+5).sum+3:=by
   unfold tupleText;rw[strLen_append,strLen_append];have h1:=je (PyData.shownAll (i.map .int));have h2:(("(":String):Str).length=1:=rfl;have h3:(((if (PyData.shownAll (i.map .int)).length == 1 then ",)" else ")":String)):Str).length<=2:=by split<;>decide
   omega
  simp only[List.map_cons,PyData.shownKv,PyData.shown,List.sum_cons,strLen_append];have h6:((toString (1:Int):String):Str).length=1:=rfl;omega
mutual
theorem zA:∀(d:D),(pyD d).shown.length<=wt d
 |.non=>by show (("None":String):Str).length<=4;decide
 |.bl b=>by cases b<;>(show (_:Str).length<=5)<;>decide
 |.int i=>ky i
 |.str x=>Nat.le_refl _
 |.tup ds=>by
  have h:=tp ds;show (tupleText (PyData.shownAll (fe ds))).length<=wts ds+3;unfold tupleText;rw[strLen_append,strLen_append];have h1:=je (PyData.shownAll (fe ds));have h2:(("(":String):Str).length=1:=rfl;have h3:(((if (PyData.shownAll (fe ds)).length == 1 then ",)" else ")":String)):Str).length<=2:=by split<;>decide
  omega
 |.lst ds=>by
  have h:=tp ds;show (listText (PyData.shownAll (fe ds))).length<=wts ds+2;unfold listText;rw[strLen_append];have h1:=kc (PyData.shownAll (fe ds)) 0 "[";have h2:(("[":String):Str).length=1:=rfl;have h3:(("]":String):Str).length=1:=rfl;omega
 |.dk ks=>Nat.le_trans (pz _) (Nat.add_le_add_right (BN ks) 2)
 |.dt ks=>Nat.le_trans (pz _) (Nat.add_le_add_right (B0 ks) 2)
theorem tp:∀(ds:List D),((PyData.shownAll (fe ds)).map fun t=>t.length+2).sum<=wts ds
 | []=>by simp[fe,PyData.shownAll,wts]
 |d::ds=>by
  have h1:=zA d;have h2:=tp ds;simp only[fe,PyData.shownAll,List.map_cons,List.sum_cons,wts];omega
end
section
variable{X:Cx}
theorem ll(hg:X.A.guards=some [])(hu:X.A.units+100<cLine):cm X (.builtin "repr") (fun xs H Q=>∃(a:Addr)(d:D),xs=[.ref a]/\Dat H d (.ref a)/\dep d<=90/\fit d=true/\wt d<=1000000/\Q (.str (kw d)) H):=by
 intro pins s σ H xs us Q I r h;obtain⟨a,d,rfl,hd,hdp,hf,hw,q⟩:=h;obtain⟨u,rfl,rx⟩:=du r;have ru:=rx;cases rx;obtain⟨as,hr,_⟩:=lc I hd ru;obtain⟨nd,dp⟩:=tT d (by omega)
 refine repr_of_reads' hr (lu hf) (fun z=>by rw[nd] at z;cases z) hg (by rw[dp];omega) (fun _ _ e=>e) (fun h' t tk hk=>?_) (Nat.le_trans (zA d) (Nat.le_trans hw (by decide)))
 exact⟨.str (kw d),H,I.kept (t':=tk) hk,⟨t,rfl⟩,q⟩
theorem gg(hg:X.A.guards=some [])(hu:X.A.units+100<cLine)(hs:(X.K.lookup sysModules).isSome=true):cm X (.builtin "repr") (fun xs H Q=>∃(a:Addr)(d:D),xs=[.ref a]/\Dat H d (.ref a)/\(pyD d).depth<=90/\fit d=true/\wt d<=1000000/\Q (.str (kw d)) H):=by
 intro pins s σ H xs us Q I r h;obtain⟨a,d,rfl,hd,hdp,hf,hw,q⟩:=h;obtain⟨u,rfl,rx⟩:=du r;have ru:=rx;cases rx;obtain⟨as,hr,hm⟩:=lc I hd ru
 have hn:sysModules ∉ as:=fun z=>by
  obtain⟨o,e⟩:=hm _ z;obtain⟨ob,e2⟩:=Option.isSome_iff_exists.mp hs;have h1:=I.ok.mod.kin _ _ e2;have h2:=I.base.free _ _ (I.ok.bs _ _ h1).1 (I.ok.bs _ _ h1).2 (I.ok.noex _ _ h1);rw[e] at h2;cases h2
 refine repr_of_reads' hr (lu hf) (fun _=>hn) hg (by omega) (fun _ _ e=>e) (fun h' t tk hk=>?_) (Nat.le_trans (zA d) (Nat.le_trans hw (by decide)))
 exact⟨.str (kw d),H,I.kept (t':=tk) hk,⟨t,rfl⟩,q⟩
end
section
variable{prog:Program}{w:World}{A:Around}{E:Value->Shared->Prop}
theorem EL{it a:Addr}{vs:Array Value}(ha:a≠it)(n:Nat):∀(i:Nat)(s:Shared)(Q:List Value->Shared->Prop),s.heap.IsListIter it a i->s.heap.IsList a vs->i+n<=vs.size ->
  (∀h',h'.IsListIter it a (i+n)->Heap.SameBut it s.heap h'->Q ((vs.toList.drop i).take n) { s with heap:=h' })->wpAny (model prog w) A (draw (.ref it) n) Q E s:=by
 induction n with
 |zero=>
  intro i s Q st ls le q;refine wpAny_pure ?_;have:=q s.heap st (Heap.SameBut.refl ..);simpa using this
 |succ n ih=>
  intro i s Q st ls le q;have lt:i<vs.size:=by omega
  refine wpAny_bind (m:=pyNext (.ref it)) (wpAny_pyNext_list_item st ls (x:=vs[i]) (by simp[lt]) fun h1 st1 sb1=>?_)
  refine wpAny_bind (wpAny_holding (ih (i+1) _ _ st1 (ls.extBut sb1.extBut ha) (by omega) fun h2 st2 sb2=>wpAny_pure ?_))
  have e1:vs.toList.drop i=vs[i]::vs.toList.drop (i+1):=by simp[List.drop_eq_getElem_cons,lt]
  have q2:=q h2 (by rw[←Nat.add_assoc,Nat.add_right_comm];exact st2) (sb1.trans sb2)
  rwa [e1,List.take_succ_cons] at q2
theorem Ad{a:Addr}{vs:Array Value}{s:Shared}{Q:List Value->Shared->Prop}(hh:A.handled=none)(ls:s.heap.IsList a vs)(q:∀h',Heap.ExtBut s.heap.objs.size s.heap h'->Q vs.toList { s with heap:=h' }):wpAny (model prog w) A (unpackItems (.ref a) vs.size none) Q E s:=by
 have ne:a≠s.heap.objs.size:=by
  obtain⟨o,ho,_⟩:=ls;exact Nat.ne_of_lt (Heap.lt_size ho)
 unfold unpackItems notIterableAtAll;refine wpAny_bind (wpAny_bind (wpAny_specialOf ls.typeIs PySem.F.slot_list_iter.lookup (wpAny_pure ?_)));simp only[Option.isNone_some,Bool.false_eq_true,if_false];refine wpAny_bind (wpAny_holding (wpAny_pyIter_list ls (wpAny_bind (wpAny_holding (EL ne vs.size 0 _ _ ⟨_,Heap.get?_push_size _ rfl,rfl,rfl⟩ (ls.push _) (by omega) fun h1 st1 sb1=>?_)))))
 have eall:List.take vs.size (List.drop 0 vs.toList)=vs.toList:=by rw[List.drop_zero,List.take_of_length_le (by simp)]
 rw[eall,if_neg (by simp)]
 refine wpAny_bind (wpAny_holding (wpAny_pyNext_list_end hh st1 ((ls.push _).extBut sb1.extBut ne) (by simp) fun h2 eb=>?_))
 simp only[Option.isSome_none,Bool.false_eq_true,if_false];exact wpAny_pure (q h2 fun b o hb e=>eb b o hb (sb1.extBut b o hb (Heap.get?_push_of_some _ e)))
end
section
variable{X:Cx}{pos:Pos}
noncomputable def E7(K:W.Frag)(n:Nat)(t:TGs):TG:=fun v σ H Q=>∃a xs,v=.ref a/\SqL K H a xs/\xs.length=n/\t xs σ H Q
theorem Ct{es:List Expr}{k:Nat}{t:TGs}{n:Nat}(hc:X.calm=true)(h:PGs X es t)(hn:(assignEach es X.env).length=n:=by rfl)(hst:(assignEach es X.env).findIdx? (·.1)=none:=by rfl):PG X (.Tuple es k pos) (E7 X.K n t):=by
 intro pins s σ H v u Q I r hw;obtain⟨a,xs,e1,hq,hl,hw⟩:=hw;subst e1;cases r;obtain⟨its,rv,ht,hz⟩:=I.list hq;have hlen:(assignEach es X.env).length=its.toArray.size:=by simp[hn,←hl,rv.length]
 rw[assign_Tuple];refine wpAny_bind (wpAny_standAt ?_);unfold unpack;rw[hlen,hst];refine wpAny_bind (wpAny_holding (Ad (I.ok.hd hc) ht.isList fun h' hx=>?_));have I1:Inv X pins σ H { s with heap:=h' }:=I.kept (t':=s.toks) fun b o e=>hx b o (Nat.ne_of_lt (Heap.lt_size e)) e;exact h pins _ σ H xs _ Q I1 (by simpa using rv) hw
theorem wg(K:W.Frag)(h:X.K=K)(hu:X.A.units+100<cLine):OpR X (compareOp .NotEq) (fun x y H Q=>∃a b xs,x=.ref a/\y=.ref b/\SqL K H a xs/\SqL K H b []/\Q (.bl (!xs.isEmpty)) H):=h ▸ zr hu
end
section
variable{X:Cx}
theorem bj{es fs x1 pos te t}(ha:PE X (.Tuple fs x1 pos) te)(hr:PA X es t):PA X (.Tuple fs x1 pos::es) (pP te t):=ac ha hr (by rfl)
theorem ly{es fs pos te t}(ha:PE X (.List fs pos) te)(hr:PA X es t):PA X (.List fs pos::es) (pP te t):=ac ha hr (by rfl)
theorem aq{es c j pos te t}(ha:PE X (.Constant c j pos) te)(hr:PA X es t):PA X (.Constant c j pos::es) (pP te t):=ac ha hr (by rfl)
end
end L2
namespace L2
open PySem PySem.Spec PySem.Calls PyProof.Rows
noncomputable def Frz(H H':Hp):Prop:=∀b o u,H b=some (.frz o u)->H' b=some (.frz o u)
noncomputable def FR(K:W.Frag)(c P:Addr):Bool:=match K.lookup c with
 | some o=>(o.cls == .type "code") && c != P && (match o.data with
  | .fields vs=>(vs[11]? == some (.ref P)) && (match vs.getD 18 .none,vs.getD 7 .none,vs.getD 9 .none,vs.getD 10 .none with
   |.str _ _,.int _ _,.bool _,.int _ _=>true
   |_,_,_,_=>false)
  |_=>false)
 |none=>false
structure Clo(P:Program)(w:World)(K:W.Frag)(mg:Str->Option Value)(base:Heap)(H₀:Hp)(k:Nat)(f:Addr)(n:Nat)(sp:Sp):Prop where
 fn:(∃(oc:Value)(od:Option Addr)(fd:FuncData) (sl:Array (Option Value)) (u:HO),H₀ f=some (.frz ⟨oc,od,.func fd,sl⟩ u))\/∃(oc:Value)(od:Option Addr)(fd:FuncData) (sl:Array (Option Value)),K.lookup f=some ⟨oc,od,.func fd,sl⟩
 len:∀vs H Q E,sp vs H Q E->vs.length=n
 run:∀(A:Around)(outer:List Env)(s:Shared)(H:Hp)(us:List Value)(vs:List V)(Q:VK)(E:XK),d6 k A->sn P w K mg base A outer s H->Frz H₀ H->aH vs us->sp vs H Q E ->
  codeAny (model P w) A (.call (.ref f) ⟨us,[]⟩) (CR CX0 outer P w H s Q E) s
structure EI(ps cs:List Str)(sc:Scope):Prop where
 kind:sc.kind=.function
 co:sc.isCoroutine=false
 gen:sc.isGenerator=false
 nd:(ps++cs).Nodup
 par:∀x∈ps,sc.names.lookup x=some .local
 free:∀x∈cs,sc.names.lookup x=some .free
 has:∀y∈sc.names,y.2≠.cell/\(y.2=.free->y.1∈cs)
structure Gi(K:W.Frag)(x qual:Str)(st:Stmt)(f:Addr)(fd:FuncData)(c p:Addr):Prop where
 ex:∃(oc:Value)(od:Option Addr)(kV doc pm:Value)(an:Option Addr)(ct:Value) (osl:Array (Option Value)),
  fd=W.fnOf x qual (defArgs st) (defBody st) (defScope st) .none kV doc pm an (.ref c) ct/\K.lookup f=some ⟨oc,od,.func fd,osl⟩/\W.codeIn K (.ref c) qual=true
 tab:(x,c,p)∈kt K
 hd:FR K c p=true
noncomputable def ndB:List Nat->Bool
 | []=>true
 |a::r=>!(r.contains a) && ndB r
theorem vi{α:Type}(f:α->Nat):∀ {l:List α} {q:α},ndB (l.map f)=true->q∈l->l.find? (fun t=>f t == f q)=some q
 | [],_,_,m=>nomatch m
 |a::r,q,h,m=>by
  rw[List.map_cons,ndB,Bool.and_eq_true] at h;obtain⟨h1,h2⟩:=h;rcases List.mem_cons.mp m with e|m
  ·subst e
   rw[List.find?_cons_of_pos (by simp)]
  ·have ne:(f a == f q)=false:=by
    cases z:f a == f q with
    |false=>rfl
    |true=>
     have z':f a=f q:=eq_of_beq z
     have:(r.map f).contains (f a)=true:=by
      rw[z'];simpa using⟨q,m,rfl⟩
     rw[this] at h1;cases h1
   rw[List.find?_cons_of_neg (by rw[ne];simp)]
   exact vi f h2 m
noncomputable def mx(K:W.Frag)(b:Addr):Option HO:=((kt K).find? fun t=>t.2.2 == b).map fun t=>HO.tbl #[.str (t.1 ++ ".<locals>." ++ "<lambda>") 0]
theorem lZ{K:W.Frag}{b:Addr}{o:HO}(e:mx K b=some o):∃t∈kt K,t.2.2=b/\o=HO.tbl #[.str (t.1 ++ ".<locals>." ++ "<lambda>") 0]:=by
 unfold mx at e
 cases q:(kt K).find? (fun t=>t.2.2 == b) with
 |none=>rw[q] at e;cases e
 |some t=>
  rw[q] at e;cases e;have:=List.find?_some q;exact⟨t,List.mem_of_find?_eq_some q,eq_of_beq this,rfl⟩
noncomputable def yF(K:W.Frag)(names:List Str):Bool:=W.noTabs K && ndB ((kt K).map fun t=>t.2.2) && (kt K).all fun t=>names.contains t.1
theorem As{K:W.Frag}{t:Str×Addr×Addr}(h:t∈kt K):W.tabIn K t.1=some t.2:=by
 unfold kt at h;split at h
 ·obtain⟨e,_,q⟩:=List.mem_filterMap.mp h
  split at q
  ·rename_i x tk hx
   cases z:W.tabIn K x with
   |none=>rw[z] at q;cases q
   |some r=>rw[z] at q;cases q;exact z
  ·cases q
 ·cases h
theorem vF{P:Program}{w:World}{K:W.Frag}{mg mb:Str->Option Value}{CX:CXT}{k:Nat}{fa a:Addr}{fd:FuncData}{x:Str}{sp:Sp}{s₁:Shared}{vs:List Value}{ns:List Int}(KX:K.In s₁.heap)(hns:s₁.heap.Ns mainGlobals mg)(hb:s₁.heap.Ns builtinsNs mb)(hbb:∀x:Str,x≠"__name__"->mb x=bootBuiltins x)(hlim:s₁.heap.NoLimit)(hg:s₁.gens=#[])(hbm:∃bm ob,mg "__builtins__"=some (.ref bm)/\bm≠builtinsNs/\s₁.heap.get? bm=some ob/\ob.cls=.type "module"/\ob.dict=some builtinsNs/\ob.data=.plain)(hT:∀t∈kt K,W.CodeHd s₁.heap t.2.1 t.2.2/\s₁.heap.get? t.2.2=some (W.tabObj #[]))(nt:W.noTabs K=true)(nd:ndB ((kt K).map fun t=>t.2.2)=true)(ha:s₁.heap.get? a=some { cls:=.type "list",data:=.seq vs.toArray })(hi:IntsAre vs ns)(hl:ns.length<=sizeLine)(hr:d6 k callerA)(F:∀base:Heap,a7 P w K mg base CX k fa fd [x] sp)(hbind:∀(s:Shared)(u:Value),BindsTo s fd ⟨[u],[]⟩ [(x,u)])(hsp:∀H:Hp,SqL K H a (ns.map V.int)->sp [.ref a] H (fun v _=>v=.bl true) fun _ _ _=>False)(hCX:∀H e s',CX [] H s₁ (fun _ _ _=>False) e s'->False):
  codeAny (model P w) callerA (.call (.ref fa) ⟨[.ref a],[]⟩) (fun r s'=>r=.ok (.ret (.bool true))/\OldK s₁.heap s'.heap/\s'.os=s₁.os/\AllBare s'.gens) s₁:=by
 have rv:=nj hi;have lenV:=hi.length
 have tabNot:∀b o,K.lookup b=some o->mx K b=none:=fun b o e=>by
  cases q:mx K b with
  |none=>rfl
  |some u=>
   obtain⟨t,ht,rfl,_⟩:=lZ q;have e1:=(hT t ht).2;rw[KX _ _ e] at e1;cases e1;have h2:=List.all_eq_true.mp nt _ (W.mem_of_lookupK e);exact absurd (show false=true from h2) Bool.false_ne_true
 have tabA:mx K a=none:=by
  cases q:mx K a with
  |none=>rfl
  |some u=>
   obtain⟨t,ht,e,_⟩:=lZ q;have e1:=(hT t ht).2;rw[e,ha] at e1;cases e1
 have core:∀H:Hp,(∀b,b≠a->H b=mx K b)->(H a=none\/(K.lookup a=none/\H a=some (.frz { cls:=.type "list",data:=.seq vs.toArray } (.lst (ns.map V.int)))))->SqL K H a (ns.map V.int) ->
   codeAny (model P w) callerA (.call (.ref fa) ⟨[.ref a],[]⟩) (fun r s'=>r=.ok (.ret (.bool true))/\OldK s₁.heap s'.heap/\s'.os=s₁.os/\AllBare s'.gens) s₁:=by
  intro H hH hA hS
  have what:∀b u,H b=some u->(b=a/\K.lookup a=none/\u=.frz { cls:=.type "list",data:=.seq vs.toArray } (.lst (ns.map V.int)))\/∃t∈kt K,t.2.2=b/\u=HO.tbl #[.str (t.1 ++ ".<locals>." ++ "<lambda>") 0]:=fun b u e=>by
   by_cases hb:b=a
   ·subst hb
    rcases hA with z|⟨z1,z2⟩
    ·rw[z] at e;cases e
    ·rw[z2] at e;cases e
     exact .inl ⟨rfl,z1,rfl⟩
   ·rw[hH b hb] at e
    exact .inr (lZ e)
  have hok:HOk P w H s₁.heap:=fun b u e=>by
   rcases what b u e with⟨rfl,_,rfl⟩|⟨t,ht,rfl,rfl⟩
   ·exact⟨ha,by rw[List.length_map];exact hl,vs,_,rv,ha⟩
   ·exact⟨#[],(hT t ht).2,trivial,fun pos cv q=>by cases q⟩
  have tt:vq K H:=fun t ht=>by
   refine⟨#[.str (t.1 ++ ".<locals>." ++ "<lambda>") 0],?_,rfl⟩
   have ne:t.2.2≠a:=fun z=>by
    have e1:=(hT t ht).2;rw[z,ha] at e1;cases e1
   rw[hH _ ne];unfold mx;rw[vi (fun t:Str×Addr×Addr=>t.2.2) nd ht];rfl
  have base_of:∀ {b:Addr} {o:Obj},s₁.heap.get? b=some o->H b=none->(nY s₁.heap H).get? b=some o:=fun e n=>zP e n
  have freeB:∀ {b:Addr} {o:Obj},s₁.heap.get? b=some o->o.cls≠.none->o.cls≠.type "list"->H b=none:=fun {b o} e c1 c2=>by
   cases q:H b with
   |none=>rfl
   |some u=>
    rcases what b u q with⟨rfl,_,_⟩|⟨t,ht,rfl,_⟩
    ·rw[ha] at e;cases e;exact absurd rfl c2
    ·rw[(hT t ht).2] at e;cases e;exact absurd rfl c1
  have noD:∀ {b:Addr} {o:Obj} {es:Array DictEntry} {ep:Nat},s₁.heap.get? b=some o->o.data=.dict es ep->H b=none:=fun {b o es ep} e d=>by
   cases q:H b with
   |none=>rfl
   |some u=>
    rcases what b u q with⟨rfl,_,_⟩|⟨t,ht,rfl,_⟩
    ·rw[ha] at e;cases e;cases d
    ·rw[(hT t ht).2] at e;cases e;cases d
  have nsK:∀ {b:Addr} {m:Str->Option Value},s₁.heap.Ns b m->(nY s₁.heap H).Ns b m:=fun {b m} ⟨o,es,ep,e,d,r⟩=>⟨o,es,ep,base_of e (noD e d),d,r⟩
  have hKb : K.In (nY s₁.heap H):=fun b o e=>base_of (KX b o e) (by
   cases q:H b with
   |none=>rfl
   |some u=>
    by_cases hb:b=a
    ·subst hb
     rcases hA with z|⟨z1,_⟩
     ·rw[z] at q;cases q
     ·rw[e] at z1;cases z1
    ·rw[hH b hb,tabNot b o e] at q;cases q)
  have hM:Mod K mg (nY s₁.heap H):=⟨hKb,nsK hns,⟨mb,nsK hb,hbb⟩,let ⟨mc,h1,h2⟩:=hlim;⟨mc,nsK h1,h2⟩,
   let ⟨bm,ob,b1,b2,b3,b4,b5,b6⟩:=hbm;⟨bm,ob,b1,b2,base_of b3 (freeB b3 (by rw[b4];nofun) (by rw[b4];decide)),b4,b5,b6⟩⟩
  have e0:sn P w K mg (nY s₁.heap H) callerA [] s₁ H:=⟨rfl,hM,fun b o e=>Be e,Nat.le_of_eq (vB _ _),trivial,fun b hb=>absurd (show b∈([]:List Addr) from hb) (by simp),tt,hok,.of_eq hg⟩
  refine codeAny_mono ((F _).run callerA [] s₁ H ⟨[.ref a],[]⟩ [.ref a] [.ref a] _ _ hr e0 (hbind s₁ (.ref a)) (.cons rfl .nil) (hsp H hS)) fun r s' h=>?_
  cases r with
  |error e=>exact(hCX H e s' h).elim
  |ok fl=>
   cases fl with
   |next=>exact False.elim h
   |brk=>exact False.elim h
   |cont=>exact False.elim h
   |ret u=>
    obtain⟨v,H',os,bare,un,hok',r',q⟩:=h;have q':v=.bl true:=q;subst q';obtain rfl:u=Value.bool true:=r';refine⟨rfl,⟨fun b o e=>?_,fun b o e=>un.there b o e (by simp)⟩,os,bare⟩
    cases q:H b with
    |none=>exact .inl (un.keep b o e q (by intro z;exact absurd (show b∈([]:List Addr) from z) (by simp)) (by simp))
    |some u=>
     rcases what b u q with⟨rfl,_,rfl⟩|⟨t,ht,rfl,rfl⟩
     ·have z2:=un.frzs _ _ _ q
      obtain⟨e1,_⟩:=hok _ _ q;obtain⟨e2,_⟩:=hok' _ _ z2;rw[e] at e1;cases e1;exact .inl e2
     ·obtain⟨more,z2⟩:=un.tbls _ _ q
      obtain⟨qs,e2,_⟩:=hok' _ _ z2;have e1:=(hT t ht).2;rw[e] at e1;obtain rfl:=Option.some.inj e1;exact .inr (.inl ⟨((hT t ht).1.tab (hT t ht).2).isCodeTable,rfl,#[],qs,rfl,by rw[Array.empty_append];exact e2⟩)
 cases hk:K.lookup a with
 |some o=>
  have e:=KX a o hk;rw[ha] at e;cases e;exact core (fun b=>mx K b) (fun _ _=>rfl) (.inl tabA) (.inr ⟨_,vs.toArray,_,hk,rfl,rfl,rfl,by rw[List.size_toArray,lenV];exact hl,by simpa using rv⟩)
 |none=>
  refine core (fun b=>if b=a then some (.frz { cls:=.type "list",data:=.seq vs.toArray } (.lst (ns.map V.int))) else mx K b) (fun b hb=>if_neg hb) (.inr ⟨hk,if_pos rfl⟩) (.inl (.inr ⟨_,if_pos rfl⟩))
theorem xJ{l:W.OpenLaw}{n k:Nat}{q:Program}{loose:List Str}{XP:(Str->Option Value)->Heap->Prop}{YP:World->Heap->Prop}{d:DefRec}{K:Params->W.Frag}{CX:CXT}{sp:W.Frag->Sp}{x:Str}(hn:l.most=some n)(hn2:n<=sizeLine)(hdf:d.params.defaults=[])(hr:d6 k callerA)(hY:∀(w:World)(h:Heap),YP w h->(K w.params).In h)(tabs:∀w:World,yF (K w.params) ((recsOf q).map (·.name))=true)
  (F:∀(w:World)(mg:Str->Option Value)(fa:Addr)(h:Heap),(K w.params).In h->h.Ns mainGlobals mg->mg d.name=some (.ref fa) ->
   ∃fd:FuncData,(∀(s:Shared)(u:Value),BindsTo s fd ⟨[u],[]⟩ [(x,u)])/\∀base:Heap,a7 l.prog w (K w.params) mg base CX k fa fd [x] (sp (K w.params)))
  (hsp:∀(K:W.Frag)(H:Hp)(a:Addr)(ns:List Int),ns.length<=n->Fh H->SqL K H a (ns.map V.int)->sp K [.ref a] H (fun v _=>v=.bl true) fun _ _ _=>False)
  (hCX:∀(H:Hp)(s:Shared)(e:Value)(s':Shared),CX [] H s (fun _ _ _=>False) e s'->False) :
  W.WalkO q loose XP YP l.row.toRowW d [] (fun f vs=>PySem.call f vs):=by
 refine Att.qV hn hdf fun w s₀ s₁ mg mb fa o pm cd doc a vs ns G Y ho hd hcd hmg hobj hints hlen hg=>?_;have KX:=hY w _ Y;have tb:=tabs w;unfold yF at tb;rw[Bool.and_eq_true,Bool.and_eq_true] at tb;obtain⟨⟨t1,t2⟩,t3⟩:=tb;obtain⟨fd,hb,hF⟩:=F w mg fa _ KX G.T.g hmg;refine vF KX G.T.g G.T.b G.T.builtins G.T.nolimit hg G.T.bmain (fun t ht=>?_) t1 t2 hobj hints (Nat.le_trans hlen hn2) hr hF hb (fun H hS=>hsp _ H a ns hlen trivial hS) fun H e s'=>hCX H s₁ e s'
 have hc:=List.all_eq_true.mp t3 t ht;have hm:t.1∈(recsOf q).map (·.name):=by simpa using hc
 obtain⟨r,hr1,hr2⟩:=List.mem_map.mp hm
 cases z:(recsOf q).find? (fun e=>e.name == t.1) with
 |none=>
  have:=List.find?_eq_none.mp z r hr1;rw[hr2] at this;simp at this
 |some d'=>exact W.tab_of G.T KX z (As ht)
end L2
namespace L2
open PySem PySem.Spec PySem.Calls PyProof.Rows
open AutoSeq1 (wpAny_loadPart')
section
variable{prog:Program}{w:World}{A:Around}{E:Value->Shared->Prop}{S:Shared}
theorem sU{j t:Addr}{k:Nat}{its:Array Value}{v:Value}{Q:Value->Shared->Prop}(hj:S.heap.IsTupleIter j t k)(ht:S.heap.IsTuple t its)(hv:its[k]?=some v)(hQ:∀h1,h1.IsTupleIter j t (k+1)->Heap.SameBut j S.heap h1->Q v { S with heap:=h1 }):wpAny (model prog w) A (Builtin.SmallTypes.nextOf (.ref j)) Q E S:=by
 obtain⟨oj,hoj,hcj,hdj⟩:=id hj;obtain⟨ot,hot,_,nt,hdt⟩:=ht;unfold Builtin.SmallTypes.nextOf;refine wpAny_bind (wpAny_callSpecial?_slot (name:=Str.ofString "__next__") hj.typeIs F.slot_tuple_iterator_next (wpAny_call_entry F.slot_tuple_iterator_next hj.typeIs F.entry_tuple_iterator_next ?_ (F.args_tuple_iterator_next_1 _)));show wpAny _ _ (field (.ref j) 0 >>= _) _ _ S;refine wpAny_bind (wpAny_field hoj hdj (x:=.ref t) rfl ?_)
 show wpAny _ _ (if (Value.ref t == Value.none)=true then _ else _) _ _ S
 rw[if_neg (show ¬ (Value.ref t == Value.none)=true by intro z;cases z)]
 show wpAny _ _ (field (.ref j) 1 >>= _) _ _ S;refine wpAny_bind (wpAny_field hoj hdj (x:=.int k 0) rfl ?_);show wpAny _ _ (seqItems? (.ref t) >>= _) _ _ S;refine wpAny_bind (wpAny_seqItems hot hdt ?_);simp only[Int.toNat_natCast,hv];refine wpAny_bind (wpAny_setField hoj hdj (by simp) (wpAny_pure ⟨v,rfl,wpAny_pure (hQ _ ?_ (Heap.SameBut.update ..))⟩))
 refine⟨_,Heap.get?_update_self _ hoj (Obj.isFreed_of_fields (Obj.data_mapFields hdj _)),(Obj.cls_mapFields ..).trans hcj,?_⟩;rw[Obj.data_mapFields hdj];simp[rawInt]
theorem wJ{j t:Addr}{k:Nat}{its:Array Value}{Q:Value->Shared->Prop}(hh:A.handled=none)(hj:S.heap.IsTupleIter j t k)(ht:S.heap.IsTuple t its)(hv:its[k]?=none)(hE:∀h1 e,Heap.ExtBut j S.heap h1->(∃o,h1.get? e=some o/\o.cls=.type "StopIteration")->E (.ref e) { S with heap:=h1 }):wpAny (model prog w) A (Builtin.SmallTypes.nextOf (.ref j)) Q E S:=by
 obtain⟨oj,hoj,hcj,hdj⟩:=id hj;obtain⟨ot,hot,_,nt,hdt⟩:=ht;unfold Builtin.SmallTypes.nextOf;refine wpAny_bind (wpAny_callSpecial?_slot (name:=Str.ofString "__next__") hj.typeIs F.slot_tuple_iterator_next (wpAny_call_entry F.slot_tuple_iterator_next hj.typeIs F.entry_tuple_iterator_next ?_ (F.args_tuple_iterator_next_1 _)));show wpAny _ _ (field (.ref j) 0 >>= _) _ _ S;refine wpAny_bind (wpAny_field hoj hdj (x:=.ref t) rfl ?_)
 show wpAny _ _ (if (Value.ref t == Value.none)=true then _ else _) _ _ S
 rw[if_neg (show ¬ (Value.ref t == Value.none)=true by intro z;cases z)]
 show wpAny _ _ (field (.ref j) 1 >>= _) _ _ S;refine wpAny_bind (wpAny_field hoj hdj (x:=.int k 0) rfl ?_);show wpAny _ _ (seqItems? (.ref t) >>= _) _ _ S;refine wpAny_bind (wpAny_seqItems hot hdt ?_);simp only[Int.toNat_natCast,hv];refine wpAny_bind (wpAny_rule (wpAny_bind (wpAny_setField hoj hdj (by simp) ?_)))
 show wpAny _ _ (newExc (Value.type "StopIteration") [] >>= _) _ _ _;refine wpAny_bind ?_;simp only[newTuple,newExc];refine wpAny_bind (wpAny_newObj_type ?_ (by size_fits))
 refine wpAny_bind (m:=firstArgMember _ _) (wpAny_of_eq (a:=Value.none) (by first|rfl|(unfold firstArgMember;rfl)) ?_)
 refine wpAny_newObj_type ?_ (hd:=by size_fits)
 unfold raiseNew;refine wpAny_bind (wpAny_handled ?_)
 first|rw[show A.in1.handled=none from hh]|rw[hh]
 refine wpAny_bind (wpAny_pure (wpAny_throw (hE _ _ ?_ ⟨_,Heap.get?_push_size _ rfl,rfl⟩)));exact((Heap.SameBut.update ..).extBut.push _).push _
theorem zi(hh:A.handled=none)(j t:Addr)(hne:t≠j)(its:Array Value):
  Draws prog w A j [j,t] its.size (fun k v=>its[k]?=some v) (fun k h=>h.IsTupleIter j t k/\h.IsTuple t its) where
 live:=fun _ _ x=>let ⟨o,ho,_⟩:=x.1;⟨o,ho⟩
 frame:=fun _ _ _ x kk=>⟨x.1.at fun o e=>kk j (by simp) o e,let ⟨o,e,r⟩:=x.2;⟨o,kk t (by simp) o e,r⟩⟩
 item:=fun k S Q E hk x hQ=>sU x.1 x.2 (v:=its[k]) (by simp[hk]) fun h1 y sb=>hQ _ h1 S.toks (by simp[hk]) ⟨y,let ⟨o,e,r⟩:=x.2;⟨o,(sb.2 t hne).trans e,r⟩⟩ sb
 done:=fun S Q E x hE=>wJ hh x.1 x.2 (by simp) hE
theorem xj(hh:A.handled=none)(j l:Addr)(hne:l≠j)(its:Array Value):
  Draws prog w A j [j,l] its.size (fun k v=>its[k]?=some v) (fun k h=>h.IsListIter j l k/\h.IsList l its) where
 live:=fun _ _ x=>let ⟨o,ho,_⟩:=x.1;⟨o,ho⟩
 frame:=fun _ _ _ x kk=>⟨x.1.at fun o e=>kk j (by simp) o e,let ⟨o,e,r⟩:=x.2;⟨o,kk l (by simp) o e,r⟩⟩
 item:=fun k S Q E hk x hQ=>wpAny_nextOf_list_item x.1 x.2 (x:=its[k]) (by simp[hk]) fun h1 y sb=>hQ _ h1 S.toks (by simp[hk]) ⟨y,let ⟨o,e,r⟩:=x.2;⟨o,(sb.2 l hne).trans e,r⟩⟩ sb
 done:=fun S Q E x hE=>wpAny_nextOf_list_end hh x.1 x.2 (by simp) hE
set_option maxHeartbeats 2000000 in
theorem vt(t:Addr)(its:Array Value):
  Meets (Builtin.«enumerate.__new__» ⟨[.type "enumerate",.ref t],[]⟩) (fun _ R S=>S.heap.IsTuple t its /\
   R (.ok (.ret (.ref (S.heap.push { cls:=.type "tuple_iterator",data:=.fields #[.ref t,.int 0 0] }).objs.size)))
    { S with heap:=(S.heap.push { cls:=.type "tuple_iterator",data:=.fields #[.ref t,.int 0 0] }).push { cls:=.type "enumerate",data:=.fields #[.none,.bool false,.ref S.heap.objs.size,rawInt 0,.none,.none] } }):=
 .of_wp fun prog w A R S h=>by
  obtain⟨hp,g,d,tk,os⟩:=S;obtain⟨⟨ot,hot,hct,nt,hdt⟩,h⟩:=h;have hsub:=sub_enumerate;have hTT:Heap.IsTuple (Shared.heap ⟨hp,g,d,tk,os⟩) t its:=⟨ot,hot,hct,nt,hdt⟩;obtain⟨c,dd,dt,sl⟩:=ot
  replace hct:c=.type "tuple":=hct
  replace hdt:dt=.seq its nt:=hdt
  subst hct hdt
  wp_walk using wpAny_loadPart' hot
  refine wpAny_stack_any fun st=>wpAny_pure ?_;split
  ·rename_i c _ _ _ _ _
   cases (c == Value.type "enumerate")<;>(wp_walk using wpAny_loadPart' hot,wpAny_pyIter_tuple hTT;exact⟨_,rfl,h⟩)
  ·wp_walk using wpAny_loadPart' hot,wpAny_pyIter_tuple hTT
   exact⟨_,rfl,h⟩
theorem sD{t:Addr}{its:Array Value}{Q:Value->Shared->Prop}(hT:S.heap.IsTuple t its)(h:∀h1,IsEnum h1 (S.heap.objs.size+1) S.heap.objs.size 0 .none->h1.IsTupleIter S.heap.objs.size t 0->h1.objs.size=S.heap.objs.size+2->(∀b o,S.heap.get? b=some o->h1.get? b=some o)->Q (.ref (S.heap.objs.size+1)) { S with heap:=h1 }):
  wpAny (model prog w) A (call (.type "enumerate") [.ref t]) Q E S:=by
 refine callType_new F.called_enumerate (by decide) (F.typeCall_enumerate_1 _) (F.newCall_enumerate_1 _) (fun obj=>F.args_object_init_2 obj _) F.entry_enumerate_new (vt t its) ⟨hT,?_⟩
 have hz:(S.heap.push { cls:=.type "tuple_iterator",data:=.fields #[.ref t,.int 0 0] }).objs.size=S.heap.objs.size+1:=Heap.size_push ..;show _/\_;have he:=Heap.get?_push_size (S.heap.push { cls:=.type "tuple_iterator",data:=.fields #[.ref t,.int 0 0] }) (o:={ cls:=.type "enumerate",data:=.fields #[.none,.bool false,.ref S.heap.objs.size,rawInt 0,.none,.none] }) rfl;rw[hz] at he ⊢;exact⟨⟨_,he,rfl⟩,h _ he ⟨_,Heap.get?_push_of_some _ (Heap.get?_push_size _ rfl),rfl,rfl⟩ (by rw[Heap.size_push,hz]) fun b o y=>Heap.get?_push_of_some _ (Heap.get?_push_of_some _ y)⟩
end
theorem Inv.GC{X:Cx}{pins:List (Addr×Obj)}{σ:St}{H:Hp}{s:Shared}{h':Heap}{tk:Nat}{ch:List Addr}{T:Addr}{o:HO}(I:Inv X pins σ H s)(hch:∀b∈ch,iT X pins H b)(k:∀b ob,b ∉ ch->s.heap.get? b=some ob->h'.get? b=some ob)(hT:s.heap.objs.size<=T)(new:bV X.prog X.w (upd H T o) h' T o):Inv X pins σ (upd H T o) { s with heap:=h',toks:=tk }:=by
 have hn:=I.hok.fresh hT;have nc:∀b u,H b=some u->b ∉ ch:=fun b u e hb=>by rw[(hch b hb).1] at e;cases e
 have nT:∀b u,H b=some u->b≠T:=fun b u e=>bb e hn;have lT:∀b ob,s.heap.get? b=some ob->b≠T:=fun b ob e=>Nat.ne_of_lt (Nat.lt_of_lt_of_le (Heap.lt_size e) hT)
 refine I.step (g':=s.gens) (d':=s.drawn) (ch:=ch) (fun b hb=>?_) (fun b ob _ _ hc e _=>k b ob hc e) (fun b ob _ _ hc e _=>⟨ob.slots,k b ob hc e⟩) (fun b ob _ e n=>by rw[aG (lT b ob e)];exact n)
  (fun b ob hc e=>⟨ob,k b ob hc e⟩) (fun b xs e=>by rw[aG (nT b _ e)];exact e) (fun b ob u e=>by rw[aG (nT b _ e)];exact e) (fun b ps e=>⟨#[],by rw[aG (nT b _ e),e];simp⟩) (fun m hm=>?_) (fun b u e=>?_) I.bare
 ·obtain⟨f0,f1,f2,f3,f4,f5⟩:=hch b hb
  exact⟨f3,f1,f4,f5⟩
 ·obtain⟨ob,es,ep,ho,r⟩:=hm
  exact⟨ob,es,ep,k _ ob (fun z=>(hch _ z).2.1 rfl) ho,r⟩
 ·by_cases hb:b=T
  ·subst hb;rw[cA] at e;cases e;exact new
  ·rw[aG hb] at e
   refine(I.hok b u e).stay (fun c v hc q=>k c v ?_ q) (fun c q=>by rw[aG (nT c _ q)];exact q) (fun c xs q=>by rw[aG (nT c _ q)];exact q) fun c ob u' q=>by rw[aG (nT c _ q)];exact q
   rcases hc with rfl|hc
   ·exact nc _ _ e
   ·exact nc _ _ hc
end L2
namespace L2
open PySem PySem.Spec PySem.Calls PyProof.Rows
noncomputable def Ent(K:W.Frag)(a:Addr):It:=
 ⟨fun i H=>∃xs x,SqT K H a xs/\xs[i]?=some x,fun i H v H'=>∃T x,H T=none/\v=.ref T/\H'=upd H T (.tup [.int i,x])/\∀xs,SqT K H a xs->xs[i]?=some x,fun i H=>∃xs,SqT K H a xs/\xs.length=i⟩
noncomputable def Enl(K:W.Frag)(a:Addr):It:=
 ⟨fun i H=>∃xs x,SqL K H a xs/\xs[i]?=some x,fun i H v H'=>∃T x,H T=none/\v=.ref T/\H'=upd H T (.tup [.int i,x])/\∀xs,SqL K H a xs->xs[i]?=some x,fun i H=>∃xs,SqL K H a xs/\xs.length=i⟩
theorem sH{P:Program}{w:World}{K:W.Frag}{elts:List Expr}{kk:Nat}{pp:Pos}(a e it:Addr)(hne:e≠it):
  sL P w K (.Tuple elts kk pp) (Ent K a) [e,it] e (fun i h=>(∃old,IsEnum h e it i old)/\h.IsTupleIter it a i) where
 mem:=by simp
 obj:=fun i h st b hb=>by
  obtain⟨⟨old,he⟩,o,ho,c,d⟩:=st;rcases(by simpa using hb:b=e\/b=it) with rfl|rfl
  ·exact⟨_,he,fun v z=>by cases z⟩
  ·exact⟨o,ho,fun v z=>by rw[d] at z;cases z⟩
 keep:=fun i h h' st k=>by
  obtain⟨⟨old,he⟩,hi⟩:=st;exact⟨⟨old,k e (by simp) _ he⟩,hi.at fun o q=>k it (by simp) o q⟩
 item:=by
  intro X hP hw hK hc i pins s σ H E I hf st hg;subst hP hw hK;obtain⟨xs,x,hq,hx⟩:=hg;obtain⟨its,rv,p,hz⟩:=I.tuple hq;obtain⟨u,hu,ru⟩:=rv.get hx;obtain⟨⟨old,he⟩,hi⟩:=st;have pT:s.heap.IsTuple a its.toArray:=p
  have nai:a≠it:=fun z=>by
   obtain⟨o1,e1,c1,_⟩:=hi;obtain⟨o2,e2,c2,_⟩:=pT;rw[z,e1] at e2;cases e2;rw[c1] at c2;injection c2 with z2;exact absurd z2 (by decide)
  have nae:a≠e:=fun z=>by
   obtain⟨o2,e2,c2,_⟩:=pT;rw[z,he] at e2;cases e2;injection c2 with z2;exact absurd z2 (by decide)
  have hil:i<its.toArray.size:=by
   have:=(List.getElem?_eq_some_iff.mp hu).1;simpa using this
  refine wpAny_pyNext_enum_itemD (zi (prog:=X.prog) (w:=X.w) (A:=X.A.in1) (I.ok.hd hc) it a nai its.toArray) he ⟨hi,pT⟩ hil hne (by simp[hne,Ne.symm nae]) fun v h1 tk hv hout hst' hT hsz hk=>?_
  have hvu:v=u:=by
   have:its.toArray[i]?=some u:=by simpa using hu
   rw[this] at hv;exact(Option.some.inj hv).symm
  subst hvu;refine⟨_,rfl,wpAny_letOwnedTupleGo_enum hout fun h2 he2 sb2=>?_⟩;have hes:e<s.heap.objs.size:=Heap.lt_size he;have his:it<s.heap.objs.size:=by obtain⟨_,e1,_⟩:=hi;exact Heap.lt_size e1
  have hT2:h2.get? s.heap.objs.size=some { cls:=.type "tuple",data:=.seq #[.int i tk,v] }:=(sb2.2 _ (Nat.ne_of_gt hes)).trans hT
  have k2:∀b ob,b ∉ [e,it]->s.heap.get? b=some ob->h2.get? b=some ob:=fun b ob hb q=>by
   have h1':b≠e:=fun z=>hb (by simp[z])
   exact(sb2.2 b h1').trans (hk b ob h1' (fun z=>hb (by simp[z])) q)
  have i2:h2.IsTupleIter it a (i+1):=hst'.1.at fun o q=>(sb2.2 it (Ne.symm hne)).trans q;have J:=I.GC (h':=h2) (tk:=tk+1) (ch:=[e,it]) (T:=s.heap.objs.size) (o:=.tup [.int i,x]) hf k2 (Nat.le_refl _) ⟨(show 2<=sizeLine by decide),[.int i tk,v],.cons ⟨tk,rfl⟩ (.cons ru .nil),⟨⟨_,hT2,rfl,_,rfl⟩,_,hT2,rfl⟩⟩
  refine⟨.ref s.heap.objs.size,_,J,rfl,⟨_,x,I.hok.fresh (Nat.le_refl _),rfl,rfl,fun ys hy=>by rw[I.Gv hy hq];exact hx⟩,⟨⟨_,by simpa using he2⟩,i2⟩,fun b hb=>?_⟩
  have hlt:b<s.heap.objs.size:=by
   rcases(by simpa using hb:b=e\/b=it) with rfl|rfl
   ·exact hes
   ·exact his
  rw[aG (Nat.ne_of_lt hlt)];exact(hf b hb).1
 done:=by
  intro X hP hw hK hc i pins s σ H E I hf st hg;subst hP hw hK;obtain⟨xs,hq,hx⟩:=hg;obtain⟨its,rv,p,hz⟩:=I.tuple hq;obtain⟨⟨old,he⟩,hi⟩:=st;have pT:s.heap.IsTuple a its.toArray:=p
  have nai:a≠it:=fun z=>by
   obtain⟨o1,e1,c1,_⟩:=hi;obtain⟨o2,e2,c2,_⟩:=pT;rw[z,e1] at e2;cases e2;rw[c1] at c2;injection c2 with z2;exact absurd z2 (by decide)
  have hsz:i=its.toArray.size:=by
   have:=rv.length;simp;omega
  refine wpAny_pyNext_enum_endD (zi (prog:=X.prog) (w:=X.w) (A:=X.A.in1) (I.ok.hd hc) it a nai its.toArray) he ⟨by rw[←hsz];exact hi,pT⟩ fun h1 eb=>⟨rfl,?_⟩
  obtain⟨f0,f1,f2,f3,f4,f5⟩:=hf it (by simp)
  exact I.turned (t':=s.toks) (fun b o hb q=>eb b o hb q) f0 f1 f3 f4 f5
 self:=fun A i s Q E st h=>by
  obtain⟨⟨old,he⟩,_⟩:=st;exact wpAny_pyIter_enum he h
theorem vN:bootBuiltins "enumerate"=some (.type "enumerate"):=by kernel_rfl
theorem tD{P:Program}{w:World}{K:W.Frag}{elts:List Expr}{kk:Nat}{pp:Pos}(a e it:Addr)(hne:e≠it):
  sL P w K (.Tuple elts kk pp) (Enl K a) [e,it] e (fun i h=>(∃old,IsEnum h e it i old)/\h.IsListIter it a i) where
 mem:=by simp
 obj:=fun i h st b hb=>by
  obtain⟨⟨old,he⟩,o,ho,c,d⟩:=st;rcases(by simpa using hb:b=e\/b=it) with rfl|rfl
  ·exact⟨_,he,fun v z=>by cases z⟩
  ·exact⟨o,ho,fun v z=>by rw[d] at z;cases z⟩
 keep:=fun i h h' st k=>by
  obtain⟨⟨old,he⟩,hi⟩:=st;exact⟨⟨old,k e (by simp) _ he⟩,hi.at fun o q=>k it (by simp) o q⟩
 item:=by
  intro X hP hw hK hc i pins s σ H E I hf st hg;subst hP hw hK;obtain⟨xs,x,hq,hx⟩:=hg;obtain⟨its,rv,p,hz⟩:=I.list hq;obtain⟨u,hu,ru⟩:=rv.get hx;obtain⟨⟨old,he⟩,hi⟩:=st;have pT:s.heap.IsList a its.toArray:=p.isList
  have nai:a≠it:=fun z=>by
   obtain⟨o1,e1,c1,_⟩:=hi;obtain⟨o2,e2,c2,_⟩:=pT;rw[z,e1] at e2;cases e2;rw[c1] at c2;injection c2 with z2;exact absurd z2 (by decide)
  have nae:a≠e:=fun z=>by
   obtain⟨o2,e2,c2,_⟩:=pT;rw[z,he] at e2;cases e2;injection c2 with z2;exact absurd z2 (by decide)
  have hil:i<its.toArray.size:=by
   have:=(List.getElem?_eq_some_iff.mp hu).1;simpa using this
  refine wpAny_pyNext_enum_itemD (xj (prog:=X.prog) (w:=X.w) (A:=X.A.in1) (I.ok.hd hc) it a nai its.toArray) he ⟨hi,pT⟩ hil hne (by simp[hne,Ne.symm nae]) fun v h1 tk hv hout hst' hT hsz hk=>?_
  have hvu:v=u:=by
   have:its.toArray[i]?=some u:=by simpa using hu
   rw[this] at hv;exact(Option.some.inj hv).symm
  subst hvu;refine⟨_,rfl,wpAny_letOwnedTupleGo_enum hout fun h2 he2 sb2=>?_⟩;have hes:e<s.heap.objs.size:=Heap.lt_size he;have his:it<s.heap.objs.size:=by obtain⟨_,e1,_⟩:=hi;exact Heap.lt_size e1
  have hT2:h2.get? s.heap.objs.size=some { cls:=.type "tuple",data:=.seq #[.int i tk,v] }:=(sb2.2 _ (Nat.ne_of_gt hes)).trans hT
  have k2:∀b ob,b ∉ [e,it]->s.heap.get? b=some ob->h2.get? b=some ob:=fun b ob hb q=>by
   have h1':b≠e:=fun z=>hb (by simp[z])
   exact(sb2.2 b h1').trans (hk b ob h1' (fun z=>hb (by simp[z])) q)
  have i2:h2.IsListIter it a (i+1):=hst'.1.at fun o q=>(sb2.2 it (Ne.symm hne)).trans q;have J:=I.GC (h':=h2) (tk:=tk+1) (ch:=[e,it]) (T:=s.heap.objs.size) (o:=.tup [.int i,x]) hf k2 (Nat.le_refl _) ⟨(show 2<=sizeLine by decide),[.int i tk,v],.cons ⟨tk,rfl⟩ (.cons ru .nil),⟨⟨_,hT2,rfl,_,rfl⟩,_,hT2,rfl⟩⟩
  refine⟨.ref s.heap.objs.size,_,J,rfl,⟨_,x,I.hok.fresh (Nat.le_refl _),rfl,rfl,fun ys hy=>by rw[I.Gy hy hq];exact hx⟩,⟨⟨_,by simpa using he2⟩,i2⟩,fun b hb=>?_⟩
  have hlt:b<s.heap.objs.size:=by
   rcases(by simpa using hb:b=e\/b=it) with rfl|rfl
   ·exact hes
   ·exact his
  rw[aG (Nat.ne_of_lt hlt)];exact(hf b hb).1
 done:=by
  intro X hP hw hK hc i pins s σ H E I hf st hg;subst hP hw hK;obtain⟨xs,hq,hx⟩:=hg;obtain⟨its,rv,p,hz⟩:=I.list hq;obtain⟨⟨old,he⟩,hi⟩:=st;have pT:s.heap.IsList a its.toArray:=p.isList
  have nai:a≠it:=fun z=>by
   obtain⟨o1,e1,c1,_⟩:=hi;obtain⟨o2,e2,c2,_⟩:=pT;rw[z,e1] at e2;cases e2;rw[c1] at c2;injection c2 with z2;exact absurd z2 (by decide)
  have hsz:i=its.toArray.size:=by
   have:=rv.length;simp;omega
  refine wpAny_pyNext_enum_endD (xj (prog:=X.prog) (w:=X.w) (A:=X.A.in1) (I.ok.hd hc) it a nai its.toArray) he ⟨by rw[←hsz];exact hi,pT⟩ fun h1 eb=>⟨rfl,?_⟩
  obtain⟨f0,f1,f2,f3,f4,f5⟩:=hf it (by simp)
  exact I.turned (t':=s.toks) (fun b o hb q=>eb b o hb q) f0 f1 f3 f4 f5
 self:=fun A i s Q E st h=>by
  obtain⟨⟨old,he⟩,_⟩:=st;exact wpAny_pyIter_enum he h
structure Src(prog:Program)(w:World)(A:Around)(j q:Addr)(its:Array Value)(It1:Nat->Heap->Prop)(Sq1:Heap->Prop):Prop where
 item:∀(n:Nat)(v:Value)(S:Shared)(Q:Value->Shared->Prop)(E:Value->Shared->Prop),It1 n S.heap->Sq1 S.heap->its[n]?=some v->(∀h1,It1 (n+1) h1->Heap.SameBut j S.heap h1->Q v { S with heap:=h1 })->wpAny (model prog w) A (Builtin.SmallTypes.nextOf (.ref j)) Q E S
 stop:∀(n:Nat)(S:Shared)(Q:Value->Shared->Prop)(E:Value->Shared->Prop),It1 n S.heap->Sq1 S.heap->its[n]?=none->(∀h1 e,Heap.ExtBut j S.heap h1->(∃o,h1.get? e=some o/\o.cls=.type "StopIteration")->E (.ref e) { S with heap:=h1 })->wpAny (model prog w) A (Builtin.SmallTypes.nextOf (.ref j)) Q E S
 mv:∀(n:Nat)(h h1:Heap),It1 n h->(∀o,h.get? j=some o->h1.get? j=some o)->It1 n h1
 sv:∀(h h1:Heap),Sq1 h->(∀o,h.get? q=some o->h1.get? q=some o)->Sq1 h1
 live:∀(n:Nat)(h:Heap),It1 n h->∃o vs,h.get? j=some o/\o.data=.fields vs
structure Kd(cls:String)(Sa:W.Frag->Hp->Addr->List V->Prop)(Iti:Heap->Addr->Addr->Nat->Prop)(Is:Heap->Addr->Array Value->Prop):Prop where
 got:∀ {X:Cx} {pins:List (Addr×Obj)} {σ:St} {H:Hp} {s:Shared} {a:Addr} {xs:List V},Inv X pins σ H s->Sa X.K H a xs->∃its:List Value,aH xs its/\Is s.heap a its.toArray
 inj:∀ {X:Cx} {pins:List (Addr×Obj)} {σ:St} {H:Hp} {s:Shared} {a:Addr} {xs ys:List V},Inv X pins σ H s->Sa X.K H a xs->Sa X.K H a ys->xs=ys
 src:∀(prog:Program)(w:World)(A:Around)(j q:Addr)(its:Array Value),A.handled=none->Src prog w A j q its (fun n h=>Iti h j q n) (fun h=>Is h q its)
 seq:∀ {h:Heap} {a:Addr} {its:Array Value},Is h a its->∃o n,h.get? a=some o/\o.data=.seq its n
 ne:∀ {X:Cx} {pins:List (Addr×Obj)} {σ:St} {H:Hp} {s:Shared} {a b:Addr} {xs:List V},Inv X pins σ H s->Sa X.K H a xs->iT X pins H b->a≠b
 itr:∀ {prog:Program} {w:World} {A:Around} {E:Value->Shared->Prop} {S:Shared} {a:Addr} {its:Array Value} {Q:Value->Shared->Prop},Is S.heap a its->Q (.ref S.heap.objs.size) { S with heap:=S.heap.push { cls:=.type cls,data:=.fields #[.ref a,.int 0 0] } }->wpAny (model prog w) A (pyIter (.ref a)) Q E S
 sv:∀ {h h1:Heap} {a:Addr} {its:Array Value},Is h a its->(∀ob,h.get? a=some ob->h1.get? a=some ob)->Is h1 a its
 new:∀ {h:Heap} {j q:Addr},h.get? j=some { cls:=.type cls,data:=.fields #[.ref q,.int 0 0] }->Iti h j q 0
theorem uJ{X:Cx}(K:W.Frag)(h:X.K=K){ts:List Expr}{k n:Nat}{pos:Pos}{t:TGs}(hc:X.calm=true)(hts:PGs X ts t)(hn:(assignEach ts X.env).length=n:=by rfl)(hst:(assignEach ts X.env).findIdx? (·.1)=none:=by rfl):PG X (.Tuple ts k pos) (DK K n t):=h ▸ DD hc hts hn hst
noncomputable def bh{α:Type}(c:Nat->Nat->Bool):W.KasT α->α
 |.ret a=>a
 |.ask i j k=>bh c (k (c i j))
noncomputable def KG{α:Type}(n:Nat)(R:α->Prop):W.KasT α->Prop
 |.ret a=>R a
 |.ask i j k=>i<n/\j<n/\∀b,KG n R (k b)
theorem KG.fin{α:Type}{n:Nat}{R:α->Prop}(c:Nat->Nat->Bool):∀ {t:W.KasT α},KG n R t->R (bh c t)
 |.ret _,h=>h
 |.ask i j k,h=>KG.fin c (t:=k (c i j)) (h.2.2 (c i j))
theorem KG.mono{α:Type}{n:Nat}{R S:α->Prop}(q:∀a,R a->S a):∀ {t:W.KasT α},KG n R t->KG n S t
 |.ret a,h=>q a h
 |.ask _ _ k,h=>⟨h.1,h.2.1,fun b=>KG.mono q (t:=k b) (h.2.2 b)⟩
theorem KG.bind{α β:Type}{n:Nat}{R:β->Prop}{f:α->W.KasT β}:∀ {t:W.KasT α},KG n (fun a=>KG n R (f a)) t->KG n R (t.bind f)
 |.ret _,h=>h
 |.ask _ _ k,h=>⟨h.1,h.2.1,fun b=>KG.bind (t:=k b) (h.2.2 b)⟩
theorem KG.wp{α:Type}{n:Nat}{R:α->Prop}{c:Nat->Nat->Bool}{cmp:Nat->Nat->(Bool->Shared->Prop)->Shared->Prop}{Q:α->Shared->Prop}{s:Shared}(hc:∀i j C,i<n->j<n->C (c i j) s->cmp i j C s):
  ∀ {t:W.KasT α},KG n R t->Q (bh c t) s->t.kasWp cmp Q s
 |.ret _,_,q=>q
 |.ask i j k,h,q=>hc i j _ h.1 h.2.1 (KG.wp hc (t:=k (c i j)) (h.2.2 (c i j)) q)
noncomputable def Ord(n:Nat)(p:Array Nat):Prop:=p.Perm (List.range n).toArray
theorem Ord.lt{n:Nat}{p:Array Nat}(hn:0<n)(h:Ord n p)(k:Nat):p.getD k 0<n:=by
 by_cases hk:k<p.size
 ·have hm:p[k]∈p:=Array.getElem_mem hk
  have h2:=(h.mem_iff (a:=p[k])).mp hm;simp at h2;simp[Array.getD,hk];exact h2
 ·simp[Array.getD,hk]
  exact hn
theorem Ord.rev{n i j:Nat}{p:Array Nat}(h:Ord n p):Ord n (W.kas_rev p i j):=(mirror_perm p i j _).trans h
theorem Ord.bub{n i j:Nat}{p:Array Nat}(h:Ord n p):Ord n (bubble p i j):=(bubble_perm p i j).trans h
section
variable{n:Nat}(hn:0<n)
include hn
theorem tj{p:Array Nat}(hp:Ord n p):∀f k,KG n (fun _=>True) (W.kas_asc p f k)
 |0,_=>trivial
 |f+1,k=>⟨hp.lt hn _,hp.lt hn _,fun b=>by
  cases b
  ·exact tj hp f (k+1)
  ·exact trivial⟩
theorem kD:∀f (p:Array Nat) k q,Ord n p->KG n (fun r=>Ord n r.1) (W.kas_desc f p k q)
 |0,_,_,_,hp=>hp
 |f+1,p,k,q,hp=>by
  refine⟨hp.lt hn _,hp.lt hn _,fun b=>?_⟩;cases b
  ·refine⟨hp.lt hn _,hp.lt hn _,fun d=>?_⟩
   cases d
   ·exact kD f _ _ _ hp
   ·exact hp
  ·show KG n _ (if q>0 then _ else _)
   split
   ·exact kD f _ _ _ hp.rev
   ·exact kD f _ _ _ hp
theorem qa{p:Array Nat}(hp:Ord n p)(a b:Nat):KG n (fun r=>Ord n r.2) (W.kas_tail3 a b p):=KG.bind ((tj hn hp.rev _ _).mono fun _ _=>hp.rev)
theorem ki{p:Array Nat}(hp:Ord n p)(a b:Nat):KG n (fun r=>Ord n r.2) (W.kas_descPart a b p):=KG.bind ((kD hn _ _ _ _ hp).mono fun r hr=>by
 split
 ·exact qa hn hr.rev _ _
 ·exact qa hn hr _ _)
theorem xZ{p:Array Nat}(hp:Ord n p)(a:Nat):KG n (fun r=>Ord n r.2) (W.kas_count a p):=KG.bind ((tj hn hp _ _).mono fun k _=>by
 split
 ·exact hp
 ·split
  ·refine⟨hp.lt hn _,hp.lt hn _,fun b=>?_⟩
   cases b
   ·exact ki hn hp.rev _ _
   ·exact hp
  ·exact ki hn hp _ _)
theorem li{p:Array Nat}(hp:Ord n p)(k:Nat):∀f l r,KG n (fun _=>True) (W.kas_place p k f l r)
 |0,_,_=>trivial
 |f+1,l,r=>by
  show KG n _ (if l ≥ r then _ else _)
  split
  ·exact trivial
  ·refine⟨hp.lt hn _,hp.lt hn _,fun b=>?_⟩
   cases b
   ·exact li hp k f _ _
   ·exact li hp k f _ _
theorem zj:∀f (p:Array Nat) k,Ord n p->KG n (Ord n) (W.kas_bin f p k)
 |0,_,_,hp=>hp
 |f+1,_,k,hp=>KG.bind ((li hn hp _ _ _ _).mono fun _ _=>zj f _ _ hp.bub)
theorem kA:KG n (Ord n) (W.kas_sort n):=KG.bind ((xZ hn (.refl _) n).mono fun r hr=>by
 split
 ·exact zj hn _ _ _ hr
 ·exact hr)
end
noncomputable def Zs:List Value->List Int->Prop
 | [],[]=>True
 |v::vs,n::ns=>(∃t,v=.int n t)/\Zs vs ns
 |_,_=>False
noncomputable def ltF(e:Bool):List Int->List Int->Bool
 |x::xs,y::ys=>if x=y then ltF e xs ys else decide (x<y)
 |_,_=>e
noncomputable def ltZ(x y:List Int):Bool:=ltF (decide (x.length<y.length)) x y
theorem Zs.len:∀ {vs:List Value} {ns:List Int},Zs vs ns->vs.length=ns.length
 | [],[],_=>rfl
 |_::_,_::_,h=>congrArg (·+1) (Zs.len h.2)
 | [],_::_,h=>h.elim
 |_::_,[],h=>h.elim
section
variable{prog:Program}{w:World}{A:Around}{E:Value->Shared->Prop}{s:Shared}
theorem Ao{b:Bool}{x y:Int}{t u:Tok}{Q:Bool->Shared->Prop}(h:Q (decide (x<y)) s):wpAny (model prog w) A (oneLt' b (.int x t) (.int y u)) Q E s:=by
 cases b
 ·exact W.kat_one _ _ (wpAny_lt_int h)
 ·exact oneLt_int h
theorem um{b e:Bool}{Q:Bool->Shared->Prop}:∀ {xs ys:List Value} {ns ms:List Int} (i:Nat),Zs xs ns->Zs ys ms->Q (ltF e ns ms) s->W.KatLex prog w A b e Q (xs.zip ys) i s
 | [],_,[],_,_,_,_,q=>W.kat_nil (by simpa[ltF] using q)
 |_::_,[],_::_,[],_,_,_,q=>W.kat_nil (by simpa[ltF] using q)
 |x::xs,y::ys,n::ns,m::ms,i,hx,hy,q=>by
  obtain⟨⟨t,rfl⟩,hx⟩:=hx;obtain⟨⟨u,rfl⟩,hy⟩:=hy;refine W.kat_cons (wpAny_eqBool_int ?_);unfold ltF at q;by_cases h:n=m
  ·rw[if_pos h] at q
   rw[show (n == m)=true by simpa using h]
   exact W.kat_yes (um (i+1) hx hy q)
  ·rw[if_neg h] at q
   rw[show (n == m)=false by simpa using h]
   exact W.kat_no (Ao q)
 | [],_,_::_,_,_,h,_,_=>h.elim
 |_::_,_,[],_,_,h,_,_=>h.elim
 |_::_,[],_,_::_,_,_,h,_=>h.elim
 |_::_,_::_,_,[],_,_,h,_=>h.elim
end
noncomputable def TW(h:Heap):List Value->List (List Int)->Prop
 | [],[]=>True
 |v::vs,x::xs=>(∃a o its n,v=.ref a/\h.get? a=some o/\o.cls=.type "tuple"/\o.data=.seq its n/\Zs its.toList x)/\TW h vs xs
 |_,_=>False
theorem TW.len{h:Heap}:∀ {vs:List Value} {W:List (List Int)},TW h vs W->vs.length=W.length
 | [],[],_=>rfl
 |_::_,_::_,q=>congrArg (·+1) (TW.len q.2)
 | [],_::_,q=>q.elim
 |_::_,[],q=>q.elim
theorem TW.keep{h h':Heap}(k:∀b o,h.get? b=some o->o.cls=.type "tuple"->h'.get? b=some o):∀ {vs:List Value} {W:List (List Int)},TW h vs W->TW h' vs W
 | [],[],_=>trivial
 |_::_,_::_,⟨⟨a,o,its,n,e1,e2,e3,e4⟩,q⟩=>⟨⟨a,o,its,n,e1,k _ _ e2 e3,e3,e4⟩,TW.keep k q⟩
 | [],_::_,q=>q.elim
 |_::_,[],q=>q.elim
theorem TW.at{h:Heap}:∀ {vs:List Value} {W:List (List Int)} {i:Nat},TW h vs W->i<vs.length->∃a o its n,vs.getD i Value.none=.ref a/\h.get? a=some o/\o.data=.seq its n/\Zs its.toList (W.getD i [])
 |_::_,_::_,0,⟨⟨a,o,its,n,e1,e2,e3,e4,e5⟩,_⟩,_=>⟨a,o,its,n,by simpa using e1,e2,e4,by simpa using e5⟩
 |_::_,_::_,i+1,⟨_,q⟩,hi=>by
  obtain⟨a,o,its,n,e1,e2,e3,e4⟩:=TW.at (i:=i) q (by simpa using hi)
  exact⟨a,o,its,n,by simpa using e1,e2,e3,by simpa using e4⟩
 | [],_,_,_,hi=>absurd hi (by simp)
 |_::_,[],_,q,_=>q.elim
theorem TW.tups{h:Heap}:∀ {vs:List Value} {W:List (List Int)},TW h vs W->(∀x∈W,x≠[])->∃fs,PySem.W.KatTups h vs fs/\fs.length=vs.length/\∀v∈fs,∃n t,v=.int n t
 | [],[],_,_=>⟨[],trivial,rfl,by simp⟩
 |_::vs,x::xs,⟨⟨a,o,its,n,rfl,e2,e3,e4,e5⟩,q⟩,ne=>by
  obtain⟨fs,g1,g2,g3⟩:=TW.tups q fun y hy=>ne y (List.mem_cons_of_mem _ hy);have e6:=ne x List.mem_cons_self
  match hi:its.toList,x,e5,e6 with
  | [],[],_,e6=>exact absurd rfl e6
  | [],_::_,e5,_=>exact e5.elim
  |_::_,[],e5,_=>exact e5.elim
  |f::r,m::ms,e5,_=>
   obtain⟨t,ht⟩:=e5.1;refine⟨f::fs,PySem.W.KatTups.cons e2 e3 e4 ?_ g1,by simp[g2],?_⟩
   ·rw[←Array.getElem?_toList,hi];rfl
   ·intro v hv
    rcases List.mem_cons.mp hv with rfl|hv
    ·exact⟨m,t,ht⟩
    ·exact g3 v hv
 | [],_::_,q,_=>q.elim
 |_::_,[],q,_=>q.elim
noncomputable def dh(W:List (List Int)):Array Nat:=if W.length<2 then (List.range W.length).toArray else bh (fun i j=>ltZ (W.getD i []) (W.getD j [])) (PySem.W.kas_sort W.length)
theorem b7(W:List (List Int)):Ord W.length (dh W):=by
 unfold dh;split
 ·exact .refl _
 ·exact KG.fin _ (kA (by omega))
section
variable{prog:Program}{w:World}{A:Around}{E:Value->Shared->Prop}{s:Shared}
noncomputable def mr(vs:List Value)(W:List (List Int)):Array Value:=List.toArray ((dh W).toList.map fun i=>vs.getD i Value.none)
theorem vn{h:Heap}{vs:List Value}{W:List (List Int)}(tw:TW h vs W):(mr vs W).size=vs.length:=by
 have a:=(b7 W).size_eq;have b:=tw.len;simp[mr];simp at a;omega
theorem vO{vs:List Value}{W:List (List Int)}{b:Bool}{s:Shared}(tw:TW s.heap vs W){Q:Array Nat->Shared->Prop}(h2:0<vs.length)(q:Q (bh (fun i j=>ltZ (W.getD i []) (W.getD j [])) (PySem.W.kas_sort vs.length)) s):
  (PySem.W.kas_sort vs.length).kasWp (PySem.W.kas_ask prog w A (tuples' b) vs) Q s:=by
 refine KG.wp (fun i j C hi hj hC=>?_) (kA h2) q;obtain⟨a1,o1,i1,n1,e1,e2,e3,e4⟩:=tw.at hi;obtain⟨a2,o2,i2,n2,f1,f2,f3,f4⟩:=tw.at hj;show wpAny (model prog w) A (keyLt' (tuples' b) (vs.getD i Value.none) (vs.getD j Value.none)) C _ s;rw[e1,f1];refine PySem.W.kat_lt e2 e3 f2 f3 (um 0 e4 f4 ?_);have g1:=e4.len;have g2:=f4.len;rw[Array.length_toList] at g1 g2;rw[g1,g2];exact hC
theorem mQ:∀(vs:List Value),vs.length<2->Array.map (·.2) (vs.toArray.zip vs.toArray)=List.toArray ((List.range vs.length).map fun i=>vs.getD i Value.none)
 | [],_=>by simp
 | [v],_=>by simp
 |_::_::_,h=>absurd h (by simp)
theorem mL{a:Addr}{vs:List Value}{W:List (List Int)}{k:Nat}{P:PySem.Fin->Shared->Prop}(g:s.heap.get? a=some (seqObj "list" vs.toArray k))(tw:TW s.heap vs W)(ne:2<=W.length->∀x∈W,x≠[])(hs:vs.length<64)(q:P (.done (.ret .none)) { s with heap:=sortedHeap s.heap a vs (mr vs W) }):wpAny (model prog w) A (Builtin.«list.sort» ⟨[.ref a],[]⟩) P E s:=by
 have line:64<=sizeLine:=by rw[sizeLine_eq];omega
 have room:vs.toArray.size<=sizeLine:=by rw[List.size_toArray];omega
 have la:a<s.heap.objs.size:=Heap.lt_size g;have osz:=vn tw;rw[list_sort_plain];obtain⟨e1,g1⟩:∃e1,(s.heap.update a (Obj.mapSeq fun _=>(#[]:Array Value))).get? a=some (seqObj "list" #[] e1):=⟨_,get?_update_seq g fun _=>#[]⟩;refine wpAny_bind (listItems_at g rfl (wpAny_bind (listUpdate_at g rfl (wpAny_bind (seqEpoch_at g1 rfl (wpAny_bind (wpAny_newTuple (wpAny_bind (wpAny_newList (wpAny_holding ?_) (Nat.zero_le _))) ?_)))) room (Nat.zero_le _))))
 case refine_2=>show vs.length<=_;omega
 have g3:(((s.heap.update a (Obj.mapSeq fun _=>(#[]:Array Value))).push (seqObj "tuple" vs.toArray 0)).push (seqObj "list" #[] 0)).get? a=some (seqObj "list" #[] e1):=Heap.get?_push_of_some _ (Heap.get?_push_of_some _ g1)
 have tw3:TW (((s.heap.update a (Obj.mapSeq fun _=>(#[]:Array Value))).push (seqObj "tuple" vs.toArray 0)).push (seqObj "list" #[] 0)) vs W:=tw.keep fun b o e c=>by
  have nb:b≠a:=fun z=>by
   subst z;rw[g] at e;cases e;exact absurd (show Value.type "list"=Value.type "tuple" from c) (fun z=>by injection z with z;exact absurd z (by decide))
  exact Heap.get?_push_of_some _ (Heap.get?_push_of_some _ ((Heap.get?_update_ne _ _ _ _ nb).trans e))
 show wpAny (model prog w) A _ P E { s with heap:=((s.heap.update a (Obj.mapSeq fun _=>(#[]:Array Value))).push (seqObj "tuple" vs.toArray 0)).push (seqObj "list" #[] 0) }
 have fin:∀out:Array Value,out=mr vs W->P (.done (.ret .none)) { s with heap:=(((s.heap.update a (Obj.mapSeq fun _=>(#[]:Array Value))).push (seqObj "tuple" vs.toArray 0)).push (seqObj "list" #[] 0)).update a (Obj.mapSeq fun _=>out) }:=fun out e=>by
  subst e;exact q
 generalize hh:((s.heap.update a (Obj.mapSeq fun _=>(#[]:Array Value))).push (seqObj "tuple" vs.toArray 0)).push (seqObj "list" #[] 0)=hp at g3 tw3 fin ⊢;dsimp only;by_cases h2:vs.toArray.size<2
 ·rw[if_pos h2,if_pos h2]
  refine wpAny_bind (wpAny_pure ?_);rw[StateT.run_pure];refine wpAny_bind (wpAny_pure ?_);dsimp only
  have same:(arrOf (SortSt.mk' general' (vs.toArray.zip vs.toArray) #[] 7 none)).map (·.2)=mr vs W:=by
   have hl:=tw.len;rw[List.size_toArray] at h2;unfold mr dh;rw[if_pos (by omega),←hl]
   exact mQ vs h2
  rw[same];refine wpAny_bind (seqEpoch_at g3 rfl (wpAny_bind (listUpdate_at g3 rfl ?_ (Nat.zero_le _) (by omega))))
  simp only[bne_self_eq_false,Bool.false_eq_true,if_false];exact wpAny_pure (fin _ rfl)
 ·rw[if_neg h2,if_neg h2]
  rw[List.size_toArray] at h2;obtain⟨fs,t1,t2,t3⟩:=tw3.tups (ne (by have:=tw.len;omega))
  refine wpAny_bind (PySem.W.kat_kind (T:=.type "int") t1 (by omega) (fun v hv=>?_) rfl ?_)
  ·obtain⟨n,t,rfl⟩:=t3 v hv
   exact PySem.W.Looks.now
  refine wpAny_bind (wpAny_mono (PySem.W.kat_run (E:=E) (Q:=fun st' s'=>failedOf st'=none/\(arrOf st').map (·.2)=mr vs W/\s'={ s with heap:=hp }) (G:=fun p s'=>p=dh W/\s'={ s with heap:=hp }) rfl (by omega) hs (fun p st' s' _ b1 b2 b3=>⟨b2,?_,b3.2⟩) (vO tw3 (by omega) ⟨?_,rfl⟩)) ?_ fun _ _ e=>e)
  ·rw[PySem.W.kat_snds rfl b1,b3.1]
   rfl
  ·have hl:=tw.len
   unfold dh;rw[if_neg (by omega),←hl]
  ·rintro⟨⟨⟩,st'⟩ s' ⟨b1,b2,rfl⟩
   dsimp only at b1 b2 ⊢;rw[b2];refine wpAny_bind (seqEpoch_at g3 rfl (wpAny_bind (listUpdate_at g3 rfl ?_ (Nat.zero_le _) (by omega))))
   rw[b1];simp only[bne_self_eq_false,Bool.false_eq_true,if_false];exact wpAny_pure (fin _ rfl)
theorem re{l:Addr}{vs:List Value}{W:List (List Int)}{Q:Value->Shared->Prop}(g:s.heap.IsList l vs.toArray)(tw:TW s.heap vs W)(ne:2<=W.length->∀x∈W,x≠[])(hs:vs.length<64)(q:Q (.ref (s.heap.objs.size+1)) { s with heap:=sortedAll s.heap vs (mr vs W) }):wpAny (model prog w) A (call (.builtin "sorted") [.ref l]) Q E s:=by
 have line:64<=sizeLine:=by rw[sizeLine_eq];omega
 refine Calls.call_function_entry kind_sorted plain_sorted entry_sorted (args_sorted1 _) ?_;unfold Builtin.«sorted»;have n1:((s.heap.push (seqObj "list" #[] 0)).update s.heap.objs.size (Obj.mapSeq (·++vs.toArray))).objs.size=s.heap.objs.size+1:=by rw[Heap.size_update,size_push']
 refine wpAny_bind (m:=checkCount "sorted" 1 1 _) (wpAny_pure (wpAny_bind (collect_list g (wpAny_bind (wpAny_newList ?_ (by omega))) (by omega))))
 have g2:(((s.heap.push (seqObj "list" #[] 0)).update s.heap.objs.size (Obj.mapSeq (·++vs.toArray))).push (seqObj "list" vs.toArray 0)).get? (s.heap.objs.size+1)=some (seqObj "list" vs.toArray 0):=by
  rw[←n1];exact Heap.get?_push_size _ rfl
 have tw2:TW (((s.heap.push (seqObj "list" #[] 0)).update s.heap.objs.size (Obj.mapSeq (·++vs.toArray))).push (seqObj "list" vs.toArray 0)) vs W:=tw.keep fun b o e _=>by
  have lt:=Heap.lt_size e;exact Heap.get?_push_of_some _ ((Heap.get?_update_ne _ _ _ _ (Nat.ne_of_lt lt)).trans (Heap.get?_push_of_some _ e))
 show wpAny _ _ _ _ _ { s with heap:=((s.heap.push (seqObj "list" #[] 0)).update s.heap.objs.size (Obj.mapSeq (·++vs.toArray))).push (seqObj "list" vs.toArray 0) }
 rw[n1];exact wpAny_bind (wpAny_holding (wpAny_call_entry slot_list_sort ⟨_,g2,rfl⟩ entry_list_sort (mL g2 tw2 ne hs ⟨_,rfl,wpAny_pure ⟨_,rfl,q⟩⟩) (args_list_sort _)))
end
noncomputable def srt(xs:List V)(W:List (List Int)):List V:=(dh W).toList.map fun i=>xs.getD i .non
noncomputable def TWv(H:Hp):List V->List (List Int)->Prop
 | [],[]=>True
 |v::vs,x::xs=>(∃a,v=.ref a/\H a=some (.tup (x.map V.int)))/\TWv H vs xs
 |_,_=>False
section
variable{X:Cx}
theorem Zs.of:∀ {ns:List Int} {its:List Value},aH (ns.map V.int) its->Zs its ns
 | [],[],_=>trivial
 |n::ns,v::vs,h=>by
  cases h with
  |cons r rr=>
   exact⟨r,Zs.of rr⟩
 | [],_::_,h=>by cases h
 |_::_,[],h=>by cases h
theorem TWv.tw{pins:List (Addr×Obj)}{σ:St}{H:Hp}{s:Shared}(I:Inv X pins σ H s):∀ {xs:List V} {W:List (List Int)} {us:List Value},TWv H xs W->aH xs us->TW s.heap us W
 | [],[],[],_,_=>trivial
 |v::vs,x::ys,u::us,⟨⟨a,e1,e2⟩,q⟩,h=>by
  subst e1
  cases h with
  |cons r rr=>
   cases r;obtain⟨_,its,e4,⟨o,e5,e6,n,e7⟩,_⟩:=I.hok a _ e2;exact⟨⟨a,o,its.toArray,n,rfl,e5,e6,e7,Zs.of e4⟩,TWv.tw I q rr⟩
 | [],[],_::_,_,h=>by cases h
 |_::_,_,[],_,h=>by cases h
 | [],_::_,_,q,_=>q.elim
 |_::_,[],_,q,_=>q.elim
theorem iU{α:Type}{f:α->V}{g:α->Value}:∀ {l:List α},(∀i∈l,bo (f i) (g i))->aH (l.map f) (l.map g)
 | [],_=>.nil
 |_::_,h=>.cons (h _ (List.mem_cons_self ..)) (iU fun j hj=>h j (List.mem_cons_of_mem _ hj))
theorem Ord.mem{n:Nat}{p:Array Nat}(h:Ord n p){i:Nat}(hi:i∈p.toList):i<n:=by
 have:=(h.mem_iff (a:=i)).mp (Array.mem_toList_iff.mp hi);simpa using this
theorem nM:cm X (.builtin "sorted") (fun xs H Q=>∃p ys W,xs=[.ref p]/\SqL X.K H p ys/\TWv H ys W/\(2<=W.length->∀x∈W,x≠[])/\W.length<64/\∀l,H l=none->Q (.ref l) (upd H l (.lst (srt ys W)))):=by
 intro pins s σ H xs us Q I r h;obtain⟨p,ys,W,rfl,hq,hT,hne,hW,q⟩:=h;obtain⟨u,rfl,rx⟩:=du r;cases rx;obtain⟨its,r',pl,hz⟩:=I.list hq;have tw:=TWv.tw I hT r';have e1:=tw.len;have e2:=r'.length;obtain⟨e,he⟩:=sortedAll_at s.heap its (mr its W)
 have hv:aH (srt ys W) ((dh W).toList.map fun i=>its.getD i Value.none):=iU fun i hi=>by
  have hi':=(b7 W).mem hi;obtain⟨u,hu,ru⟩:=r'.get (List.getElem?_eq_getElem (by omega:i<ys.length))
  rw[List.getD_eq_getElem?_getD,List.getD_eq_getElem?_getD,hu,List.getElem?_eq_getElem (by omega:i<ys.length)]
  exact ru
 have hl:(srt ys W).length<=sizeLine:=by
  have a:=(b7 W).size_eq;have b:64<=sizeLine:=by rw[sizeLine_eq];omega
  simp[srt] at a ⊢;omega
 exact re pl.isList tw hne (by omega) ⟨.ref (s.heap.objs.size+1),_,I.laid (t':=s.toks) (fun b o e=>sortedAll_old e) (Nat.le_succ _) (show bV X.prog X.w _ _ _ (.lst (srt ys W)) from ⟨hl,_,e,hv,he⟩),rfl,q _ (I.hok.fresh (Nat.le_succ _))⟩
end
noncomputable def eR(W:List (List Int)):List (List Int):=(dh W).toList.map fun i=>W.getD i []
theorem TWv.len{H:Hp}:∀ {vs:List V} {W:List (List Int)},TWv H vs W->vs.length=W.length
 | [],[],_=>rfl
 |_::_,_::_,q=>congrArg (·+1) (TWv.len q.2)
 | [],_::_,q=>q.elim
 |_::_,[],q=>q.elim
theorem eA(W:List (List Int)):(eR W).Perm W:=by
 have h:(dh W).toList.Perm (List.range W.length):=by
  have:=(b7 W).toList;simpa using this
 have:=h.map fun i=>W.getD i [];refine this.trans (.of_eq ?_);apply List.ext_getElem?;intro i;by_cases hi:i<W.length
 ·rw[List.getElem?_map,List.getElem?_range hi,List.getElem?_eq_getElem hi]
  simp[hi]
 ·rw[List.getElem?_eq_none (by simpa using hi),List.getElem?_eq_none (by simpa using hi)]
theorem uD{H:Hp}:∀ {ns:List Int} {xs:List V},ay H (ns.map D.int) xs->xs=ns.map V.int
 | [],xs,h=>by simpa[ay] using h
 |n::ns,xs,h=>by
  simp only[List.map_cons,ay,Dat] at h;obtain⟨x,r,rfl,rfl,h2⟩:=h;rw[uD h2];rfl
theorem TWv.of{H:Hp}:∀ {W:List (List Int)} {xs:List V},ay H (W.map wdD) xs->TWv H xs W
 | [],xs,h=>by
  have:xs=[]:=by simpa[ay] using h
  subst this;exact trivial
 |x::W,xs,h=>by
  simp only[List.map_cons,ay] at h;obtain⟨v,r,rfl,hv,h2⟩:=h;simp only[wdD,Dat] at hv;obtain⟨a,ys,rfl,ha,hy⟩:=hv;rw[uD hy] at ha;exact⟨⟨a,rfl,ha⟩,TWv.of h2⟩
theorem mM{H:Hp}{W:List (List Int)}{xs:List V}(h:ay H (W.map wdD) xs):∀ {l:List Nat},(∀i∈l,i<W.length)->ay H ((l.map fun i=>W.getD i []).map wdD) (l.map fun i=>xs.getD i .non)
 | [],_=>by simp[ay]
 |i::l,q=>by
  simp only[List.map_cons,ay];have hi:=q i (List.mem_cons_self ..);obtain⟨x,e,hx⟩:=h.get (i:=i) (d:=wdD (W.getD i [])) (by rw[List.getElem?_map,List.getD_eq_getElem?_getD,List.getElem?_eq_getElem hi];rfl)
  refine⟨_,_,rfl,?_,mM h fun j hj=>q j (List.mem_cons_of_mem _ hj)⟩;rw[show xs.getD i V.non=x by rw[List.getD_eq_getElem?_getD,e];rfl]
  exact hx
theorem pk{H:Hp}{W:List (List Int)}{xs:List V}(h:ay H (W.map wdD) xs):ay H ((eR W).map wdD) (srt xs W):=mM h fun i hi=>(b7 W).mem hi
theorem yJ(W:List (List Int)):(eR W).length=W.length:=(eA W).length_eq
theorem zp{W:List (List Int)}{x:List Int}:x∈eR W↔x∈W:=(eA W).mem_iff
section
variable{X:Cx}
theorem pf:cm X (.builtin "sorted") (fun xs H Q=>∃p W,xs=[.ref p]/\LD H p (W.map wdD)/\(∀x∈W,x≠[])/\W.length<64/\∀l H',H l=none->cS H H'->LD H' l ((eR W).map wdD)->Q (.ref l) H'):=by
 intro pins s σ H xs us Q I r h;obtain⟨p,W,rfl,⟨hn,ys,hy,hd⟩,ne,hl,q⟩:=h;exact nM pins s σ H _ us Q I r ⟨p,ys,W,rfl,SqL.of hy,TWv.of hd,fun _=>ne,hl,fun l hl=>q l _ hl (ln hl) ⟨qp _,_,cA,(pk hd).same (ln hl)⟩⟩
end
structure Az(c:Nat->Nat->Bool):Prop where
 as:∀i j,c i j=true->c j i=false
 tr:∀i j k,c j i=false->c k j=false->c k i=false
theorem eB{α β:Type}(c:Nat->Nat->Bool){f:α->W.KasT β}:∀t:W.KasT α,bh c (t.bind f)=bh c (f (bh c t))
 |.ret _=>rfl
 |.ask i j k=>eB c (k (c i j))
section
variable{c:Nat->Nat->Bool}(L:Az c)
noncomputable def Up(c:Nat->Nat->Bool)(p:Array Nat)(k:Nat):Prop:=∀i j,i<=j->j<k->c (p.getD j 0) (p.getD i 0)=false
noncomputable def Dn(c:Nat->Nat->Bool)(p:Array Nat)(k:Nat):Prop:=∀i j,i<=j->j<k->c (p.getD i 0) (p.getD j 0)=false
include L
theorem Az.rf(i:Nat):c i i=false:=by
 cases h:c i i with
 |false=>rfl
 |true=>rw[L.as i i h] at h;cases h
theorem D4(p:Array Nat):Up c p 1:=fun i j h1 h2=>by
 have:i=j:=by omega
 subst this;exact L.rf _
theorem AZ{p:Array Nat}{k:Nat}(h:Up c p k)(hk:1<=k)(q:c (p.getD k 0) (p.getD (k-1) 0)=false):Up c p (k+1):=fun i j h1 h2=>by
 by_cases hj:j<k
 ·exact h i j h1 hj
 ·have:j=k:=by omega
  subst this;by_cases hi:i=j
  ·subst hi;exact L.rf _
  ·exact L.tr _ (p.getD (j-1) 0) _ (h i (j-1) (by omega) (by omega)) q
theorem jm{p:Array Nat}{k:Nat}(h:Dn c p k)(hk:1<=k)(q:c (p.getD (k-1) 0) (p.getD k 0)=false):Dn c p (k+1):=fun i j h1 h2=>by
 by_cases hj:j<k
 ·exact h i j h1 hj
 ·have:j=k:=by omega
  subst this;by_cases hi:i=j
  ·subst hi;exact L.rf _
  ·exact L.tr _ (p.getD (j-1) 0) _ q (h i (j-1) (by omega) (by omega))
theorem sX{p:Array Nat}:∀f k,1<=k->Up c p k->Up c p (bh c (W.kas_asc p f k))/\k<=bh c (W.kas_asc p f k)/\bh c (W.kas_asc p f k)<=k+f
 |0,k,_,h=>⟨h,Nat.le_refl _,Nat.le_refl _⟩
 |f+1,k,hk,h=>by
  unfold W.kas_asc;simp only[bh]
  cases q:c (p.getD k 0) (p.getD (k-1) 0) with
  |true=>exact⟨h,Nat.le_refl _,by simp[bh]⟩
  |false=>
   have:=sX f (k+1) (by omega) (AZ L h hk q)
   simp only[Bool.false_eq_true,if_false];exact⟨this.1,by omega,by omega⟩
end
theorem cM{p:Array Nat}{i j:Nat}(hj:j<=p.size)(k:Nat):(W.kas_rev p i j).getD k 0=if i<=k/\k<j then p.getD (i+j-1-k) 0 else p.getD k 0:=by
 have:=getElem?_mirror_all (xs:=p) (i:=i) hj k;simp only[Array.getD_eq_getD_getElem?];unfold W.kas_rev;rw[this];split<;>rfl
theorem rh{p:Array Nat}{s d:Nat}(hs:s<p.size)(hd:d<=s)(k:Nat):(bubble p s d).getD k 0=if k=s-d then p.getD s 0 else if s-d<k/\k<=s then p.getD (k-1) 0 else p.getD k 0:=by
 have:=getElem?_bubble hs d hd k;simp only[Array.getD_eq_getD_getElem?];rw[this];split
 ·rfl
 ·split<;>rfl
section
variable{c:Nat->Nat->Bool}(L:Az c)
include L
theorem AN{p:Array Nat}{k:Nat}(hk:k<=p.size)(h:Dn c p k):Up c (W.kas_rev p 0 k) k:=fun i j h1 h2=>by
 rw[cM hk,cM hk,if_pos (by omega),if_pos (by omega)]
 exact h _ _ (by omega) (by omega)
theorem lF{p:Array Nat}{k:Nat}(hu:Up c p k):∀f l r,r-l<=f->l<=r->r<=k->(∀i,i<l->c (p.getD k 0) (p.getD i 0)=false)->(∀i,r<=i->i<k->c (p.getD k 0) (p.getD i 0)=true) ->
  bh c (W.kas_place p k f l r)<=k/\(∀i,i<bh c (W.kas_place p k f l r)->c (p.getD k 0) (p.getD i 0)=false)/\(∀i,bh c (W.kas_place p k f l r)<=i->i<k->c (p.getD k 0) (p.getD i 0)=true)
 |0,l,r,hf,hl,hr,h1,h2=>by
  have:l=r:=by omega
  subst this;exact⟨hr,h1,h2⟩
 |f+1,l,r,hf,hl,hr,h1,h2=>by
  unfold W.kas_place;by_cases h:l ≥ r
  ·rw[if_pos h]
   have:l=r:=by omega
   subst this;exact⟨hr,h1,h2⟩
  ·rw[if_neg h]
   simp only[bh]
   cases q:c (p.getD k 0) (p.getD ((l+r) / 2) 0) with
   |true=>
    simp only[if_true];refine lF hu f l ((l+r) / 2) (by omega) (by omega) (by omega) h1 fun i hi hik=>?_
    cases e:c (p.getD k 0) (p.getD i 0) with
    |true=>rfl
    |false=>
     have:=L.tr (p.getD ((l+r) / 2) 0) (p.getD i 0) (p.getD k 0) (hu _ _ hi hik) e;rw[this] at q;cases q
   |false=>
    simp only[Bool.false_eq_true,if_false];refine lF hu f ((l+r) / 2+1) r (by omega) (by omega) hr (fun i hi=>?_) h2
    exact L.tr (p.getD i 0) (p.getD ((l+r) / 2) 0) (p.getD k 0) (hu _ _ (by omega) (by omega)) q
theorem xt:∀f (p:Array Nat) k,k+f<=p.size->Up c p k->Up c (bh c (W.kas_bin f p k)) (k+f)
 |0,_,_,_,h=>h
 |f+1,p,k,hz,h=>by
  unfold W.kas_bin;rw[eB];obtain⟨h1,h2,h3⟩:=lF L h k 0 k (by omega) (by omega) (Nat.le_refl _) (fun i hi=>absurd hi (by omega)) (fun i hi hik=>absurd hik (by omega))
  generalize bh c (W.kas_place p k k 0 k)=l at h1 h2 h3 ⊢
  have:=xt f (bubble p k (k - l)) (k + 1) (by rw [bubble_size];omega) (fun i j hij hj=>by
   rw[rh (by omega) (by omega),rh (by omega) (by omega),show k-(k-l)=l by omega]
   by_cases j1:j=l
   ·rw[if_pos j1]
    by_cases i1:i=l
    ·rw[if_pos i1];exact L.rf _
    ·rw[if_neg i1,if_neg (by omega)];exact h2 i (by omega)
   ·rw[if_neg j1]
    by_cases j2:l<j/\j<=k
    ·rw[if_pos j2]
     by_cases i1:i=l
     ·rw[if_pos i1];exact L.as _ _ (h3 (j-1) (by omega) (by omega))
     ·rw[if_neg i1]
      by_cases i2:l<i/\i<=k
      ·rw[if_pos i2];exact h _ _ (by omega) (by omega)
      ·rw[if_neg i2];exact h _ _ (by omega) (by omega)
    ·rw[if_neg j2,if_neg (by omega),if_neg (by omega)];exact h _ _ hij (by omega))
  rw[show k+(f+1)=k+1+f by omega]
  exact this
noncomputable def uA(c:Nat->Nat->Bool)(p:Array Nat)(a b:Nat):Prop:=∀i j,a<=i->i<b->a<=j->j<b->c (p.getD i 0) (p.getD j 0)=false
theorem xR{p:Array Nat}{a k:Nat}(hk:k<=p.size)(h:Dn c p k)(al:uA c p a k):Dn c (W.kas_rev p a k) k:=fun i j hij hj=>by
 rw[cM hk,cM hk];by_cases j1:a<=j/\j<k
 ·rw[if_pos j1]
  by_cases i1:a<=i/\i<k
  ·rw[if_pos i1];exact al _ _ (by omega) (by omega) (by omega) (by omega)
  ·rw[if_neg i1]
   exact h _ _ (by omega) (by omega)
 ·rw[if_neg j1,if_neg (by omega)];exact h _ _ hij hj
theorem kP:∀f (p:Array Nat) n q,1<=n->q+1<=n->n+f<=p.size->Dn c p n->uA c p (n-(q+1)) n ->
  (bh c (W.kas_desc f p n q)).1.size=p.size/\1<=(bh c (W.kas_desc f p n q)).2.1/\(bh c (W.kas_desc f p n q)).2.1<=n+f/\(bh c (W.kas_desc f p n q)).2.2+1<=(bh c (W.kas_desc f p n q)).2.1 /\
  Dn c (bh c (W.kas_desc f p n q)).1 (bh c (W.kas_desc f p n q)).2.1/\uA c (bh c (W.kas_desc f p n q)).1 ((bh c (W.kas_desc f p n q)).2.1-((bh c (W.kas_desc f p n q)).2.2+1)) (bh c (W.kas_desc f p n q)).2.1
 |0,p,n,q,h1,h2,h3,h4,h5=>⟨rfl,h1,Nat.le_refl _,h2,h4,h5⟩
 |f+1,p,n,q,h1,h2,h3,h4,h5=>by
  have single:∀p':Array Nat,uA c p' (n+1-(0+1)) (n+1):=fun p' i j a1 a2 a3 a4=>by
   have:i=j:=by omega
   subst this;exact L.rf _
  unfold W.kas_desc;simp only[bh]
  cases e:c (p.getD n 0) (p.getD (n-1) 0) with
  |true=>
   simp only[if_true];by_cases hq:q>0
   ·rw[if_pos hq]
    have d1:=xR L (by omega:n<=p.size) h4 h5
    have d2 : Dn c (W.kas_rev p (n - (q + 1)) n) (n + 1):=jm L d1 h1 (by
     rw[cM (by omega),cM (by omega),if_pos (by omega),if_neg (by omega)]
     exact L.tr _ (p.getD (n-1) 0) _ (L.as _ _ e) (h5 _ _ (by omega) (by omega) (by omega) (by omega)))
    have:=kP f (W.kas_rev p (n-(q+1)) n) (n+1) 0 (by omega) (by omega) (by rw[W.kas_rev_size];omega) d2 (single _)
    rw[W.kas_rev_size] at this;exact⟨this.1,this.2.1,by omega,this.2.2.2⟩
   ·rw[if_neg hq]
    have:=kP f p (n+1) 0 (by omega) (by omega) (by omega) (jm L h4 h1 (L.as _ _ e)) (single _)
    exact⟨this.1,this.2.1,by omega,this.2.2.2⟩
  |false=>
   simp only[Bool.false_eq_true,if_false,bh]
   cases e2:c (p.getD (n-1) 0) (p.getD n 0) with
   |true=>exact⟨rfl,h1,by simp[bh],h2,h4,h5⟩
   |false=>
    simp only[Bool.false_eq_true,if_false]
    have:=kP f p (n + 1) (q + 1) (by omega) (by omega) (by omega) (jm L h4 h1 e2) (fun i j a1 a2 a3 a4=>by
     have low:∀i,n-(q+1)<=i->i<n+1->c (p.getD i 0) (p.getD n 0)=false:=fun i b1 b2=>by
      by_cases hi:i=n
      ·subst hi;exact L.rf _
      ·exact L.tr _ (p.getD (n-1) 0) _ e2 (h5 _ _ (by omega) (by omega) (by omega) (by omega))
     have high:∀i,n-(q+1)<=i->i<n+1->c (p.getD n 0) (p.getD i 0)=false:=fun i b1 b2=>by
      by_cases hi:i=n
      ·subst hi;exact L.rf _
      ·exact L.tr _ (p.getD (n-1) 0) _ (h5 _ _ (by omega) (by omega) (by omega) (by omega)) e
     exact L.tr _ (p.getD n 0) _ (high j (by omega) a4) (low i (by omega) a2))
    exact⟨this.1,this.2.1,by omega,this.2.2.2⟩
theorem qQ{p:Array Nat}{n z:Nat}(h1:1<=n)(h2:n<=z)(hz:z=p.size)(h:Dn c p n):(bh c (W.kas_tail3 n z p)).2.size=z/\1<=(bh c (W.kas_tail3 n z p)).1/\(bh c (W.kas_tail3 n z p)).1<=z/\Up c (bh c (W.kas_tail3 n z p)).2 (bh c (W.kas_tail3 n z p)).1:=by
 unfold W.kas_tail3;rw[eB];simp only[bh];have:=sX L (p:=W.kas_rev p 0 n) (z-n) n h1 (AN L (by omega) h)
 exact⟨by rw[W.kas_rev_size];exact hz.symm,by omega,by omega,this.1⟩
theorem kn{p:Array Nat}{n z:Nat}(h1:1<=n)(h2:n<z)(hz:z=p.size)(h:Dn c p (n+1)):(bh c (W.kas_descPart n z p)).2.size=z/\1<=(bh c (W.kas_descPart n z p)).1/\(bh c (W.kas_descPart n z p)).1<=z/\Up c (bh c (W.kas_descPart n z p)).2 (bh c (W.kas_descPart n z p)).1:=by
 unfold W.kas_descPart;rw[eB]
 obtain ⟨a1,a2,a3,a4,a5,a6⟩:=kP L (z - (n + 1)) p (n + 1) 0 (by omega) (by omega) (by omega) h (fun i j b1 b2 b3 b4=>by
  have:i=j:=by omega
  subst this
  exact L.rf _)
 generalize bh c (W.kas_desc (z-(n+1)) p (n+1) 0)=r at a1 a2 a3 a4 a5 a6 ⊢;split
 ·exact qQ L a2 (by omega) (by rw[W.kas_rev_size];omega) (xR L (by omega) a5 a6)
 ·exact qQ L a2 (by omega) (by omega) a5
theorem qv{p:Array Nat}:∀f k,bh c (W.kas_asc p f k)=k+f\/c (p.getD (bh c (W.kas_asc p f k)) 0) (p.getD (bh c (W.kas_asc p f k)-1) 0)=true
 |0,k=>.inl rfl
 |f+1,k=>by
  unfold W.kas_asc;simp only[bh]
  cases q:c (p.getD k 0) (p.getD (k-1) 0) with
  |true=>exact .inr (by simpa[bh] using q)
  |false=>
   simp only[Bool.false_eq_true,if_false];rcases qv f (k+1) with h|h
   ·exact .inl (by rw[h];omega)
   ·exact .inr h
theorem xa{p:Array Nat}{z:Nat}(h1:1<=z)(hz:z=p.size):(bh c (W.kas_count z p)).2.size=z/\1<=(bh c (W.kas_count z p)).1/\(bh c (W.kas_count z p)).1<=z/\Up c (bh c (W.kas_count z p)).2 (bh c (W.kas_count z p)).1:=by
 unfold W.kas_count;rw[eB];obtain⟨a1,a2,a3⟩:=sX L (p:=p) (z-1) 1 (Nat.le_refl _) (D4 L p);have a4:=qv L (p:=p) (z-1) 1;generalize bh c (W.kas_asc p (z-1) 1)=n at a1 a2 a3 a4 ⊢;by_cases e:(n == z)=true
 ·rw[if_pos e]
  have:n=z:=by simpa using e
  exact⟨hz.symm,a2,by show n<=z;omega,a1⟩
 ·rw[if_neg e]
  have hne:n≠z:=by simpa using e
  have st:c (p.getD n 0) (p.getD (n-1) 0)=true:=by
   rcases a4 with h|h
   ·exact absurd h (by omega)
   ·exact h
  by_cases h2:n>1
  ·rw[if_pos h2]
   simp only[bh]
   cases q:c (p.getD 0 0) (p.getD (n-1) 0) with
   |true=>exact⟨hz.symm,a2,by show n<=z;omega,a1⟩
   |false=>
    simp only[Bool.false_eq_true,if_false]
    have al:∀i j,i<n->j<n->c (p.getD i 0) (p.getD j 0)=false:=fun i j hi hj=>by
     have b1:c (p.getD i 0) (p.getD 0 0)=false->True:=fun _=>trivial;have b2:=a1 j (n-1) (by omega) (by omega)
     have b3:=a1 0 i (by omega) (by omega)
     have b4:=a1 i (n-1) (by omega) (by omega)
     have b5:=a1 0 j (by omega) (by omega)
     have up1:c (p.getD (n-1) 0) (p.getD j 0)=false:=a1 j (n-1) (by omega) (by omega)
     have x1:c (p.getD 0 0) (p.getD j 0)=false:=L.tr (p.getD j 0) (p.getD (n-1) 0) (p.getD 0 0) up1 q;exact L.tr (p.getD j 0) (p.getD 0 0) (p.getD i 0) x1 b3
    have d0:Dn c (W.kas_rev p 0 n) n:=fun i j hij hj=>by
     rw[cM (by omega),cM (by omega),if_pos (by omega),if_pos (by omega)]
     exact al _ _ (by omega) (by omega)
    have d1 : Dn c (W.kas_rev p 0 n) (n + 1):=jm L d0 (by omega) (by
     rw[cM (by omega),cM (by omega),if_pos (by omega),if_neg (by omega)]
     exact L.tr _ (p.getD (n-1) 0) _ (L.as _ _ st) (al _ _ (by omega) (by omega)))
    exact kn L (by omega) (by omega) (by rw[W.kas_rev_size];exact hz) d1
  ·rw[if_neg h2]
   have n1:n=1:=by omega
   subst n1
   have d0:Dn c p 1:=fun i j hij hj=>by
    have:i=j:=by omega
    subst this;exact L.rf _
   exact kn L (by omega) (by omega) hz (jm L d0 (by omega) (L.as _ _ st))
theorem Aj{z:Nat}(h1:1<=z):Up c (bh c (W.kas_sort z)) z:=by
 unfold W.kas_sort;rw[eB];obtain⟨a1,a2,a3,a4⟩:=xa L (p:=List.toArray (List.range z)) h1 (by simp)
 generalize bh c (W.kas_count z (List.toArray (List.range z)))=r at a1 a2 a3 a4 ⊢;split
 ·rw[show max r.1 1=r.1 by omega]
  have:=xt L (z-r.1) r.2 r.1 (by omega) a4
  rwa [show r.1+(z-r.1)=z by omega] at this
 ·have:r.1=z:=by omega
  rw[this] at a4;exact a4
end
noncomputable def bX:List Int->List Int->Bool
 | [],[]=>false
 | [],_::_=>true
 |_::_,[]=>false
 |x::xs,y::ys=>if x=y then bX xs ys else decide (x<y)
theorem jf:∀x y:List Int,ltZ x y=bX x y
 | [],[]=>rfl
 | [],_::_=>by simp[ltZ,ltF,bX]
 |_::_,[]=>by simp[ltZ,ltF,bX]
 |x::xs,y::ys=>by
  have:=jf xs ys;unfold ltZ at this ⊢;unfold ltF bX;have e:decide ((x::xs).length<(y::ys).length)=decide (xs.length<ys.length):=by simp
  rw[e,this]
theorem lv:∀x y:List Int,bX x y=true->bX y x=false
 | [],[],h=>by simp[bX] at h
 | [],_::_,_=>rfl
 |_::_,[],h=>by simp[bX] at h
 |x::xs,y::ys,h=>by
  unfold bX at h ⊢;by_cases e:x=y
  ·rw[if_pos e] at h;rw[if_pos e.symm];exact lv xs ys h
  ·rw[if_neg e] at h;rw[if_neg (Ne.symm e)]
   simp at h ⊢;omega
theorem sf:∀x y z:List Int,bX y x=false->bX z y=false->bX z x=false
 | [],_,[],_,_=>rfl
 | [],_,_::_,_,_=>rfl
 |_::_,[],_,h,_=>by simp[bX] at h
 |_::_,_::_,[],_,h=>by simp[bX] at h
 |x::xs,y::ys,z::zs,h1,h2=>by
  unfold bX at h1 h2 ⊢;by_cases e1:y=x
  ·subst e1
   rw[if_pos rfl] at h1;by_cases e2:z=y
   ·subst e2
    rw[if_pos rfl] at h2 ⊢;exact sf xs ys zs h1 h2
   ·rw[if_neg e2] at h2 ⊢;exact h2
  ·rw[if_neg e1] at h1
   simp at h1;by_cases e2:z=y
   ·subst e2
    rw[if_neg e1];simpa using h1
   ·rw[if_neg e2] at h2
    simp at h2;rw[if_neg (by omega)]
    simp;omega
theorem sZ:∀x y:List Int,bX y x=false->bX x y=false->x=y
 | [],[],_,_=>rfl
 | [],_::_,_,h=>by simp[bX] at h
 |_::_,[],h,_=>by simp[bX] at h
 |x::xs,y::ys,h1,h2=>by
  unfold bX at h1 h2;by_cases e:x=y
  ·subst e
   rw[if_pos rfl] at h1 h2;rw[sZ xs ys h1 h2]
  ·rw[if_neg e] at h2
   rw[if_neg (Ne.symm e)] at h1;simp at h1 h2;omega
theorem rQ(W:List (List Int)):Az fun i j=>ltZ (W.getD i []) (W.getD j []) where
 as i j h:=by rw[jf] at h ⊢;exact lv _ _ h
 tr i j k h1 h2:=by rw[jf] at h1 h2 ⊢;exact sf _ _ _ h1 h2
noncomputable def Ris(W:List (List Int)):Prop:=W.Pairwise fun a b=>bX b a=false
theorem zO(W:List (List Int)):Ris (eR W):=by
 have hs:(dh W).size=W.length:=by
  have:=(b7 W).size_eq;simpa using this
 unfold Ris;rw[List.pairwise_iff_getElem];intro i j hi hj hij;have hl:(eR W).length=W.length:=yJ W
 have at_:∀k (hk:k<(eR W).length),(eR W)[k]=W.getD ((dh W).getD k 0) []:=fun k hk=>by
  have hk2:k<(dh W).size:=by omega
  have q:(eR W)[k]?=some (W.getD ((dh W).getD k 0) []):=by
   unfold eR;rw[List.getElem?_map,Array.getElem?_toList,Array.getElem?_eq_getElem hk2,Array.getD_eq_getD_getElem?,Array.getElem?_eq_getElem hk2];rfl
  exact(List.getElem?_eq_some_iff.mp q).2
 rw[at_ i hi,at_ j hj];by_cases h2:W.length<2
 ·omega
 ·have:=Aj (rQ W) (z:=W.length) (by omega) i j (by omega) (by omega)
  have e:dh W=bh (fun i j=>ltZ (W.getD i []) (W.getD j [])) (PySem.W.kas_sort W.length):=by unfold dh;rw[if_neg h2]
  rw[←e] at this
  rw[←jf]
  exact this
theorem xH:∀ {A B:List (List Int)},A.Perm B->Ris A->Ris B->A=B
 | [],B,p,_,_=>by rw[List.nil_perm.mp p]
 |a::A,[],p,_,_=>by simp at p
 |a::A,b::B,p,h1,h2=>by
  have ma:a∈b::B:=p.mem_iff.mp (List.mem_cons_self ..);have mb:b∈a::A:=p.mem_iff.mpr (List.mem_cons_self ..)
  have e:a=b:=by
   rcases List.mem_cons.mp ma with h|h
   ·exact h
   ·rcases List.mem_cons.mp mb with h'|h'
    ·exact h'.symm
    ·exact sZ _ _ (List.rel_of_pairwise_cons h1 h') (List.rel_of_pairwise_cons h2 h)
  subst e;rw[xH (List.Perm.cons_inv p) h1.of_cons h2.of_cons]
end L2
namespace L2
open PySem PySem.Spec PyProof.Rows
inductive AV where
 |d (x:D)
 |r (v:V)
 |p (v:V) (P:Hp->Prop)
inductive OC where
 |own (xs:List AV)
 |frz (ds:List D)
 |dic (kvs:List (Str×AV))
noncomputable abbrev Om:=Addr->Option OC
noncomputable abbrev SA:=List (Option AV)
noncomputable abbrev Fs:=Addr->Bool
noncomputable def Om.put(Z:Om)(l:Addr)(c:OC):Om:=fun b=>if b=l then some c else Z b
theorem Om.Gm{Z:Om}{l:Addr}{c:OC}:Z.put l c l=some c:=by unfold Om.put;rw[if_pos rfl]
theorem Om.Gn{Z:Om}{l b:Addr}{c:OC}(h:b≠l):Z.put l c b=Z b:=by unfold Om.put;rw[if_neg h]
theorem Om.Gp{Z:Om}{l:Addr}{c e:OC}:(Z.put l c).put l e=Z.put l e:=by funext b;unfold Om.put;split<;>rfl
theorem Om.GE{Z:Om}{l:Addr}{c:OC}(h:Z l=some c):Z.put l c=Z:=by
 funext b;unfold Om.put;split
 ·rename_i e;rw[e,h]
 ·rfl
noncomputable def ow:Option OC->Bool
 |some (.own _)=>true
 |some (.dic _)=>true
 |_=>false
noncomputable def Fs.add(F:Fs)(l:Addr):Fs:=fun b=>decide (b=l) || F b
noncomputable def cut(F:Fs)(H:Hp)(Z:Om):Hp:=fun b=>if (ow (Z b) || F b)=true then none else H b
noncomputable def RV(G:Hp):AV->V->Prop
 |.d x,v=>Dat G x v
 |.r u,v=>v=u
 |.p u P,v=>v=u/\∀G',cS G G'->P G'
noncomputable def RVs(G:Hp):List AV->List V->Prop
 | [],vs=>vs=[]
 |a::as,vs=>∃v r,vs=v::r/\RV G a v/\RVs G as r
noncomputable def RS(G:Hp)(ρ:SA)(σ:St):Prop:=ρ.length=σ.length/\∀(i:Nat)(a:AV),ρ[i]?=some (some a)->∃v,σ[i]?=some (some v)/\RV G a v
noncomputable def RKs(G:Hp):List (Str×AV)->List (Key×V)->Prop
 | [],ks=>ks=[]
 |p::r,ks=>∃v r',ks=((Sum.inr p.1:Key),v)::r'/\RV G p.2 v/\RKs G r r'
structure Rep(F:Fs)(H:Hp)(Z:Om):Prop where
 own:∀l xs,Z l=some (.own xs)->∃vs,H l=some (.lst vs)/\RVs (cut F H Z) xs vs
 frz:∀l ds,Z l=some (.frz ds)->Dat (cut F H Z) (.lst ds) (.ref l)
 hid:∀b,F b=true->Z b=none/\∃vs,H b=some (.lst vs)
 dic:∀l kvs,Z l=some (.dic kvs)->∃ks,H l=some (.dK ks)/\RKs (cut F H Z) kvs ks
structure Fr(F:Fs)(H:Hp)(Z:Om)(H':Hp)(Z':Om):Prop where
 st:∀b o,ow (Z b)=false->F b=false->H b=some o->H' b=some o/\ow (Z' b)=false
 hd:∀b,F b=true->H' b=H b
section
variable{F:Fs}{H H1 H2 H':Hp}{Z Z1 Z2 Z':Om}{G G':Hp}
theorem Fr.refl:Fr F H Z H Z:=⟨fun _ _ h _ e=>⟨e,h⟩,fun _ _=>rfl⟩
theorem Fr.trans(a:Fr F H Z H1 Z1)(b:Fr F H1 Z1 H2 Z2):Fr F H Z H2 Z2:=
 ⟨fun c o h f e=>let ⟨x,y⟩:=a.st c o h f e;b.st c o y f x,fun c h=>(b.hd c h).trans (a.hd c h)⟩
theorem bB{b:Addr}{o:HO}:cut F H Z b=some o↔ow (Z b)=false/\F b=false/\H b=some o:=by
 unfold cut;cases ow (Z b)<;>cases F b<;>simp
theorem Fr.same(a:Fr F H Z H' Z'):cS (cut F H Z) (cut F H' Z'):=fun b o e=>by
 obtain⟨h,f,e⟩:=bB.mp e;obtain⟨x,y⟩:=a.st b o h f e;exact bB.mpr ⟨y,f,x⟩
theorem aL:cS (cut F H Z) H:=fun b o e=>(bB.mp e).2.2
theorem RV.same(e:cS G G'):∀ {a:AV} {v:V},RV G a v->RV G' a v
 |.d _,_,h=>Dat.same e h
 |.r _,_,h=>h
 |.p _ _,_,h=>⟨h.1,fun G2 s=>h.2 G2 (e.trans s)⟩
theorem RVs.same(e:cS G G'):∀ {as:List AV} {vs:List V},RVs G as vs->RVs G' as vs
 | [],_,h=>h
 |_::_,_,⟨v,r,h1,h2,h3⟩=>⟨v,r,h1,h2.same e,h3.same e⟩
theorem RKs.same(e:cS G G'):∀ {as:List (Str×AV)} {vs:List (Key×V)},RKs G as vs->RKs G' as vs
 | [],_,h=>h
 |_::_,_,⟨v,r,h1,h2,h3⟩=>⟨v,r,h1,h2.same e,h3.same e⟩
theorem RS.same(e:cS G G'){ρ:SA}{σ:St}(h:RS G ρ σ):RS G' ρ σ:=⟨h.1,fun i a q=>let ⟨v,x,y⟩:=h.2 i a q;⟨v,x,y.same e⟩⟩
theorem RVs.length:∀ {as:List AV} {vs:List V},RVs G as vs->vs.length=as.length
 | [],_,h=>by cases h;rfl
 |_::_,_,⟨v,r,h1,_,h3⟩=>by subst h1;simp[h3.length]
theorem RVs.get:∀ {as:List AV} {vs:List V} {i:Nat} {a:AV},RVs G as vs->as[i]?=some a->∃v,vs[i]?=some v/\RV G a v
 | [],_,_,_,_,e=>by simp at e
 |_::_,_,0,_,⟨v,r,h1,h2,_⟩,e=>by subst h1;simp at e;subst e;exact⟨v,rfl,h2⟩
 |_::_,_,i+1,_,⟨v,r,h1,_,h3⟩,e=>by subst h1;simp at e;obtain⟨v',e1,e2⟩:=h3.get e;exact⟨v',by simpa using e1,e2⟩
theorem RVs.append:∀ {as bs:List AV} {vs us:List V},RVs G as vs->RVs G bs us->RVs G (as++bs) (vs++us)
 | [],_,_,_,h,k=>by cases h;exact k
 |_::_,_,_,_,⟨v,r,h1,h2,h3⟩,k=>by subst h1;exact⟨v,_,rfl,h2,h3.append k⟩
theorem RVs.one{a:AV}{v:V}(h:RV G a v):RVs G [a] [v]:=⟨v,[],rfl,h,rfl⟩
theorem RVs.dats:∀ {ds:List D} {vs:List V},RVs G (ds.map AV.d) vs↔ay G ds vs
 | [],_=>by simp[RVs,ay]
 |d::ds,vs=>by
  simp only[List.map_cons,RVs,ay,RV];constructor
  ·rintro⟨v,r,h1,h2,h3⟩;exact⟨v,r,h1,h2,RVs.dats.mp h3⟩
  ·rintro⟨v,r,h1,h2,h3⟩;exact⟨v,r,h1,h2,RVs.dats.mpr h3⟩
theorem RVs.set{as:List AV}{vs:List V}(i:Nat){a:AV}{v:V}(h:RVs G as vs)(k:RV G a v):RVs G (as.set i a) (vs.set i v):=by
 induction as generalizing vs i with
 |nil=>cases h;exact rfl
 |cons b as ih=>
  obtain⟨u,r,rfl,h2,h3⟩:=h
  cases i with
  |zero=>exact⟨v,r,rfl,k,h3⟩
  |succ i=>exact⟨u,_,rfl,h2,ih i h3⟩
theorem Rep.free(R:Rep F H Z){p:Addr}(h:H p=none):Z p=none/\F p=false:=by
 constructor
 ·cases e:Z p with
  |none=>rfl
  |some c=>cases c with
   |own xs=>obtain⟨vs,q,_⟩:=R.own p xs e;rw[h] at q;cases q
   |frz ds=>
    have q:=R.frz p ds e;simp only[Dat] at q;obtain⟨a,xs,e1,e2,_⟩:=q;cases e1;rw[aL _ _ e2] at h;cases h
   |dic kvs=>obtain⟨vs,q,_⟩:=R.dic p kvs e;rw[h] at q;cases q
 ·cases e:F p with
  |false=>rfl
  |true=>obtain⟨_,o,q⟩:=R.hid p e;rw[h] at q;cases q
theorem Rep.lay(R:Rep F H Z){p:Addr}{o:HO}(h:H p=none):Rep F (upd H p o) Z/\Fr F H Z (upd H p o) Z/\cut F (upd H p o) Z p=some o:=by
 have hs:=ln (o:=o) h
 have fr:Fr F H Z (upd H p o) Z:=⟨fun b u x f e=>⟨hs _ _ e,x⟩,fun b f=>by
  obtain⟨_,u,q⟩:=R.hid b f
  rw[aG (bb q h)]⟩
 obtain⟨f1,f2⟩:=R.free h;refine⟨⟨fun l xs e=>?_,fun l ds e=>(R.frz l ds e).same fr.same,fun b f=>?_,fun l ks e=>(by obtain⟨vs,e1,e2⟩:=R.dic l ks e;exact⟨vs,hs _ _ e1,e2.same fr.same⟩)⟩,fr,bB.mpr ⟨by rw[f1];rfl,f2,cA⟩⟩
 ·obtain⟨vs,e1,e2⟩:=R.own l xs e
  exact⟨vs,hs _ _ e1,e2.same fr.same⟩
 ·obtain⟨x,u,q⟩:=R.hid b f
  exact⟨x,u,hs _ _ q⟩
theorem wE{l:Addr}{xs ys:List AV}{o:HO}(h:Z l=some (.own xs)):cut F (upd H l o) (Z.put l (.own ys))=cut F H Z:=by
 funext b
 unfold cut Om.put;by_cases hb:b=l
 ·subst hb;rw[if_pos rfl,h];simp[ow]
 ·rw[if_neg hb,aG hb]
theorem Rep.write(R:Rep F H Z){l:Addr}{xs ys:List AV}{vs:List V}(h:Z l=some (.own xs))(hv:RVs (cut F H Z) ys vs):
  Rep F (upd H l (.lst vs)) (Z.put l (.own ys))/\Fr F H Z (upd H l (.lst vs)) (Z.put l (.own ys)):=by
 have c:=wE (F:=F) (H:=H) (ys:=ys) (o:=.lst vs) h
 refine ⟨⟨fun k zs e=>?_,fun k ds e=>?_,fun b f=>?_,fun k ks e=>(by
  have hk:k≠l:=fun z=>(by subst z;rw[Om.Gm] at e;cases e)
  rw[Om.Gn hk] at e;rw[c,aG hk];exact R.dic k ks e)⟩,fun b o x f e=>?_,fun b f=>?_⟩
 ·rw[c]
  by_cases hk:k=l
  ·subst hk;rw[Om.Gm] at e;cases e;exact⟨vs,cA,hv⟩
  ·rw[Om.Gn hk] at e;rw[aG hk];exact R.own k zs e
 ·rw[c]
  by_cases hk:k=l
  ·subst hk;rw[Om.Gm] at e;cases e
  ·rw[Om.Gn hk] at e;exact R.frz k ds e
 ·obtain⟨x,o,q⟩:=R.hid b f
  have hb:b≠l:=fun z=>by subst z;rw[h] at x;cases x
  exact⟨by rw[Om.Gn hb];exact x,o,by rw[aG hb];exact q⟩
 ·have hb:b≠l:=fun z=>by subst z;rw[h] at x;cases x
  rw[Om.Gn hb,aG hb];exact⟨e,x⟩
 ·obtain⟨x,o,q⟩:=R.hid b f
  have hb:b≠l:=fun z=>by subst z;rw[h] at x;cases x
  exact aG hb
theorem Rep.mk'(R:Rep F H Z){l:Addr}{xs:List AV}{vs:List V}(h:H l=none)(hv:RVs (cut F H Z) xs vs):
  Rep F (upd H l (.lst vs)) (Z.put l (.own xs))/\Fr F H Z (upd H l (.lst vs)) (Z.put l (.own xs)):=by
 obtain⟨f1,f2⟩:=R.free h
 have c:cut F (upd H l (.lst vs)) (Z.put l (.own xs))=cut F H Z:=by
  funext b
  unfold cut Om.put;by_cases hb:b=l
  ·subst hb;rw[if_pos rfl,f1,f2,h];simp[ow]
  ·rw[if_neg hb,aG hb]
 refine ⟨⟨fun k zs e=>?_,fun k ds e=>?_,fun b f=>?_,fun k ks e=>(by
  have hk:k≠l:=fun z=>(by subst z;rw[Om.Gm] at e;cases e)
  rw[Om.Gn hk] at e;rw[c,aG hk];exact R.dic k ks e)⟩,fun b o x f e=>?_,fun b f=>?_⟩
 ·rw[c]
  by_cases hk:k=l
  ·subst hk;rw[Om.Gm] at e;cases e;exact⟨vs,cA,hv⟩
  ·rw[Om.Gn hk] at e;rw[aG hk];exact R.own k zs e
 ·rw[c]
  by_cases hk:k=l
  ·subst hk;rw[Om.Gm] at e;cases e
  ·rw[Om.Gn hk] at e;exact R.frz k ds e
 ·obtain⟨x,o,q⟩:=R.hid b f
  have hb:b≠l:=bb q h;exact⟨by rw[Om.Gn hb];exact x,o,by rw[aG hb];exact q⟩
 ·have hb:b≠l:=bb e h
  rw[Om.Gn hb,aG hb];exact⟨e,x⟩
 ·obtain⟨x,o,q⟩:=R.hid b f
  exact aG (bb q h)
theorem Rep.freeze(R:Rep F H Z){l:Addr}{ds:List D}(h:Z l=some (.own (ds.map AV.d))):
  Rep F H (Z.put l (.frz ds))/\Fr F H Z H (Z.put l (.frz ds))/\Dat (cut F H (Z.put l (.frz ds))) (.lst ds) (.ref l):=by
 have fr:Fr F H Z H (Z.put l (.frz ds)):=⟨fun b o x f e=>⟨e,by
  by_cases hb:b=l
  ·subst hb;rw[h] at x;cases x
  ·rw[Om.Gn hb];exact x⟩,fun _ _=>rfl⟩
 obtain⟨vs,e1,e2⟩:=R.own l _ h
 have hF:F l=false:=by
  cases e:F l with
  |false=>rfl
  |true=>have:=(R.hid l e).1;rw[h] at this;cases this
 have dl:Dat (cut F H (Z.put l (.frz ds))) (.lst ds) (.ref l):=by
  simp only[Dat];exact⟨l,vs,rfl,bB.mpr ⟨by rw[Om.Gm];rfl,hF,e1⟩,(RVs.dats.mp e2).same fr.same⟩
 refine ⟨⟨fun k zs e=>?_,fun k es e=>?_,fun b f=>?_,fun k ks e=>(by
  have hk:k≠l:=fun z=>(by subst z;rw[Om.Gm] at e;cases e)
  rw[Om.Gn hk] at e;obtain⟨us,q1,q2⟩:=R.dic k ks e;exact⟨us,q1,q2.same fr.same⟩)⟩,fr,dl⟩
 ·by_cases hk:k=l
  ·subst hk;rw[Om.Gm] at e;cases e
  ·rw[Om.Gn hk] at e
   obtain⟨us,q1,q2⟩:=R.own k zs e;exact⟨us,q1,q2.same fr.same⟩
 ·by_cases hk:k=l
  ·subst hk;rw[Om.Gm] at e;cases e;exact dl
  ·rw[Om.Gn hk] at e;exact(R.frz k es e).same fr.same
 ·obtain⟨x,o,q⟩:=R.hid b f
  have hb:b≠l:=fun z=>by subst z;rw[h] at x;cases x
  exact⟨by rw[Om.Gn hb];exact x,o,q⟩
theorem Rep.hide(R:Rep F H Z){l:Addr}{vs:List V}(h:H l=none):Rep (F.add l) (upd H l (.lst vs)) Z/\cut (F.add l) (upd H l (.lst vs)) Z=cut F H Z:=by
 obtain⟨f1,f2⟩:=R.free h
 have c:cut (F.add l) (upd H l (.lst vs)) Z=cut F H Z:=by
  funext b
  unfold cut Fs.add;by_cases hb:b=l
  ·subst hb;simp[h]
  ·rw[aG hb];simp[hb]
 refine⟨⟨fun k zs e=>?_,fun k ds e=>?_,fun b f=>?_,fun k ks e=>(by rw[c];obtain⟨us,q1,q2⟩:=R.dic k ks e;exact⟨us,by rw[aG (bb q1 h)];exact q1,q2⟩)⟩,c⟩
 ·rw[c]
  obtain⟨us,q1,q2⟩:=R.own k zs e;exact⟨us,by rw[aG (bb q1 h)];exact q1,q2⟩
 ·rw[c];exact R.frz k ds e
 ·by_cases hb:b=l
  ·subst hb;exact⟨f1,_,cA⟩
  ·have f':F b=true:=by simpa[Fs.add,hb] using f
   obtain⟨x,o,q⟩:=R.hid b f';exact⟨x,o,by rw[aG hb];exact q⟩
theorem Rep.hwrite(R:Rep F H Z){l:Addr}{vs:List V}(h:F l=true):Rep F (upd H l (.lst vs)) Z/\cut F (upd H l (.lst vs)) Z=cut F H Z:=by
 have c:cut F (upd H l (.lst vs)) Z=cut F H Z:=by
  funext b
  unfold cut;by_cases hb:b=l
  ·subst hb;simp[h]
  ·rw[aG hb]
 refine ⟨⟨fun k zs e=>?_,fun k ds e=>?_,fun b f=>?_,fun k ks e=>(by
  have hk:k≠l:=fun z=>(by subst z;rw[(R.hid _ h).1] at e;cases e)
  rw[c,aG hk];exact R.dic k ks e)⟩,c⟩
 ·rw[c]
  obtain⟨us,q1,q2⟩:=R.own k zs e;have hk:k≠l:=fun z=>by subst z;rw[(R.hid _ h).1] at e;cases e
  exact⟨us,by rw[aG hk];exact q1,q2⟩
 ·rw[c];exact R.frz k ds e
 ·by_cases hb:b=l
  ·subst hb;exact⟨(R.hid _ h).1,_,cA⟩
  ·obtain⟨x,o,q⟩:=R.hid b f
   exact⟨x,o,by rw[aG hb];exact q⟩
theorem Rep.unhide{l:Addr}{vs:List V}(R:Rep (F.add l) H Z)(hF:F l=false)(h:H l=some (.lst vs)):
  Rep F H Z/\cS (cut (F.add l) H Z) (cut F H Z)/\cut F H Z l=some (.lst vs):=by
 have hl:Z l=none:=(R.hid l (by simp[Fs.add])).1
 have sm:cS (cut (F.add l) H Z) (cut F H Z):=fun b o e=>by
  obtain⟨x,f,e⟩:=bB.mp e;refine bB.mpr ⟨x,?_,e⟩;unfold Fs.add at f
  cases q:F b with
  |false=>rfl
  |true=>rw[q] at f;simp at f
 refine⟨⟨fun k zs e=>?_,fun k ds e=>(R.frz k ds e).same sm,fun b f=>R.hid b (by simp[Fs.add,f]),fun k ks e=>(by obtain⟨us,q1,q2⟩:=R.dic k ks e;exact⟨us,q1,q2.same sm⟩)⟩,sm,bB.mpr ⟨by rw[hl];rfl,hF,h⟩⟩
 obtain⟨us,q1,q2⟩:=R.own k zs e;exact⟨us,q1,q2.same sm⟩
theorem Rep.GG{l:Addr}{vs:List V}{xs:List AV}(R:Rep (F.add l) H Z)(hF:F l=false)(h:H l=some (.lst vs))(hv:RVs (cut (F.add l) H Z) xs vs):
  Rep F H (Z.put l (.own xs))/\cS (cut (F.add l) H Z) (cut F H (Z.put l (.own xs))):=by
 have hl:Z l=none:=(R.hid l (by simp[Fs.add])).1
 have sm:cS (cut (F.add l) H Z) (cut F H (Z.put l (.own xs))):=fun b o e=>by
  obtain⟨x,f,e⟩:=bB.mp e;have hb:b≠l:=fun z=>by subst z;simp[Fs.add] at f
  refine bB.mpr ⟨by rw[Om.Gn hb];exact x,?_,e⟩
  unfold Fs.add at f
  cases q:F b with
  |false=>rfl
  |true=>rw[q] at f;simp at f
 refine ⟨⟨fun k zs e=>?_,fun k ds e=>?_,fun b f=>?_,fun k ks e=>(by
  have hk:k≠l:=fun z=>(by subst z;rw[Om.Gm] at e;cases e)
  rw[Om.Gn hk] at e;obtain⟨us,q1,q2⟩:=R.dic k ks e;exact⟨us,q1,q2.same sm⟩)⟩,sm⟩
 ·by_cases hk:k=l
  ·subst hk;rw[Om.Gm] at e;cases e;exact⟨vs,h,hv.same sm⟩
  ·rw[Om.Gn hk] at e
   obtain⟨us,q1,q2⟩:=R.own k zs e;exact⟨us,q1,q2.same sm⟩
 ·by_cases hk:k=l
  ·subst hk;rw[Om.Gm] at e;cases e
  ·rw[Om.Gn hk] at e;exact(R.frz k ds e).same sm
 ·have hb:b≠l:=fun z=>by subst z;rw[f] at hF;cases hF
  rw[Om.Gn hb];exact R.hid b (by simp[Fs.add,f])
end
noncomputable def LP{α β:Type}(R:Hp->α->β->Prop)(F:Fs)(H:Hp)(Z:Om)(Q':α->Om->Prop)(Q:β->Hp->Prop):Prop:=
 ∀a Z' v H',Rep F H' Z'->Fr F H Z H' Z'->R (cut F H' Z') a v->Q' a Z'->Q v H'
theorem LP.fr{α β:Type}{R:Hp->α->β->Prop}{F:Fs}{H H1:Hp}{Z Z1:Om}{Q':α->Om->Prop}{Q:β->Hp->Prop}(k:LP R F H Z Q' Q)(f:Fr F H Z H1 Z1):LP R F H1 Z1 Q' Q:=
 fun a Z' v H' rp fr rv q=>k a Z' v H' rp (f.trans fr) rv q
structure Ref{α β:Type}(R:Hp->α->β->Prop)(t:St->Hp->(β->Hp->Prop)->Prop)(t':SA->Om->(α->Om->Prop)->Prop):Prop where
 run:∀(F:Fs)(H:Hp)(Z:Om)(σ:St)(ρ:SA)(Q:β->Hp->Prop)(Q':α->Om->Prop),Rep F H Z->RS (cut F H Z) ρ σ->t' ρ Z Q'->LP R F H Z Q' Q->t σ H Q
theorem Ref.go{α β:Type}{R:Hp->α->β->Prop}{t:St->Hp->(β->Hp->Prop)->Prop}{t':SA->Om->(α->Om->Prop)->Prop}(h:Ref R t t'){F:Fs}{H:Hp}{Z:Om}{σ:St}{ρ:SA}{Q:β->Hp->Prop}{Q':α->Om->Prop}(rp:Rep F H Z)(rs:RS (cut F H Z) ρ σ)(w:t' ρ Z Q')(k:∀a Z1 v H1,Rep F H1 Z1->Fr F H Z H1 Z1->RS (cut F H1 Z1) ρ σ->R (cut F H1 Z1) a v->Q' a Z1->Q v H1):t σ H Q:=
 h.run F H Z σ ρ Q Q' rp rs w fun a Z1 v H1 rp1 fr1 rv q=>k a Z1 v H1 rp1 fr1 (rs.same fr1.same) rv q
noncomputable abbrev AE:=SA->Om->(AV->Om->Prop)->Prop
noncomputable abbrev AT:=SA->Om->(Bool->Om->Prop)->Prop
noncomputable abbrev AA:=SA->Om->(List AV->Om->Prop)->Prop
noncomputable def REq{α:Type}(_:Hp)(a b:α):Prop:=a=b
noncomputable abbrev br(t:TE)(t':AE):Prop:=Ref RV t t'
noncomputable abbrev gv(t:TT)(t':AT):Prop:=Ref REq t t'
noncomputable abbrev jk(t:TA)(t':AA):Prop:=Ref RVs t t'
structure cI where
 nx:SA->Om->Prop
 rt:AV->Om->Prop
 bk:SA->Om->Prop:=fun _ _=>False
 ct:SA->Om->Prop:=fun _ _=>False
noncomputable abbrev AS:=cI->SA->Om->Prop
structure LE(F:Fs)(H:Hp)(Z:Om)(D':cI)(D:ic):Prop where
 nx:LP RS F H Z D'.nx D.nx
 rt:LP RV F H Z D'.rt D.rt
 bk:LP RS F H Z D'.bk D.bk
 ct:LP RS F H Z D'.ct D.ct
theorem LE.fr{F:Fs}{H H1:Hp}{Z Z1:Om}{D':cI}{D:ic}(k:LE F H Z D' D)(f:Fr F H Z H1 Z1):LE F H1 Z1 D' D:=⟨k.nx.fr f,k.rt.fr f,k.bk.fr f,k.ct.fr f⟩
structure ii(t:TS)(t':AS):Prop where
 run:∀(F:Fs)(H:Hp)(Z:Om)(σ:St)(ρ:SA)(D:ic)(D':cI),Rep F H Z->RS (cut F H Z) ρ σ->t' D' ρ Z->LE F H Z D' D->t D σ H
noncomputable abbrev AG:=AV->SA->Om->(SA->Om->Prop)->Prop
noncomputable abbrev AGs:=List AV->SA->Om->(SA->Om->Prop)->Prop
structure ku(g:TG)(g':AG):Prop where
 run:∀(F:Fs)(H:Hp)(Z:Om)(σ:St)(ρ:SA)(v:V)(a:AV)(Q:St->Hp->Prop)(Q':SA->Om->Prop),Rep F H Z->RS (cut F H Z) ρ σ->RV (cut F H Z) a v->g' a ρ Z Q'->LP RS F H Z Q' Q->g v σ H Q
structure rq(g:TGs)(g':AGs):Prop where
 run:∀(F:Fs)(H:Hp)(Z:Om)(σ:St)(ρ:SA)(v:List V)(a:List AV)(Q:St->Hp->Prop)(Q':SA->Om->Prop),Rep F H Z->RS (cut F H Z) ρ σ->RVs (cut F H Z) a v->g' a ρ Z Q'->LP RS F H Z Q' Q->g v σ H Q
noncomputable abbrev ASp:=List AV->Om->(AV->Om->Prop)->Prop
noncomputable def cL(sp:ASp):Sp:=fun vs H Q _=>∃(F:Fs)(xs:List AV)(Z:Om)(Q':AV->Om->Prop),Rep F H Z/\RVs (cut F H Z) xs vs/\sp xs Z Q'/\LP RV F H Z Q' Q
noncomputable def BH:AS:=fun D ρ Z=>D.nx ρ Z
noncomputable def z6(t u:AS):AS:=fun D ρ Z=>t { D with nx:=u D } ρ Z
noncomputable def Cr(te:AE):AS:=fun D ρ Z=>te ρ Z fun _ Z1=>D.nx ρ Z1
noncomputable def Ey(te:AE):AS:=fun D ρ Z=>te ρ Z D.rt
noncomputable def Ef(c:AT)(t u:AS):AS:=fun D ρ Z=>c ρ Z fun b Z1=>if b=true then t D ρ Z1 else u D ρ Z1
noncomputable def EC(te:AE)(g:AG):AS:=fun D ρ Z=>te ρ Z fun x Z1=>g x ρ Z1 D.nx
noncomputable def yK(c:AT)(tb:AS):AS:=fun D ρ Z=>∃W:Nat->SA->Om->Prop,(∃m,W m ρ Z)/\∀m ρ Z,W m ρ Z ->
 c ρ Z fun b Z1=>if b=true then ∃N:SA->Om->Prop,(∀ρ' Z',N ρ' Z'->∃m',m'<m/\W m' ρ' Z')/\tb { D with nx:=N,ct:=N,bk:=D.nx } ρ Z1 else D.nx ρ Z1
noncomputable def lH(i:Nat):AG:=fun v ρ Z Q=>Q (ρ.set i (some v)) Z
noncomputable def By:AGs:=fun vs ρ Z Q=>vs=[]/\Q ρ Z
noncomputable def y3(t:AG)(u:AGs):AGs:=fun vs ρ Z Q=>∃v r,vs=v::r/\t v ρ Z fun ρ' Z'=>u r ρ' Z' Q
section
variable{t u:TS}{t' u':AS}{te:TE}{te':AE}{tc:TT}{tc':AT}{g:TG}{g':AG}{gs:TGs}{gs':AGs}
theorem RS.set{G:Hp}{ρ:SA}{σ:St}{i:Nat}{a:AV}{v:V}(h:RS G ρ σ)(r:RV G a v):RS G (ρ.set i (some a)) (σ.set i (some v)):=by
 refine⟨by simp[h.1],fun j b e=>?_⟩
 by_cases hj:j=i
 ·subst hj
  rw[List.getElem?_set] at e;rw[List.getElem?_set];simp only[if_true] at e ⊢;split at e
  ·rename_i hl
   cases e;rw[if_pos (h.1 ▸ hl)];exact⟨v,rfl,r⟩
  ·cases e
 ·rw[List.getElem?_set_ne (Ne.symm hj)] at e
  rw[List.getElem?_set_ne (Ne.symm hj)];exact h.2 j b e
theorem bU:ii B7 BH:=⟨fun F H Z σ ρ D D' rp rs h k=>k.nx ρ Z σ H rp .refl rs h⟩
theorem aB(h1:ii t t')(h2:ii u u'):ii (Fi t u) (z6 t' u'):=⟨fun F H Z σ ρ D D' rp rs h k=>
 h1.run F H Z σ ρ _ _ rp rs h ⟨fun ρ1 Z1 σ1 H1 rp1 fr1 rs1 q=>h2.run F H1 Z1 σ1 ρ1 D D' rp1 rs1 q (k.fr fr1),k.rt,k.bk,k.ct⟩⟩
theorem s9(h:br te te'):ii (BI te) (Cr te'):=⟨fun F H Z σ ρ D D' rp rs w k=>h.go rp rs w fun a Z1 v H1 rp1 fr1 rs1 rv q=>k.nx ρ Z1 σ H1 rp1 fr1 rs1 q⟩
theorem a8(h:br te te'):ii (FC te) (Ey te'):=⟨fun F H Z σ ρ D D' rp rs w k=>h.run F H Z σ ρ _ _ rp rs w k.rt⟩
theorem fC(hc:gv tc tc')(h1:ii t t')(h2:ii u u'):ii (ED tc t u) (Ef tc' t' u'):=⟨fun F H Z σ ρ D D' rp rs w k=>
 hc.go rp rs w fun a Z1 v H1 rp1 fr1 rs1 rv q=>by
  cases (show a=v from rv)
  cases a with
  |true=>rw[if_pos rfl] at q ⊢;exact h1.run F H1 Z1 σ ρ D D' rp1 rs1 q (k.fr fr1)
  |false=>rw[if_neg Bool.false_ne_true] at q ⊢;exact h2.run F H1 Z1 σ ρ D D' rp1 rs1 q (k.fr fr1)⟩
theorem aK(h:br te te')(hg:ku g g'):ii (Dz te g) (EC te' g'):=⟨fun F H Z σ ρ D D' rp rs w k=>h.go rp rs w fun a Z1 v H1 rp1 fr1 rs1 rv q=>
 hg.run F H1 Z1 σ ρ v a _ _ rp1 rs1 rv q (k.nx.fr fr1)⟩
theorem ap{i:Nat}:ku (xU i) (lH i):=⟨fun F H Z σ ρ v a Q Q' rp rs rv w k=>k _ Z _ H rp .refl (rs.set rv) w⟩
theorem yZ:rq EJ By:=⟨fun F H Z σ ρ vs as Q Q' rp rs rv w k=>by
 obtain⟨rfl,w⟩:=w
 exact⟨rv,k ρ Z σ H rp .refl rs w⟩⟩
theorem iA(h1:ku g g')(h2:rq gs gs'):rq (B9 g gs) (y3 g' gs'):=⟨fun F H Z σ ρ vs as Q Q' rp rs rv w k=>by
 obtain⟨a,r,rfl,w⟩:=w;obtain⟨v,us,rfl,rv1,rv2⟩:=rv
 exact⟨v,us,rfl,h1.run F H Z σ ρ v a _ _ rp rs rv1 w fun ρ1 Z1 σ1 H1 rp1 fr1 rs1 q=>h2.run F H1 Z1 σ1 ρ1 us r Q Q' rp1 rs1 (rv2.same fr1.same) q (k.fr fr1)⟩⟩
theorem oW(hc:gv tc tc')(hb:ii t t'):ii (yV tc t) (yK tc' t'):=⟨fun F H Z σ ρ D D' rp rs w k=>by
 obtain⟨W,⟨m0,w0⟩,turn⟩:=w;refine⟨fun m σ1 H1=>∃ρ1 Z1,Rep F H1 Z1/\RS (cut F H1 Z1) ρ1 σ1/\Fr F H Z H1 Z1/\W m ρ1 Z1,⟨m0,ρ,Z,rp,rs,.refl,w0⟩,?_⟩;rintro m σ1 H1 ⟨ρ1,Z1,rp1,rs1,fr1,w1⟩;refine hc.go rp1 rs1 (turn m ρ1 Z1 w1) fun a Z2 v H2 rp2 fr2 rs2 rv q=>?_;cases (show a=v from rv)
 have k2:=k.fr (fr1.trans fr2)
 cases a with
 |true=>
  rw[if_pos rfl] at q ⊢;obtain⟨N,hN,q⟩:=q;refine⟨fun σ' H'=>∃ρ' Z',Rep F H' Z'/\RS (cut F H' Z') ρ' σ'/\Fr F H Z H' Z'/\N ρ' Z',?_,hb.run F H2 Z2 σ1 ρ1 _ _ rp2 rs2 q ⟨?_,k2.rt,k2.nx,?_⟩⟩
  ·rintro σ' H' ⟨ρ',Z',e1,e2,e3,e4⟩
   obtain⟨m',hm,z⟩:=hN _ _ e4;exact⟨m',hm,ρ',Z',e1,e2,e3,z⟩
  ·exact fun ρ' Z' σ' H' e1 e2 e3 e4=>⟨ρ',Z',e1,e3,(fr1.trans fr2).trans e2,e4⟩
  ·exact fun ρ' Z' σ' H' e1 e2 e3 e4=>⟨ρ',Z',e1,e3,(fr1.trans fr2).trans e2,e4⟩
 |false=>
  rw[if_neg Bool.false_ne_true] at q ⊢
  exact k2.nx ρ1 Z2 σ1 H2 rp2 .refl rs2 q⟩
end
noncomputable def sW(G:Hp)(as:List AV)(J:It):Prop:=∀(F:Fs)(H:Hp)(Z:Om),Rep F H Z->cS G (cut F H Z)->J.stop as.length H /\
 ∀(i:Nat)(a:AV),as[i]?=some a->J.go i H/\∀x H',J.yld i H x H'->Rep F H' Z/\Fr F H Z H' Z/\RV (cut F H' Z) a x
noncomputable abbrev AI:=SA->Om->(List AV->Om->Prop)->Prop
noncomputable abbrev qu(t:TI)(t':AI):Prop:=Ref sW t t'
noncomputable def gr(g:AG)(tb:AS)(D:cI):List AV->SA->Om->Prop
 | [],ρ,Z=>D.nx ρ Z
 |a::as,ρ,Z=>g a ρ Z fun ρ1 Z1=>tb { nx:=gr g tb D as,ct:=gr g tb D as,bk:=D.nx,rt:=D.rt } ρ1 Z1
noncomputable def Fq(wi:AI)(g:AG)(tb:AS):AS:=fun D ρ Z=>wi ρ Z fun as Z1=>gr g tb D as ρ Z1
theorem hZ{α:Type}{as:List α}{i:Nat}(h:i<as.length):∃a,as[i]?=some a/\as.drop i=a::as.drop (i+1):=
 ⟨as[i],List.getElem?_eq_getElem h,List.drop_eq_getElem_cons h⟩
theorem i0{wi:TI}{wi':AI}{g:TG}{g':AG}{t:TS}{t':AS}(hi:qu wi wi')(hg:ku g g')(hb:ii t t'):ii (Dc wi g t) (Fq wi' g' t'):=⟨fun F H Z σ ρ D D' rp rs w k=>by
 rw[zU];refine hi.go rp rs w fun as Z1 J H1 rp1 fr1 rs1 it q=>?_;refine⟨fun i m σ2 H2=>m+i=as.length/\∃ρ2 Z2,Rep F H2 Z2/\RS (cut F H2 Z2) ρ2 σ2/\Fr F H1 Z1 H2 Z2/\gr g' t' D' (as.drop i) ρ2 Z2,⟨as.length,rfl,ρ,Z1,rp1,rs1,.refl,q⟩,?_⟩;rintro i m σ2 H2 ⟨hm,ρ2,Z2,rp2,rs2,fr2,q2⟩;obtain⟨stop,go⟩:=it F H2 Z2 rp2 fr2.same;by_cases hl:i<as.length
 ·obtain⟨a,ha,hd⟩:=hZ hl
  rw[hd] at q2;obtain⟨g1,y1⟩:=go i a ha;refine .inr ⟨g1,fun σ' H'=>m-1+(i+1)=as.length/\∃ρ' Z',Rep F H' Z'/\RS (cut F H' Z') ρ' σ'/\Fr F H1 Z1 H' Z'/\gr g' t' D' (as.drop (i+1)) ρ' Z',fun σ' H' z=>⟨m-1,by omega,z⟩,fun x H' hy=>?_⟩
  obtain⟨rp3,fr3,rv3⟩:=y1 x H' hy;have fr13:=(fr2.trans fr3);refine hg.run F H' Z2 σ2 ρ2 x a _ _ rp3 (rs2.same fr3.same) rv3 q2 fun ρ4 Z4 σ4 H4 rp4 fr4 rs4 q4=>?_;have k4:=k.fr ((fr1.trans fr13).trans fr4);refine hb.run F H4 Z4 σ4 ρ4 _ _ rp4 rs4 q4 ⟨?_,k4.rt,k4.nx,?_⟩
  ·exact fun ρ' Z' σ' H'' e1 e2 e3 e4=>⟨by omega,ρ',Z',e1,e3,(fr13.trans fr4).trans e2,e4⟩
  ·exact fun ρ' Z' σ' H'' e1 e2 e3 e4=>⟨by omega,ρ',Z',e1,e3,(fr13.trans fr4).trans e2,e4⟩
 ·have hi:i=as.length:=by omega
  subst hi;rw[List.drop_length] at q2
  exact .inl ⟨stop,k.nx ρ2 Z2 σ2 H2 rp2 (fr1.trans fr2) rs2 q2⟩⟩
noncomputable abbrev AL:=List AV->SA->Om->(List AV->SA->Om->Prop)->Prop
structure Fa(l:Addr)(F:Fs)(H:Hp)(Z:Om)(H':Hp)(Z':Om):Prop where
 st:∀b o,ow (Z b)=false->F b=false->H b=some o->H' b=some o/\ow (Z' b)=false
 hd:∀b,F b=true->b≠l->H' b=H b
theorem Fr.fa{l:Addr}{F:Fs}{H H':Hp}{Z Z':Om}(h:Fr F H Z H' Z'):Fa l F H Z H' Z':=⟨h.st,fun b f _=>h.hd b f⟩
theorem Fa.trans{l:Addr}{F:Fs}{H H1 H2:Hp}{Z Z1 Z2:Om}(a:Fa l F H Z H1 Z1)(b:Fa l F H1 Z1 H2 Z2):Fa l F H Z H2 Z2:=
 ⟨fun c o h f e=>let ⟨x,y⟩:=a.st c o h f e;b.st c o y f x,fun c h n=>(b.hd c h n).trans (a.hd c h n)⟩
theorem Fa.same{l:Addr}{F:Fs}{H H':Hp}{Z Z':Om}(a:Fa l F H Z H' Z'):cS (cut F H Z) (cut F H' Z'):=fun b o e=>by
 obtain⟨h,f,e⟩:=bB.mp e;obtain⟨x,y⟩:=a.st b o h f e;exact bB.mpr ⟨y,f,x⟩
noncomputable def LL(l:Addr)(F:Fs)(H:Hp)(Z:Om)(K':List AV->SA->Om->Prop)(K:St->Hp->Prop):Prop:=
 ∀xs vs ρ Z' σ H',Rep F H' Z'->Fa l F H Z H' Z'->RS (cut F H' Z') ρ σ->H' l=some (.lst vs)->RVs (cut F H' Z') xs vs->K' xs ρ Z'->K σ H'
theorem LL.fa{l:Addr}{F:Fs}{H H1:Hp}{Z Z1:Om}{K':List AV->SA->Om->Prop}{K:St->Hp->Prop}(k:LL l F H Z K' K)(f:Fa l F H Z H1 Z1):LL l F H1 Z1 K' K:=
 fun xs vs ρ Z' σ H' e1 e2 e3 e4 e5 e6=>k xs vs ρ Z' σ H' e1 (f.trans e2) e3 e4 e5 e6
structure sV(l:TL)(l':AL):Prop where
 run:∀(F:Fs)(H:Hp)(Z:Om)(σ:St)(ρ:SA)(acc:Addr)(vs:List V)(xs:List AV)(K:St->Hp->Prop)(K':List AV->SA->Om->Prop),Rep F H Z->RS (cut F H Z) ρ σ->F acc=true->H acc=some (.lst vs)->RVs (cut F H Z) xs vs ->
  l' xs ρ Z K'->LL acc F H Z K' K->l acc σ H K
noncomputable def ja:AT:=fun _ Z Q=>Q true Z
noncomputable def lM(te:AE):AL:=fun xs ρ Z K=>te ρ Z fun y Z1=>xs.length<sizeLine/\K (xs++[y]) ρ Z1
noncomputable def c6(g:AG)(tc:AT)(l:AL):List AV->AL
 | [],xs,ρ,Z,K=>K xs ρ Z
 |a::as,xs,ρ,Z,K=>g a ρ Z fun ρ1 Z1=>tc ρ1 Z1 fun b Z2=>if b=true then l xs ρ1 Z2 (fun xs' ρ' Z'=>c6 g tc l as xs' ρ' Z' K) else c6 g tc l as xs ρ1 Z2 K
noncomputable def BR(wi:AI)(g:AG)(tc:AT)(l:AL):AL:=fun xs ρ Z K=>wi ρ Z fun as Z1=>c6 g tc l as xs ρ Z1 K
noncomputable def mB(src:List (Option Nat))(ρ:SA):SA:=src.map fun o=>match o with|none=>none|some j=>(ρ[j]?).join
noncomputable def und:List AV->Option (List D)
 | []=>some []
 |.d x::r=>(und r).map (x::·)
 |_=>none
theorem bK:∀ds:List D,und (ds.map AV.d)=some ds
 | []=>rfl
 |d::ds=>by simp[und,bK ds]
theorem dZ:∀ {xs:List AV} {ds:List D},und xs=some ds->xs=ds.map AV.d
 | [],ds,h=>by cases h;rfl
 |.d x::r,ds,h=>by
  simp only[und,Option.map_eq_some_iff] at h;obtain⟨es,e1,rfl⟩:=h;rw[dZ e1];rfl
 |.r _::_,_,h=>by simp[und] at h
 |.p _ _::_,_,h=>by simp[und] at h
noncomputable def BZ(src:List (Option Nat))(wi:AI)(g:AG)(tc:AT)(l:AL):AE:=fun ρ Z Q=>wi ρ Z fun as Z1=>c6 g tc l as [] (mB src ρ) Z1 fun xs _ Z'=>∃ds,und xs=some ds/\Q (.d (.lst ds)) Z'
noncomputable def zL(src:List (Option Nat))(wi:AI)(g:AG)(tc:AT)(l:AL):AE:=fun ρ Z Q=>wi ρ Z fun as Z1=>c6 g tc l as [] (mB src ρ) Z1 fun xs _ Z'=>∀p,Z' p=none->Q (.r (.ref p)) (Z'.put p (.own xs))
section
variable{te:TE}{te':AE}{tc:TT}{tc':AT}{g:TG}{g':AG}{wi:TI}{wi':AI}{l:TL}{l':AL}{src:List (Option Nat)}
theorem rY:gv t7 ja:=⟨fun F H Z σ ρ Q Q' rp rs w k=>k true Z true H rp .refl rfl w⟩
theorem de(h:br te te'):sV (Cl te) (lM te'):=⟨fun F H Z σ ρ acc vs xs K K' rp rs fa ha rx w k=>by
 refine h.go rp rs w fun y Z1 v H1 rp1 fr1 rs1 rv q=>?_;obtain⟨q1,q2⟩:=q;have ha1:H1 acc=some (.lst vs):=(fr1.hd acc fa).trans ha;obtain⟨rp2,c2⟩:=rp1.hwrite (vs:=vs++[v]) fa;refine⟨vs,ha1,by rw[rx.length];exact q1,k (xs++[y]) (vs++[v]) ρ Z1 σ _ rp2 ?_ ?_ cA ?_ q2⟩
 ·refine fr1.fa.trans ⟨fun b o e1 e2 e3=>⟨?_,e1⟩,fun b f n=>aG n⟩
  have hb:b≠acc:=fun z=>by subst z;rw[fa] at e2;cases e2
  rw[aG hb];exact e3
 ·rw[c2];exact rs1
 ·rw[c2];exact(rx.same fr1.same).append (.one rv)⟩
theorem y4(hg:ku g g')(hc:gv tc tc')(hl:sV l l'){G:Hp}{as:List AV}{J:It}(it:sW G as J){F:Fs}{H:Hp}{Z:Om}{σ:St}{ρ:SA}{acc:Addr}{vs:List V}{xs:List AV}{K:St->Hp->Prop}{K':List AV->SA->Om->Prop}(rp:Rep F H Z)(rs:RS (cut F H Z) ρ σ)(fa:F acc=true)(ha:H acc=some (.lst vs))(rx:RVs (cut F H Z) xs vs)(sG:cS G (cut F H Z))(w:c6 g' tc' l' as xs ρ Z K')(k:LL acc F H Z K' K):tU J g tc l acc σ H K:=by
 refine⟨fun i m σ2 H2=>m+i=as.length/\∃ρ2 Z2 vs2 xs2,Rep F H2 Z2/\RS (cut F H2 Z2) ρ2 σ2/\Fa acc F H Z H2 Z2/\H2 acc=some (.lst vs2)/\RVs (cut F H2 Z2) xs2 vs2/\c6 g' tc' l' (as.drop i) xs2 ρ2 Z2 K',
  ⟨as.length,rfl,ρ,Z,vs,xs,rp,rs,Fr.refl.fa,ha,rx,w⟩,?_⟩
 rintro i m σ2 H2 ⟨hm,ρ2,Z2,vs2,xs2,rp2,rs2,fr2,ha2,rx2,q2⟩;obtain⟨stop,go⟩:=it F H2 Z2 rp2 (sG.trans fr2.same);by_cases hl':i<as.length
 ·obtain⟨a,hai,hd⟩:=hZ hl'
  rw[hd] at q2;obtain⟨g1,y1⟩:=go i a hai;refine .inr ⟨g1,fun x H' hy=>?_⟩;obtain⟨rp3,fr3,rv3⟩:=y1 x H' hy;refine hg.run F H' Z2 σ2 ρ2 x a _ _ rp3 (rs2.same fr3.same) rv3 q2 fun ρ4 Z4 σ4 H4 rp4 fr4 rs4 q4=>?_;refine hc.go rp4 rs4 q4 fun b Z5 b' H5 rp5 fr5 rs5 rb q5=>?_;cases (show b=b' from rb)
  have fr25:Fr F H2 Z2 H5 Z5:=(fr3.trans fr4).trans fr5;have ha5:H5 acc=some (.lst vs2):=(fr25.hd acc fa).trans ha2;have rx5:=rx2.same fr25.same
  cases b with
  |true=>
   rw[if_pos rfl] at q5 ⊢;refine hl.run F H5 Z5 σ4 ρ4 acc vs2 xs2 _ _ rp5 rs5 fa ha5 rx5 q5 fun xs6 vs6 ρ6 Z6 σ6 H6 e1 e2 e3 e4 e5 e6=>?_;exact⟨m-1,by omega,by omega,ρ6,Z6,vs6,xs6,e1,e3,(fr2.trans fr25.fa).trans e2,e4,e5,e6⟩
  |false=>
   rw[if_neg Bool.false_ne_true] at q5 ⊢;exact⟨m-1,by omega,by omega,ρ4,Z5,vs2,xs2,rp5,rs5,fr2.trans fr25.fa,ha5,rx5,q5⟩
 ·have hi:i=as.length:=by omega
  subst hi;rw[List.drop_length] at q2;exact .inl ⟨stop,k xs2 vs2 ρ2 Z2 σ2 H2 rp2 fr2 rs2 ha2 rx2 q2⟩
theorem E8(hi:qu wi wi')(hg:ku g g')(hc:gv tc tc')(hl:sV l l'):sV (ES wi g tc l) (BR wi' g' tc' l'):=⟨fun F H Z σ ρ acc vs xs K K' rp rs fa ha rx w k=>
 hi.go rp rs w fun as Z1 J H1 rp1 fr1 rs1 it q=>y4 hg hc hl it rp1 rs1 fa ((fr1.hd acc fa).trans ha) (rx.same fr1.same) (cS.refl _) q (k.fa fr1.fa)⟩
theorem RS.blk{G:Hp}{ρ:SA}{σ:St}(h:RS G ρ σ):RS G (mB src ρ) (p9 src σ):=by
 refine⟨by simp[mB,p9],fun i a e=>?_⟩
 unfold mB at e;unfold p9;rw[List.getElem?_map] at e ⊢
 cases q:src[i]? with
 |none=>rw[q] at e;simp at e
 |some o=>
  rw[q] at e
  cases o with
  |none=>simp at e
  |some j=>
   simp only[Option.map_some,Option.some.injEq] at e ⊢
   have e':ρ[j]?=some (some a):=by
    cases z:ρ[j]? with
    |none=>rw[z] at e;simp at e
    |some y=>rw[z] at e;simp at e;rw[e]
   obtain⟨v,e1,e2⟩:=h.2 j a e';exact⟨v,by rw[e1];rfl,e2⟩
theorem vg(hi:qu wi wi')(hg:ku g g')(hc:gv tc tc')(hl:sV l l'){F:Fs}{H:Hp}{Z:Om}{σ:St}{ρ:SA}{Q:VK}{K':List AV->SA->Om->Prop}(rp:Rep F H Z)(rs:RS (cut F H Z) ρ σ)(w:wi' ρ Z fun as Z1=>c6 g' tc' l' as [] (mB src ρ) Z1 K')(k:∀p xs vs ρ' Z' H',F p=false->(∀b o,ow (Z b)=false->F b=false->H b=some o->b≠p)->Rep (F.add p) H' Z'->Fr F H Z H' Z'->H' p=some (.lst vs)->RVs (cut (F.add p) H' Z') xs vs->K' xs ρ' Z'->Q (.ref p) H'):pZ src wi g tc l σ H Q:=by
 refine hi.go rp rs w fun as Z1 J H1 rp1 fr1 rs1 it q=>fun acc hacc=>?_;obtain⟨rp2,c2⟩:=rp1.hide (vs:=[]) hacc;obtain⟨f1,f2⟩:=rp1.free hacc;have hb1:∀b,b≠acc->F b=false->(F.add acc) b=false:=fun b h f=>by simp[Fs.add,h,f]
 have hne:∀b o,ow (Z b)=false->F b=false->H b=some o->b≠acc:=fun b o h f e=>bb (fr1.st b o h f e).1 hacc;refine y4 (xs:=[]) hg hc hl it rp2 (by rw[c2];exact rs1.blk) (by simp[Fs.add]) cA rfl (by rw[c2];exact cS.refl _) q fun xs vs ρ' Z' σ' H' e1 e2 e3 e4 e5 e6=>?_
 refine k acc xs vs ρ' Z' H' f2 hne e1 ⟨fun b o h f e=>?_,fun b f=>?_⟩ e4 e5 e6
 ·obtain⟨x,y⟩:=fr1.st b o h f e
  have hb:=hne b o h f e;exact e2.st b o y (hb1 b hb f) (by rw[aG hb];exact x)
 ·have hb:b≠acc:=fun z=>by subst z;rw[f] at f2;cases f2
  rw[e2.hd b (by simp[Fs.add,f]) hb,aG hb,fr1.hd b f]
theorem dC(hi:qu wi wi')(hg:ku g g')(hc:gv tc tc')(hl:sV l l'):br (pZ src wi g tc l) (BZ src wi' g' tc' l'):=⟨fun F H Z σ ρ Q Q' rp rs w k=>by
 refine vg hi hg hc hl rp rs w fun p xs vs ρ' Z' H' f hne rp1 fr1 e1 e2 q=>?_;obtain⟨ds,hu,q⟩:=q;cases dZ hu;obtain⟨rp2,sm,hp⟩:=rp1.unhide f e1;refine k (.d (.lst ds)) Z' _ H' rp2 fr1 ?_ q;simp only[RV,Dat]
 exact⟨p,vs,rfl,hp,RVs.dats.mp (e2.same sm)⟩⟩
theorem Ac(hi:qu wi wi')(hg:ku g g')(hc:gv tc tc')(hl:sV l l'):br (pZ src wi g tc l) (zL src wi' g' tc' l'):=⟨fun F H Z σ ρ Q Q' rp rs w k=>by
 refine vg hi hg hc hl rp rs w fun p xs vs ρ' Z' H' f hne rp1 fr1 e1 e2 q=>?_;have hp:Z' p=none:=(rp1.hid p (by simp[Fs.add])).1
 obtain⟨rp2,sm⟩:=rp1.GG f e1 e2;refine k (.r (.ref p)) (Z'.put p (.own xs)) _ H' rp2 ⟨fun b o h f e=>?_,fr1.hd⟩ rfl (q p hp);obtain⟨x,y⟩:=fr1.st b o h f e;rw[Om.Gn (hne b o h f e)]
 exact⟨x,y⟩⟩
end
noncomputable def aS(Z:Om):AV->Option D
 |.d x=>some x
 |.r (.ref l)=>match Z l with
  |some (.own xs)=>(und xs).map D.lst
  |some (.frz ds)=>some (.lst ds)
  |_=>none
 |_=>none
noncomputable def cU(Z:Om):AV->Option (List AV)
 |.d (.lst ds)=>some (ds.map AV.d)
 |.r (.ref l)=>match Z l with
  |some (.own xs)=>some xs
  |some (.frz ds)=>some (ds.map AV.d)
  |_=>none
 |_=>none
noncomputable def gC:AV->Option (List AV)
 |.d (.tup ds)=>some (ds.map AV.d)
 |_=>none
noncomputable def jP(Z:Om)(x:AV)(K:D->Om->Prop):Prop:=match x with
 |.d x=>K x Z
 |.r (.ref l)=>match Z l with
  |some (.own xs)=>∃ds,und xs=some ds/\K (.lst ds) (Z.put l (.frz ds))
  |some (.frz ds)=>K (.lst ds) Z
  |_=>False
 |_=>False
section
variable{F:Fs}{H:Hp}{Z:Om}{x:AV}{v:V}
theorem gJ(rp:Rep F H Z)(rv:RV (cut F H Z) x v){xs:List AV}(h:cU Z x=some xs):∃a vs,v=.ref a/\H a=some (.lst vs)/\RVs (cut F H Z) xs vs:=by
 cases x with
 |d x=>cases x with
  |lst ds=>
   simp only[cU,Option.some.injEq] at h;subst h;simp only[RV,Dat] at rv;obtain⟨a,vs,rfl,e1,e2⟩:=rv;exact⟨a,vs,rfl,aL _ _ e1,RVs.dats.mpr e2⟩
  |_=>simp[cU] at h
 |p u P=>simp[cU] at h
 |r u=>
  cases (show v=u from rv)
  cases v with
  |ref l=>
   simp only[cU] at h
   cases e:Z l with
   |none=>rw[e] at h;simp at h
   |some c=>
    rw[e] at h
    cases c with
    |own ys=>
     simp only[Option.some.injEq] at h;subst h;obtain⟨vs,e1,e2⟩:=rp.own l _ e;exact⟨l,vs,rfl,e1,e2⟩
    |frz ds=>
     simp only[Option.some.injEq] at h;subst h;have q:=rp.frz l ds e;simp only[Dat] at q;obtain⟨a,vs,e1,e2,e3⟩:=q;cases e1;exact⟨l,vs,rfl,aL _ _ e2,RVs.dats.mpr e3⟩
    |dic ks=>simp at h
  |_=>simp[cU] at h
theorem yW(rv:RV (cut F H Z) x v){xs:List AV}(h:gC x=some xs):∃a vs,v=.ref a/\cut F H Z a=some (.tup vs)/\RVs (cut F H Z) xs vs:=by
 cases x with
 |d x=>cases x with
  |tup ds=>
   simp only[gC,Option.some.injEq] at h;subst h;simp only[RV,Dat] at rv;obtain⟨a,vs,rfl,e1,e2⟩:=rv;exact⟨a,vs,rfl,e1,RVs.dats.mpr e2⟩
  |_=>simp[gC] at h
 |p u P=>simp[gC] at h
 |r u=>simp[gC] at h
theorem e9(rp:Rep F H Z)(rv:RV (cut F H Z) x v){d:D}(h:aS Z x=some d):Dat H d v:=by
 cases x with
 |d x=>
  simp only[aS,Option.some.injEq] at h;subst h;exact Dat.same aL rv
 |p u P=>simp[aS] at h
 |r u=>
  cases (show v=u from rv)
  cases v with
  |ref l=>
   simp only[aS] at h
   cases e:Z l with
   |none=>rw[e] at h;simp at h
   |some c=>
    rw[e] at h
    cases c with
    |own ys=>
     simp only[Option.map_eq_some_iff] at h;obtain⟨ds,h1,rfl⟩:=h;cases dZ h1;obtain⟨vs,e1,e2⟩:=rp.own l _ e;simp only[Dat];exact⟨l,vs,rfl,e1,(RVs.dats.mp e2).same aL⟩
    |frz ds=>
     simp only[Option.some.injEq] at h;subst h;exact(rp.frz l ds e).same aL
    |dic ks=>simp at h
  |_=>simp[aS] at h
theorem c9(rp:Rep F H Z)(rv:RV (cut F H Z) x v){ds:List D}(h:aS Z x=some (.lst ds)):∃a vs,v=.ref a/\H a=some (.lst vs)/\ay (cut F H Z) ds vs:=by
 have:cU Z x=some (ds.map AV.d):=by
  cases x with
  |d x=>simp only[aS,Option.some.injEq] at h;subst h;rfl
  |p u P=>simp[aS] at h
  |r u=>cases u with
   |ref l=>
    simp only[aS] at h;simp only[cU]
    cases e:Z l with
    |none=>rw[e] at h;simp at h
    |some c=>
     rw[e] at h
     cases c with
     |own ys=>
      simp only[Option.map_eq_some_iff] at h;obtain⟨es,h1,h2⟩:=h;cases h2;rw[dZ h1]
     |frz es=>simp only[Option.some.injEq] at h;cases h;rfl
     |dic ks=>simp at h
   |_=>simp[aS] at h
 obtain⟨a,vs,e1,e2,e3⟩:=gJ rp rv this;exact⟨a,vs,e1,e2,RVs.dats.mp e3⟩
theorem si(rp:Rep F H Z)(rv:RV (cut F H Z) x v){K:D->Om->Prop}(h:jP Z x K):∃d Z',Rep F H Z'/\Fr F H Z H Z'/\Dat (cut F H Z') d v/\K d Z':=by
 cases x with
 |d x=>exact⟨x,Z,rp,.refl,rv,h⟩
 |p u P=>exact h.elim
 |r u=>
  cases (show v=u from rv)
  cases v with
  |ref l=>
   simp only[jP] at h
   cases e:Z l with
   |none=>rw[e] at h;exact h.elim
   |some c=>
    rw[e] at h
    cases c with
    |own ys=>
     obtain⟨ds,h1,h2⟩:=h;cases dZ h1;obtain⟨q1,q2,q3⟩:=rp.freeze e;exact⟨_,_,q1,q2,q3,h2⟩
    |frz ds=>exact⟨_,_,rp,.refl,rp.frz l ds e,h⟩
    |dic ks=>exact h.elim
  |_=>exact h.elim
end
noncomputable abbrev A2:=AV->AV->Om->(AV->Om->Prop)->Prop
structure fy(r:R2)(r':A2):Prop where
 run:∀(F:Fs)(H:Hp)(Z:Om)(v u:V)(x y:AV)(Q:VK)(Q':AV->Om->Prop),Rep F H Z->RV (cut F H Z) x v->RV (cut F H Z) y u->r' x y Z Q'->LP RV F H Z Q' Q->r v u H Q
structure Fl(r:V->Hp->VK->Prop)(r':AV->Om->(AV->Om->Prop)->Prop):Prop where
 run:∀(F:Fs)(H:Hp)(Z:Om)(v:V)(x:AV)(Q:VK)(Q':AV->Om->Prop),Rep F H Z->RV (cut F H Z) x v->r' x Z Q'->LP RV F H Z Q' Q->r v H Q
structure jg(r:List V->Hp->VK->Prop)(r':List AV->Om->(AV->Om->Prop)->Prop):Prop where
 run:∀(F:Fs)(H:Hp)(Z:Om)(vs:List V)(xs:List AV)(Q:VK)(Q':AV->Om->Prop),Rep F H Z->RVs (cut F H Z) xs vs->r' xs Z Q'->LP RV F H Z Q' Q->r vs H Q
noncomputable def E3(i:Nat):AE:=fun ρ Z Q=>∃a,ρ[i]?=some (some a)/\Q a Z
noncomputable def Ck(i:Nat):AE:=fun ρ Z Q=>∃a,ρ[i]?=some (some a)/\jP Z a fun d Z'=>Q (.d d) Z'
noncomputable def aC(d:D):AE:=fun _ Z Q=>Q (.d d) Z
noncomputable def aOp(r:A2)(ta tb:AE):AE:=fun ρ Z Q=>ta ρ Z fun x Z1=>tb ρ Z1 fun y Z2=>r x y Z2 Q
noncomputable def aUn(r:AV->Om->(AV->Om->Prop)->Prop)(ta:AE):AE:=fun ρ Z Q=>ta ρ Z fun x Z1=>r x Z1 Q
noncomputable def Fo:AA:=fun _ Z Q=>Q [] Z
noncomputable def Bz(ta:AE)(tr:AA):AA:=fun ρ Z Q=>ta ρ Z fun x Z1=>tr ρ Z1 fun xs Z2=>Q (x::xs) Z2
noncomputable def EN(t:AA):AE:=fun ρ Z Q=>t ρ Z fun xs Z1=>xs.length<=sizeLine/\∃ds,und xs=some ds/\Q (.d (.tup ds)) Z1
noncomputable def EV(t:AA):AE:=fun ρ Z Q=>t ρ Z fun xs Z1=>xs.length<=sizeLine/\∃ds,und xs=some ds/\Q (.d (.lst ds)) Z1
noncomputable def B4(t:AA):AE:=fun ρ Z Q=>t ρ Z fun xs Z1=>xs.length<=sizeLine/\∀p,Z1 p=none->Q (.r (.ref p)) (Z1.put p (.own xs))
noncomputable def B1(sp:ASp)(t:AA):AE:=fun ρ Z Q=>t ρ Z fun xs Z1=>sp xs Z1 Q
noncomputable def aCB(r:List AV->Om->(AV->Om->Prop)->Prop)(t:AA):AE:=fun ρ Z Q=>t ρ Z fun xs Z1=>r xs Z1 Q
noncomputable def Ca(t:AE):AT:=fun ρ Z Q=>t ρ Z fun x Z1=>∃k,x=.d (.bl k)/\Q k Z1
noncomputable def Fj(t u:AT):AT:=fun ρ Z Q=>t ρ Z fun c Z1=>if c=true then u ρ Z1 Q else Q false Z1
noncomputable def aOr(t u:AT):AT:=fun ρ Z Q=>t ρ Z fun c Z1=>if c=true then Q true Z1 else u ρ Z1 Q
noncomputable def Fn(t:AT):AT:=fun ρ Z Q=>t ρ Z fun c Z1=>Q (!c) Z1
section
variable{ta tb tc:TE}{ta' tb' tc':AE}{t u:TT}{t' u':AT}{r r2:R2}{r' r2':A2}{s:TA}{s':AA}
theorem ae{i:Nat}:br (Bg i) (E3 i):=⟨fun F H Z σ ρ Q Q' rp rs h k=>by
 obtain⟨a,e,q⟩:=h;obtain⟨v,e1,e2⟩:=rs.2 i a e
 exact⟨v,e1,k a Z v H rp .refl e2 q⟩⟩
theorem zm{i:Nat}:br (Bg i) (Ck i):=⟨fun F H Z σ ρ Q Q' rp rs h k=>by
 obtain⟨a,e,q⟩:=h;obtain⟨v,e1,e2⟩:=rs.2 i a e;obtain⟨d,Z',q1,q2,q3,q4⟩:=si rp e2 q
 exact⟨v,e1,k (.d d) Z' v H q1 q2 q3 q4⟩⟩
theorem ak{i:Int}:br (tC (.int i)) (aC (.int i)):=⟨fun F H Z σ ρ Q Q' rp rs h k=>k _ Z _ H rp .refl (by simp[RV,Dat]) h⟩
theorem cO{x:Str}:br (tC (.str x)) (aC (.str x)):=⟨fun F H Z σ ρ Q Q' rp rs h k=>k _ Z _ H rp .refl (by simp[RV,Dat]) h⟩
theorem on{b:Bool}:br (tC (.bl b)) (aC (.bl b)):=⟨fun F H Z σ ρ Q Q' rp rs h k=>k _ Z _ H rp .refl (by simp[RV,Dat]) h⟩
theorem iZ:br (tC .non) (aC .non):=⟨fun F H Z σ ρ Q Q' rp rs h k=>k _ Z _ H rp .refl (by simp[RV,Dat]) h⟩
noncomputable def Ft(v:V):AE:=fun _ Z Q=>Q (.r v) Z
theorem gz{v:V}:br (tC v) (Ft v):=⟨fun F H Z σ ρ Q Q' rp rs h k=>k (.r v) Z _ H rp .refl rfl h⟩
theorem ao(h2:fy r r')(ha:br ta ta')(hb:br tb tb'):br (tOp r ta tb) (aOp r' ta' tb'):=⟨fun F H Z σ ρ Q Q' rp rs h k=>
 ha.go rp rs h fun x Z1 v H1 rp1 fr1 rs1 rv1 q1=>hb.go rp1 rs1 q1 fun y Z2 u H2 rp2 fr2 rs2 rv2 q2=>h2.run F H2 Z2 v u x y Q Q' rp2 (rv1.same fr2.same) rv2 q2 (k.fr (fr1.trans fr2))⟩
theorem Dl{r:V->Hp->VK->Prop}{r':AV->Om->(AV->Om->Prop)->Prop}(h2:Fl r r')(ha:br ta ta'):br (tUn r ta) (aUn r' ta'):=⟨fun F H Z σ ρ Q Q' rp rs h k=>
 ha.go rp rs h fun x Z1 v H1 rp1 fr1 rs1 rv1 q1=>h2.run F H1 Z1 v x Q Q' rp1 rv1 q1 (k.fr fr1)⟩
theorem ag:jk EF Fo:=⟨fun F H Z σ ρ Q Q' rp rs h k=>k [] Z _ H rp .refl rfl h⟩
theorem aa(ha:br ta ta')(hs:jk s s'):jk (pP ta s) (Bz ta' s'):=⟨fun F H Z σ ρ Q Q' rp rs h k=>
 ha.go rp rs h fun x Z1 v H1 rp1 fr1 rs1 rv1 q1=>hs.go rp1 rs1 q1 fun y Z2 u H2 rp2 fr2 rs2 rv2 q2=>k (x::y) Z2 (v::u) H2 rp2 (fr1.trans fr2) ⟨v,u,rfl,rv1.same fr2.same,rv2⟩ q2⟩
theorem bx(hs:jk s s'):br (Fk s) (EN s'):=⟨fun F H Z σ ρ Q Q' rp rs h k=>
 hs.go rp rs h fun xs Z1 vs H1 rp1 fr1 rs1 rv1 ⟨z,ds,hu,q1⟩=>⟨by rw[rv1.length];exact z,fun p hp=>by
  cases dZ hu;obtain⟨rp2,fr2,hc⟩:=rp1.lay (o:=.tup vs) hp;refine k _ Z1 _ _ rp2 (fr1.trans fr2) ?_ q1;simp only[RV,Dat]
  exact⟨p,vs,rfl,hc,(RVs.dats.mp rv1).same fr2.same⟩⟩⟩
theorem di(hs:jk s s'):br (Di s) (EV s'):=⟨fun F H Z σ ρ Q Q' rp rs h k=>
 hs.go rp rs h fun xs Z1 vs H1 rp1 fr1 rs1 rv1 ⟨z,ds,hu,q1⟩=>⟨by rw[rv1.length];exact z,fun p hp=>by
  cases dZ hu;obtain⟨rp2,fr2,hc⟩:=rp1.lay (o:=.lst vs) hp;refine k _ Z1 _ _ rp2 (fr1.trans fr2) ?_ q1;simp only[RV,Dat]
  exact⟨p,vs,rfl,hc,(RVs.dats.mp rv1).same fr2.same⟩⟩⟩
theorem jL(hs:jk s s'):br (Di s) (B4 s'):=⟨fun F H Z σ ρ Q Q' rp rs h k=>
 hs.go rp rs h fun xs Z1 vs H1 rp1 fr1 rs1 rv1 ⟨z,q1⟩=>⟨by rw[rv1.length];exact z,fun p hp=>by
  obtain⟨rp2,fr2⟩:=rp1.mk' (vs:=vs) hp rv1
  exact k (.r (.ref p)) _ _ _ rp2 (fr1.trans fr2) rfl (q1 p (rp1.free hp).1)⟩⟩
theorem aJ{sp:ASp}{E:XK}(hs:jk s s'):br (BB (cL sp) [] E s) (B1 sp s'):=⟨fun F H Z σ ρ Q Q' rp rs h k=>
 hs.go rp rs h fun xs Z1 vs H1 rp1 fr1 rs1 rv1 q=>⟨F,xs,Z1,Q',rp1,by rw[List.append_nil];exact rv1,q,k.fr fr1⟩⟩
theorem a9{r:List V->Hp->VK->Prop}{r':List AV->Om->(AV->Om->Prop)->Prop}(hr:jg r r')(hs:jk s s'):br (tCB r s) (aCB r' s'):=⟨fun F H Z σ ρ Q Q' rp rs h k=>
 hs.go rp rs h fun xs Z1 vs H1 rp1 fr1 rs1 rv1 q=>hr.run F H1 Z1 vs xs Q Q' rp1 rv1 q (k.fr fr1)⟩
theorem ba(ha:br ta ta'):gv (Cm ta) (Ca ta'):=⟨fun F H Z σ ρ Q Q' rp rs h k=>
 ha.go rp rs h fun x Z1 v H1 rp1 fr1 rs1 rv1 ⟨c,e,q⟩=>by subst e;exact⟨c,by simpa[RV,Dat] using rv1,k c Z1 c H1 rp1 fr1 rfl q⟩⟩
theorem yM(h1:gv t t')(h2:gv u u'):gv (E5 t u) (Fj t' u'):=⟨fun F H Z σ ρ Q Q' rp rs h k=>
 h1.go rp rs h fun c Z1 c' H1 rp1 fr1 rs1 rv1 q=>by
  cases (show c=c' from rv1)
  cases c with
  |true=>rw[if_pos rfl] at q ⊢;exact h2.run F H1 Z1 σ ρ Q Q' rp1 rs1 q (k.fr fr1)
  |false=>rw[if_neg Bool.false_ne_true] at q ⊢;exact k false Z1 false H1 rp1 fr1 rfl q⟩
theorem i5(h1:gv t t')(h2:gv u u'):gv (tOr t u) (aOr t' u'):=⟨fun F H Z σ ρ Q Q' rp rs h k=>
 h1.go rp rs h fun c Z1 c' H1 rp1 fr1 rs1 rv1 q=>by
  cases (show c=c' from rv1)
  cases c with
  |true=>rw[if_pos rfl] at q ⊢;exact k true Z1 true H1 rp1 fr1 rfl q
  |false=>rw[if_neg Bool.false_ne_true] at q ⊢;exact h2.run F H1 Z1 σ ρ Q Q' rp1 rs1 q (k.fr fr1)⟩
theorem eS(h1:gv t t'):gv (Ei t) (Fn t'):=⟨fun F H Z σ ρ Q Q' rp rs h k=>
 h1.go rp rs h fun c Z1 c' H1 rp1 fr1 rs1 rv1 q=>by
  cases (show c=c' from rv1)
  exact k _ Z1 _ H1 rp1 fr1 rfl q⟩
theorem xh{G:Hp}{c:Bool}{v:V}(h:RV G (.d (.bl c)) v):v=.bl c:=by simpa[RV,Dat] using h
noncomputable def gu(Z:Om)(x:AV):Option Bool:=match x with
 |.d .non=>some false
 |.d (.bl b)=>some b
 |.d (.int i)=>some (i != 0)
 |.d (.tup ds)=>some (!ds.isEmpty)
 |x=>(cU Z x).map fun xs=>!xs.isEmpty
noncomputable def Fg(ta:AE):AT:=fun ρ Z Q=>ta ρ Z fun x Z1=>∃k,gu Z1 x=some k/\Q k Z1
theorem j4{α β:Type}{xs:List α}{ys:List β}(h:xs.length=ys.length):xs.isEmpty=ys.isEmpty:=by
 cases xs<;>cases ys<;>simp_all
theorem sO{K:W.Frag}{F:Fs}{H1:Hp}{Z1:Om}{x:AV}{v:V}{c:Bool}(rp1:Rep F H1 Z1)(rv1:RV (cut F H1 Z1) x v)(e:gu Z1 x=some c):qT K v H1 c:=by
  have ls:∀ {xs:List AV},cU Z1 x=some xs->c=(!xs.isEmpty)->qT K v H1 c:=fun {xs} e1 e2=>by
   obtain⟨a,vs,rfl,e3,e4⟩:=gJ rp1 rv1 e1;exact .inl ⟨vs,.inl (.inl e3),by rw[e2,j4 e4.length.symm]⟩
  cases x with
  |d x=>cases x with
   |non=>simp only[gu,Option.some.injEq] at e;simp only[RV,Dat] at rv1;subst rv1;exact e.symm
   |bl b=>simp only[gu,Option.some.injEq] at e;simp only[RV,Dat] at rv1;subst rv1;exact e.symm
   |int b=>simp only[gu,Option.some.injEq] at e;simp only[RV,Dat] at rv1;subst rv1;exact e.symm
   |str b=>simp[gu,cU] at e
   |dk b=>simp[gu,cU] at e
   |dt b=>simp[gu,cU] at e
   |tup ds=>
    simp only[gu,Option.some.injEq] at e;simp only[RV,Dat] at rv1;obtain⟨a,vs,rfl,e1,e2⟩:=rv1;exact .inr (.inl ⟨vs,.inl (.inl (aL _ _ e1)),by rw[←e,j4 e2.length]⟩)
   |lst ds=>
    simp only[gu,Option.map_eq_some_iff] at e;obtain⟨xs,e1,e2⟩:=e;exact ls e1 e2.symm
  |r u=>
   simp only[gu,Option.map_eq_some_iff] at e;obtain⟨xs,e1,e2⟩:=e;exact ls e1 e2.symm
  |p u P=>simp[gu,cU] at e
theorem dX{K:W.Frag}(ha:br ta ta'):gv (fun σ H Q=>ta σ H fun x H'=>∃k,qT K x H' k/\Q k H') (Fg ta'):=⟨fun F H Z σ ρ Q Q' rp rs h k=>
 ha.go rp rs h fun x Z1 v H1 rp1 fr1 rs1 rv1 ⟨c,e,q⟩=>⟨c,sO rp1 rv1 e,k c Z1 c H1 rp1 fr1 rfl q⟩⟩
end
noncomputable def aI0(f:Int->Int->D):A2:=fun x y Z Q=>∃i j,x=.d (.int i)/\y=.d (.int j)/\Q (.d (f i j)) Z
noncomputable def aI(C:Int->Int->Prop)(f:Int->Int->D):A2:=fun x y Z Q=>∃i j,x=.d (.int i)/\y=.d (.int j)/\C i j/\Q (.d (f i j)) Z
noncomputable def aU(f:Int->D):AV->Om->(AV->Om->Prop)->Prop:=fun x Z Q=>∃i,x=.d (.int i)/\Q (.d (f i)) Z
section
variable{F:Fs}{H:Hp}{Z:Om}{Q:VK}{Q':AV->Om->Prop}
theorem LP.int(k:LP RV F H Z Q' Q)(rp:Rep F H Z){i:Int}(q:Q' (.d (.int i)) Z):Q (.int i) H:=k (.d (.int i)) Z _ H rp .refl (by simp[RV,Dat]) q
theorem LP.bl(k:LP RV F H Z Q' Q)(rp:Rep F H Z){i:Bool}(q:Q' (.d (.bl i)) Z):Q (.bl i) H:=k (.d (.bl i)) Z _ H rp .refl (by simp[RV,Dat]) q
theorem LP.str(k:LP RV F H Z Q' Q)(rp:Rep F H Z){i:Str}(q:Q' (.d (.str i)) Z):Q (.str i) H:=k (.d (.str i)) Z _ H rp .refl (by simp[RV,Dat]) q
theorem bG{G:Hp}{i:Int}{v:V}(h:RV G (.d (.int i)) v):v=.int i:=by simpa[RV,Dat] using h
theorem CU{G:Hp}{i:Str}{v:V}(h:RV G (.d (.str i)) v):v=.str i:=by simpa[RV,Dat] using h
theorem LP.tup(k:LP RV F H Z Q' Q)(rp:Rep F H Z){ds:List D}{vs:List V}(hd:ay (cut F H Z) ds vs)(q:Q' (.d (.tup ds)) Z):∀p,H p=none->Q (.ref p) (upd H p (.tup vs)):=fun p hp=>by
 obtain⟨rp2,fr2,hc⟩:=rp.lay (o:=.tup vs) hp;refine k (.d (.tup ds)) Z _ _ rp2 fr2 ?_ q;simp only[RV,Dat];exact⟨p,vs,rfl,hc,hd.same fr2.same⟩
theorem LP.lst(k:LP RV F H Z Q' Q)(rp:Rep F H Z){ds:List D}{vs:List V}(hd:ay (cut F H Z) ds vs)(q:Q' (.d (.lst ds)) Z):∀p,H p=none->Q (.ref p) (upd H p (.lst vs)):=fun p hp=>by
 obtain⟨rp2,fr2,hc⟩:=rp.lay (o:=.lst vs) hp;refine k (.d (.lst ds)) Z _ _ rp2 fr2 ?_ q;simp only[RV,Dat];exact⟨p,vs,rfl,hc,hd.same fr2.same⟩
theorem LP.own(k:LP RV F H Z Q' Q)(rp:Rep F H Z){xs:List AV}{vs:List V}(hd:RVs (cut F H Z) xs vs)(q:∀p,Z p=none->Q' (.r (.ref p)) (Z.put p (.own xs))):∀p,H p=none->Q (.ref p) (upd H p (.lst vs)):=fun p hp=>by
 obtain⟨rp2,fr2⟩:=rp.mk' (vs:=vs) hp hd;exact k (.r (.ref p)) _ _ _ rp2 fr2 rfl (q p (rp.free hp).1)
end
theorem ka{f:Int->Int->Int}:fy (rI0 fun i j=>.int (f i j)) (aI0 fun i j=>.int (f i j)):=⟨fun F H Z v u x y Q Q' rp h1 h2 ⟨i,j,e1,e2,q⟩ k=>by
 subst e1 e2;exact⟨i,j,bG h1,bG h2,k.int rp q⟩⟩
theorem fH{f:Int->Int->Bool}:fy (rI0 fun i j=>.bl (f i j)) (aI0 fun i j=>.bl (f i j)):=⟨fun F H Z v u x y Q Q' rp h1 h2 ⟨i,j,e1,e2,q⟩ k=>by
 subst e1 e2;exact⟨i,j,bG h1,bG h2,k.bl rp q⟩⟩
theorem iL{C:Int->Int->Prop}{f:Int->Int->Int}:fy (rI C fun i j=>.int (f i j)) (aI C fun i j=>.int (f i j)):=⟨fun F H Z v u x y Q Q' rp h1 h2 ⟨i,j,e1,e2,c,q⟩ k=>by
 subst e1 e2;exact⟨i,j,bG h1,bG h2,c,k.int rp q⟩⟩
theorem u_i{f:Int->Int}:Fl (rU fun i=>.int (f i)) (aU fun i=>.int (f i)):=⟨fun F H Z v x Q Q' rp h1 ⟨i,e1,q⟩ k=>by
 subst e1;exact⟨i,bG h1,k.int rp q⟩⟩
noncomputable def EK(neg:Bool):A2:=fun x y Z Q=>∃a b,aS Z x=some a/\aS Z y=some b/\dep a<=100/\Q (.d (.bl (if neg then !eqD a b else eqD a b))) Z
theorem bS{neg:Bool}:fy (Dr neg) (EK neg):=⟨fun F H Z v u x y Q Q' rp h1 h2 ⟨a,b,e1,e2,s,q⟩ k=>⟨a,b,e9 rp h1 e1,e9 rp h2 e2,s,k.bl rp q⟩⟩
noncomputable def aIn(neg:Bool):A2:=fun x y Z Q=>∃a b ds,aS Z x=some a/\aS Z y=some b/\(b=.lst ds\/b=.tup ds)/\cx ds<=90/\Q (.d (.bl (if neg then !inD a ds else inD a ds))) Z
theorem wD{neg:Bool}:fy (DR neg) (aIn neg):=⟨fun F H Z v u x y Q Q' rp h1 h2 ⟨a,b,ds,e1,e2,e3,s,q⟩ k=>⟨a,ds,e9 rp h1 e1,by
 have:=e9 rp h2 e2;rcases e3 with rfl|rfl
 ·exact .inl this
 ·exact .inr this,s,k.bl rp q⟩⟩
noncomputable def Eg:A2:=fun x y Z Q=>∃ds es,x=.d (.tup ds)/\y=.d (.tup es)/\ds.length+es.length<=sizeLine/\Q (.d (.tup (ds++es))) Z
noncomputable def mV:R2:=fun x y H Q=>∃a b xs ys,x=.ref a/\y=.ref b/\H a=some (.tup xs)/\H b=some (.tup ys)/\xs.length+ys.length<=sizeLine /\
 (xs=[]->Q (.ref b) H)/\(ys=[]->Q (.ref a) H)/\∀p,H p=none->Q (.ref p) (upd H p (.tup (xs++ys)))
theorem aM{X:Cx}:OpR X (binaryOp .Add) mV:=by
 intro pins s σ H x y v u Q I rx ry h;obtain⟨a,b,xs,ys,rfl,rfl,ha,hb,hz,g1,g2,g3⟩:=h;by_cases hn:xs=[]
 ·subst hn
  cases rx;cases ry;obtain⟨its,r1,ht⟩:=eI I ha;obtain⟨its2,r2,hb2⟩:=eI I hb;cases r1;obtain⟨⟨cls,dd,data,sl⟩,ho,hc,n,hd⟩:=id ht;obtain⟨⟨cls2,dd2,data2,sl2⟩,ho2,hc2,n2,hd2⟩:=id hb2;simp only at hc hd hc2 hd2;subst hc hd hc2 hd2
  exact concat_meets ⟨_,ho,rfl⟩ ⟨_,ho2,rfl⟩ noFill_tuple_add seq_tuple_add PySem.F.slot_tuple_add PySem.F.entry_tuple_add (PySem.F.args_tuple_add_2 _ _)
   (tuple_addW0 a b _ _ n n2 dd dd2 sl sl2 (by simp)) ⟨ho,ho2,⟨.ref b,H,I,rfl,g1 rfl⟩⟩
 ·exact An pins s σ H (.ref a) (.ref b) v u Q I rx ry ⟨a,b,xs,ys,rfl,rfl,SqT.of ha,SqT.of hb,hn,hz,g2,fun _ p hp=>g3 p hp⟩
theorem yg:fy mV Eg:=⟨fun F H Z v u x y Q Q' rp h1 h2 ⟨ds,es,e1,e2,z,q⟩ k=>by
 subst e1 e2;have h1':=h1;have h2':=h2;simp only[RV,Dat] at h1 h2;obtain⟨a,xs,rfl,ha,hxs⟩:=h1;obtain⟨b,ys,rfl,hb,hys⟩:=h2;refine⟨a,b,xs,ys,rfl,rfl,aL _ _ ha,aL _ _ hb,by rw[hxs.length,hys.length];exact z,fun e=>?_,fun e=>?_,k.tup rp (hxs.append hys) q⟩
 ·have:ds=[]:=List.length_eq_zero_iff.mp (by rw[←hxs.length,e];rfl)
  subst this;exact k _ Z _ H rp .refl h2' q
 ·have:es=[]:=List.length_eq_zero_iff.mp (by rw[←hys.length,e];rfl)
  subst this;rw[List.append_nil] at q
  exact k _ Z _ H rp .refl h1' q⟩
theorem Rep.later{F:Fs}{H H':Hp}{Z:Om}(rp:Rep F H Z)(s:cS H H'):Rep F H' Z/\Fr F H Z H' Z:=by
 have fr:Fr F H Z H' Z:=⟨fun b o x f e=>⟨s _ _ e,x⟩,fun b f=>by
  obtain⟨_,o,q⟩:=rp.hid b f
  rw[q,s _ _ q]⟩
 refine⟨⟨fun l xs e=>?_,fun l ds e=>(rp.frz l ds e).same fr.same,fun b f=>?_,fun l ks e=>(by obtain⟨vs,e1,e2⟩:=rp.dic l ks e;exact⟨vs,s _ _ e1,e2.same fr.same⟩)⟩,fr⟩
 ·obtain⟨vs,e1,e2⟩:=rp.own l xs e
  exact⟨vs,s _ _ e1,e2.same fr.same⟩
 ·obtain⟨x,o,q⟩:=rp.hid b f
  exact⟨x,o,s _ _ q⟩
noncomputable def F0:A2:=fun x y Z Q=>∃xs i a,cU Z x=some xs/\y=.d (.int i)/\atI xs i=some a/\Q a Z
noncomputable def FT:A2:=fun x y Z Q=>∃xs i a,gC x=some xs/\y=.d (.int i)/\atI xs i=some a/\Q a Z
theorem RVs.atI{G:Hp}{xs:List AV}{vs:List V}{i:Int}{a:AV}(h:RVs G xs vs)(e:atI xs i=some a):∃v,L2.atI vs i=some v/\RV G a v:=by
 unfold L2.atI at e ⊢;rw[h.length]
 cases z:ixN xs.length i with
 |none=>rw[z] at e;cases e
 |some j=>
  rw[z] at e;exact h.get e
theorem FD{K:W.Frag}:fy (D1 K) F0:=⟨fun F H Z v u x y Q Q' rp h1 h2 ⟨xs,i,a,e1,e2,e3,q⟩ k=>by
 subst e2;obtain⟨l,vs,rfl,q1,q2⟩:=gJ rp h1 e1;obtain⟨w,z1,z2⟩:=q2.atI e3
 exact⟨l,vs,i,w,rfl,bG h2,.inl (.inl q1),z1,k a Z w H rp .refl z2 q⟩⟩
theorem EO{K:W.Frag}:fy (Dw K) FT:=⟨fun F H Z v u x y Q Q' rp h1 h2 ⟨xs,i,a,e1,e2,e3,q⟩ k=>by
 subst e2;obtain⟨l,vs,rfl,q1,q2⟩:=yW h1 e1;obtain⟨w,z1,z2⟩:=q2.atI e3
 exact⟨l,vs,i,w,rfl,bG h2,.inl (.inl (aL _ _ q1)),z1,k a Z w H rp .refl z2 q⟩⟩
noncomputable def aIx:A2:=fun x y Z Q=>∃xs i a,(cU Z x=some xs\/gC x=some xs)/\y=.d (.int i)/\atI xs i=some a/\Q a Z
theorem bw{K:W.Frag}:fy (rIx K) aIx:=⟨fun F H Z v u x y Q Q' rp h1 h2 ⟨xs,i,a,e1,e2,e3,q⟩ k=>by
 rcases e1 with e1|e1
 ·exact .inl (FD.run F H Z v u x y Q Q' rp h1 h2 ⟨xs,i,a,e1,e2,e3,q⟩ k)
 ·exact .inr (.inl (EO.run F H Z v u x y Q Q' rp h1 h2 ⟨xs,i,a,e1,e2,e3,q⟩ k))⟩
noncomputable abbrev AC:=List AV->Om->(AV->Om->Prop)->Prop
theorem fP{G:Hp}{a:AV}{vs:List V}(h:RVs G [a] vs):∃v,vs=[v]/\RV G a v:=by
 obtain⟨v,r,rfl,h1,h2⟩:=h;cases h2;exact⟨v,rfl,h1⟩
theorem FP{G:Hp}{a b:AV}{vs:List V}(h:RVs G [a,b] vs):∃v u,vs=[v,u]/\RV G a v/\RV G b u:=by
 obtain⟨v,r,rfl,h1,h2⟩:=h;obtain⟨u,rfl,h3⟩:=fP h2;exact⟨v,u,rfl,h1,h3⟩
noncomputable def l5(Z:Om)(x:AV):Option Nat:=match gC x with
 |some xs=>some xs.length
 |none=>(cU Z x).map List.length
noncomputable def Et:AC:=fun xs Z Q=>∃x n,xs=[x]/\l5 Z x=some n/\Q (.d (.int n)) Z
theorem cr{K:W.Frag}:jg (fun xs H Q=>∃x n,xs=[x]/\CC K x H n/\Q (.int n) H) Et:=⟨fun F H Z vs xs Q Q' rp rv ⟨x,n,e1,e2,q⟩ k=>by
 subst e1;obtain⟨v,rfl,r⟩:=fP rv;refine⟨v,n,rfl,?_,k.int rp q⟩;unfold l5 at e2
 cases z:gC x with
 |some xs=>
  rw[z] at e2;cases e2;obtain⟨a,us,rfl,q1,q2⟩:=yW r z;exact .inr ⟨us,.inl (.inl (aL _ _ q1)),q2.length.symm⟩
 |none=>
  rw[z] at e2;simp only[Option.map_eq_some_iff] at e2;obtain⟨ys,e3,rfl⟩:=e2;obtain⟨a,us,rfl,q1,q2⟩:=gJ rp r e3
  exact .inl ⟨us,.inl (.inl q1),q2.length.symm⟩⟩
theorem tX{G:Hp}:∀ {bs:List Bool} {vs:List V},ay G (bs.map D.bl) vs->vs=bs.map V.bl
 | [],_,h=>by simpa[ay] using h
 |b::bs,vs,h=>by
  simp only[List.map_cons,ay,Dat] at h;obtain⟨x,r,rfl,rfl,h⟩:=h;rw[tX h];rfl
noncomputable def Ej(f:List Bool->Bool):AC:=fun xs Z Q=>∃x bs,xs=[x]/\aS Z x=some (.lst (bs.map D.bl))/\Q (.d (.bl (f bs))) Z
theorem wO{K:W.Frag}{f:List Bool->Bool}:jg (fun xs H Q=>∃(a:Addr)(bs:List Bool),xs=[.ref a]/\SqL K H a (bs.map V.bl)/\Q (.bl (f bs)) H) (Ej f):=⟨fun F H Z vs xs Q Q' rp rv ⟨x,bs,e1,e2,q⟩ k=>by
 subst e1;obtain⟨v,rfl,r⟩:=fP rv;obtain⟨a,us,rfl,q1,q2⟩:=c9 rp r e2;cases tX q2
 exact⟨a,bs,rfl,.inl (.inl q1),k.bl rp q⟩⟩
noncomputable def aF1(f:Int->Int):AC:=fun xs Z Q=>∃i,xs=[.d (.int i)]/\Q (.d (.int (f i))) Z
theorem DW{f:Int->Int}:jg (fun xs H Q=>∃i,xs=[.int i]/\Q (.int (f i)) H) (aF1 f):=⟨fun F H Z vs xs Q Q' rp rv ⟨i,e1,q⟩ k=>by
 subst e1;obtain⟨v,rfl,r1⟩:=fP rv
 exact⟨i,by rw[bG r1],k.int rp q⟩⟩
noncomputable def xV:D->Option Int
 |.int i=>some i
 |.bl k=>some (if k then 1 else 0)
 |_=>none
noncomputable def Eh:AC:=fun xs Z Q=>∃d i,xs=[.d d]/\xV d=some i/\Q (.d (.int i)) Z
theorem Cn:jg (fun xs H Q=>(∃i,xs=[.int i]/\Q (.int i) H)\/∃k,xs=[.bl k]/\Q (.int (if k then 1 else 0)) H) Eh:=⟨fun F H Z vs xs Q Q' rp rv ⟨d,i,e1,e2,q⟩ k=>by
 subst e1;obtain⟨v,rfl,r1⟩:=fP rv
 cases d with
 |int j=>simp only[xV,Option.some.injEq] at e2;subst e2;exact .inl ⟨_,by rw[bG r1],k.int rp q⟩
 |bl j=>simp only[xV,Option.some.injEq] at e2;subst e2;exact .inr ⟨j,by rw[xh r1],k.int rp q⟩
 |_=>cases e2⟩
noncomputable def yv:AC:=fun xs Z Q=>∃x ds,xs=[x]/\(aS Z x=some (.lst ds)\/x=.d (.tup ds))/\Q (.d (.tup ds)) Z
theorem eW{K:W.Frag}:jg (fun xs H Q=>∃p ys,xs=[.ref p]/\((SqL K H p ys/\∀l,H l=none->Q (.ref l) (upd H l (.tup ys)))\/(SqT K H p ys/\Q (.ref p) H))) yv:=⟨fun F H Z vs xs Q Q' rp rv ⟨x,ds,e1,e2,q⟩ k=>by
 subst e1;obtain⟨v,rfl,r1⟩:=fP rv;rcases e2 with e2|rfl
 ·obtain⟨a,us,rfl,q1,q2⟩:=c9 rp r1 e2
  exact⟨a,us,rfl,.inl ⟨.inl (.inl q1),k.tup rp q2 q⟩⟩
 ·have r2:=r1
  simp only[RV,Dat] at r2;obtain⟨a,us,rfl,q1,q2⟩:=r2
  exact⟨a,us,rfl,.inr ⟨.inl (.inl (aL _ _ q1)),k _ Z _ H rp .refl r1 q⟩⟩⟩
noncomputable def tN:AC:=fun xs Z Q=>∃x ds,xs=[x]/\(aS Z x=some (.lst ds)\/x=.d (.tup ds))/\Q (.d (.lst ds)) Z
noncomputable def xm:AC:=fun xs Z Q=>∃x ds,xs=[x]/\(aS Z x=some (.lst ds)\/x=.d (.tup ds))/\∀p,Z p=none->Q (.r (.ref p)) (Z.put p (.own (ds.map AV.d)))
theorem yz{K:W.Frag}:jg (fun xs H Q=>∃p ys,xs=[.ref p]/\(SqL K H p ys\/SqT K H p ys)/\∀l,H l=none->Q (.ref l) (upd H l (.lst ys))) tN:=⟨fun F H Z vs xs Q Q' rp rv ⟨x,ds,e1,e2,q⟩ k=>by
 subst e1;obtain⟨v,rfl,r1⟩:=fP rv;rcases e2 with e2|rfl
 ·obtain⟨a,us,rfl,q1,q2⟩:=c9 rp r1 e2
  exact⟨a,us,rfl,.inl (.inl (.inl q1)),k.lst rp q2 q⟩
 ·have r2:=r1
  simp only[RV,Dat] at r2;obtain⟨a,us,rfl,q1,q2⟩:=r2
  exact⟨a,us,rfl,.inr (.inl (.inl (aL _ _ q1))),k.lst rp q2 q⟩⟩
theorem uF{K:W.Frag}:jg (fun xs H Q=>∃p ys,xs=[.ref p]/\(SqL K H p ys\/SqT K H p ys)/\∀l,H l=none->Q (.ref l) (upd H l (.lst ys))) xm:=⟨fun F H Z vs xs Q Q' rp rv ⟨x,ds,e1,e2,q⟩ k=>by
 subst e1;obtain⟨v,rfl,r1⟩:=fP rv;rcases e2 with e2|rfl
 ·obtain⟨a,us,rfl,q1,q2⟩:=c9 rp r1 e2
  exact⟨a,us,rfl,.inl (.inl (.inl q1)),k.own rp (RVs.dats.mpr q2) q⟩
 ·have r2:=r1
  simp only[RV,Dat] at r2;obtain⟨a,us,rfl,q1,q2⟩:=r2
  exact⟨a,us,rfl,.inr (.inl (.inl (aL _ _ q1))),k.own rp (RVs.dats.mpr q2) q⟩⟩
noncomputable def jS(lo:Int)(n:Nat):List AV:=(List.range n).map fun i=>AV.d (.int (lo+(i:Nat)))
noncomputable def x6(ta:AA):AI:=fun ρ Z R=>ta ρ Z fun xs Z1=>∃j:Int,xs=[.d (.int j)]/\-(2^62)<=j/\j<2^62/\R (jS 0 j.toNat) Z1
noncomputable def kb(ds:List D):List AV:=ds.zipIdx.map fun p=>AV.d (.tup [.int (p.2:Nat),p.1])
section
variable{te:TE}{te':AE}{ta:TA}{ta':AA}{K:W.Frag}
theorem Bc{G:Hp}{ds:List D}{a:Addr}(h:Dat G (.lst ds) (.ref a)):sW G (ds.map AV.d) (Itl K a):=fun F H Z rp s=>by
 have h2:=h.same s;simp only[Dat] at h2;obtain⟨_,vs,e,ha,hd⟩:=h2;cases e;have hq:SqL K H a vs:=.inl (.inl (aL _ _ ha));have hl:=hd.length;refine⟨⟨vs,hq,by simp;omega⟩,fun i x hx=>?_⟩
 obtain⟨v,e1,e2⟩:=(RVs.dats.mpr hd).get hx;refine⟨⟨vs,v,hq,e1⟩,fun y H' hy=>?_⟩;obtain⟨rfl,hy⟩:=hy;have:=hy vs hq;rw[e1] at this;cases this;exact⟨rp,.refl,e2⟩
theorem Dx{G:Hp}{ds:List D}{a:Addr}(h:Dat G (.tup ds) (.ref a)):sW G (ds.map AV.d) (Itt K a):=fun F H Z rp s=>by
 have h2:=h.same s;simp only[Dat] at h2;obtain⟨_,vs,e,ha,hd⟩:=h2;cases e;have hq:SqT K H a vs:=.inl (.inl (aL _ _ ha));have hl:=hd.length;refine⟨⟨vs,hq,by simp;omega⟩,fun i x hx=>?_⟩
 obtain⟨v,e1,e2⟩:=(RVs.dats.mpr hd).get hx;refine⟨⟨vs,v,hq,e1⟩,fun y H' hy=>?_⟩;obtain⟨rfl,hy⟩:=hy;have:=hy vs hq;rw[e1] at this;cases this;exact⟨rp,.refl,e2⟩
theorem g9{G:Hp}{ds:List D}{v:V}(h:Dat G (.lst ds) v):∃a vs,v=.ref a/\G a=some (.lst vs):=by
 simp only[Dat] at h;obtain⟨a,vs,e,h,_⟩:=h;exact⟨a,vs,e,h⟩
theorem h8{G:Hp}{ds:List D}{v:V}(h:Dat G (.tup ds) v):∃a vs,v=.ref a/\G a=some (.tup vs):=by
 simp only[Dat] at h;obtain⟨a,vs,e,h,_⟩:=h;exact⟨a,vs,e,h⟩
theorem CS{G:Hp}{lo:Int}{n:Nat}:sW G (jS lo n) (Itr lo n):=fun F H Z rp s=>by
 refine⟨by simp[jS,Itr],fun i x hx=>?_⟩
 unfold jS at hx;rw[List.getElem?_map] at hx;by_cases hi:i<n
 ·rw[List.getElem?_range hi] at hx
  simp only[Option.map_some,Option.some.injEq] at hx;subst hx;refine⟨hi,fun y H' hy=>?_⟩;obtain⟨rfl,rfl⟩:=hy;exact⟨rp,.refl,by simp[RV,Dat]⟩
 ·rw[List.getElem?_eq_none (by simp;omega)] at hx
  cases hx
theorem jQ(h:jk ta ta'):qu (BO ta) (x6 ta'):=⟨fun F H Z σ ρ R R' rp rs w k=>h.go rp rs w fun xs Z1 vs H1 rp1 fr1 rs1 rv ⟨j,e,h1,h2,q⟩=>by
 subst e;obtain⟨v,rfl,r⟩:=fP rv
 exact⟨j,by rw[bG r],h1,h2,k _ Z1 _ H1 rp1 fr1 CS q⟩⟩
theorem nn(ds:List D):(kb ds).length=ds.length:=by simp[kb]
theorem mN{ds:List D}{i:Nat}{x:AV}(h:(kb ds)[i]?=some x):∃d,ds[i]?=some d/\x=.d (.tup [.int (i:Nat),d]):=by
 unfold kb at h;rw[List.getElem?_map,List.getElem?_zipIdx] at h
 cases e:ds[i]? with
 |none=>rw[e] at h;simp at h
 |some d=>rw[e] at h;simp at h;exact⟨d,rfl,h.symm⟩
theorem wT{F:Fs}{H:Hp}{Z:Om}(rp:Rep F H Z){T:Addr}(hT:H T=none){a b:V}{d e:D}(ha:Dat (cut F H Z) d a)(hb:Dat (cut F H Z) e b):
  Rep F (upd H T (.tup [a,b])) Z/\Fr F H Z (upd H T (.tup [a,b])) Z/\RV (cut F (upd H T (.tup [a,b])) Z) (.d (.tup [d,e])) (.ref T):=by
 obtain⟨rp2,fr2,hc⟩:=rp.lay (o:=.tup [a,b]) hT;refine⟨rp2,fr2,?_⟩;simp only[RV,Dat,ay];exact⟨T,_,rfl,hc,_,_,rfl,ha.same fr2.same,_,_,rfl,hb.same fr2.same,rfl⟩
theorem xn{G:Hp}{ds:List D}{a:Addr}(h:Dat G (.lst ds) (.ref a)):sW G (kb ds) (Enl K a):=fun F H Z rp s=>by
 have h2:=h.same s;simp only[Dat] at h2;obtain⟨_,vs,e,ha,hd⟩:=h2;cases e;have hq:SqL K H a vs:=.inl (.inl (aL _ _ ha));have hl:=hd.length;refine⟨⟨vs,hq,by rw[nn];omega⟩,fun i x hx=>?_⟩
 obtain⟨d,h1,rfl⟩:=mN hx;obtain⟨v,e1,e2⟩:=hd.get h1;refine⟨⟨vs,v,hq,e1⟩,fun y H' hy=>?_⟩;obtain⟨T,z,hT,rfl,rfl,hz⟩:=hy;have:=hz vs hq;rw[e1] at this;cases this;exact wT rp hT (by simp[Dat]) e2
theorem xQ{G:Hp}{ds:List D}{a:Addr}(h:Dat G (.tup ds) (.ref a)):sW G (kb ds) (Ent K a):=fun F H Z rp s=>by
 have h2:=h.same s;simp only[Dat] at h2;obtain⟨_,vs,e,ha,hd⟩:=h2;cases e;have hq:SqT K H a vs:=.inl (.inl (aL _ _ ha));have hl:=hd.length;refine⟨⟨vs,hq,by rw[nn];omega⟩,fun i x hx=>?_⟩
 obtain⟨d,h1,rfl⟩:=mN hx;obtain⟨v,e1,e2⟩:=hd.get h1;refine⟨⟨vs,v,hq,e1⟩,fun y H' hy=>?_⟩;obtain⟨T,z,hT,rfl,rfl,hz⟩:=hy;have:=hz vs hq;rw[e1] at this;cases this;exact wT rp hT (by simp[Dat]) e2
noncomputable def jC:D->Option (List D)
 |.tup ds=>some ds
 |.lst ds=>some ds
 |_=>none
end
noncomputable def Cf(n:Nat)(t:AGs):AG:=fun v ρ Z Q=>∃ds,v=.d (.tup ds)/\ds.length=n/\t (ds.map AV.d) ρ Z Q
noncomputable def BJ(n:Nat)(t:AGs):AG:=fun v ρ Z Q=>∃xs,cU Z v=some xs/\xs.length=n/\t xs ρ Z Q
noncomputable def BA(to ti:AE):AG:=fun v ρ Z Q=>to ρ Z fun o Z1=>ti ρ Z1 fun i Z2=>∃l k xs j,o=.r (.ref l)/\i=.d (.int k)/\Z2 l=some (.own xs)/\ixN xs.length k=some j/\Q ρ (Z2.put l (.own (xs.set j v)))
section
variable{K:W.Frag}{n:Nat}{gs:TGs}{gs':AGs}{to ti:TE}{to' ti':AE}
theorem B8(h:rq gs gs'):ku (DK K n gs) (Cf n gs'):=⟨fun F H Z σ ρ v a Q Q' rp rs rv ⟨ds,e,hn,q⟩ k=>by
 subst e;simp only[RV,Dat] at rv;obtain⟨b,vs,rfl,h1,h2⟩:=rv
 exact⟨b,vs,rfl,.inl (.inl (aL _ _ h1)),by rw[h2.length];exact hn,h.run F H Z σ ρ vs _ Q Q' rp rs (RVs.dats.mpr h2) q k⟩⟩
theorem Fu(h:rq gs gs'):ku (E7 K n gs) (BJ n gs'):=⟨fun F H Z σ ρ v a Q Q' rp rs rv ⟨xs,e,hn,q⟩ k=>by
 obtain⟨b,vs,rfl,h1,h2⟩:=gJ rp rv e
 exact⟨b,vs,rfl,.inl (.inl h1),by rw[h2.length];exact hn,h.run F H Z σ ρ vs _ Q Q' rp rs h2 q k⟩⟩
theorem mO(ho:br to to')(hi:br ti ti'):ku (Ff to ti Cg) (BA to' ti'):=⟨fun F H Z σ ρ v a Q Q' rp rs rv w k=>
 ho.go rp rs w fun x Z1 u H1 rp1 fr1 rs1 rv1 q1=>hi.go rp1 rs1 q1 fun y Z2 u2 H2 rp2 fr2 rs2 rv2 ⟨l,j,xs,i,e1,e2,e3,e4,q⟩=>by
  subst e1 e2;have e5:u=.ref l:=rv1;obtain⟨vs,z1,z2⟩:=rp2.own l xs e3;have rv':=rv.same (fr1.trans fr2).same;obtain⟨rp3,fr3⟩:=rp2.write e3 (z2.set i rv');have fr:=(fr1.trans fr2).trans fr3
  exact⟨l,vs,j,i,e5,bG rv2,z1,by rw[z2.length];exact e4,k ρ _ σ _ rp3 fr (rs.same fr.same) q⟩⟩
end
noncomputable def bp{α:Type}(xs:List α)(lo hi:Option Int):List α:=(xs.drop (HT.sIx xs.length 0 lo)).take (HT.sIx xs.length xs.length hi-HT.sIx xs.length 0 lo)
noncomputable abbrev AO:=SA->Om->(Option Int->Om->Prop)->Prop
noncomputable def zH:AO:=fun _ Z Q=>Q none Z
noncomputable def yB(t:AE):AO:=fun ρ Z Q=>t ρ Z fun x Z1=>∃i,x=.d (.int i)/\Q (some i) Z1
theorem ay.cut{G:Hp}{ds:List D}{vs:List V}{lo hi:Option Int}(h:ay G ds vs):ay G (bp ds lo hi) (oX vs lo hi):=by
 unfold bp oX;rw[h.length];exact(h.drop _).take _
section
variable{K:W.Frag}{te ts:TE}{te' ts':AE}{tl th:TO}{tl' th':AO}
theorem c8:Ref REq vf zH:=⟨fun F H Z σ ρ Q Q' rp rs w k=>k none Z none H rp .refl rfl w⟩
theorem da(h:br te te'):Ref REq (Ce te) (yB te'):=⟨fun F H Z σ ρ Q Q' rp rs w k=>h.go rp rs w fun x Z1 v H1 rp1 fr1 rs1 rv ⟨i,e,q⟩=>by
 subst e;exact⟨i,bG rv,k _ Z1 _ H1 rp1 fr1 rfl q⟩⟩
end
noncomputable def uS(to:AE)(t:AA):AE:=fun ρ Z Q=>to ρ Z fun x Z1=>∃l,x=.r (.ref l)/\(∃zs,Z1 l=some (.own zs))/\t ρ Z1 fun ys Z2=>∃xs y,ys=[y]/\Z2 l=some (.own xs)/\xs.length<sizeLine/\Q (.d .non) (Z2.put l (.own (xs++[y])))
section
variable{K:W.Frag}{to:TE}{to':AE}{t:TA}{t':AA}
theorem lx(ho:br to to')(ht:jk t t'):br (tBM K "list" ut to t) (uS to' t'):=⟨fun F H Z σ ρ Q Q' rp rs w k=>
 ho.go rp rs w fun x Z1 v H1 rp1 fr1 rs1 rv1 ⟨l,e,⟨zs,hz⟩,q1⟩=>by
  subst e;cases (show v=.ref l from rv1)
  obtain⟨us,z1,_⟩:=rp1.own l zs hz;refine⟨.inl ⟨rfl,us,.inl (.inl z1)⟩,ht.go rp1 rs1 q1 fun ys Z2 vs H2 rp2 fr2 rs2 rv2 ⟨xs,y,e1,e2,e3,q⟩=>?_⟩;subst e1;obtain⟨u,rfl,r⟩:=fP rv2;obtain⟨ws,z3,z4⟩:=rp2.own l xs e2;obtain⟨rp3,fr3⟩:=rp2.write e2 (z4.append (.one r))
  exact⟨l,ws,u,rfl,rfl,z3,by rw[z4.length];exact e3,k _ _ _ _ rp3 ((fr1.trans fr2).trans fr3) (by simp[RV,Dat]) q⟩⟩
end
noncomputable def tY:AC:=fun xs Z Q=>∃(x:AV) (W:List (List Int)),xs=[x]/\aS Z x=some (.lst (W.map wdD))/\(∀y∈W,y≠[])/\W.length<64/\Q (.d (.lst ((eR W).map wdD))) Z
theorem Rep.stays{F:Fs}{H:Hp}{Z:Om}(rp:Rep F H Z):x3 H (cut F H Z):=fun b xs e=>by
 refine bB.mpr ⟨?_,?_,e⟩
 ·cases y:Z b with
  |none=>rfl
  |some c=>cases c with
   |frz ds=>rfl
   |own ys=>
    obtain⟨vs,e1,_⟩:=rp.own b ys y;rw[e] at e1;cases e1
   |dic ys=>
    obtain⟨vs,e1,_⟩:=rp.dic b ys y;rw[e] at e1;cases e1
 ·cases z:F b with
  |false=>rfl
  |true=>
   obtain⟨_,vs,q⟩:=rp.hid b z;rw[e] at q;cases q
theorem yH:jg (fun xs H Q=>∃p W,xs=[.ref p]/\LD H p (W.map wdD)/\(∀x∈W,x≠[])/\W.length<64/\∀l H',H l=none->cS H H'->LD H' l ((eR W).map wdD)->Q (.ref l) H') tY:=⟨fun F H Z vs xs Q Q' rp rv ⟨x,W,e1,e2,e3,e4,q⟩ k=>by
 subst e1;obtain⟨v,rfl,r⟩:=fP rv;obtain⟨a,us,rfl,z1,z2⟩:=c9 rp r e2;refine⟨a,W,rfl,⟨qp _,us,z1,z2.same aL⟩,e3,e4,fun l H' hl s ld=>?_⟩;obtain⟨rp2,fr2⟩:=rp.later s;obtain⟨hn,ws,y1,y2⟩:=ld;obtain⟨f1,f2⟩:=rp.free hl;refine k _ Z _ H' rp2 fr2 ?_ q;simp only[RV,Dat]
 exact⟨l,ws,rfl,bB.mpr ⟨by rw[f1];rfl,f2,y1⟩,ay.t rp2.stays hn y2⟩⟩
noncomputable def tyD:D->String
 |.non=>"NoneType"|.bl _=>"bool"|.int _=>"int"|.str _=>"str"|.tup _=>"tuple"|.lst _=>"list"|.dk _=>"dict"|.dt _=>"dict"
noncomputable def isD(T:String)(d:D):Bool:=tyD d == T || (tyD d == "bool" && T == "int")
noncomputable def E4:AC:=fun xs Z Q=>∃x d T,xs=[x,.r (.ty T)]/\aS Z x=some d/\T∈kj/\Q (.d (.bl (isD T d))) Z
theorem EH{H:Hp}{d:D}{v:V}(h:Dat H d v):gq H v=some (tyD d):=by
 cases d<;>simp only[Dat] at h
 all_goals first
  |(subst h;rfl)
  |(obtain⟨a,xs,rfl,h,_⟩:=h;simp[gq,h,tyD])
theorem gH:jg (fun xs H Q=>∃x T,xs=[x,.ty T]/\T∈kj/\(gq H x).isSome=true/\Q (.bl (isA H x T)) H) E4:=⟨fun F H Z vs xs Q Q' rp rv ⟨x,d,T,e1,e2,e3,q⟩ k=>by
 subst e1;obtain⟨v,u,rfl,r1,r2⟩:=FP rv;cases (show u=.ty T from r2)
 have ht:=EH (e9 rp r1 e2);refine⟨v,T,rfl,e3,by rw[ht];rfl,?_⟩
 have:isA H v T=isD T d:=by simp[isA,ht,isD]
 rw[this]
 exact k.bl rp q⟩
noncomputable def E9:A2:=fun x y Z Q=>∃ds es,aS Z x=some (.lst ds)/\aS Z y=some (.lst es)/\ds.length+es.length<=sizeLine/\Q (.d (.lst (ds++es))) Z
theorem Ed:fy rK E9:=⟨fun F H Z v u x y Q Q' rp h1 h2 ⟨ds,es,e1,e2,z,q⟩ k=>by
 obtain⟨a,vs,rfl,z1,z2⟩:=c9 rp h1 e1;obtain⟨b,us,rfl,z3,z4⟩:=c9 rp h2 e2
 exact⟨a,b,vs,us,rfl,rfl,z1,z3,by rw[z2.length,z4.length];exact z,k.lst rp (z2.append z4) q⟩⟩
noncomputable def lJ:A2:=fun x y Z Q=>∃xs ys,cU Z x=some xs/\cU Z y=some ys/\xs.length+ys.length<=sizeLine/\∀p,Z p=none->Q (.r (.ref p)) (Z.put p (.own (xs++ys)))
theorem z7:fy rK lJ:=⟨fun F H Z v u x y Q Q' rp h1 h2 ⟨ds,es,e1,e2,z,q⟩ k=>by
 obtain⟨a,vs,rfl,z1,z2⟩:=gJ rp h1 e1;obtain⟨b,us,rfl,z3,z4⟩:=gJ rp h2 e2
 exact⟨a,b,vs,us,rfl,rfl,z1,z3,by rw[z2.length,z4.length];exact z,k.own rp (z2.append z4) q⟩⟩
noncomputable def zq:A2:=fun x y Z Q=>∃ds k,aS Z x=some (.lst ds)/\y=.d (.int k)/\-(2^63)<=k/\k<2^63/\ds.length*k.toNat<=sizeLine/\Q (.d (.lst (List.replicate k.toNat ds).flatten)) Z
theorem ay.rep{G:Hp}{ds:List D}{vs:List V}(h:ay G ds vs):∀n:Nat,ay G (List.replicate n ds).flatten (List.replicate n vs).flatten
 |0=>by simp[ay]
 |n+1=>by
  simp only[List.replicate_succ,List.flatten_cons];exact h.append (h.rep n)
theorem D6:fy Af zq:=⟨fun F H Z v u x y Q Q' rp h1 h2 ⟨ds,k',e1,e2,b1,b2,z,q⟩ k=>by
 subst e2;obtain⟨a,vs,rfl,z1,z2⟩:=c9 rp h1 e1
 exact⟨a,k',vs,rfl,bG h2,z1,b1,b2,by rw[z2.length];exact z,k.lst rp (z2.rep _) q⟩⟩
noncomputable def xc(r r':A2)(ta tb tc:AE):AE:=fun ρ Z Q=>ta ρ Z fun x Z1=>tb ρ Z1 fun y Z2=>r x y Z2 fun z Z3=>∃k,z=.d (.bl k)/\(if k=true then tc ρ Z3 fun w Z4=>r' y w Z4 Q else Q (.d (.bl false)) Z3)
theorem u7{r r2:R2}{r' r2':A2}{ta tb tc:TE}{ta' tb' tc':AE}(h1:fy r r')(h2:fy r2 r2')(ha:br ta ta')(hb:br tb tb')(hc:br tc tc'):br (yO r r2 ta tb tc) (xc r' r2' ta' tb' tc'):=⟨fun F H Z σ ρ Q Q' rp rs w k=>
 ha.go rp rs w fun x Z1 v H1 rp1 fr1 rs1 rv1 q1=>hb.go rp1 rs1 q1 fun y Z2 u H2 rp2 fr2 rs2 rv2 q2=>h1.run F H2 Z2 v u x y _ _ rp2 (rv1.same fr2.same) rv2 q2 fun z Z3 zv H3 rp3 fr3 rv3 ⟨c,e,q⟩=>by
  subst e;refine⟨c,xh rv3,?_⟩;have fr:=(fr1.trans fr2).trans fr3
  cases c with
  |true=>
   rw[if_pos rfl] at q ⊢;exact hc.go rp3 (rs2.same fr3.same) q fun w' Z4 wv H4 rp4 fr4 rs4 rv4 q4=>h2.run F H4 Z4 u wv y w' Q Q' rp4 (rv2.same (fr3.trans fr4).same) rv4 q4 (k.fr (fr.trans fr4))
  |false=>
   rw[if_neg Bool.false_ne_true] at q ⊢
   exact k _ Z3 _ H3 rp3 fr (by simp[RV,Dat]) q⟩
section
variable{X:Cx}{tg:Expr}
noncomputable def wf:D->Bool
 |.str _=>false
 |_=>true
theorem iF(hg:X.A.guards=some [])(hu:X.A.units+100<cLine):cm X (.builtin "repr") (fun xs H Q=>∃(x:V)(d:D),xs=[x]/\Dat H d x/\wf d=true/\dep d<=90/\fit d=true/\wt d<=1000000/\Q (.str (kw d)) H):=by
 intro pins s σ H xs us Q I r h;obtain⟨x,d,rfl,hd,hs,hdp,hf,hw,q⟩:=h;obtain⟨u,rfl,ru⟩:=du r
 cases d with
 |non=>
  simp only[Dat] at hd;subst hd;cases (show u=Value.none from ru)
  exact PySem.P.repr_of_none ⟨.str (kw .non),H,I.tok _,⟨_,rfl⟩,q⟩
 |bl b=>
  simp only[Dat] at hd;subst hd;cases (show u=Value.bool b from ru)
  exact PySem.P.repr_of_bool ⟨.str (kw (.bl b)),H,I.tok _,⟨_,by cases b<;>rfl⟩,q⟩
 |int i=>
  simp only[Dat] at hd;subst hd;obtain⟨t,rfl⟩:=ru;exact PySem.P.repr_of_int (by simpa[fit] using hf) ⟨.str (kw (.int i)),H,I.tok _,⟨_,rfl⟩,q⟩
 |str b=>cases hs
 |dk b=>simp[dep] at hdp
 |dt b=>simp[dep] at hdp
 |tup ds=>
  obtain⟨a,_,rfl,_⟩:=h8 hd;exact ll hg hu pins s σ H [.ref a] [u] Q I r ⟨a,_,rfl,hd,hdp,hf,hw,q⟩
 |lst ds=>
  obtain⟨a,_,rfl,_⟩:=g9 hd;exact ll hg hu pins s σ H [.ref a] [u] Q I r ⟨a,_,rfl,hd,hdp,hf,hw,q⟩
noncomputable def rOr(r1 r2:R2):R2:=fun x y H Q=>r1 x y H Q\/r2 x y H Q
theorem am{f:Value->Value->Sem Value}{r1 r2:R2}(h1:OpR X f r1)(h2:OpR X f r2):OpR X f (rOr r1 r2):=fun pins s σ H x y v u Q I rx ry h=>by
 rcases h with h|h
 ·exact h1 pins s σ H x y v u Q I rx ry h
 ·exact h2 pins s σ H x y v u Q I rx ry h
noncomputable def nN(K:W.Frag):V->Option Int->Option Int->Hp->VK->Prop:=fun x lo hi H Q=>Fy K x lo hi H Q\/BC K x lo hi H Q
theorem dq(K:W.Frag)(hK:X.K=K):SlR X (nN K):=by
 subst hK;intro pins s σ H x v vl vu lo hi sl Q I rx hs pl pu h;rcases h with h|h
 ·exact Ai pins s σ H x v vl vu lo hi sl Q I rx hs pl pu h
 ·exact zR pins s σ H x v vl vu lo hi sl Q I rx hs pl pu h
noncomputable def FM(K:W.Frag)(tl:TE):TI:=fun σ H R=>tl σ H fun x H1=>(∃a,x=.ref a/\(∃xs,SqL K H1 a xs)/\R (Itl K a) H1)\/∃a,x=.ref a/\(∃xs,SqT K H1 a xs)/\R (Itt K a) H1
theorem cw(K:W.Frag)(hK:X.K=K){l:Expr}{tl:TE}(hl:PE X l tl):PI X tg l (FM K tl):=by
 subst hK;intro pins s σ H R I h;refine thn (hl pins s σ H _ I h) fun v s1 ⟨x,H1,I1,r1,q1⟩=>?_;rcases q1 with q1|q1
 ·obtain⟨a,e,⟨xs,hq⟩,q⟩:=q1
  subst e;cases r1;obtain⟨its,rv,p,hz⟩:=I1.list hq;refine wpAny_pyIter_list p.isList ?_;refine⟨s1.heap.objs.size,[s1.heap.objs.size],_,_,H1,rfl,I1.kept (t':=s1.toks) fun b o e=>Heap.get?_push_of_some _ e,vR a _,⟨_,Heap.get?_push_size _ rfl,rfl,rfl⟩,fun b hb=>?_,q⟩;have e:b=s1.heap.objs.size:=by simpa using hb
  subst e;exact I1.Gz (Nat.le_refl _) (I1.hok.fresh (Nat.le_refl _))
 ·obtain⟨a,e,⟨xs,hq⟩,q⟩:=q1
  subst e;cases r1;obtain⟨its,rv,p,hz⟩:=I1.tuple hq;refine wpAny_pyIter_tuple (show s1.heap.IsTuple a its.toArray from p) ?_
  refine⟨s1.heap.objs.size,[s1.heap.objs.size],_,_,H1,rfl,I1.kept (t':=s1.toks) fun b o e=>Heap.get?_push_of_some _ e,sM a _,⟨_,Heap.get?_push_size _ rfl,rfl,rfl⟩,fun b hb=>?_,q⟩;have e:b=s1.heap.objs.size:=by simpa using hb
  subst e;exact I1.Gz (Nat.le_refl _) (I1.hok.fresh (Nat.le_refl _))
noncomputable def BU(K:W.Frag)(ta:TA):TI:=fun σ H R=>ta σ H fun vs H1=>(∃a,vs=[.ref a]/\(∃xs,SqT K H1 a xs)/\R (Ent K a) H1)\/∃a,vs=[.ref a]/\(∃xs,SqL K H1 a xs)/\R (Enl K a) H1
theorem Ba(K:W.Frag)(hK:X.K=K){a:Expr}{p pos pp:Pos}{elts:List Expr}{kk:Nat}{ta:TA}(hg:Gl X "enumerate")(hm:X.mg "enumerate"=none)(ha:PA X [a] ta)(hs:starEach [a] X.env=[(false,eval a X.env)]:=by rfl):PI X (.Tuple elts kk pp) (.Call (.Name "enumerate" p) [a] [] pos) (BU K ta):=by
 subst hK;intro pins s σ H R I h;refine Call_ (iC I hg hm vN (PyProof.Rows.callWith_type1 (thn (ha pos pins s σ H _ I h) fun us s1 ⟨vs,H1,I1,r1,q1⟩=>?_) hs rfl));rcases q1 with q1|q1
 ·obtain⟨l,e,⟨xs,hq⟩,q⟩:=q1
  subst e;obtain⟨u,rfl,ru⟩:=du r1;cases ru;obtain⟨its,rv,p',hz⟩:=I1.tuple hq;refine sD (show s1.heap.IsTuple l its.toArray from p') fun h1 he hi hsz hk=>?_
  refine wpAny_pyIter_enum he ⟨_,[s1.heap.objs.size+1,s1.heap.objs.size],_,_,H1,rfl,I1.kept (t':=s1.toks) hk,sH l _ _ (Nat.succ_ne_self _),⟨⟨_,he⟩,hi⟩,fun b hb=>?_,q⟩;rcases(by simpa using hb:b=s1.heap.objs.size+1\/b=s1.heap.objs.size) with rfl|rfl
  ·exact I1.Gz (Nat.le_succ _) (I1.hok.fresh (Nat.le_succ _))
  ·exact I1.Gz (Nat.le_refl _) (I1.hok.fresh (Nat.le_refl _))
 ·obtain⟨l,e,⟨xs,hq⟩,q⟩:=q1
  subst e;obtain⟨u,rfl,ru⟩:=du r1;cases ru;obtain⟨its,rv,p',hz⟩:=I1.list hq;refine call_enumerate_list p'.isList fun h1 he hi hsz hk=>?_;refine wpAny_pyIter_enum he ⟨_,[s1.heap.objs.size+1,s1.heap.objs.size],_,_,H1,rfl,I1.kept (t':=s1.toks) hk,tD l _ _ (Nat.succ_ne_self _),⟨⟨_,he⟩,hi⟩,fun b hb=>?_,q⟩;rcases(by simpa using hb:b=s1.heap.objs.size+1\/b=s1.heap.objs.size) with rfl|rfl
  ·exact I1.Gz (Nat.le_succ _) (I1.hok.fresh (Nat.le_succ _))
  ·exact I1.Gz (Nat.le_refl _) (I1.hok.fresh (Nat.le_refl _))
noncomputable def BY(K:W.Frag)(ta tb:TE):TE:=fun σ H Q=>ta σ H fun x H1=>∃c,qT K x H1 c/\if c=true then tb σ H1 Q else Q x H1
noncomputable def Bx(K:W.Frag)(ta:TE):TE:=fun σ H Q=>ta σ H fun x H1=>∃c,qT K x H1 c/\Q (.bl (!c)) H1
variable{a b:Expr}{be:List Expr}{pos:Pos}{ta tb:TE}
theorem dS(K:W.Frag)(hK:X.K=K)(ha:PE X a ta)(hb:PE X (.BoolOp .And (b::be) pos) tb):PE X (.BoolOp .And (a::b::be) pos) (BY K ta tb):=.mk <| by
 subst hK;intro pins s σ H Q I h;refine BoolOp_and (thn (ha pins s σ H _ I h) fun v s1 ⟨x,H1,I1,r1,q1⟩=>?_);refine thn (rZ pins s1 σ H1 x v (fun c H2=>H2=H1/\if c=true then tb σ H1 Q else Q x H1) I1 r1 ?_) fun c s2 ⟨H2,I2,e,q2⟩=>?_
 ·obtain⟨c,hc,q⟩:=q1
  exact⟨c,hc,rfl,q⟩
 ·subst e
  cases c with
  |true=>rw[if_pos rfl] at q2;exact hb pins s2 σ H2 Q I2 q2
  |false=>rw[if_neg Bool.false_ne_true] at q2;exact⟨x,H2,I2,r1,q2⟩
theorem Bt(K:W.Frag)(hK:X.K=K)(ha:PE X a ta):PE X (.UnaryOp .Not a pos) (Bx K ta):=.mk <| by
 subst hK;intro pins s σ H Q I h;refine UnaryOp_ (thn (ha pins s σ H _ I h) fun v s1 ⟨x,H1,I1,r1,q1⟩=>?_);refine not_of (thn (rZ pins s1 σ H1 x v (fun c H2=>Q (.bl (!c)) H2) I1 r1 q1) fun c s2 ⟨H2,I2,q2⟩=>⟨.bl (!c),H2,I2,rfl,q2⟩)
end
noncomputable def Cc(ta tb:AE):AE:=fun ρ Z Q=>ta ρ Z fun x Z1=>∃c,gu Z1 x=some c/\if c=true then tb ρ Z1 Q else Q x Z1
noncomputable def B3(ta:AE):AE:=fun ρ Z Q=>ta ρ Z fun x Z1=>∃c,gu Z1 x=some c/\Q (.d (.bl (!c))) Z1
noncomputable def aSl(te:AE)(tl th:AO):AE:=fun ρ Z Q=>te ρ Z fun x Z1=>tl ρ Z1 fun lo Z2=>th ρ Z2 fun hi Z3=>match x with
 |.d (.tup ds)=>Q (.d (.tup (bp ds lo hi))) Z3
 |x=>∃ds,aS Z3 x=some (.lst ds)/\Q (.d (.lst (bp ds lo hi))) Z3
noncomputable def Bw(te:AE):AI:=fun ρ Z R=>te ρ Z fun x Z1=>jP Z1 x fun d Z2=>∃ds,jC d=some ds/\R (ds.map AV.d) Z2
noncomputable def x4(ta:AA):AI:=fun ρ Z R=>ta ρ Z fun xs Z1=>∃x,xs=[x]/\jP Z1 x fun d Z2=>∃ds,jC d=some ds/\R (kb ds) Z2
noncomputable def vv:A2:=fun x y Z Q=>match x with
 |.d (.int i)=>∃j,y=.d (.int j)/\Q (.d (.int (i+j))) Z
 |.d (.tup ds)=>∃es,y=.d (.tup es)/\ds.length+es.length<=sizeLine/\Q (.d (.tup (ds++es))) Z
 |x=>∃ds es,aS Z x=some (.lst ds)/\aS Z y=some (.lst es)/\ds.length+es.length<=sizeLine/\Q (.d (.lst (ds++es))) Z
noncomputable def Ev:A2:=fun x y Z Q=>match x with
 |.d (.int i)=>∃j,y=.d (.int j)/\mm i j/\Q (.d (.int (i*j))) Z
 |x=>zq x y Z Q
section
variable{K:W.Frag}{te ta tb:TE}{te' ta' tb':AE}{tl th:TO}{tl' th':AO}{sa:TA}{sa':AA}
theorem fq(ha:br ta ta')(hb:br tb tb'):br (BY K ta tb) (Cc ta' tb'):=⟨fun F H Z σ ρ Q Q' rp rs h k=>
 ha.go rp rs h fun x Z1 v H1 rp1 fr1 rs1 rv1 ⟨c,e,q⟩=>⟨c,sO rp1 rv1 e,by
  cases c with
  |false=>rw[if_neg Bool.false_ne_true] at q ⊢;exact k x Z1 v H1 rp1 fr1 rv1 q
  |true=>rw[if_pos rfl] at q ⊢;exact hb.run F H1 Z1 σ ρ Q Q' rp1 rs1 q (k.fr fr1)⟩⟩
theorem C0(ha:br ta ta'):br (Bx K ta) (B3 ta'):=⟨fun F H Z σ ρ Q Q' rp rs h k=>
 ha.go rp rs h fun x Z1 v H1 rp1 fr1 rs1 rv1 ⟨c,e,q⟩=>⟨c,sO rp1 rv1 e,(k.fr fr1).bl rp1 q⟩⟩
theorem jG(he:br te te')(hl:Ref REq tl tl')(hh:Ref REq th th'):br (tSl (nN K) te tl th) (aSl te' tl' th'):=⟨fun F H Z σ ρ Q Q' rp rs w k=>
 he.go rp rs w fun x Z1 v H1 rp1 fr1 rs1 rv1 q1=>hl.go rp1 rs1 q1 fun lo Z2 lo' H2 rp2 fr2 rs2 e2 q2=>hh.go rp2 rs2 q2 fun hi Z3 hi' H3 rp3 fr3 rs3 e3 q=>by
  cases (show lo=lo' from e2)
  cases (show hi=hi' from e3)
  have r:=rv1.same (fr2.trans fr3).same;have k3:=k.fr ((fr1.trans fr2).trans fr3)
  have ls:(∃ds,aS Z3 x=some (.lst ds)/\Q' (.d (.lst (bp ds lo hi))) Z3)->nN K v lo hi H3 Q:=fun⟨ds,e,q⟩=>by
   obtain⟨a,vs,rfl,z1,z2⟩:=c9 rp3 r e;exact .inl ⟨a,vs,rfl,.inl (.inl z1),k3.lst rp3 z2.cut q⟩
  cases x with
  |d x=>cases x with
   |tup ds=>
    refine .inr ?_;have r':=r;simp only[RV,Dat] at r;obtain⟨a,vs,rfl,z1,z2⟩:=r;refine⟨a,vs,rfl,.inl (.inl (aL _ _ z1)),?_⟩;by_cases hw:HT.sIx vs.length 0 lo=0/\HT.sIx vs.length vs.length hi=vs.length
    ·rw[if_pos hw]
     have:bp ds lo hi=ds:=by
      unfold bp;rw[←z2.length,hw.1,hw.2,List.drop_zero,Nat.sub_zero,z2.length,List.take_length]
     replace q:Q' (.d (.tup (bp ds lo hi))) Z3:=q
     rw[this] at q;exact k3 _ Z3 _ H3 rp3 .refl r' q
    ·rw[if_neg hw]
     exact k3.tup rp3 z2.cut q
   |_=>exact ls q
  |_=>exact ls q⟩
theorem dW(h:br te te'):qu (FM K te) (Bw te'):=⟨fun F H Z σ ρ R R' rp rs w k=>h.go rp rs w fun x Z1 v H1 rp1 fr1 rs1 rv q=>by
 obtain⟨d,Z2,rp2,fr2,hd,ds,hs,q2⟩:=si rp1 rv q
 cases d with
 |lst es=>
  cases hs;obtain⟨a,vs,rfl,ha⟩:=g9 hd;exact .inl ⟨a,rfl,⟨vs,.inl (.inl (aL _ _ ha))⟩,k _ Z2 _ H1 rp2 (fr1.trans fr2) (Bc hd) q2⟩
 |tup es=>
  cases hs;obtain⟨a,vs,rfl,ha⟩:=h8 hd;exact .inr ⟨a,rfl,⟨vs,.inl (.inl (aL _ _ ha))⟩,k _ Z2 _ H1 rp2 (fr1.trans fr2) (Dx hd) q2⟩
 |_=>cases hs⟩
theorem DS(h:jk sa sa'):qu (BU K sa) (x4 sa'):=⟨fun F H Z σ ρ R R' rp rs w k=>h.go rp rs w fun xs Z1 vs H1 rp1 fr1 rs1 rv ⟨x,e,q⟩=>by
 subst e;obtain⟨v,rfl,r⟩:=fP rv;obtain⟨d,Z2,rp2,fr2,hd,ds,hs,q2⟩:=si rp1 r q
 cases d with
 |lst es=>
  cases hs;obtain⟨a,vs,rfl,ha⟩:=g9 hd;exact .inr ⟨a,rfl,⟨vs,.inl (.inl (aL _ _ ha))⟩,k _ Z2 _ H1 rp2 (fr1.trans fr2) (xn hd) q2⟩
 |tup es=>
  cases hs;obtain⟨a,vs,rfl,ha⟩:=h8 hd;exact .inl ⟨a,rfl,⟨vs,.inl (.inl (aL _ _ ha))⟩,k _ Z2 _ H1 rp2 (fr1.trans fr2) (xQ hd) q2⟩
 |_=>cases hs⟩
theorem bz:fy (rOr (rI0 fun i j=>.int (i+j)) (rOr mV rK)) vv:=⟨fun F H Z v u x y Q Q' rp h1 h2 q k=>by
 have ls:(∃ds es,aS Z x=some (.lst ds)/\aS Z y=some (.lst es)/\ds.length+es.length<=sizeLine/\Q' (.d (.lst (ds++es))) Z)->rOr (rI0 fun i j=>.int (i+j)) (rOr mV rK) v u H Q:=fun q=>
  .inr (.inr (Ed.run F H Z v u x y Q Q' rp h1 h2 q k))
 cases x with
 |d x=>cases x with
  |int i=>
   obtain⟨j,rfl,q⟩:=q;exact .inl ⟨i,j,bG h1,bG h2,k.int rp q⟩
  |tup ds=>
   obtain⟨es,rfl,z,q⟩:=q;exact .inr (.inl (yg.run F H Z v u _ _ Q Q' rp h1 h2 ⟨ds,es,rfl,rfl,z,q⟩ k))
  |_=>exact ls q
 |_=>exact ls q⟩
theorem fE:fy (rOr (rI mm fun i j=>.int (i*j)) Af) Ev:=⟨fun F H Z v u x y Q Q' rp h1 h2 q k=>by
 have ls:zq x y Z Q'->rOr (rI mm fun i j=>.int (i*j)) Af v u H Q:=fun q=>.inr (D6.run F H Z v u x y Q Q' rp h1 h2 q k)
 cases x with
 |d x=>cases x with
  |int i=>
   obtain⟨j,rfl,c,q⟩:=q;exact .inl ⟨i,j,bG h1,bG h2,c,k.int rp q⟩
  |_=>exact ls q
 |_=>exact ls q⟩
end
theorem jJ{X:Cx}(K:W.Frag)(hK:X.K=K)(hc:X.calm=true):cm X (.builtin "sum") (fun xs H Q=>(∃(a:Addr)(ns:List Int),xs=[.ref a]/\SqL K H a (ns.map V.int)/\Q (.int ns.sum) H)\/∃(a:Addr)(ns:List Int),xs=[.ref a]/\SqT K H a (ns.map V.int)/\Q (.int ns.sum) H):=by
 subst hK;intro pins s σ H xs us Q I r h;rcases h with h|h
 ·exact zz hc pins s σ H xs us Q I r h
 ·exact vV hc pins s σ H xs us Q I r h
noncomputable def BX:AC:=fun xs Z Q=>∃(x:AV)(d:D)(ns:List Int),xs=[x]/\aS Z x=some d/\jC d=some (ns.map D.int)/\Q (.d (.int ns.sum)) Z
theorem sk{K:W.Frag}:jg (fun xs H Q=>(∃(a:Addr)(ns:List Int),xs=[.ref a]/\SqL K H a (ns.map V.int)/\Q (.int ns.sum) H)\/∃(a:Addr)(ns:List Int),xs=[.ref a]/\SqT K H a (ns.map V.int)/\Q (.int ns.sum) H) BX:=⟨fun F H Z vs xs Q Q' rp rv ⟨x,d,ns,e1,e2,e3,q⟩ k=>by
 subst e1;obtain⟨v,rfl,r⟩:=fP rv;have hd:=e9 rp r e2
 cases d with
 |lst ds=>
  cases e3;simp only[Dat] at hd;obtain⟨a,us,rfl,q1,q2⟩:=hd;cases gm q2;exact .inl ⟨a,ns,rfl,.inl (.inl q1),k.int rp q⟩
 |tup ds=>
  cases e3;simp only[Dat] at hd;obtain⟨a,us,rfl,q1,q2⟩:=hd;cases gm q2;exact .inr ⟨a,ns,rfl,.inl (.inl q1),k.int rp q⟩
 |_=>cases e3⟩
noncomputable def B2:A2:=fun x y Z Q=>match x with
 |.d (.int i)=>∃j,y=.d (.int j)/\Q (.d (.int (i+j))) Z
 |.d (.tup ds)=>∃es,y=.d (.tup es)/\ds.length+es.length<=sizeLine/\Q (.d (.tup (ds++es))) Z
 |x=>lJ x y Z Q
theorem DJ:fy (rOr (rI0 fun i j=>.int (i+j)) (rOr mV rK)) B2:=⟨fun F H Z v u x y Q Q' rp h1 h2 q k=>by
 have ls:lJ x y Z Q'->rOr (rI0 fun i j=>.int (i+j)) (rOr mV rK) v u H Q:=fun q=>.inr (.inr (z7.run F H Z v u x y Q Q' rp h1 h2 q k))
 cases x with
 |d x=>cases x with
  |int i=>
   obtain⟨j,rfl,q⟩:=q;exact .inl ⟨i,j,bG h1,bG h2,k.int rp q⟩
  |tup ds=>
   obtain⟨es,rfl,z,q⟩:=q;exact .inr (.inl (yg.run F H Z v u _ _ Q Q' rp h1 h2 ⟨ds,es,rfl,rfl,z,q⟩ k))
  |_=>exact ls q
 |_=>exact ls q⟩
noncomputable def iO(N:List Str)(xs:List AV):SA:=xs.map some++List.replicate (N.length-xs.length) none
theorem RS.start{G:Hp}{N:List Str}{xs:List AV}{vs:List V}(h:RVs G xs vs):RS G (iO N xs) (start N vs):=by
 refine⟨by simp[iO,L2.start,h.length],fun i a e=>?_⟩
 unfold iO at e;unfold L2.start;by_cases hi:i<xs.length
 ·rw[List.getElem?_append_left (by simpa using hi),List.getElem?_map] at e
  rw[List.getElem?_append_left (by simpa[h.length] using hi),List.getElem?_map]
  cases z:xs[i]? with
  |none=>rw[z] at e;simp at e
  |some b=>
   rw[z] at e;simp at e;subst e;obtain⟨v,e1,e2⟩:=h.get z;exact⟨v,by rw[e1];rfl,e2⟩
 ·rw[List.getElem?_append_right (by simpa using hi)] at e
  have:=List.mem_of_getElem? e;rw[List.mem_replicate] at this;cases this.2
theorem Fun.okA{P:Program}{w:World}{K:W.Frag}{mg:Str->Option Value}{base:Heap}{x qual:Str}{st:Stmt}{f:Addr}{fd:FuncData}{N ps:List Str}{k:Nat}{sp:ASp}(F:Fun K x qual st f fd)(S:aN N ps (defScope st))(len:∀xs Z Q,sp xs Z Q->xs.length=ps.length)
  (hbody:∀(cdv:Value)(A:Around)(outer:List Env)(s:Shared)(H:Hp)(E:XK),d6 k (A.deeper (envOfC qual (defScope st) s.heap.objs.size f cdv)) ->
   ∃t t',PSs (qk CX0 P w K mg base N qual (defScope st) f cdv A outer s H E).nox (defBody st) t/\ii t t'/\∀xs Z Q',sp xs Z Q'->t' { nx:=fun _ Z'=>Q' (.d .non) Z',rt:=Q' } (iO N xs) Z):a7 P w K mg base CX0 (k+1) f fd ps (cL sp):=by
 refine F.ok S (fun vs H Q E h=>?_) (fun cdv A outer s H vs Q E hr h=>?_)
 ·obtain⟨F,xs,Z,Q',rp,rv,h,_⟩:=h
  rw[rv.length,len xs Z Q' h]
 ·obtain⟨t,t',h1,h2,h3⟩:=hbody cdv A outer s H E hr
  obtain⟨F,xs,Z,Q',rp,rv,h,kq⟩:=h;refine⟨t,h1,h2.run F H Z _ _ _ _ rp (RS.start rv) (h3 xs Z Q' h) ⟨?_,kq,fun _ _ _ _ _ _ _ z=>z.elim,fun _ _ _ _ _ _ _ z=>z.elim⟩⟩;exact fun ρ' Z' σ' H' e1 e2 e3 q=>kq (.d .non) Z' .non H' e1 e2 (by simp[RV,Dat]) q
theorem rd(D:cI)(ρ:SA)(Z:Om):BH D ρ Z=(D.nx ρ Z):=rfl
theorem jd(t u:AS)(D:cI)(ρ:SA)(Z:Om):z6 t u D ρ Z=(t { D with nx:=u D } ρ Z):=rfl
theorem ra(te:AE)(D:cI)(ρ:SA)(Z:Om):Cr te D ρ Z=(te ρ Z fun _ Z1=>D.nx ρ Z1):=rfl
theorem ve(te:AE)(D:cI)(ρ:SA)(Z:Om):Ey te D ρ Z=(te ρ Z D.rt):=rfl
theorem tW(c:AT)(t u:AS)(D:cI)(ρ:SA)(Z:Om):Ef c t u D ρ Z=(c ρ Z fun b Z1=>if b=true then t D ρ Z1 else u D ρ Z1):=rfl
theorem tO(te:AE)(g:AG)(D:cI)(ρ:SA)(Z:Om):EC te g D ρ Z=(te ρ Z fun x Z1=>g x ρ Z1 D.nx):=rfl
theorem jX(c:AT)(tb:AS)(D:cI)(ρ:SA)(Z:Om):yK c tb D ρ Z=(∃W:Nat->SA->Om->Prop,(∃m,W m ρ Z)/\∀m ρ Z,W m ρ Z ->
 c ρ Z fun b Z1=>if b=true then ∃N:SA->Om->Prop,(∀ρ' Z',N ρ' Z'->∃m',m'<m/\W m' ρ' Z')/\tb { D with nx:=N,ct:=N,bk:=D.nx } ρ Z1 else D.nx ρ Z1):=rfl
theorem fw(i:Nat)(v:AV)(ρ:SA)(Z:Om)(Q:SA->Om->Prop):lH i v ρ Z Q=(Q (ρ.set i (some v)) Z):=rfl
theorem pH(vs:List AV)(ρ:SA)(Z:Om)(Q:SA->Om->Prop):By vs ρ Z Q=(vs=[]/\Q ρ Z):=rfl
theorem nv(t:AG)(u:AGs)(vs:List AV)(ρ:SA)(Z:Om)(Q:SA->Om->Prop):y3 t u vs ρ Z Q=(∃v r,vs=v::r/\t v ρ Z fun ρ' Z'=>u r ρ' Z' Q):=rfl
theorem uY(wi:AI)(g:AG)(tb:AS)(D:cI)(ρ:SA)(Z:Om):Fq wi g tb D ρ Z=(wi ρ Z fun as Z1=>gr g tb D as ρ Z1):=rfl
theorem fY(z0:SA)(Z:Om)(Q:Bool->Om->Prop):ja z0 Z Q=(Q true Z):=rfl
theorem gM(te:AE)(xs:List AV)(ρ:SA)(Z:Om)(K:List AV->SA->Om->Prop):lM te xs ρ Z K=(te ρ Z fun y Z1=>xs.length<sizeLine/\K (xs++[y]) ρ Z1):=rfl
theorem qN(wi:AI)(g:AG)(tc:AT)(l:AL)(xs:List AV)(ρ:SA)(Z:Om)(K:List AV->SA->Om->Prop):BR wi g tc l xs ρ Z K=(wi ρ Z fun as Z1=>c6 g tc l as xs ρ Z1 K):=rfl
theorem tZ(i:Nat)(ρ:SA)(Z:Om)(Q:AV->Om->Prop):E3 i ρ Z Q=(∃a,ρ[i]?=some (some a)/\Q a Z):=rfl
theorem ph(i:Nat)(ρ:SA)(Z:Om)(Q:AV->Om->Prop):Ck i ρ Z Q=(∃a,ρ[i]?=some (some a)/\jP Z a fun d Z'=>Q (.d d) Z'):=rfl
theorem BD(d:D)(z0:SA)(Z:Om)(Q:AV->Om->Prop):aC d z0 Z Q=(Q (.d d) Z):=rfl
theorem xw(r:A2)(ta tb:AE)(ρ:SA)(Z:Om)(Q:AV->Om->Prop):aOp r ta tb ρ Z Q=(ta ρ Z fun x Z1=>tb ρ Z1 fun y Z2=>r x y Z2 Q):=rfl
theorem u9(z0:SA)(Z:Om)(Q:List AV->Om->Prop):Fo z0 Z Q=(Q [] Z):=rfl
theorem qw(ta:AE)(tr:AA)(ρ:SA)(Z:Om)(Q:List AV->Om->Prop):Bz ta tr ρ Z Q=(ta ρ Z fun x Z1=>tr ρ Z1 fun xs Z2=>Q (x::xs) Z2):=rfl
theorem t6(t:AA)(ρ:SA)(Z:Om)(Q:AV->Om->Prop):EN t ρ Z Q=(t ρ Z fun xs Z1=>xs.length<=sizeLine/\∃ds,und xs=some ds/\Q (.d (.tup ds)) Z1):=rfl
theorem vd(t:AA)(ρ:SA)(Z:Om)(Q:AV->Om->Prop):EV t ρ Z Q=(t ρ Z fun xs Z1=>xs.length<=sizeLine/\∃ds,und xs=some ds/\Q (.d (.lst ds)) Z1):=rfl
theorem qo(t:AA)(ρ:SA)(Z:Om)(Q:AV->Om->Prop):B4 t ρ Z Q=(t ρ Z fun xs Z1=>xs.length<=sizeLine/\∀p,Z1 p=none->Q (.r (.ref p)) (Z1.put p (.own xs))):=rfl
theorem pM(sp:ASp)(t:AA)(ρ:SA)(Z:Om)(Q:AV->Om->Prop):B1 sp t ρ Z Q=(t ρ Z fun xs Z1=>sp xs Z1 Q):=rfl
theorem pw(t:AE)(ρ:SA)(Z:Om)(Q:Bool->Om->Prop):Ca t ρ Z Q=(t ρ Z fun x Z1=>∃k,x=.d (.bl k)/\Q k Z1):=rfl
theorem ue(t u:AT)(ρ:SA)(Z:Om)(Q:Bool->Om->Prop):Fj t u ρ Z Q=(t ρ Z fun c Z1=>if c=true then u ρ Z1 Q else Q false Z1):=rfl
theorem xY(t u:AT)(ρ:SA)(Z:Om)(Q:Bool->Om->Prop):aOr t u ρ Z Q=(t ρ Z fun c Z1=>if c=true then Q true Z1 else u ρ Z1 Q):=rfl
theorem tR(t:AT)(ρ:SA)(Z:Om)(Q:Bool->Om->Prop):Fn t ρ Z Q=(t ρ Z fun c Z1=>Q (!c) Z1):=rfl
theorem tJ(v:V)(z0:SA)(Z:Om)(Q:AV->Om->Prop):Ft v z0 Z Q=(Q (.r v) Z):=rfl
theorem uE(ta:AE)(ρ:SA)(Z:Om)(Q:Bool->Om->Prop):Fg ta ρ Z Q=(ta ρ Z fun x Z1=>∃k,gu Z1 x=some k/\Q k Z1):=rfl
theorem zu(f:Int->Int->D)(x:AV)(y:AV)(Z:Om)(Q:AV->Om->Prop):aI0 f x y Z Q=(∃i j,x=.d (.int i)/\y=.d (.int j)/\Q (.d (f i j)) Z):=rfl
theorem B6(C:Int->Int->Prop)(f:Int->Int->D)(x:AV)(y:AV)(Z:Om)(Q:AV->Om->Prop):aI C f x y Z Q=(∃i j,x=.d (.int i)/\y=.d (.int j)/\C i j/\Q (.d (f i j)) Z):=rfl
theorem uH(neg:Bool)(x:AV)(y:AV)(Z:Om)(Q:AV->Om->Prop):EK neg x y Z Q=(∃a b,aS Z x=some a/\aS Z y=some b/\dep a<=100/\Q (.d (.bl (if neg then !eqD a b else eqD a b))) Z):=rfl
theorem w9(neg:Bool)(x:AV)(y:AV)(Z:Om)(Q:AV->Om->Prop):aIn neg x y Z Q=(∃a b ds,aS Z x=some a/\aS Z y=some b/\(b=.lst ds\/b=.tup ds)/\cx ds<=90/\Q (.d (.bl (if neg then !inD a ds else inD a ds))) Z):=rfl
theorem xP(x:AV)(y:AV)(Z:Om)(Q:AV->Om->Prop):aIx x y Z Q=(∃xs i a,(cU Z x=some xs\/gC x=some xs)/\y=.d (.int i)/\atI xs i=some a/\Q a Z):=rfl
theorem uB(xs:List AV)(Z:Om)(Q:AV->Om->Prop):Et xs Z Q=(∃x n,xs=[x]/\l5 Z x=some n/\Q (.d (.int n)) Z):=rfl
theorem uV(f:List Bool->Bool)(xs:List AV)(Z:Om)(Q:AV->Om->Prop):Ej f xs Z Q=(∃x bs,xs=[x]/\aS Z x=some (.lst (bs.map D.bl))/\Q (.d (.bl (f bs))) Z):=rfl
theorem xi(f:Int->Int)(xs:List AV)(Z:Om)(Q:AV->Om->Prop):aF1 f xs Z Q=(∃i,xs=[.d (.int i)]/\Q (.d (.int (f i))) Z):=rfl
theorem uf(xs:List AV)(Z:Om)(Q:AV->Om->Prop):Eh xs Z Q=(∃d i,xs=[.d d]/\xV d=some i/\Q (.d (.int i)) Z):=rfl
theorem ng(xs:List AV)(Z:Om)(Q:AV->Om->Prop):yv xs Z Q=(∃x ds,xs=[x]/\(aS Z x=some (.lst ds)\/x=.d (.tup ds))/\Q (.d (.tup ds)) Z):=rfl
theorem kY(xs:List AV)(Z:Om)(Q:AV->Om->Prop):tN xs Z Q=(∃x ds,xs=[x]/\(aS Z x=some (.lst ds)\/x=.d (.tup ds))/\Q (.d (.lst ds)) Z):=rfl
theorem ny(xs:List AV)(Z:Om)(Q:AV->Om->Prop):xm xs Z Q=(∃x ds,xs=[x]/\(aS Z x=some (.lst ds)\/x=.d (.tup ds))/\∀p,Z p=none->Q (.r (.ref p)) (Z.put p (.own (ds.map AV.d)))):=rfl
theorem m6(ta:AA)(ρ:SA)(Z:Om)(R:List AV->Om->Prop):x6 ta ρ Z R=(ta ρ Z fun xs Z1=>∃j:Int,xs=[.d (.int j)]/\-(2^62)<=j/\j<2^62/\R (jS 0 j.toNat) Z1):=rfl
theorem qt(n:Nat)(t:AGs)(v:AV)(ρ:SA)(Z:Om)(Q:SA->Om->Prop):Cf n t v ρ Z Q=(∃ds,v=.d (.tup ds)/\ds.length=n/\t (ds.map AV.d) ρ Z Q):=rfl
theorem qA(n:Nat)(t:AGs)(v:AV)(ρ:SA)(Z:Om)(Q:SA->Om->Prop):BJ n t v ρ Z Q=(∃xs,cU Z v=some xs/\xs.length=n/\t xs ρ Z Q):=rfl
theorem pW(to ti:AE)(v:AV)(ρ:SA)(Z:Om)(Q:SA->Om->Prop):BA to ti v ρ Z Q=(to ρ Z fun o Z1=>ti ρ Z1 fun i Z2=>∃l k xs j,o=.r (.ref l)/\i=.d (.int k)/\Z2 l=some (.own xs)/\ixN xs.length k=some j/\Q ρ (Z2.put l (.own (xs.set j v)))):=rfl
theorem nD(z0:SA)(Z:Om)(Q:Option Int->Om->Prop):zH z0 Z Q=(Q none Z):=rfl
theorem nF(t:AE)(ρ:SA)(Z:Om)(Q:Option Int->Om->Prop):yB t ρ Z Q=(t ρ Z fun x Z1=>∃i,x=.d (.int i)/\Q (some i) Z1):=rfl
theorem lP(to:AE)(t:AA)(ρ:SA)(Z:Om)(Q:AV->Om->Prop):uS to t ρ Z Q=(to ρ Z fun x Z1=>∃l,x=.r (.ref l)/\(∃zs,Z1 l=some (.own zs))/\t ρ Z1 fun ys Z2=>∃xs y,ys=[y]/\Z2 l=some (.own xs)/\xs.length<sizeLine/\Q (.d .non) (Z2.put l (.own (xs++[y])))):=rfl
theorem k9(xs:List AV)(Z:Om)(Q:AV->Om->Prop):tY xs Z Q=(∃(x:AV) (W:List (List Int)),xs=[x]/\aS Z x=some (.lst (W.map wdD))/\(∀y∈W,y≠[])/\W.length<64/\Q (.d (.lst ((eR W).map wdD))) Z):=rfl
theorem uC(xs:List AV)(Z:Om)(Q:AV->Om->Prop):E4 xs Z Q=(∃x d T,xs=[x,.r (.ty T)]/\aS Z x=some d/\T∈kj/\Q (.d (.bl (isD T d))) Z):=rfl
theorem nh(x:AV)(y:AV)(Z:Om)(Q:AV->Om->Prop):lJ x y Z Q=(∃xs ys,cU Z x=some xs/\cU Z y=some ys/\xs.length+ys.length<=sizeLine/\∀p,Z p=none->Q (.r (.ref p)) (Z.put p (.own (xs++ys)))):=rfl
theorem mP(r r':A2)(ta tb tc:AE)(ρ:SA)(Z:Om)(Q:AV->Om->Prop):xc r r' ta tb tc ρ Z Q=(ta ρ Z fun x Z1=>tb ρ Z1 fun y Z2=>r x y Z2 fun z Z3=>∃k,z=.d (.bl k)/\(if k=true then tc ρ Z3 fun w Z4=>r' y w Z4 Q else Q (.d (.bl false)) Z3)):=rfl
theorem pS(ta tb:AE)(ρ:SA)(Z:Om)(Q:AV->Om->Prop):Cc ta tb ρ Z Q=(ta ρ Z fun x Z1=>∃c,gu Z1 x=some c/\if c=true then tb ρ Z1 Q else Q x Z1):=rfl
theorem qW(ta:AE)(ρ:SA)(Z:Om)(Q:AV->Om->Prop):B3 ta ρ Z Q=(ta ρ Z fun x Z1=>∃c,gu Z1 x=some c/\Q (.d (.bl (!c))) Z1):=rfl
theorem p8(te:AE)(ρ:SA)(Z:Om)(R:List AV->Om->Prop):Bw te ρ Z R=(te ρ Z fun x Z1=>jP Z1 x fun d Z2=>∃ds,jC d=some ds/\R (ds.map AV.d) Z2):=rfl
theorem mW(ta:AA)(ρ:SA)(Z:Om)(R:List AV->Om->Prop):x4 ta ρ Z R=(ta ρ Z fun xs Z1=>∃x,xs=[x]/\jP Z1 x fun d Z2=>∃ds,jC d=some ds/\R (kb ds) Z2):=rfl
theorem qq(xs:List AV)(Z:Om)(Q:AV->Om->Prop):BX xs Z Q=(∃(x:AV)(d:D)(ns:List Int),xs=[x]/\aS Z x=some d/\jC d=some (ns.map D.int)/\Q (.d (.int ns.sum)) Z):=rfl
theorem qU(src:List (Option Nat))(wi:AI)(g:AG)(tc:AT)(l:AL)(ρ:SA)(Z:Om)(Q:AV->Om->Prop):BZ src wi g tc l ρ Z Q=(wi ρ Z fun as Z1=>c6 g tc l as [] (mB src ρ) Z1 fun xs _ Z'=>∃ds,und xs=some ds/\Q (.d (.lst ds)) Z'):=rfl
theorem nC(src:List (Option Nat))(wi:AI)(g:AG)(tc:AT)(l:AL)(ρ:SA)(Z:Om)(Q:AV->Om->Prop):zL src wi g tc l ρ Z Q=(wi ρ Z fun as Z1=>c6 g tc l as [] (mB src ρ) Z1 fun xs _ Z'=>∀p,Z' p=none->Q (.r (.ref p)) (Z'.put p (.own xs))):=rfl
theorem xk(r:AV->Om->(AV->Om->Prop)->Prop)(ta:AE)(ρ:SA)(Z:Om)(Q:AV->Om->Prop):aUn r ta ρ Z Q=(ta ρ Z fun x Z1=>r x Z1 Q):=rfl
theorem xD(r:List AV->Om->(AV->Om->Prop)->Prop)(t:AA)(ρ:SA)(Z:Om)(Q:AV->Om->Prop):aCB r t ρ Z Q=(t ρ Z fun xs Z1=>r xs Z1 Q):=rfl
theorem BM(f:Int->D)(x:AV)(Z:Om)(Q:AV->Om->Prop):aU f x Z Q=(∃i,x=.d (.int i)/\Q (.d (f i)) Z):=rfl
theorem qi(i:Int)(y:AV)(Z:Om)(Q:AV->Om->Prop):vv (.d (.int i)) y Z Q=(∃j,y=.d (.int j)/\Q (.d (.int (i+j))) Z):=rfl
theorem jr(ds:List D)(y:AV)(Z:Om)(Q:AV->Om->Prop):vv (.d (.tup ds)) y Z Q=(∃es,y=.d (.tup es)/\ds.length+es.length<=sizeLine/\Q (.d (.tup (ds++es))) Z):=rfl
theorem qM(ds:List D)(y:AV)(Z:Om)(Q:AV->Om->Prop):vv (.d (.lst ds)) y Z Q=(∃es,aS Z y=some (.lst es)/\ds.length+es.length<=sizeLine/\Q (.d (.lst (ds++es))) Z):=by
 show (∃ds' es,aS Z (.d (.lst ds))=some (.lst ds')/\aS Z y=some (.lst es)/\ds'.length+es.length<=sizeLine/\Q (.d (.lst (ds'++es))) Z)=_;simp only[aS,Option.some.injEq,D.lst.injEq,exists_eq_left',exists_and_left]
theorem mI(l:Addr)(y:AV)(Z:Om)(Q:AV->Om->Prop):B2 (.r (.ref l)) y Z Q=(lJ (.r (.ref l)) y Z Q):=rfl
theorem pQ(i:Int)(y:AV)(Z:Om)(Q:AV->Om->Prop):Ev (.d (.int i)) y Z Q=(∃j,y=.d (.int j)/\mm i j/\Q (.d (.int (i*j))) Z):=rfl
noncomputable def slA(x:AV)(lo hi:Option Int)(Z:Om)(Q:AV->Om->Prop):Prop:=match x with
 |.d (.tup ds)=>Q (.d (.tup (bp ds lo hi))) Z
 |x=>∃ds,aS Z x=some (.lst ds)/\Q (.d (.lst (bp ds lo hi))) Z
theorem ux(ds:List D)(lo hi:Option Int)(Z:Om)(Q:AV->Om->Prop):slA (.d (.tup ds)) lo hi Z Q=Q (.d (.tup (bp ds lo hi))) Z:=rfl
theorem kR(ds:List D)(lo hi:Option Int)(Z:Om)(Q:AV->Om->Prop):slA (.d (.lst ds)) lo hi Z Q=Q (.d (.lst (bp ds lo hi))) Z:=by
 show (∃ds',aS Z (.d (.lst ds))=some (.lst ds')/\Q (.d (.lst (bp ds' lo hi))) Z)=_;simp only[aS,Option.some.injEq,D.lst.injEq,exists_eq_left']
theorem Bu(l:Addr)(lo hi:Option Int)(Z:Om)(Q:AV->Om->Prop):slA (.r (.ref l)) lo hi Z Q=(∃ds,aS Z (.r (.ref l))=some (.lst ds)/\Q (.d (.lst (bp ds lo hi))) Z):=rfl
theorem xS(te:AE)(tl th:AO)(ρ:SA)(Z:Om)(Q:AV->Om->Prop):aSl te tl th ρ Z Q=(te ρ Z fun x Z1=>tl ρ Z1 fun lo Z2=>th ρ Z2 fun hi Z3=>slA x lo hi Z3 Q):=rfl
theorem yN(Z:Om)(x:D)(K:D->Om->Prop):jP Z (.d x) K=K x Z:=rfl
theorem zf(Z:Om)(l:Addr)(K:D->Om->Prop):jP Z (.r (.ref l)) K=(match Z l with
  |some (.own xs)=>∃ds,und xs=some ds/\K (.lst ds) (Z.put l (.frz ds))
  |some (.frz ds)=>K (.lst ds) Z
  |_=>False):=rfl
theorem wR(Z:Om)(x:D):aS Z (.d x)=some x:=rfl
theorem nP(Z:Om)(l:Addr):aS Z (.r (.ref l))=(match Z l with
  |some (.own xs)=>(und xs).map D.lst
  |some (.frz ds)=>some (.lst ds)
  |_=>none):=rfl
theorem zM(Z:Om)(ds:List D):cU Z (.d (.lst ds))=some (ds.map AV.d):=rfl
theorem yd(Z:Om)(ds:List D):cU Z (.d (.tup ds))=none:=rfl
theorem sS(Z:Om)(l:Addr):cU Z (.r (.ref l))=(match Z l with
  |some (.own xs)=>some xs
  |some (.frz ds)=>some (ds.map AV.d)
  |_=>none):=rfl
theorem zB(ds:List D):gC (.d (.tup ds))=some (ds.map AV.d):=rfl
theorem zD(ds:List D):gC (.d (.lst ds))=none:=rfl
theorem y9(v:V):gC (.r v)=none:=rfl
theorem xl(Z:Om)(b:Bool):gu Z (.d (.bl b))=some b:=rfl
theorem qJ(x:D)(r:List AV):und (.d x::r)=(und r).map (x::·):=rfl
theorem ub:und []=some []:=rfl
theorem lV(Z:Om)(ds:List D):l5 Z (.d (.tup ds))=some ds.length:=by simp[l5,gC]
theorem ox(Z:Om)(ds:List D):l5 Z (.d (.lst ds))=some ds.length:=by simp[l5,gC,cU]
theorem xu(Z:Om)(l:Addr):l5 Z (.r (.ref l))=(cU Z (.r (.ref l))).map List.length:=rfl
theorem xK(ds:List D):jC (.tup ds)=some ds:=rfl
theorem zG(ds:List D):jC (.lst ds)=some ds:=rfl
theorem tE{g:AG}{tb:AS}{D:cI}{as:List AV}{ρ:SA}{Z:Om}(I:Nat->SA->Om->Prop)(h0:I 0 ρ Z)(hs:∀(i:Nat)(a:AV)(ρ:SA)(Z:Om)(N:SA->Om->Prop),as[i]?=some a->I i ρ Z->(∀ρ' Z',I (i+1) ρ' Z'->N ρ' Z')->g a ρ Z fun ρ1 Z1=>tb { nx:=N,ct:=N,bk:=D.nx,rt:=D.rt } ρ1 Z1)(hd:∀ρ Z,I as.length ρ Z->D.nx ρ Z):gr g tb D as ρ Z:=by
 have key:∀(n i:Nat)(ρ:SA)(Z:Om),i+n=as.length->I i ρ Z->gr g tb D (as.drop i) ρ Z:=by
  intro n
  induction n with
  |zero=>intro i ρ Z hi h;rw[List.drop_eq_nil_of_le (by omega)];exact hd ρ Z (by rw[←hi];exact h)
  |succ n ih=>
   intro i ρ Z hi h;obtain⟨a,ha,hdr⟩:=hZ (as:=as) (i:=i) (by omega)
   rw[hdr];exact hs i a ρ Z _ ha h fun ρ' Z' h'=>ih (i+1) ρ' Z' (by omega) h'
 simpa using key as.length 0 ρ Z (by omega) h0
theorem uP{g:AG}{tb:AS}{D:cI}{ds:List L2.D}{ρ:SA}{Z:Om}(I:Nat->SA->Om->Prop)(h0:I 0 ρ Z)(hs:∀(i:Nat)(d:L2.D)(ρ:SA)(Z:Om)(N:SA->Om->Prop),ds[i]?=some d->I i ρ Z->(∀ρ' Z',I (i+1) ρ' Z'->N ρ' Z')->g (.d d) ρ Z fun ρ1 Z1=>tb { nx:=N,ct:=N,bk:=D.nx,rt:=D.rt } ρ1 Z1)(hd:∀ρ Z,I ds.length ρ Z->D.nx ρ Z):gr g tb D (ds.map AV.d) ρ Z:=
 tE I h0 (fun i a ρ Z N ha h k=>by
  rw[List.getElem?_map,Option.map_eq_some_iff] at ha;obtain⟨d,h1,rfl⟩:=ha
  exact hs i d ρ Z N h1 h k) (fun ρ Z h=>hd ρ Z (by simpa using h))
theorem kJ{g:AG}{tb:AS}{D:cI}{lo:Int}{n:Nat}{ρ:SA}{Z:Om}(I:Nat->SA->Om->Prop)(h0:I 0 ρ Z)(hs:∀(i:Nat)(ρ:SA)(Z:Om)(N:SA->Om->Prop),i<n->I i ρ Z->(∀ρ' Z',I (i+1) ρ' Z'->N ρ' Z')->g (.d (.int (lo+(i:Nat)))) ρ Z fun ρ1 Z1=>tb { nx:=N,ct:=N,bk:=D.nx,rt:=D.rt } ρ1 Z1)(hd:∀ρ Z,I n ρ Z->D.nx ρ Z):gr g tb D (jS lo n) ρ Z:=
 tE I h0 (fun i a ρ Z N ha h k=>by
  unfold jS at ha;rw[List.getElem?_map,Option.map_eq_some_iff] at ha;obtain⟨j,h1,rfl⟩:=ha;obtain⟨hj,rfl⟩:=List.getElem?_eq_some_iff.mp h1;simp only[List.getElem_range,List.length_range] at hj ⊢
  exact hs i ρ Z N hj h k) (fun ρ Z h=>hd ρ Z (by simpa[jS] using h))
theorem kS{g:AG}{tc:AT}{l:AL}{as xs:List AV}{ρ:SA}{Z:Om}{K:List AV->SA->Om->Prop}(I:Nat->List AV->SA->Om->Prop)(h0:I 0 xs ρ Z)(hs:∀(i:Nat)(a:AV)(xs:List AV)(ρ:SA)(Z:Om)(N:List AV->SA->Om->Prop),as[i]?=some a->I i xs ρ Z->(∀xs' ρ' Z',I (i+1) xs' ρ' Z'->N xs' ρ' Z')->g a ρ Z fun ρ1 Z1=>tc ρ1 Z1 fun b Z2=>if b=true then l xs ρ1 Z2 N else N xs ρ1 Z2)(hd:∀xs ρ Z,I as.length xs ρ Z->K xs ρ Z):c6 g tc l as xs ρ Z K:=by
 have key:∀(n i:Nat)(xs:List AV)(ρ:SA)(Z:Om),i+n=as.length->I i xs ρ Z->c6 g tc l (as.drop i) xs ρ Z K:=by
  intro n
  induction n with
  |zero=>intro i xs ρ Z hi h;rw[List.drop_eq_nil_of_le (by omega)];exact hd xs ρ Z (by rw[←hi];exact h)
  |succ n ih=>
   intro i xs ρ Z hi h;obtain⟨a,ha,hdr⟩:=hZ (as:=as) (i:=i) (by omega)
   rw[hdr];exact hs i a xs ρ Z (fun xs' ρ' Z'=>c6 g tc l (as.drop (i+1)) xs' ρ' Z' K) ha h fun xs' ρ' Z' h'=>ih (i+1) xs' ρ' Z' (by omega) h'
 simpa using key as.length 0 xs ρ Z (by omega) h0
theorem ya{g:AG}{tc:AT}{l:AL}{ds:List D}{xs:List AV}{ρ:SA}{Z:Om}{K:List AV->SA->Om->Prop}(I:Nat->List AV->SA->Om->Prop)(h0:I 0 xs ρ Z)(hs:∀(i:Nat)(d:D)(xs:List AV)(ρ:SA)(Z:Om)(N:List AV->SA->Om->Prop),ds[i]?=some d->I i xs ρ Z->(∀xs' ρ' Z',I (i+1) xs' ρ' Z'->N xs' ρ' Z')->g (.d d) ρ Z fun ρ1 Z1=>tc ρ1 Z1 fun b Z2=>if b=true then l xs ρ1 Z2 N else N xs ρ1 Z2)(hd:∀xs ρ Z,I ds.length xs ρ Z->K xs ρ Z):c6 g tc l (ds.map AV.d) xs ρ Z K:=
 kS I h0 (fun i a xs ρ Z N ha h k=>by
  rw[List.getElem?_map,Option.map_eq_some_iff] at ha;obtain⟨d,h1,rfl⟩:=ha
  exact hs i d xs ρ Z N h1 h k) (fun xs ρ Z h=>hd xs ρ Z (by simpa using h))
structure Pn where
 f:Int
 x:Int
 i:Int
 h:0<=f
section
variable{α:Type}(a b c e:α)(l:List α)
theorem fX{xs:List α}{x:α}(j:Nat){i:Int}(hi:i=(j:Int))(h:xs[j]?=some x):atI xs i=some x:=by
 subst hi;have hj:=(List.getElem?_eq_some_iff.mp h).1;unfold atI ixN;rw[if_pos (by omega),if_pos (by omega)]
 simpa using h
theorem BS:atI (a::l) 0=some a:=fX 0 rfl rfl
theorem Bv:atI (a::b::l) 1=some b:=fX 1 rfl rfl
theorem BP:atI (a::b::c::l) 2=some c:=fX 2 rfl rfl
end
theorem sz1:(1<=sizeLine)=True:=eq_true (by decide)
theorem sz2:(2<=sizeLine)=True:=eq_true (by decide)
theorem sz3:(3<=sizeLine)=True:=eq_true (by decide)
theorem sz4:(4<=sizeLine)=True:=eq_true (by decide)
theorem sz5:(5<=sizeLine)=True:=eq_true (by decide)
theorem sz6:(6<=sizeLine)=True:=eq_true (by decide)
theorem sz7:(7<=sizeLine)=True:=eq_true (by decide)
theorem sz8:(8<=sizeLine)=True:=eq_true (by decide)
theorem EU:(10<=sizeLine)=True:=eq_true (by decide)
theorem Fc:(12<=sizeLine)=True:=eq_true (by decide)
theorem yp:ixN 3 1=some 1:=rfl
theorem y7:ixN 3 2=some 2:=rfl
theorem Aq{i j:Int}(h:0<j)(h2:j<1073741824):EZ i j:=⟨h,h2⟩
theorem d7(a b:Int):eqD (.int a) (.int b)=(a == b):=by simp[eqD]
theorem uZ(a b:Str):eqD (.str a) (.str b)=(a == b):=by simp[eqD]
theorem tK(a:Int):dep (.int a)=0:=by simp[dep]
theorem vh(a:Str):dep (.str a)=0:=by simp[dep]
theorem uQ(a:Bool):xV (.bl a)=some (if a then 1 else 0):=rfl
theorem sC{n m:Nat}(h:n<=1000):n<=sizeLine:=Nat.le_trans h (by decide)
noncomputable def Om.only(Z' Z:Om):Om:=fun b=>if (Z b).isSome=true then Z' b else none
noncomputable def Ex(Z Z':Om):Prop:=∀b,(Z b).isSome=true->Z' b=Z b
theorem Ex.refl(Z:Om):Ex Z Z:=fun _ _=>rfl
theorem Ex.none{Z Z':Om}(h:Ex Z Z'){l:Addr}(e:Z' l=none):Z l=none:=by
 cases z:Z l with
 |none=>rfl
 |some c=>have:=h l (by rw[z];rfl);rw[e,z] at this;cases this
theorem Ex.new{Z Z':Om}(h:Ex Z Z'){l:Addr}{c:OC}(e:Z' l=Option.none):Ex Z (Z'.put l c):=fun b hb=>by
 have:b≠l:=fun z=>by subst z;rw[h.none e] at hb;cases hb
 rw[Om.Gn this];exact h b hb
theorem Ex.over{Z Z':Om}(h:Ex Z Z'){l:Addr}{c:OC}(e:Z l=Option.none):Ex Z (Z'.put l c):=fun b hb=>by
 have:b≠l:=fun z=>by subst z;rw[e] at hb;cases hb
 rw[Om.Gn this];exact h b hb
theorem Ex.put{Z Z':Om}(h:Ex Z Z'){l:Addr}{c:OC}:Ex (Z.put l c) (Z'.put l c):=fun b hb=>by
 by_cases z:b=l
 ·subst z;rw[Om.Gm,Om.Gm]
 ·rw[Om.Gn z] at hb ⊢;rw[Om.Gn z];exact h b hb
theorem Ex.put2{Z Z':Om}{l:Addr}{c e:OC}(h:Ex (Z.put l c) Z'):Ex (Z.put l e) (Z'.put l e):=by
 have:=h.put (l:=l) (c:=e)
 rwa [Om.Gp] at this
theorem ar(Z:Om):Z.only Z=Z:=by
 funext b;unfold Om.only
 cases e:Z b<;>simp
theorem eP{Z Z':Om}{p:Addr}{c:OC}(h:Ex (Z.put p c) Z')(hp:(Z p).isSome=true):Z'.only Z=Z.put p c:=by
 funext b;unfold Om.only
 by_cases hb:b=p
 ·subst hb;rw[if_pos hp,h b (by rw[Om.Gm];rfl)]
 ·rw[Om.Gn hb]
  cases e:Z b with
  |none=>simp
  |some o=>simp only[Option.isSome_some,if_true];rw[h b (by rw[Om.Gn hb,e];rfl),Om.Gn hb,e]
theorem Rep.only{F:Fs}{H:Hp}{Z Z':Om}(rp:Rep F H Z'):Rep F H (Z'.only Z)/\cS (cut F H Z') (cut F H (Z'.only Z)):=by
 have ho:∀b,ow (Z' b)=false->ow ((Z'.only Z) b)=false:=fun b h=>by
  unfold Om.only;split
  ·exact h
  ·rfl
 have sm:cS (cut F H Z') (cut F H (Z'.only Z)):=fun b o e=>by
  obtain⟨h,f,e⟩:=bB.mp e;exact bB.mpr ⟨ho b h,f,e⟩
 have un:∀b c,(Z'.only Z) b=some c->Z' b=some c:=fun b c e=>by
  unfold Om.only at e;split at e
  ·exact e
  ·cases e
 refine⟨⟨fun l xs e=>?_,fun l ds e=>(rp.frz l ds (un _ _ e)).same sm,fun b f=>?_,fun l ks e=>(by obtain⟨vs,e1,e2⟩:=rp.dic l ks (un _ _ e);exact⟨vs,e1,e2.same sm⟩)⟩,sm⟩
 ·obtain⟨vs,e1,e2⟩:=rp.own l xs (un _ _ e)
  exact⟨vs,e1,e2.same sm⟩
 ·obtain⟨h1,h2⟩:=rp.hid b f
  refine⟨?_,h2⟩;unfold Om.only;rw[h1];simp
theorem Fr.only{F:Fs}{H H':Hp}{Z Z':Om}(fr:Fr F H Z H' Z'):Fr F H Z H' (Z'.only Z):=⟨fun b o h f e=>by
 obtain⟨x,y⟩:=fr.st b o h f e;refine⟨x,?_⟩;unfold Om.only;split
 ·exact y
 ·rfl,fr.hd⟩
theorem Fun.okD{P:Program}{w:World}{K:W.Frag}{mg:Str->Option Value}{base:Heap}{x qual:Str}{st:Stmt}{f:Addr}{fd:FuncData}{N ps:List Str}{k:Nat}{sp:ASp}(F:Fun K x qual st f fd)(S:aN N ps (defScope st))(len:∀xs Z Q,sp xs Z Q->xs.length=ps.length)
  (hbody:∀(cdv:Value)(A:Around)(outer:List Env)(s:Shared)(H:Hp)(E:XK),d6 k (A.deeper (envOfC qual (defScope st) s.heap.objs.size f cdv)) ->
   ∃t t',PSs (qk CX0 P w K mg base N qual (defScope st) f cdv A outer s H E).nox (defBody st) t/\ii t t'/\∀xs Z Q',sp xs Z Q'->t' { nx:=fun _ Z'=>Q' (.d .non) (Z'.only Z),rt:=fun a Z'=>∃d,a=.d d/\Q' (.d d) (Z'.only Z) } (iO N xs) Z):a7 P w K mg base CX0 (k+1) f fd ps (cL sp):=by
 refine F.ok S (fun vs H Q E h=>?_) (fun cdv A outer s H vs Q E hr h=>?_)
 ·obtain⟨F,xs,Z,Q',rp,rv,h,_⟩:=h
  rw[rv.length,len xs Z Q' h]
 ·obtain⟨t,t',h1,h2,h3⟩:=hbody cdv A outer s H E hr
  obtain⟨F,xs,Z,Q',rp,rv,h,kq⟩:=h;refine⟨t,h1,h2.run F H Z _ _ _ _ rp (RS.start rv) (h3 xs Z Q' h) ⟨?_,?_,fun _ _ _ _ _ _ _ z=>z.elim,fun _ _ _ _ _ _ _ z=>z.elim⟩⟩
  ·exact fun ρ' Z' σ' H' e1 e2 e3 q=>kq (.d .non) (Z'.only Z) .non H' e1.only.1 e2.only (by simp[RV,Dat]) q
  ·rintro a Z' v H' e1 e2 e3 ⟨d,rfl,q⟩
   exact kq (.d d) (Z'.only Z) v H' e1.only.1 e2.only (e3.same e1.only.2) q
noncomputable def wl:Nat->List (List Int)
 |0=>[[]]
 |n+1=>(wl n).flatMap fun w=>[w++[0],w++[1]]
theorem rG:∀n,(wl n).length=2^n
 |0=>rfl
 |n+1=>by
  have h:∀ws:List (List Int),(ws.flatMap fun w=>[w++[0],w++[1]]).length=2*ws.length:=fun ws=>by
   induction ws with
   |nil=>rfl
   |cons a r ih=>rw[List.flatMap_cons,List.length_append,ih];simp;omega
  rw[wl,h,rG n,Nat.pow_succ];omega
theorem cy:∀ {n:Nat} {w:List Int},w∈wl n->w.length=n/\∀x∈w,x=0\/x=1
 |0,w,h=>by simp[wl] at h;rw[h];simp
 |n+1,w,h=>by
  simp only[wl,List.mem_flatMap] at h;obtain⟨v,hv,h⟩:=h;obtain⟨h1,h2⟩:=cy hv;simp only[List.mem_cons,List.not_mem_nil,or_false] at h;rcases h with rfl|rfl<;>refine⟨by simp[h1],fun x hx=>?_⟩<;>rcases List.mem_append.mp hx with hx|hx
  ·exact h2 x hx
  ·rw[List.mem_singleton.mp hx];exact .inl rfl
  ·exact h2 x hx
  ·rw[List.mem_singleton.mp hx];exact .inr rfl
theorem mT{n:Nat}(h:n<=5):(wl n).length<=32:=by
 rw[rG];exact Nat.pow_le_pow_right (by decide) h
theorem xX{n:Nat}(h:1<=n):2<=(wl n).length:=by
 rw[rG];exact Nat.pow_le_pow_right (n:=2) (by decide) h
theorem CD:∀n:Fin 6,(wl n.val).Nodup:=by decide +kernel
theorem Cq{n:Nat}(h:n<=5):(wl n).Nodup:=CD ⟨n,by omega⟩
noncomputable def Wds(n:Nat)(ws:List (List Int)):Prop:=ws.Nodup/\∀w∈ws,w∈wl n
theorem nu:∀a b:List Int,dG (a.map D.int) (b.map D.int)=decide (a=b)
 | [],[]=>by simp[dG]
 | [],_::_=>by simp[dG]
 |_::_,[]=>by simp[dG]
 |x::a,y::b=>by
  simp only[List.map_cons,dG,eqD,nu a b,List.cons.injEq];by_cases h1:x=y<;>by_cases h2:a=b<;>simp[h1,h2]
theorem k7(a b:List Int):eqD (wdD a) (wdD b)=decide (a=b):=by simp only[wdD,eqD];exact nu a b
theorem gL(w:List Int):dep (wdD w)=1:=by simp[wdD,dep,vy]
theorem bZ(ws:List (List Int)):cx (ws.map wdD)<=1:=gf fun d hd=>by
 obtain⟨w,_,rfl⟩:=List.mem_map.mp hd;rw[gL];exact Nat.le_refl _
theorem lW(a:List Int)(ws:List (List Int)):inD (wdD a) (ws.map wdD)=decide (a∈ws):=by
 unfold inD;rw[Bool.eq_iff_iff,List.any_eq_true,decide_eq_true_iff];constructor
 ·rintro⟨d,hd,e⟩
  obtain⟨w,hw,rfl⟩:=List.mem_map.mp hd;rw[k7,decide_eq_true_iff] at e;exact e ▸ hw
 ·intro h
  exact⟨wdD a,List.mem_map.mpr ⟨a,h,rfl⟩,by rw[k7];simp⟩
theorem iS{α β:Type}{f:α->β}{xs:List α}{i:Nat}{y:β}(h:(xs.map f)[i]?=some y):∃x,xs[i]?=some x/\y=f x:=by
 rw[List.getElem?_map] at h
 cases e:xs[i]? with
 |none=>rw[e] at h;cases h
 |some x=>rw[e] at h;cases h;exact⟨x,rfl,rfl⟩
theorem tS{α:Type}{f:α->AV}{xs:List α}{i:Int}(h0:0<=i)(h1:i<xs.length):∃x,x∈xs/\xs[i.toNat]?=some x/\atI (xs.map f) i=some (f x):=by
 obtain⟨j,rfl⟩:=Int.eq_ofNat_of_zero_le h0;have hj:j<xs.length:=by omega
 exact⟨xs[j],List.getElem_mem hj,by simp[List.getElem?_eq_getElem hj],fX j rfl (by rw[List.getElem?_map,List.getElem?_eq_getElem hj];rfl)⟩
theorem qc{w:List Int}{i:Int}(h0:0<=i)(h1:i<w.length):atI ((w.map D.int).map AV.d) i=some (.d (.int (w.getD i.toNat 0))):=by
 obtain⟨j,rfl⟩:=Int.eq_ofNat_of_zero_le h0;have hj:j<w.length:=by omega
 refine fX j rfl ?_;rw[List.getElem?_map,List.getElem?_map,List.getElem?_eq_getElem hj];simp[List.getD_eq_getElem?_getD,List.getElem?_eq_getElem hj]
theorem tL(x:List Int)(b:Int)(Z:Om)(Q:AV->Om->Prop):vv (.d (wdD x)) (.d (.tup [.int b])) Z Q=(x.length+1<=sizeLine/\Q (.d (wdD (x++[b]))) Z):=by
 unfold wdD;rw[jr];simp
theorem pC(x y:List Int)(Z:Om)(Q:AV->Om->Prop):vv (.d (wdD x)) (.d (wdD y)) Z Q=(x.length+y.length<=sizeLine/\Q (.d (wdD (x++y))) Z):=by
 unfold wdD;rw[jr];simp
theorem oI(x:List Int):gC (.d (wdD x))=some ((x.map D.int).map AV.d):=rfl
theorem t9(Z:Om)(x:List Int):cU Z (.d (wdD x))=none:=rfl
theorem n6(Z:Om)(x:List Int):l5 Z (.d (wdD x))=some x.length:=by simp[l5,oI]
theorem uW(x:List Int):jC (wdD x)=some (x.map D.int):=rfl
theorem lD{α β:Type}(f:α->β)(xs:List α)(lo hi:Option Int):bp (xs.map f) lo hi=(bp xs lo hi).map f:=by
 unfold bp;rw[List.length_map,List.map_take,List.map_drop]
theorem yU(x:List Int)(lo hi:Option Int)(Z:Om)(Q:AV->Om->Prop):slA (.d (wdD x)) lo hi Z Q=Q (.d (wdD (bp x lo hi))) Z:=by
 show Q (.d (.tup (bp (x.map D.int) lo hi))) Z=_;rw[lD];rfl
inductive Sy where
 |is (i b:Int)
 |jn (an:Bool) (l r:Sy)
namespace Sy
noncomputable def d:Sy->D
 |.is i b=>.tup [.str "is",.int i,.int b]
 |.jn an l r=>.tup [.str (if an then "and" else "or"),l.d,r.d]
noncomputable def ok(n:Nat):Sy->Prop
 |.is i b=>0<=i/\i<n/\(b=0\/b=1)
 |.jn _ l r=>l.ok n/\r.ok n
noncomputable def dp:Sy->Nat
 |.is _ _=>0
 |.jn _ l r=>1+max l.dp r.dp
noncomputable def up:Sy->Prop
 |.is _ b=>b=1
 |.jn _ l r=>l.up/\r.up
noncomputable def val(w:List Int):Sy->Bool
 |.is i b=>decide (w.getD i.toNat 0=b)
 |.jn an l r=>if an then val w l && val w r else val w l || val w r
end Sy
inductive Ta where
 |en (i:Int)
 |nd (y:Bool) (ws:List (List Int)) (l r:Ta)
namespace Ta
noncomputable def d:Ta->D
 |.en i=>.tup [.str "end",.int i]
 |.nd y ws l r=>.tup [.str (if y then "yes" else "no"),.tup (ws.map wdD),l.d,r.d]
noncomputable def ok(n:Nat):Ta->Prop
 |.en i=>0<=i/\i<n
 |.nd _ ws l r=>Wds n ws/\l.ok n/\r.ok n
noncomputable def dp:Ta->Nat
 |.en _=>0
 |.nd _ _ l r=>1+max l.dp r.dp
noncomputable def size:Ta->Nat
 |.en _=>1
 |.nd _ _ l r=>l.size+r.size+1
noncomputable def bit(y n:List Int)(hy:Bool)(ws:List (List Int)):Bool:=decide ((if hy then y else n)∈ws)
noncomputable def way(y n:List Int):Ta->List Int
 |.en _=>[]
 |.nd h ws a b=>if bit y n h ws then 1::way y n b else 0::way y n a
noncomputable def fin(y n:List Int):Ta->Int
 |.en i=>i
 |.nd h ws a b=>if bit y n h ws then fin y n b else fin y n a
end Ta
theorem uX:(("any":Str)=("rising":Str))=False:=eq_false (by decide +kernel)
section
variable{Z:Om}{p l l1 l2:Addr}{c c' A A' B B':OC}
theorem cP{q:Addr}{o:OC}(h:Z.put p o q=none):q≠p/\Z q=none:=by
 have:q≠p:=fun z=>by subst z;rw[Om.Gm] at h;cases h
 exact⟨this,by rwa [Om.Gn this] at h⟩
end
structure Ne4(p l1 l2 l3:Addr):Prop where
 p1:p≠l1
 p2:p≠l2
 p3:p≠l3
 a:l1≠l2
 b:l1≠l3
 c:l2≠l3
section
variable{Z:Om}{p l1 l2 l3:Addr}{c c' A A' B B' C C':OC}(h:Ne4 p l1 l2 l3)
include h
end
section
variable{P:Program}{w:World}{K:W.Frag}{mg:Str->Option Value}{base:Heap}
structure Cs(n:Nat)(ys zs:List (List Int)):Prop where
 y:Wds n ys
 z:Wds n zs
 y1:ys≠[]
 z1:zs≠[]
theorem nO{t u:AS}{D:cI}{ρ:SA}{Z:Om}(I:SA->Om->Prop)(h1:∀N:SA->Om->Prop,(∀ρ' Z',I ρ' Z'->N ρ' Z')->t { D with nx:=N } ρ Z)(h2:∀ρ' Z',I ρ' Z'->u D ρ' Z'):z6 t u D ρ Z:=h1 (u D) h2
theorem dm{α:Type}(xs:List α)(lo hi:Option Int):(bp xs lo hi).Sublist xs:=(List.take_sublist _ _).trans (List.drop_sublist _ _)
theorem i6{Z:Om}{l:Addr}{ds:List D}(h:Z l=some (.own (ds.map AV.d))):aS Z (.r (.ref l))=some (.lst ds):=by
 rw[nP,h];simp only[bK,Option.map_some]
theorem pU{Z:Om}{l:Addr}{ds:List D}(h:Z l=some (.frz ds)):aS Z (.r (.ref l))=some (.lst ds):=by
 rw[nP,h]
noncomputable def b01(b:Bool):Int:=if b then 1 else 0
end
structure Gf(t2 t:TS)(t':AS):Prop where
 run:∀(F:Fs)(H:Hp)(Z:Om)(σ:St)(ρ:SA)(D:ic)(D':cI),Rep F H Z->RS (cut F H Z) ρ σ->t' D' ρ Z->LE F H Z D' { D with nx:=t2 D }->t D σ H
theorem x9{g:AG}{te:AE}{as:List AV}{rs:List D}{ρ:SA}{Z:Om}{K:List AV->SA->Om->Prop}(R:SA->Prop)(h0:R ρ)(hl:rs.length=as.length)(hz:as.length<=sizeLine)(he:∀(i:Nat)(a:AV)(r:D)(ρ:SA)(N:SA->Om->Prop),as[i]?=some a->rs[i]?=some r->R ρ->(∀ρ1,R ρ1->(∀Q:AV->Om->Prop,Q (.d r) Z->te ρ1 Z Q)->N ρ1 Z)->g a ρ Z N)(hk:∀ρ,R ρ->K (rs.map AV.d) ρ Z):c6 g ja (lM te) as [] ρ Z K:=by
 refine kS (fun i xs ρ Z'=>Z'=Z/\R ρ/\xs=(rs.take i).map AV.d) ⟨rfl,h0,rfl⟩ ?_ ?_
 ·rintro i a xs ρ Z' N ha ⟨rfl,hR,rfl⟩ kN
  have hi:=(List.getElem?_eq_some_iff.mp ha).1;have hr:rs[i]?=some rs[i]:=List.getElem?_eq_getElem (by omega)
  refine he i a _ ρ _ ha hr hR fun ρ1 hR1 h=>?_;rw[fY,if_pos rfl,gM];refine h _ ⟨by rw[List.length_map,List.length_take];omega,kN _ _ _ ⟨rfl,hR1,?_⟩⟩
  rw[show rs.take (i+1)=rs.take i++[rs[i]] from by rw[List.take_succ,hr];rfl,List.map_append]
  rfl
 ·rintro xs ρ Z' ⟨rfl,hR,rfl⟩
  rw[←hl,List.take_length]
  exact hk ρ hR
theorem ji{te:AE}{as:List AV}{rs:List D}{v0:Option AV}{be:SA}{Z:Om}{K:List AV->SA->Om->Prop}(hl:rs.length=as.length)(hz:as.length<=sizeLine)(he:∀(i:Nat)(a:AV)(r:D),as[i]?=some a->rs[i]?=some r->∀Q:AV->Om->Prop,Q (.d r) Z->te (some a::be) Z Q)(hk:∀ρ,K (rs.map AV.d) ρ Z):c6 (lH 0) ja (lM te) as [] (v0::be) Z K:=
 x9 (fun ρ=>∃v,ρ=v::be) ⟨_,rfl⟩ hl hz (fun i a r ρ N ha hr ⟨v,e⟩ k=>by
  subst e;rw[fw,List.set_cons_zero]
  exact k _ ⟨_,rfl⟩ (he i a r ha hr)) (fun ρ _=>hk ρ)
theorem kF{α:Type}{g:AG}{tc:AT}{te:AE}{as:List AV}{xs:List α}{ρ:SA}{Z:Om}{K:List AV->SA->Om->Prop}(R:SA->Prop)(h0:R ρ)(enc:α->AV)(p:α->Bool)(f:α->D)(ea:as=xs.map enc)(hz:xs.length<=sizeLine)(he:∀(x:α)(ρ:SA)(N:SA->Om->Prop),x∈xs->R ρ->(∀ρ1,R ρ1->(∀Q:Bool->Om->Prop,Q (p x) Z->tc ρ1 Z Q)->(p x=true->∀Q:AV->Om->Prop,Q (.d (f x)) Z->te ρ1 Z Q)->N ρ1 Z)->g (enc x) ρ Z N)(hk:∀ρ,R ρ->K (((xs.filter p).map f).map AV.d) ρ Z):c6 g tc (lM te) as [] ρ Z K:=by
 subst ea;refine kS (fun i ys ρ Z'=>Z'=Z/\R ρ/\ys=(((xs.take i).filter p).map f).map AV.d) ⟨rfl,h0,rfl⟩ ?_ ?_
 ·rintro i a ys ρ Z' N ha ⟨rfl,hR,rfl⟩ kN
  rw[List.getElem?_map,Option.map_eq_some_iff] at ha;obtain⟨x,hx,rfl⟩:=ha;have hi:=(List.getElem?_eq_some_iff.mp hx).1;have et:xs.take (i+1)=xs.take i++[x]:=by rw[List.take_succ,hx];rfl
  refine he x ρ _ (List.mem_of_getElem? hx) hR fun ρ1 hR1 h1 h2=>h1 _ ?_
  cases hp:p x with
  |true=>
   rw[if_pos rfl,gM];refine h2 hp _ ⟨?_,kN _ _ _ ⟨rfl,hR1,?_⟩⟩
   ·rw[List.length_map,List.length_map]
    have:=List.length_filter_le p (xs.take i);rw[List.length_take] at this;omega
   ·rw[et,List.filter_append]
    simp[hp]
  |false=>
   rw[if_neg Bool.false_ne_true];refine kN _ _ _ ⟨rfl,hR1,?_⟩;rw[et,List.filter_append];simp[hp]
 ·rintro ys ρ Z' ⟨rfl,hR,rfl⟩
  rw[List.length_map,List.take_length];exact hk ρ hR
theorem kH{α:Type}{tc:AT}{te:AE}{xs:List α}{v0:Option AV}{be:SA}{Z:Om}{K:List AV->SA->Om->Prop}(enc:α->D)(p:α->Bool)(f:α->D)(hz:xs.length<=sizeLine)(ht:∀x∈xs,∀Q:Bool->Om->Prop,Q (p x) Z->tc (some (.d (enc x))::be) Z Q)(he:∀x∈xs,p x=true->∀Q:AV->Om->Prop,Q (.d (f x)) Z->te (some (.d (enc x))::be) Z Q)(hk:∀ρ,K (((xs.filter p).map f).map AV.d) ρ Z):c6 (lH 0) tc (lM te) ((xs.map enc).map AV.d) [] (v0::be) Z K:=
 kF (fun ρ=>∃ v,ρ = v :: be) ⟨_,rfl⟩ (fun x=>.d (enc x)) p f (by simp) hz (fun x ρ N hx ⟨v,e⟩ k=>by
  subst e;rw[fw,List.set_cons_zero]
  exact k _ ⟨_,rfl⟩ (ht x hx) (he x hx)) (fun ρ _=>hk ρ)
structure Pq where
 a:Addr
 ns:List Int
 i:Int
 f:Int
 h0:0<=i
 hf:0<=f
 hn:ns.length<=63
inductive yI:List (TE×TE)->List Str->List AE->Prop
 |nil:yI [] [] []
 |cons {k:Str} {tv:TE} {tv':AE} {r:List (TE×TE)} {ks:List Str} {ts:List AE}:br tv tv'->yI r ks ts->yI ((tC (.str k),tv)::r) (k::ks) (tv'::ts)
theorem Df{F:Fs}{H:Hp}{Z:Om}{y:AV}{u:V}(rp:Rep F H Z)(r:RV (cut F H Z) y u)(e:aS Z y=some (.lst [])):∃b,u=.ref b/\H b=some (.lst []):=by
 have hd:=e9 rp r e;simp only[Dat] at hd;obtain⟨b,us,rfl,q1,q2⟩:=hd;have q2:us=[]:=q2;subst q2;exact⟨b,rfl,q1⟩
noncomputable def tx(l:List Nat):Str:=⟨l.toArray⟩
noncomputable def jn(s:List Nat):List (List Nat)->List Nat
 | []=>[]
 | [x]=>x
 |x::y::r=>x++s++jn s (y::r)
noncomputable def BW:AC:=fun xs Z Q=>∃i:Int,xs=[.d (.int i)]/\i.natAbs.log2<1920/\Q (.d (.str (Str.ofString (toString i)))) Z
theorem qh(xs:List AV)(Z:Om)(Q:AV->Om->Prop):BW xs Z Q=(∃i:Int,xs=[.d (.int i)]/\i.natAbs.log2<1920/\Q (.d (.str (Str.ofString (toString i)))) Z):=rfl
theorem Dy:jg (fun xs H Q=>∃i:Int,xs=[.int i]/\i.natAbs.log2<1920/\Q (.str (toString i)) H) BW:=⟨fun F H Z vs xs Q Q' rp rv ⟨i,e,h1,q⟩ k=>by
 subst e;obtain⟨v,rfl,r⟩:=fP rv
 exact⟨i,by rw[bG r],h1,k.str rp q⟩⟩
theorem mS:∀ {ss:List Str} {its:List Value},aH (ss.map V.str) its->∃l:List (Str×Tok),its=strValues l/\l.map (·.1)=ss
 | [],its,r=>by cases r;exact⟨[],rfl,rfl⟩
 |z::ss,its,r=>by
  cases r with
  |cons r rr=>
   obtain⟨t,rfl⟩:=r;obtain⟨l,e1,e2⟩:=mS rr;exact⟨(z,t)::l,by rw[e1];rfl,by simp[e2]⟩
noncomputable def Cb(K:W.Frag):V->List V->Hp->VK->Prop:=fun x vs H Q=>∃(z:Str)(l:Addr)(ss:List Str),x=.str z/\vs=[.ref l]/\SqL K H l (ss.map V.str)/\JoinOk z ss=true/\Q (.str (Str.join z ss)) H
theorem wP{X:Cx}(K:W.Frag)(hK:X.K=K):MtR X "str.join" (Cb K):=by
 subst hK;intro pins s σ H x vs v us Q I rx rv h;obtain⟨z,l,ss,rfl,rfl,hq,hj,q⟩:=h;obtain⟨t,rfl⟩:=rx;obtain⟨u,rfl,ru⟩:=rv.one;cases ru;obtain⟨its,rv2,pl,hz⟩:=I.list hq;obtain⟨ps,rfl,e⟩:=mS rv2;refine SC.join (l:=ps) (texts:=ss) pl.isList e hj fun t' k=>⟨.str (Str.join z ss),H,I.tok k,⟨t',?_⟩,q⟩;show Value.str (Builtin.Str.glued z ss) t'=_;rw[StrLaws.glued_eq_join]
noncomputable def Co(to:AE)(t:AA):AE:=fun ρ Z Q=>to ρ Z fun x Z1=>∃z,x=.d (.str z)/\t ρ Z1 fun ys Z2=>∃y ss,ys=[y]/\aS Z2 y=some (.lst (ss.map D.str))/\JoinOk z ss=true/\Q (.d (.str (Str.join z ss))) Z2
theorem qm(to:AE)(t:AA)(ρ:SA)(Z:Om)(Q:AV->Om->Prop):Co to t ρ Z Q=(to ρ Z fun x Z1=>∃z,x=.d (.str z)/\t ρ Z1 fun ys Z2=>∃y ss,ys=[y]/\aS Z2 y=some (.lst (ss.map D.str))/\JoinOk z ss=true/\Q (.d (.str (Str.join z ss))) Z2):=rfl
theorem js{G:Hp}:∀ {ss:List Str} {vs:List V},ay G (ss.map D.str) vs->vs=ss.map V.str
 | [],vs,h=>by cases vs with
  |nil=>rfl
  |cons v vs=>simp[ay] at h
 |z::ss,vs,h=>by cases vs with
  |nil=>simp[ay] at h
  |cons v vs=>
   simp only[List.map_cons,ay,Dat] at h;obtain⟨v',r,e,rfl,h2⟩:=h;cases e;rw[List.map_cons,js h2]
theorem C1{K:W.Frag}{to:TE}{to':AE}{t:TA}{t':AA}(ho:br to to')(ht:jk t t'):br (tBM K "str" (Cb K) to t) (Co to' t'):=⟨fun F H Z σ ρ Q Q' rp rs w k=>
 ho.go rp rs w fun x Z1 v H1 rp1 fr1 rs1 rv1 ⟨z,e,q1⟩=>by
  subst e;cases CU rv1;refine⟨rfl,ht.go rp1 rs1 q1 fun ys Z2 vs H2 rp2 fr2 rs2 rv2 ⟨y,ss,e1,e2,e3,q⟩=>?_⟩;subst e1;obtain⟨u,rfl,r⟩:=fP rv2;obtain⟨a,us,rfl,q1,q2⟩:=c9 rp2 r e2;cases js q2
  exact⟨z,a,ss,rfl,rfl,.inl (.inl q1),e3,(k.fr (fr1.trans fr2)).str rp2 q⟩⟩
inductive PFs (X:Cx):List Expr->List TE->Prop
 |nil:PFs X [] []
 |cons {e:Expr} {t:TE} {es:List Expr} {ts:List TE}:PE X e t->PFs X es ts->PFs X (e::es) (t::ts)
inductive zx:List TE->List AE->Prop
 |nil:zx [] []
 |cons {t:TE} {t':AE} {ts:List TE} {ts':List AE}:br t t'->zx ts ts'->zx (t::ts) (t'::ts')
theorem AJ{β:Type}{te:AE}{as:List AV}{v0:Option AV}{be:SA}{Z:Om}{K:List AV->SA->Om->Prop}(S:Om->Prop)(enc:β->D)(R:Nat->β->Prop)(h0:S Z)(hz:as.length<=sizeLine)(he:∀(i:Nat)(a:AV),as[i]?=some a->∀Z,S Z->∀Q:AV->Om->Prop,(∀b Z',R i b->S Z'->Q (.d (enc b)) Z')->te (some a::be) Z Q)(hk:∀(bs:List β)(ρ:SA)(Z':Om),bs.length=as.length->(∀i b,bs[i]?=some b->R i b)->S Z'->K ((bs.map enc).map AV.d) ρ Z'):c6 (lH 0) ja (lM te) as [] (v0::be) Z K:=by
 refine kS (fun i xs ρ Z'=>∃v bs,S Z'/\ρ=v::be/\xs=(bs.map enc).map AV.d/\bs.length=i/\∀j b,bs[j]?=some b->R j b) ⟨_,[],h0,rfl,rfl,rfl,fun j b h=>by simp at h⟩ ?_ ?_
 ·rintro i a xs ρ Z' N ha ⟨v,bs,hS,rfl,rfl,hl,hR⟩ kN
  have hi:=(List.getElem?_eq_some_iff.mp ha).1;rw[fw,List.set_cons_zero,fY,if_pos rfl,gM];refine he i a ha _ hS _ fun b Z2 hb hS2=>⟨by rw[List.length_map,List.length_map];omega,kN _ _ _ ⟨_,bs++[b],hS2,rfl,by simp,by simp[hl],fun j b' hj=>?_⟩⟩
  by_cases hjl:j<bs.length
  ·rw[List.getElem?_append_left hjl] at hj
   exact hR j b' hj
  ·rw[List.getElem?_append_right (by omega)] at hj
   have hj0:j-bs.length=0:=by
    cases e:j-bs.length with
    |zero=>rfl
    |succ m=>rw[e] at hj;simp at hj
   rw[hj0] at hj;simp at hj;subst hj;have:j=i:=by omega
   subst this;exact hb
 ·rintro xs ρ Z' ⟨v,bs,hS,rfl,rfl,hl,hR⟩
  exact hk bs _ _ hl hR hS
theorem RVs.GF{G:Hp}:∀ {xs:List AV} {us:List V} (j:Nat),RVs G xs us->RVs G (xs.eraseIdx j) (us.eraseIdx j)
 | [],us,j,h=>by cases h;exact rfl
 |x::xs,us,0,h=>by obtain⟨v,r,rfl,h1,h2⟩:=h;exact h2
 |x::xs,us,j+1,h=>by
  obtain⟨v,r,rfl,h1,h2⟩:=h;exact⟨v,_,rfl,h1,RVs.GF j h2⟩
noncomputable def zQ(to:AE)(t:AA):AE:=fun ρ Z Q=>to ρ Z fun x Z1=>∃l,x=.r (.ref l)/\(∃zs,Z1 l=some (.own zs))/\t ρ Z1 fun ys Z2=>∃(xs:List AV)(j:Nat)(y:AV),ys=[.d (.int j)]/\Z2 l=some (.own xs)/\xs.length<=1000000/\xs[j]?=some y/\Q y (Z2.put l (.own (xs.eraseIdx j)))
theorem ni(to:AE)(t:AA)(ρ:SA)(Z:Om)(Q:AV->Om->Prop):zQ to t ρ Z Q=(to ρ Z fun x Z1=>∃l,x=.r (.ref l)/\(∃zs,Z1 l=some (.own zs))/\t ρ Z1 fun ys Z2=>∃(xs:List AV)(j:Nat)(y:AV),ys=[.d (.int j)]/\Z2 l=some (.own xs)/\xs.length<=1000000/\xs[j]?=some y/\Q y (Z2.put l (.own (xs.eraseIdx j)))):=rfl
section
variable{K:W.Frag}{to:TE}{to':AE}{t:TA}{t':AA}
theorem vX{j n:Nat}(h:j<n):seqIndex? (j:Int) n=some j:=by
 unfold seqIndex?;simp;omega
theorem Ap(ho:br to to')(ht:jk t t'):br (tBM K "list" zy to t) (zQ to' t'):=⟨fun F H Z σ ρ Q Q' rp rs w k=>
 ho.go rp rs w fun x Z1 v H1 rp1 fr1 rs1 rv1 ⟨l,e,⟨zs,hz⟩,q1⟩=>by
  subst e;cases (show v=.ref l from rv1)
  obtain⟨us,z1,_⟩:=rp1.own l zs hz;refine⟨.inl ⟨rfl,us,.inl (.inl z1)⟩,ht.go rp1 rs1 q1 fun ys Z2 vs H2 rp2 fr2 rs2 rv2 ⟨xs,j,y,e1,e2,e3,e4,q⟩=>?_⟩;subst e1;obtain⟨u,rfl,r⟩:=fP rv2;cases bG r;obtain⟨ws,z3,z4⟩:=rp2.own l xs e2;obtain⟨u2,g1,g2⟩:=z4.get e4;have hj:=(List.getElem?_eq_some_iff.mp g1).1;have hl:=z4.length;obtain⟨rp3,fr3⟩:=rp2.write (ys:=xs.eraseIdx j) (vs:=ws.eraseIdx j) e2 (z4.GF j)
  exact⟨l,ws,j,j,u2,rfl,rfl,z3,by omega,by omega,vX hj,g1,k _ _ _ _ rp3 ((fr1.trans fr2).trans fr3) (g2.same fr3.same) q⟩⟩
end
end L2
namespace L2
open PySem PySem.Spec PyProof.Rows PySem.W
noncomputable def CXx(P:Program)(w:World):CXT:=fun outer H s E e s'=>∃(a C t:Addr)(H':Hp)(B:Heap),e=.ref a/\s'.os=s.os/\AllBare s'.gens/\Un (frs outer) [] H H' s.heap s'.heap/\HOk P w H' B /\
 Heap.FlyingW B outer a (.ref C) (.ref t) s'.heap/\(∀b o,s.heap.get? b=some o->H b=none->b ∉ frs outer->B.get? b=some o)/\(∀b o,s.heap.get? b=some o->b ∉ frs outer->∃o',B.get? b=some o')/\E (.ref a) (some C) H'
end L2
namespace L2
open PySem PySem.Spec PySem.Calls PyProof.Rows PySem.W PySem.Builtin PySem.Builtin.ObjectAttr PySem.Builtin.Getset_descriptor
end L2
namespace L2
open PySem PySem.Spec PySem.Calls PyProof.Rows PySem.W
end L2
namespace L2
open PySem PySem.Spec PyProof.Rows
noncomputable abbrev wY:=List AV->Om->(AV->Om->Prop)->(Addr->Om->Prop)->Prop
noncomputable def LX(F:Fs)(H:Hp)(Z:Om)(Ex:Addr->Om->Prop)(E:XK):Prop:=∀C Z' a H',Rep F H' Z'->Fr F H Z H' Z'->Ex C Z'->E (.ref a) (some C) H'
noncomputable abbrev AXS:=cI->(Addr->Om->Prop)->SA->Om->Prop
structure Gc(E:XK)(t:TS)(t':AXS):Prop where
 run:∀(F:Fs)(H:Hp)(Z:Om)(σ:St)(ρ:SA)(D:ic)(D':cI)(Ex:Addr->Om->Prop),Rep F H Z->RS (cut F H Z) ρ σ->t' D' Ex ρ Z->LE F H Z D' D->LX F H Z Ex E->t D σ H
noncomputable def Ew(t u:AXS):AXS:=fun D Ex ρ Z=>t { D with nx:=u D Ex } Ex ρ Z
theorem yL(t u:AXS)(D:cI)(Ex:Addr->Om->Prop)(ρ:SA)(Z:Om):Ew t u D Ex ρ Z=t { D with nx:=u D Ex } Ex ρ Z:=rfl
end L2
namespace L2
open PySem PySem.Spec PySem.Calls PyProof.Rows PySem.W
structure Gj(P:Program)(w:World)(K:W.Frag)(mg:Str->Option Value)(base:Heap)(H₀:Hp)(k:Nat)(f:Addr)(n:Nat)(sp:Sp):Prop where
 fn:∃(oc:Value)(od:Option Addr)(fd:FuncData) (sl:Array (Option Value)) (u:HO),H₀ f=some (.frz ⟨oc,od,.func fd,sl⟩ u)
 len:∀vs H Q E,sp vs H Q E->vs.length=n
 run:∀(A:Around)(outer:List Env)(s:Shared)(H:Hp)(us:List Value)(vs:List V)(Q:VK)(E:XK),d6 k A->sn P w K mg base A outer s H->Frz H₀ H->aH vs us->sp vs H Q E ->
  codeAny (model P w) A (.call (.ref f) ⟨us,[]⟩) (CR (CXx P w) outer P w H s Q E) s
end L2
namespace L2
open PySem PySem.Spec PySem.Calls PyProof.Rows
structure Ap3(z u o i j l p q r:Addr):Prop where
 uz:u≠z
 oz:o≠z
 iz:i≠z
 jz:j≠z
 lz:l≠z
 uo:u≠o
 ui:u≠i
 uj:u≠j
 ul:u≠l
 oi:o≠i
 oj:o≠j
 ol:o≠l
 ij:i≠j
 il:i≠l
 jl:j≠l
 np:∀c∈[z,u,o,i,j,l],p≠c
 nq:∀c∈[z,u,o,i,j,l],q≠c
 nr:∀c∈[z,u,o,i,j,l],r≠c
noncomputable def Ch(to:AE):AE:=fun ρ Z Q=>to ρ Z fun x Z1=>∃i,x=.d (.int i)/\Q (.d (.int ((Builtin.Int.intBits i:Nat):Int))) Z1
theorem pN(to:AE)(ρ:SA)(Z:Om)(Q:AV->Om->Prop):Ch to ρ Z Q=(to ρ Z fun x Z1=>∃i,x=.d (.int i)/\Q (.d (.int ((Builtin.Int.intBits i:Nat):Int))) Z1):=rfl
theorem CW{K:W.Frag}{to:TE}{to':AE}(ho:br to to'):br (FA K "int" (fun x xs H Q=>∃i,x=.int i/\xs=[]/\Q (.int ((Builtin.Int.intBits i:Nat):Int)) H) to) (Ch to'):=⟨fun F H Z σ ρ Q Q' rp rs w k=>
 ho.go rp rs w fun x Z1 v H1 rp1 fr1 rs1 rv1 ⟨i,e,q1⟩=>by
  subst e;cases bG rv1
  exact⟨rfl,i,rfl,rfl,k _ Z1 _ H1 rp1 fr1 (by simp[RV,Dat]) q1⟩⟩
end L2
namespace L2
open PySem PySem.Spec PyProof.Rows
inductive O where
 |d (x:D)|box (b:Bool)|tup (os:List O)
end L2
namespace L2
open PySem PySem.Spec PyProof.Rows AutoSeq1
noncomputable def FJ(neg:Bool):A2:=fun x y Z Q=>∃xs,cU Z x=some xs/\aS Z y=some (.lst [])/\Q (.d (.bl (if neg then !xs.isEmpty else xs.isEmpty))) Z
theorem yj{K:W.Frag}:fy (fun x y H Q=>∃a b xs,x=.ref a/\y=.ref b/\SqL K H a xs/\SqL K H b []/\Q (.bl (!xs.isEmpty)) H) (FJ true):=⟨fun F H Z v u x y Q Q' rp h1 h2 ⟨xs,e1,e2,q⟩ k=>by
 obtain⟨a,vs,rfl,z1,z2⟩:=gJ rp h1 e1;obtain⟨b,rfl,hb⟩:=Df rp h2 e2
 have:vs.isEmpty=xs.isEmpty:=by
  have:=z2.length;cases vs<;>cases xs<;>simp at this ⊢
 exact⟨a,b,vs,rfl,rfl,.inl (.inl z1),.inl (.inl hb),by rw[this];exact k.bl rp q⟩⟩
theorem qZ:∀ {G:Hp} {ds:List D} {vs:List V},ay G ds vs->ay G ds.reverse vs.reverse
 |G,[],vs,h=>by simp only[ay] at h;subst h;simp only[List.reverse_nil,ay]
 |G,d::ds,vs,h=>by
  simp only[ay] at h;obtain⟨x,r,rfl,h1,h2⟩:=h;rw[List.reverse_cons,List.reverse_cons];exact(qZ h2).append (ay.one h1)
end L2
namespace L2
open PySem PySem.Spec PyProof PyProof.Rows PySem.SeqAt
open AutoSeq1 (wpAny_loadPart')
section
variable{prog:Program}{w:World}{A:Around}{E:Value->Shared->Prop}{s:Shared}
theorem sA(n:Nat):Builtin.Slice.sliceAdjust none none (-1) (n:Int)=((n:Int)-1,-1):=by
 unfold Builtin.Slice.sliceAdjust;simp
theorem rL(n:Nat):Builtin.Slice.slicePlaces ((n:Int)-1) (-1) (-1)=n:=by
 unfold Builtin.Slice.slicePlaces;simp;omega
theorem jD{sl:Addr}{n:Nat}{u:Tok}{Q:Int×Int×Nat->Shared->Prop}(hs:s.heap.IsSliceOf sl .none .none (.int (-1) u))(h:Q ((n:Int)-1,-1,n) s):
  wpAny (model prog w) A (Builtin.Slice.sliceApplied (.ref sl) (pure (n:Int))) Q E s:=by
 obtain⟨os,hos,hcs,hds⟩:=id hs;unfold Builtin.Slice.sliceApplied Builtin.Slice.sliceFields;refine wpAny_bind (wpAny_bind (wpAny_field hos hds (x:=.none) rfl (wpAny_bind (wpAny_field hos hds (x:=.none) rfl (wpAny_bind (wpAny_field hos hds (x:=.int (-1) u) rfl (wpAny_pure ?_)))))));refine wpAny_bind (slicePart_int ?_);show wpAny _ _ (if ((-1:Int) == 0)=true then _ else _) _ _ s
 rw[if_neg (by decide)]
 refine wpAny_bind (slicePart_none (wpAny_bind (slicePart_none (wpAny_bind (wpAny_pure ?_)))));show wpAny _ _ (match Builtin.Slice.sliceAdjust none none (-1) (n:Int) with|(lo,hi)=>pure (lo,(-1:Int),Builtin.Slice.slicePlaces lo hi (-1))) _ _ s
 rw[sA n];show wpAny _ _ (pure ((n:Int)-1,(-1:Int),Builtin.Slice.slicePlaces ((n:Int)-1) (-1) (-1))) _ _ s;rw[rL n];exact wpAny_pure h
theorem wV{α:Type}:∀xs:List α,(List.range xs.length).filterMap (fun k=>xs[k]?)=xs
 | []=>rfl
 |x::r=>by
  rw[List.length_cons,List.range_succ_eq_map,List.filterMap_cons_some (by rfl:(x::r)[0]?=some x),List.filterMap_map]
  congr 1
  exact wV r
theorem qI{α β:Type}{f g:α->Option β}:∀ {l:List α},(∀x∈l,f x=g x)->l.filterMap f=l.filterMap g
 | [],_=>rfl
 |x::r,h=>by
  rw[List.filterMap_cons,List.filterMap_cons,h x List.mem_cons_self,qI fun y hy=>h y (List.mem_cons_of_mem _ hy)]
theorem za(xs:List Value):((List.range xs.length).filterMap fun(k:Nat)=>xs.toArray[((xs.length:Int)-1+(k:Int)*(-1)).toNat]?)=xs.reverse:=by
 have e:∀k∈List.range xs.length,xs.toArray[((xs.length:Int)-1+(k:Int)*(-1)).toNat]?=xs.reverse[k]?:=fun k hk=>by
  have hk:=List.mem_range.mp hk;rw[List.getElem?_toArray,List.getElem?_reverse hk]
  congr 1
  omega
 rw[show ((List.range xs.length).filterMap fun(k:Nat)=>xs.toArray[((xs.length:Int)-1+(k:Int)*(-1)).toNat]?)=(List.range xs.length).filterMap fun k=>xs.reverse[k]? from qI e]
 have:=wV xs.reverse;rw[List.length_reverse] at this;exact this
theorem i9{t sl:Addr}{its:List Value}{u:Tok}{Q:Value->Shared->Prop}(ht:IsTup s.heap t its.toArray)(hs:s.heap.IsSliceOf sl .none .none (.int (-1) u))(h:Q (.ref s.heap.objs.size) { s with heap:=s.heap.push { cls:=.type "tuple",data:=.seq its.reverse.toArray } })(hsz:its.length<=sizeLine):wpAny (model prog w) A (getItem (.ref t) (.ref sl)) Q E s:=by
 have hdrop:sizeOk (.seq its.reverse.toArray):=by
  show its.reverse.toArray.size<=sizeLine;rw[List.size_toArray,List.length_reverse];exact hsz
 obtain⟨os,hos,hcs,hds⟩:=id hs;have hTs:s.TypeIs (.ref sl) "slice":=⟨os,hos,hcs⟩;unfold getItem
 try with_reducible refine wpAny_holding ?_
 first|refine wpAny_bind (wpAny_pure ?_)|skip
 refine wpAny_bind (wpAny_sequenceKey ht.typeIs (by decide) ?_)
 refine wpAny_bind (wpAny_callSpecial?_slot (name:=Str.ofString "__getitem__") ht.typeIs slot_tuple_getitem
  (wpAny_call_entry slot_tuple_getitem ht.typeIs entry_tuple_getitem ?_ (args_tuple_getitem _ _)))
 show wpAny _ _ (Builtin.Tuple.tupleItemsOf (.ref t) >>= _) _ _ s;refine wpAny_bind (tupleItemsOf_ ht ?_);refine wpAny_bind (wpAny_typeOf hTs ?_);rw[if_pos (by decide)]
 refine wpAny_bind (jD (n:=its.length) hs ?_);have hno:¬ (((its.length:Int)-1 == 0 && (-1:Int) == 1 && its.length == its.toArray.size)=true):=by simp
 show wpAny _ _ (if ((its.length:Int)-1 == 0 && (-1:Int) == 1 && its.length == its.toArray.size)=true then _ else _) _ _ s
 rw[if_neg hno,za its]
 first
  |exact wpAny_bind (m:=Builtin.Tuple.tupleExact _) (wpAny_newObj_type (wpAny_pure ⟨_,rfl,wpAny_pure h⟩) hdrop)
  |exact wpAny_bind (m:=Builtin.Tuple.tupleExact _) (wpAny_newObj_type (wpAny_bind (wpAny_pure (wpAny_pure ⟨_,rfl,wpAny_pure h⟩))) hdrop)
  |exact wpAny_bind (wpAny_bind (m:=Builtin.Tuple.tupleExact _) (wpAny_newObj_type (wpAny_pure (wpAny_pure ⟨_,rfl,wpAny_pure h⟩)) hdrop))
  |exact wpAny_bind (wpAny_bind (m:=Builtin.Tuple.tupleExact _) (wpAny_newObj_type (wpAny_pure ⟨_,rfl,wpAny_pure h⟩) hdrop))
end
section
variable{X:Cx}{e st:Expr}{te ts:TE}{pos p2:Pos}
noncomputable def BL(K:W.Frag)(te ts:TE):TE:=fun σ H Q=>te σ H fun x H1=>ts σ H1 fun k H2=>k=.int (-1)/\∃a xs,x=.ref a/\SqT K H2 a xs/\∀p,H2 p=none->Q (.ref p) (upd H2 p (.tup xs.reverse))
theorem zW(K:W.Frag)(hK:X.K=K)(he:PE X e te)(hs:PE X st ts):PE X (.Subscript e (.Slice none none (some st) p2) pos) (BL K te ts):=.mk <| by
 subst hK;intro pins s σ H Q I h;refine Subscript_ (thn (he pins s σ H _ I h) fun v s1 ⟨x,H1,I1,r1,q1⟩=>?_);refine wpAny_Slice ?_;rw[evalPart_none];refine wpAny_pure (wpAny_pure ?_);rw[evalPart_some];refine thn (hs pins s1 σ H1 _ I1 q1) fun u s2 ⟨k,H2,I2,r2,q2⟩=>?_;obtain⟨rfl,a,xs,rfl,hx,q⟩:=q2;obtain⟨t,rfl⟩:=r2;cases r1;have I4:Inv X pins σ H2 { s2 with heap:=s2.heap.push { cls:=.type "slice",data:=.fields #[.none,.none,.int (-1) t] } }:=I2.kept (t':=s2.toks) fun b ob q=>Heap.get?_push_of_some _ q
 obtain⟨its,r,ht,hz⟩:=I4.tuple hx;have hlen:=r.length;refine tail_any (ops:=[.ref a,.ref s2.heap.objs.size]) ht.typeIs slot_tuple_getitem.lookup ?_ (by with_unfolding_all rfl)
 refine i9 ht (Heap.IsSliceOf.new ..) ?_ (by omega)
 refine⟨.ref _,_,I4.laid (t':=s2.toks) (o:=.tup xs.reverse) (fun b ob q=>Heap.get?_push_of_some _ q) (Nat.le_refl _) ?_,rfl,q _ (I4.hok.fresh (Nat.le_refl _))⟩;exact⟨by rw[List.length_reverse];exact hz,its.reverse,r.reverse,oA.new _ _⟩
end
noncomputable def Cj(te:AE):AE:=fun ρ Z Q=>te ρ Z fun x Z1=>∃ds,x=.d (.tup ds)/\Q (.d (.tup ds.reverse)) Z1
theorem C9{K:W.Frag}{te:TE}{te':AE}(he:br te te'):br (BL K te (tUn (rU fun i=>.int (-i)) (tC (.int 1)))) (Cj te'):=⟨fun F H Z σ ρ Q Q' rp rs w k=>
 he.go rp rs w fun x Z1 v H1 rp1 fr1 rs1 rv1 ⟨ds,e,q⟩=>⟨1,rfl,rfl,by
  subst e;simp only[RV,Dat] at rv1;obtain⟨a,us,rfl,q1,q2⟩:=rv1
  exact⟨a,us,rfl,.inl (.inl (aL _ _ q1)),(k.fr fr1).tup rp1 (qZ q2) q⟩⟩⟩
theorem wM(te:AE)(ρ:SA)(Z:Om)(Q:AV->Om->Prop):Cj te ρ Z Q=(te ρ Z fun x Z1=>∃ds,x=.d (.tup ds)/\Q (.d (.tup ds.reverse)) Z1):=rfl
noncomputable def LtA(A:Around)(s:Shared)(x y:Value)(b:Bool):Prop:=∀(p:Program)(w:World)(E:Value->Shared->Prop)(Q:Value->Shared->Prop),Q (.bool b) s->wpAny (model p w) A (richCompare .Lt x y) Q E s
noncomputable def pq(A:Around)(s:Shared)(fin:Bool):List (Value×Value)->Bool->Prop
 | [],r=>r=fin
 |(p,q)::t,r=>∃b,EqAt A s p q b/\(b=true->pq A s fin t r)/\(b=false->LtA A s p q r)
theorem vU(x y:Addr)(xs ys:Array Value)(n m:Nat)(dx dy:Option Addr)(sx sy:Array (Option Value))(r:Bool):
  Meets (Builtin.«tuple.__lt__» ⟨[.ref x,.ref y],[]⟩)
   (fun A R s=>s.heap.get? x=some { cls:=.type "tuple",dict:=dx,data:=.seq xs n,slots:=sx }/\s.heap.get? y=some { cls:=.type "tuple",dict:=dy,data:=.seq ys m,slots:=sy } /\
    pq A.in1 s (decide (xs.size<ys.size)) (xs.toList.zip ys.toList) r/\R (.ok (.ret (.bool r))) s):=
 .of_wp fun prog w A R s h=>by
  obtain⟨hp,g,d,tk,os⟩:=s;obtain⟨hx,hy,he,h⟩:=h;have f2:=AutoSeq1.sub_tuple_tuple
  wp_walk using wpAny_loadPart' hx,wpAny_loadPart' hy,wpAny_forIn_list _ (fun be b s'=>b.1=none/\s'=⟨hp,g,d,tk,os⟩/\pq A.in1 ⟨hp,g,d,tk,os⟩ (decide (xs.size<ys.size)) be r) _
  case turn=>
   rintro⟨p,q⟩ be b s' ⟨hb,rfl,hL⟩;obtain⟨k,hk,h1,h2⟩:=hL;refine wpAny_bind (hk prog w _ _ ?_)
   cases k with
   |true=>
    wp_walk
    exact⟨rfl,rfl,h1 rfl⟩
   |false=>
    rw[if_pos (by rfl)]
    refine wpAny_bind (wpAny_rule (wpAny_bind (h2 rfl prog w _ _ ?_)))
    wp_walk
    exact⟨_,rfl,h⟩
  case fin=>
   rintro⟨b1,b2⟩ s' ⟨hb,rfl,hL⟩;simp only at hb;subst hb;have e:r=decide (xs.size<ys.size):=hL;subst e
   wp_walk
   exact⟨_,rfl,h⟩
  case h=>exact⟨rfl,rfl,he⟩
theorem LtA.tuples{A:Around}{s:Shared}{x y:Addr}{xs ys:Array Value}{r:Bool}(hx:s.heap.IsTuple x xs)(hy:s.heap.IsTuple y ys)(hu:A.units<cLine)(he:pq A.in1 s (decide (xs.size<ys.size)) (xs.toList.zip ys.toList) r):LtA A s (.ref x) (.ref y) r:=fun p w E Q q=>by
 obtain⟨⟨c1,d1,t1,l1⟩,o1,hc1,n1,hd1⟩:=id hx;obtain⟨⟨c2,d2,t2,l2⟩,o2,hc2,n2,hd2⟩:=id hy;simp only at hc1 hd1 hc2 hd2;subst hc1 hd1 hc2 hd2;exact richCompare_meets_room (op:=.Lt) ⟨_,o1,rfl⟩ ⟨_,o2,rfl⟩ F.slot_tuple_lt F.entry_tuple_lt (F.args_tuple_lt_2 _ _) (vU x y xs ys n1 n2 d1 d2 l1 l2 r) ⟨o1,o2,he,show Value.bool r≠Value.notImplemented/\Q (.bool r) s from ⟨fun z=>(nomatch z),q⟩⟩ hu
mutual
noncomputable def ltD:D->D->Bool
 |.int a,.int b=>decide (a<b)
 |.str a,.str b=>decide (a.cps.toList<b.cps.toList)
 |.tup xs,.tup ys=>iX xs ys
 |_,_=>false
noncomputable def iX:List D->List D->Bool
 | [],[]=>false
 | [],_::_=>true
 |_::_,[]=>false
 |x::xs,y::ys=>if eqD x y then iX xs ys else ltD x y
end
mutual
noncomputable def cmD:D->D->Bool
 |.int _,.int _=>true
 |.str _,.str _=>true
 |.tup xs,.tup ys=>jj xs ys
 |_,_=>false
noncomputable def jj:List D->List D->Bool
 |x::xs,y::ys=>if eqD x y then jj xs ys else cmD x y
 |_,_=>true
end
section
variable{X:Cx}{pins:List (Addr×Obj)}{σ:St}{H:Hp}{s:Shared}
theorem wQ(I:Inv X pins σ H s){A:Around}{n:Nat}(hu:A.units+n<cLine)(lt:∀(d e:D)(x y:V)(v u:Value),dep d<=n->Dat H d x->Dat H e y->bo x v->bo y u->cmD d e=true->LtA A s v u (ltD d e)):
  ∀ {ds es:List D} {xs ys:List V} {vs us:List Value},cx ds<=n->ay H ds xs->ay H es ys->aH xs vs->aH ys us->jj ds es=true->pq A s (decide (vs.length<us.length)) (vs.zip us) (iX ds es)
 | [],[],xs,ys,vs,us,_,h1,h2,r1,r2,_=>by
  simp only[ay] at h1 h2;subst h1 h2;cases r1;cases r2;rfl
 | [],e::es,xs,ys,vs,us,_,h1,h2,r1,r2,_=>by
  simp only[ay] at h1 h2;obtain⟨y,yr,rfl,_,_⟩:=h2;subst h1;cases r1;cases r2;simp[pq,iX]
 |d::ds,[],xs,ys,vs,us,_,h1,h2,r1,r2,_=>by
  simp only[ay] at h1 h2;obtain⟨x,xr,rfl,_,_⟩:=h1;subst h2;cases r1;cases r2;simp[pq,iX]
 |d::ds,e::es,xs,ys,vs,us,hd,h1,h2,r1,r2,hc=>by
  simp only[ay] at h1 h2;obtain⟨x,xr,rfl,hx,hxr⟩:=h1;obtain⟨y,yr,rfl,hy,hyr⟩:=h2
  cases r1 with
  | @cons _ v _ vs rx rxr=>
  cases r2 with
  | @cons _ u _ us ry ryr=>
  have d1:dep d<=n:=Nat.le_trans (eK (List.mem_cons_self ..)) hd;have d2:cx ds<=n:=by simp only[cx] at hd;omega
  simp only[jj] at hc;simp only[List.zip_cons_cons,pq,iX];refine⟨eqD d e,(jV I n d e x y v u A d1 hu hx hy rx ry).2.1,fun q=>?_,fun q=>?_⟩
  ·rw[if_pos q] at hc ⊢
   have:=wQ I hu lt d2 hxr hyr rxr ryr hc;rw[show decide ((v::vs).length<(u::us).length)=decide (vs.length<us.length) from by simp]
   exact this
  ·rw[if_neg (by rw[q];decide)] at hc ⊢
   exact lt d e x y v u d1 hx hy rx ry hc
theorem BE(I:Inv X pins σ H s):∀(n:Nat)(A:Around)(d e:D)(x y:V)(v u:Value),A.units+n<cLine->dep d<=n->Dat H d x->Dat H e y->bo x v->bo y u->cmD d e=true->LtA A s v u (ltD d e):=fun n=>by
 induction n with
 |zero=>
  intro A d e x y v u hu hd hx hy rx ry hc
  cases d with
  |int a=>
   cases e<;>simp only[cmD,Bool.false_eq_true] at hc
   simp only[Dat] at hx hy;subst hx hy;obtain⟨t1,rfl⟩:=rx;obtain⟨t2,rfl⟩:=ry;exact fun p w E Q q=>lt_int q
  |str a=>
   cases e<;>simp only[cmD,Bool.false_eq_true] at hc
   simp only[Dat] at hx hy;subst hx hy;obtain⟨t1,rfl⟩:=rx;obtain⟨t2,rfl⟩:=ry;exact fun p w E Q q=>lt_str q
  |tup ds=>simp[dep] at hd
  |non=>cases e<;>simp[cmD] at hc
  |bl b=>cases e<;>simp[cmD] at hc
  |lst b=>cases e<;>simp[cmD] at hc
  |dk b=>cases e<;>simp[cmD] at hc
  |dt b=>cases e<;>simp[cmD] at hc
 |succ n ih=>
  intro A d e x y v u hu hd hx hy rx ry hc;by_cases h0:dep d<=n
  ·exact ih A d e x y v u (by omega) h0 hx hy rx ry hc
  have hin:A.in1.units+n<cLine:=by show A.units+1+n<cLine;omega
  cases d with
  |tup ds=>
   cases e<;>simp only[cmD,Bool.false_eq_true] at hc
   rename_i es
   simp only[Dat] at hx hy;obtain⟨a,xs,rfl,ha,hxs⟩:=hx;obtain⟨b,ys,rfl,hb,hys⟩:=hy;cases rx;cases ry;obtain⟨its,r1,p1⟩:=eI I ha;obtain⟨jts,r2,p2⟩:=eI I hb;have:=wQ I hin (fun d e x y v u q1 q2 q3 q4 q5 q6=>ih A.in1 d e x y v u hin q1 q2 q3 q4 q5 q6) (by simp only[dep] at hd;omega) hxs hys r1 r2 hc
   exact LtA.tuples p1 p2 (by omega) (by simpa[ltD] using this)
  |int a=>simp only[dep] at h0;omega
  |str a=>simp only[dep] at h0;omega
  |non=>cases e<;>simp[cmD] at hc
  |bl b=>cases e<;>simp[cmD] at hc
  |lst b=>cases e<;>simp[cmD] at hc
  |dk b=>cases e<;>simp[cmD] at hc
  |dt b=>cases e<;>simp[cmD] at hc
noncomputable def Fx:R2:=fun x y H Q=>∃d e,Dat H d x/\Dat H e y/\dep d<=100/\cmD d e=true/\Q (.bl (ltD d e)) H
theorem DT(hu:X.A.units+100<cLine):OpR X (compareOp .Lt) Fx:=by
 intro pins s σ H x y v u Q I rx ry h;obtain⟨d,e,hx,hy,hd,hc,q⟩:=h;exact BE I 100 X.A d e x y v u hu hd hx hy rx ry hc X.prog X.w _ _ ⟨.bl _,H,I,rfl,q⟩
end
noncomputable def Fw:A2:=fun x y Z Q=>∃a b,aS Z x=some a/\aS Z y=some b/\dep a<=100/\cmD a b=true/\Q (.d (.bl (ltD a b))) Z
theorem Aw(x y:AV)(Z:Om)(Q:AV->Om->Prop):Fw x y Z Q=∃a b,aS Z x=some a/\aS Z y=some b/\dep a<=100/\cmD a b=true/\Q (.d (.bl (ltD a b))) Z:=rfl
theorem Fb:fy Fx Fw:=⟨fun F H Z v u x y Q Q' rp h1 h2 ⟨a,b,e1,e2,s,c,q⟩ k=>⟨a,b,e9 rp h1 e1,e9 rp h2 e2,s,c,k.bl rp q⟩⟩
end L2
namespace L2
open PySem PySem.Spec PyProof PyProof.Rows PySem.SeqAt
end L2
namespace L2
open PySem PySem.Spec PySem.Calls PyProof PyProof.Rows PySem.SeqAt
section
variable{prog:Program}{w:World}{A:Around}{E:Value->Shared->Prop}{s:Shared}
theorem pK{a:Addr}{ob:Obj}{us:List Value}{m:Nat}{C:List Value->Shared->Prop}(g:s.heap.get? a=some ob)(gc:ob.cls=.type "list"\/ob.cls=.type "tuple")(gd:ob.data=.seq us.toArray m)(hz:us.length<=sizeLine)(q:C us { s with heap:=(s.heap.push (seqObj "list" #[] 0)).update s.heap.objs.size (Obj.mapSeq (·++us.toArray)) }):wpAny (model prog w) A (collect (.ref a)) C E s:=by
 rcases gc with gc|gc
 ·exact collect_list ⟨ob,g,gc,m,gd⟩ q hz
 unfold collect;refine wpAny_bind (wpAny_runValue (codeAny_builtin entry_proto_collect' ?_));show wpAny _ _ (do again (.builtin "list.__iadd__" ⟨[←newList [],.ref a],[]⟩)) _ _ s
 refine wpAny_bind (wpAny_newList (wpAny_pure ⟨Code.quiet_builtin _ (by decide +kernel),codeAny_builtin entry_list_iadd' ?_⟩))
 have gp:(s.heap.push (seqObj "list" #[] 0)).get? a=some ob:=Heap.get?_push_of_some _ g;show wpAny _ _ (Builtin.List.listExtendWith (.ref s.heap.objs.size) (.ref a) (.ref s.heap.objs.size)) _ _ { s with heap:=s.heap.push (seqObj "list" #[] 0) };unfold Builtin.List.listExtendWith;refine wpAny_bind (wpAny_typeOf (T:="tuple") ⟨ob,gp,gc⟩ ?_);have ht:(Value.type "tuple" == Value.type "tuple")=true:=by rfl
 rw[if_pos (by rw[ht];simp)]
 refine wpAny_bind (listItems_at gp gd (wpAny_bind (listItems_at (xs:=#[]) (n:=0) (Heap.get?_push_size _ rfl) rfl ?_)));rw[if_neg (by simp)]
 refine wpAny_bind (listUpdate_at (xs:=#[]) (n:=0) (Heap.get?_push_size _ rfl) rfl (wpAny_pure ?_) (Nat.zero_le _) (by show (#[]++us.toArray).size<=sizeLine+1;simp only[Array.size_append,List.size_toArray,List.length_nil];omega))
 show wpAny (model prog w) A (do
   let o ← load s.heap.objs.size
   match o.data with|.seq xs _=>pure xs.toList|_=>unsupported "internal:collect") C E { s with heap:=(s.heap.push (seqObj "list" #[] 0)).update s.heap.objs.size (Obj.mapSeq (·++us.toArray)) }
 refine wpAny_bind (wpAny_load (get?_update_seq (Heap.get?_push_size _ rfl) _) ?_);show wpAny _ _ (pure ((#[]:Array Value)++us.toArray).toList) C E _;rw[show ((#[]:Array Value)++us.toArray).toList=us by simp]
 exact wpAny_pure q
noncomputable def jo(c:Nat->Nat->Bool)(n:Nat):Array Nat:=if n<2 then (List.range n).toArray else bh c (W.kas_sort n)
theorem jv(c:Nat->Nat->Bool)(n:Nat):Ord n (jo c n):=by
 unfold jo;split
 ·exact .refl _
 ·exact KG.fin _ (kA (by omega))
noncomputable def o4(vs:List Value)(c:Nat->Nat->Bool):Array Value:=List.toArray ((jo c vs.length).toList.map fun i=>vs.getD i Value.none)
theorem wC(vs:List Value)(c:Nat->Nat->Bool):(o4 vs c).size=vs.length:=by
 have a:=(jv c vs.length).size_eq;simp[o4] at a ⊢;omega
noncomputable def uR(h0 h:Heap):Prop:=∀x o,h0.get? x=some o->h.get? x=some o
structure CN(prog:Program)(w:World)(A:Around)(h0:Heap)(s:Shared)(vs:List Value)(c:Nat->Nat->Bool)(b:Bool):Prop where
 kind:∀h,uR h0 h->∃fs T,W.KatTups h vs fs/\fs.length=vs.length/\(∀v∈fs,W.Looks (model prog w) h (typeOf v) T)/\(T == T)=true/\(T != Value.type "tuple")=b
 ask:∀h,uR h0 h->∀i j,i<vs.length->j<vs.length->∀(C:Bool->Shared->Prop)(E:Value->Shared->Prop),C (c i j) { s with heap:=h }->wpAny (model prog w) A (keyLt' (tuples' b) (vs.getD i Value.none) (vs.getD j Value.none)) C E { s with heap:=h }
theorem zC{a:Addr}{vs:List Value}{c:Nat->Nat->Bool}{b:Bool}{k:Nat}{h0:Heap}{P:PySem.Fin->Shared->Prop}(g:s.heap.get? a=some (seqObj "list" vs.toArray k))(kp:∀x o,h0.get? x=some o->x≠a/\s.heap.get? x=some o)(S:2<=vs.length->CN prog w A h0 s vs c b)(hs:vs.length<64)(q:P (.done (.ret .none)) { s with heap:=sortedHeap s.heap a vs (o4 vs c) }):wpAny (model prog w) A (Builtin.«list.sort» ⟨[.ref a],[]⟩) P E s:=by
 have z64:64<=sizeLine:=by rw[sizeLine_eq];omega
 have zv:vs.toArray.size<=sizeLine:=by rw[List.size_toArray];omega
 have zo:=wC vs c;rw[list_sort_plain];obtain⟨e1,g1⟩:∃e1,(s.heap.update a (Obj.mapSeq fun _=>(#[]:Array Value))).get? a=some (seqObj "list" #[] e1):=⟨_,get?_update_seq g fun _=>#[]⟩;refine wpAny_bind (listItems_at g rfl (wpAny_bind (listUpdate_at g rfl (wpAny_bind (seqEpoch_at g1 rfl (wpAny_bind (wpAny_newTuple (wpAny_bind (wpAny_newList (wpAny_holding ?_) (Nat.zero_le _))) ?_)))) zv (Nat.zero_le _))))
 case refine_2=>show vs.length<=_;omega
 have g3:(((s.heap.update a (Obj.mapSeq fun _=>(#[]:Array Value))).push (seqObj "tuple" vs.toArray 0)).push (seqObj "list" #[] 0)).get? a=some (seqObj "list" #[] e1):=Heap.get?_push_of_some _ (Heap.get?_push_of_some _ g1)
 have k3:uR h0 (((s.heap.update a (Obj.mapSeq fun _=>(#[]:Array Value))).push (seqObj "tuple" vs.toArray 0)).push (seqObj "list" #[] 0)):=fun x o e=>by
  obtain⟨nx,ex⟩:=kp x o e;exact Heap.get?_push_of_some _ (Heap.get?_push_of_some _ ((Heap.get?_update_ne _ _ _ _ nx).trans ex))
 show wpAny (model prog w) A _ P E { s with heap:=((s.heap.update a (Obj.mapSeq fun _=>(#[]:Array Value))).push (seqObj "tuple" vs.toArray 0)).push (seqObj "list" #[] 0) }
 have fin:∀out:Array Value,out=o4 vs c->P (.done (.ret .none)) { s with heap:=(((s.heap.update a (Obj.mapSeq fun _=>(#[]:Array Value))).push (seqObj "tuple" vs.toArray 0)).push (seqObj "list" #[] 0)).update a (Obj.mapSeq fun _=>out) }:=fun out e=>by
  subst e;exact q
 generalize hh:((s.heap.update a (Obj.mapSeq fun _=>(#[]:Array Value))).push (seqObj "tuple" vs.toArray 0)).push (seqObj "list" #[] 0)=hp at g3 k3 fin ⊢;dsimp only;by_cases h2:vs.toArray.size<2
 ·rw[if_pos h2,if_pos h2]
  refine wpAny_bind (wpAny_pure ?_);rw[StateT.run_pure];refine wpAny_bind (wpAny_pure ?_);dsimp only
  have same:(arrOf (SortSt.mk' general' (vs.toArray.zip vs.toArray) #[] 7 none)).map (·.2)=o4 vs c:=by
   rw[List.size_toArray] at h2;unfold o4 jo;rw[if_pos h2];exact mQ vs h2
  rw[same];refine wpAny_bind (seqEpoch_at g3 rfl (wpAny_bind (listUpdate_at g3 rfl ?_ (Nat.zero_le _) (by omega))))
  simp only[bne_self_eq_false,Bool.false_eq_true,if_false];exact wpAny_pure (fin _ rfl)
 ·rw[if_neg h2,if_neg h2]
  rw[List.size_toArray] at h2;have S:=S (by omega)
  obtain⟨fs,T,t1,t2,t3,t4,t5⟩:=S.kind hp k3;refine wpAny_bind (W.kat_kind (T:=T) t1 (by omega) t3 t4 ?_)
  rw[t5];refine wpAny_bind (wpAny_mono (W.kat_run (E:=E) (Q:=fun st' s'=>failedOf st'=none/\(arrOf st').map (·.2)=o4 vs c/\s'={ s with heap:=hp }) (G:=fun p s'=>p=jo c vs.length/\s'={ s with heap:=hp }) rfl (by omega) hs (fun p st' s' _ b1 b2 b3=>⟨b2,?_,b3.2⟩) (KG.wp (c:=c) (fun i j C hi hj hC=>?_) (kA (by omega)) ⟨?_,rfl⟩)) ?_ fun _ _ e=>e)
  ·rw[W.kat_snds rfl b1,b3.1]
   rfl
  ·exact S.ask hp k3 i j hi hj C _ hC
  ·unfold jo
   rw[if_neg h2]
  ·rintro⟨⟨⟩,st'⟩ s' ⟨b1,b2,rfl⟩
   dsimp only at b1 b2 ⊢;rw[b2];refine wpAny_bind (seqEpoch_at g3 rfl (wpAny_bind (listUpdate_at g3 rfl ?_ (Nat.zero_le _) (by omega))))
   rw[b1];simp only[bne_self_eq_false,Bool.false_eq_true,if_false];exact wpAny_pure (fin _ rfl)
theorem sQ{l:Addr}{ob:Obj}{vs:List Value}{m:Nat}{c:Nat->Nat->Bool}{b:Bool}{Q:Value->Shared->Prop}(g:s.heap.get? l=some ob)(gc:ob.cls=.type "list"\/ob.cls=.type "tuple")(gd:ob.data=.seq vs.toArray m)(S:2<=vs.length->∀A':Around,A'.units<=A.units+3->CN prog w A' s.heap s vs c b)(hs:vs.length<64)(q:Q (.ref (s.heap.objs.size+1)) { s with heap:=sortedAll s.heap vs (o4 vs c) }):wpAny (model prog w) A (call (.builtin "sorted") [.ref l]) Q E s:=by
 have z64:64<=sizeLine:=by rw[sizeLine_eq];omega
 refine Calls.call_function_entry kind_sorted plain_sorted entry_sorted (args_sorted1 _) ?_;unfold Builtin.«sorted»;have n1:((s.heap.push (seqObj "list" #[] 0)).update s.heap.objs.size (Obj.mapSeq (·++vs.toArray))).objs.size=s.heap.objs.size+1:=by rw[Heap.size_update,size_push']
 refine wpAny_bind (m:=checkCount "sorted" 1 1 _) (wpAny_pure (wpAny_bind (pK g gc gd (by omega) (wpAny_bind (wpAny_newList ?_ (by omega))))))
 have g2:(((s.heap.push (seqObj "list" #[] 0)).update s.heap.objs.size (Obj.mapSeq (·++vs.toArray))).push (seqObj "list" vs.toArray 0)).get? (s.heap.objs.size+1)=some (seqObj "list" vs.toArray 0):=by
  rw[←n1];exact Heap.get?_push_size _ rfl
 have kp:∀x o,s.heap.get? x=some o->x≠s.heap.objs.size+1/\(((s.heap.push (seqObj "list" #[] 0)).update s.heap.objs.size (Obj.mapSeq (·++vs.toArray))).push (seqObj "list" vs.toArray 0)).get? x=some o:=fun x o e=>by
  have lt:=Heap.lt_size e;exact⟨Nat.ne_of_lt (Nat.lt_succ_of_lt lt),Heap.get?_push_of_some _ ((Heap.get?_update_ne _ _ _ _ (Nat.ne_of_lt lt)).trans (Heap.get?_push_of_some _ e))⟩
 show wpAny _ _ _ _ _ { s with heap:=((s.heap.push (seqObj "list" #[] 0)).update s.heap.objs.size (Obj.mapSeq (·++vs.toArray))).push (seqObj "list" vs.toArray 0) }
 rw[n1];refine wpAny_bind (wpAny_holding (wpAny_call_entry slot_list_sort ⟨_,g2,rfl⟩ entry_list_sort (zC (c:=c) (b:=b) g2 kp (fun h2=>?_) hs ⟨_,rfl,wpAny_pure ⟨_,rfl,q⟩⟩) (args_list_sort _)));have S1:=S h2 A.in1.in1 (by show A.units+1+1<=A.units+3;omega)
 exact⟨S1.kind,fun h kh i j hi hj C E' hC=>S1.ask h kh i j hi hj C E' hC⟩
end
section
variable{X:Cx}{pins:List (Addr×Obj)}{σ:St}{H:Hp}{s:Shared}{A:Around}
noncomputable def xg:List D->List D->Bool
 |.str _::_,.str _::_=>true
 |.int _::_,.int _::_=>true
 |_,_=>false
theorem xE(I:Inv X pins σ H s){n:Nat}(hu:A.units+n<cLine){b:Bool}{Q:Bool->Shared->Prop}:
  ∀ {ds es:List D} {xs ys:List V} {vs us:List Value} (i:Nat),cx ds<=n->ay H ds xs->ay H es ys->aH xs vs->aH ys us->jj ds es=true->((b && i == 0)=true->xg ds es=true)->Q (iX ds es) s ->
   W.KatLex X.prog X.w A b (decide (vs.length<us.length)) Q (vs.zip us) i s
 | [],[],xs,ys,vs,us,i,_,h1,h2,r1,r2,_,_,q=>by
  simp only[ay] at h1 h2;subst h1 h2;cases r1;cases r2;exact W.kat_nil q
 | [],e::es,xs,ys,vs,us,i,_,h1,h2,r1,r2,_,_,q=>by
  simp only[ay] at h1 h2;obtain⟨y,yr,rfl,_,_⟩:=h2;subst h1;cases r1;cases r2;exact W.kat_nil (by simpa[iX] using q)
 |d::ds,[],xs,ys,vs,us,i,_,h1,h2,r1,r2,_,_,q=>by
  simp only[ay] at h1 h2;obtain⟨x,xr,rfl,_,_⟩:=h1;subst h2;cases r1;cases r2;exact W.kat_nil (by simpa[iX] using q)
 |d::ds,e::es,xs,ys,vs,us,i,hd,h1,h2,r1,r2,hc,hk,q=>by
  simp only[ay] at h1 h2;obtain⟨x,xr,rfl,hx,hxr⟩:=h1;obtain⟨y,yr,rfl,hy,hyr⟩:=h2
  cases r1 with
  | @cons _ v _ vs rx rxr=>
  cases r2 with
  | @cons _ u _ us ry ryr=>
  have d1:dep d<=n:=Nat.le_trans (eK (List.mem_cons_self ..)) hd;have d2:cx ds<=n:=by simp only[cx] at hd;omega
  simp only[jj] at hc;simp only[iX] at q;rw[List.zip_cons_cons,show decide ((v::vs).length<(u::us).length)=decide (vs.length<us.length) from by simp]
  refine W.kat_cons ((jV I n d e x y v u A d1 hu hx hy rx ry).2.1 X.prog X.w _ _ ?_);by_cases h:eqD d e=true
  ·rw[h]
   rw[if_pos h] at hc q;exact W.kat_yes (xE I hu (i+1) d2 hxr hyr rxr ryr hc (fun z=>by simp at z) q)
  ·rw[show eqD d e=false from by simpa using h]
   rw[if_neg h] at hc q;refine W.kat_no ?_
   cases hb:(b && i == 0) with
   |false=>exact W.kat_one _ _ (BE I n A d e x y v u hu d1 hx hy rx ry hc X.prog X.w _ _ q)
   |true=>
    have hk:=hk hb;cases d<;>cases e<;>simp only[xg,Bool.false_eq_true] at hk
    ·simp only[Dat] at hx hy
     subst hx hy;obtain⟨t1,rfl⟩:=rx;obtain⟨t2,rfl⟩:=ry;exact oneLt_int q
    ·simp only[Dat] at hx hy
     subst hx hy;obtain⟨t1,rfl⟩:=rx;obtain⟨t2,rfl⟩:=ry;exact oneLt_str q
noncomputable def o7(k:Bool)(d:D):Prop:=∃r,(k=true/\∃z,d=.tup (.str z::r))\/(k=false/\∃i,d=.tup (.int i::r))
theorem mK(I:Inv X pins σ H s){k:Bool}:∀ {W:List D} {xs:List V} {vs:List Value},(∀d∈W,o7 k d)->ay H W xs->aH xs vs->∃fs,PySem.W.KatTups s.heap vs fs/\fs.length=vs.length/\∀v∈fs,(k=true/\∃z t,v=.str z t)\/(k=false/\∃n t,v=.int n t)
 | [],xs,vs,_,h,r=>by
  simp only[ay] at h;subst h;cases r;exact⟨[],trivial,rfl,by simp⟩
 |d::W,xs,vs,hk,h,r=>by
  simp only[ay] at h;obtain⟨x,xr,rfl,hx,hxr⟩:=h
  cases r with
  | @cons _ v _ vs rx rxr=>
  obtain⟨fs,g1,g2,g3⟩:=mK I (fun e he=>hk e (List.mem_cons_of_mem _ he)) hxr rxr
  have mk:∀(f:D)(be:List D),d=.tup (f::be)->∃a o its n fv fx,v=.ref a/\s.heap.get? a=some o/\o.cls=.type "tuple"/\o.data=.seq its n/\its[0]?=some fv/\Dat H f fx/\bo fx fv:=fun f be e=>by
   subst e;simp only[Dat] at hx;obtain⟨a,ys,rfl,ha,hys⟩:=hx;simp only[ay] at hys;obtain⟨fx,yr,rfl,hf,_⟩:=hys;cases rx;obtain⟨_,its,e4,⟨o,e5,e6,n,e7⟩,_⟩:=I.hok a _ ha
   cases e4 with
   | @cons _ fv _ vr rf _=>exact⟨a,o,_,n,fv,fx,rfl,e5,e6,e7,by simp,hf,rf⟩
  obtain⟨be,⟨k1,z,e⟩|⟨k1,z,e⟩⟩:=hk d List.mem_cons_self
  ·obtain⟨a,o,its,n,fv,fx,rfl,e5,e6,e7,e8,hf,rf⟩:=mk _ _ e
   simp only[Dat] at hf;subst hf;obtain⟨t,rfl⟩:=rf;refine⟨_::fs,PySem.W.KatTups.cons e5 e6 e7 e8 g1,by simp[g2],fun v hv=>?_⟩
   rcases List.mem_cons.mp hv with rfl|hv
   ·exact .inl ⟨k1,z,t,rfl⟩
   ·exact g3 v hv
  ·obtain⟨a,o,its,n,fv,fx,rfl,e5,e6,e7,e8,hf,rf⟩:=mk _ _ e
   simp only[Dat] at hf;subst hf;obtain⟨t,rfl⟩:=rf;refine⟨_::fs,PySem.W.KatTups.cons e5 e6 e7 e8 g1,by simp[g2],fun v hv=>?_⟩
   rcases List.mem_cons.mp hv with rfl|hv
   ·exact .inr ⟨k1,z,t,rfl⟩
   ·exact g3 v hv
end
section
variable{X:Cx}{pins:List (Addr×Obj)}{σ:St}{H:Hp}{s:Shared}{A:Around}
theorem o7.same{k:Bool}{ds es:List D}(h1:o7 k (.tup ds))(h2:o7 k (.tup es)):xg ds es=true:=by
 obtain⟨r,⟨k1,z,e⟩|⟨k1,z,e⟩⟩:=h1
 ·obtain⟨r',⟨k2,z',e'⟩|⟨k2,z',e'⟩⟩:=h2
  ·cases e;cases e';rfl
  ·rw[k1] at k2;cases k2
 ·obtain⟨r',⟨k2,z',e'⟩|⟨k2,z',e'⟩⟩:=h2
  ·rw[k1] at k2;cases k2
  ·cases e;cases e';rfl
theorem o7.tup{k:Bool}{d:D}(h:o7 k d):∃ds,d=.tup ds:=by
 obtain⟨r,⟨_,z,e⟩|⟨_,z,e⟩⟩:=h
 ·exact⟨_,e⟩
 ·exact⟨_,e⟩
theorem C2(I:Inv X pins σ H s){n:Nat}(hu:A.units+n<cLine){k:Bool}{W:List D}{xs:List V}{vs:List Value}{c:Nat->Nat->Bool}(hk:∀d∈W,o7 k d)(hd:cx W<=n)(hx:ay H W xs)(r:aH xs vs)(hc:∀d∈W,∀e∈W,cmD d e=true)(hl:∀i j,i<W.length->j<W.length->c i j=ltD (W.getD i .non) (W.getD j .non)):CN X.prog X.w A s.heap s vs c true:=by
 have inv:∀h,uR s.heap h->Inv X pins σ H { s with heap:=h }:=fun h kh=>I.kept (t':=s.toks) fun b o e=>kh b o e;have hlen:vs.length=W.length:=by rw[←r.length,hx.length]
 refine⟨fun h kh=>?_,fun h kh i j hi hj C E q=>?_⟩
 ·obtain⟨fs,f1,f2,f3⟩:=mK (inv h kh) hk hx r
  cases k with
  |true=>
   refine⟨fs,.type "str",f1,f2,fun v hv=>?_,rfl,rfl⟩;rcases f3 v hv with⟨_,z,t,rfl⟩|⟨k1,_⟩
   ·exact PySem.W.Looks.now
   ·cases k1
  |false=>
   refine⟨fs,.type "int",f1,f2,fun v hv=>?_,rfl,rfl⟩;rcases f3 v hv with⟨k1,_⟩|⟨_,z,t,rfl⟩
   ·cases k1
   ·exact PySem.W.Looks.now
 ·have J:=inv h kh
  have at':∀i,i<vs.length->∃a ds ys its o m,W.getD i .non=.tup ds/\D.tup ds∈W/\vs.getD i Value.none=.ref a/\ay H ds ys/\aH ys its/\h.get? a=some o/\o.data=.seq its.toArray m:=fun i hi=>by
   have hw:i<W.length:=by omega
   have hm:W[i]∈W:=List.getElem_mem hw;obtain⟨ds,e⟩:=(hk _ hm).tup;obtain⟨x,ex,dx⟩:=hx.get (List.getElem?_eq_getElem hw);obtain⟨u,eu,ru⟩:=r.get ex;rw[e] at dx hm;simp only[Dat] at dx;obtain⟨a,ys,rfl,ha,hys⟩:=dx;cases ru;obtain⟨_,its,r4,⟨o,e5,e6,m,e7⟩,_⟩:=(show bV X.prog X.w H h a (.tup ys) from J.hok a _ ha)
   exact⟨a,ds,ys,its,o,m,by rw[List.getD_eq_getElem?_getD,List.getElem?_eq_getElem hw,e];rfl,hm,by rw[List.getD_eq_getElem?_getD,eu];rfl,hys,r4,e5,e7⟩
  obtain⟨a1,ds,ys,its,o1,m1,w1,i1,v1,d1,r1,g1,b1⟩:=at' i hi;obtain⟨a2,es,zs,jts,o2,m2,w2,i2,v2,d2,r2,g2,b2⟩:=at' j hj;rw[hl i j (by omega) (by omega),w1,w2] at q
  rw[v1,v2];refine PySem.W.kat_lt g1 b1 g2 b2 ?_
  have dd:cx ds<=n:=by
   have:=eK i1;simp only[dep] at this;omega
  have:=xE (Q:=C) J hu (b:=true) 0 dd d1 d2 r1 r2 (hc _ i1 _ i2) (fun _=>(hk _ i1).same (hk _ i2)) q;simpa using this
end
noncomputable def rA(xs:List V)(c:Nat->Nat->Bool):List V:=(jo c xs.length).toList.map fun i=>xs.getD i .non
noncomputable def xq(K:PySem.W.Frag):List V->Hp->VK->Prop:=fun xs H Q=>∃(p:Addr)(ys:List V)(W:List D)(c:Nat->Nat->Bool)(k:Bool),xs=[.ref p]/\(SqL K H p ys\/SqT K H p ys)/\ay H W ys/\(2<=W.length->(∀d∈W,o7 k d)/\∀d∈W,∀e∈W,cmD d e=true)/\cx W<=90 /\
 (∀i j,i<W.length->j<W.length->c i j=ltD (W.getD i .non) (W.getD j .non))/\W.length<64/\∀l,H l=none->Q (.ref l) (upd H l (.lst (rA ys c)))
theorem oD{X:Cx}(K:PySem.W.Frag)(hK:X.K=K)(hu:X.A.units+100<cLine):cm X (.builtin "sorted") (xq K):=by
 subst hK;intro pins s σ H xs us Q I r h;obtain⟨p,ys,W,c,k,rfl,hq,hd,hr,hdp,hl,hW,q⟩:=h;obtain⟨u,rfl,rx⟩:=du r;cases rx
 obtain⟨its,ob,m,r',g,gc,gd⟩:∃its ob m,aH ys its/\s.heap.get? p=some ob/\(ob.cls=.type "list"\/ob.cls=.type "tuple")/\ob.data=.seq its.toArray m:=by
  rcases hq with hq|hq
  ·obtain⟨its,r',pl,hz⟩:=I.list hq
   obtain⟨ob,g,gc,m,gd⟩:=pl.isList;exact⟨its,ob,m,r',g,.inl gc,gd⟩
  ·obtain⟨its,r',pl,hz⟩:=I.tuple hq
   obtain⟨ob,g,gc,m,gd⟩:=pl;exact⟨its,ob,m,r',g,.inr gc,gd⟩
 have e1:its.length=W.length:=by rw[←r'.length,hd.length]
 have e2:ys.length=its.length:=r'.length;obtain⟨e,he⟩:=sortedAll_at s.heap its (o4 its c)
 have hv:aH (rA ys c) ((jo c its.length).toList.map fun i=>its.getD i Value.none):=by
  unfold rA;rw[e2];refine iU fun i hi=>?_;have hi':=(jv c its.length).mem hi;obtain⟨u,hu,ru⟩:=r'.get (List.getElem?_eq_getElem (by omega:i<ys.length))
  rw[List.getD_eq_getElem?_getD,List.getD_eq_getElem?_getD,hu,List.getElem?_eq_getElem (by omega:i<ys.length)]
  exact ru
 have hl2:(rA ys c).length<=sizeLine:=by
  have a:=(jv c ys.length).size_eq;have b:64<=sizeLine:=by rw[sizeLine_eq];omega
  simp[rA] at a ⊢;omega
 refine sQ (c:=c) (b:=true) g gc gd (fun h2 A' hA=>?_) (by omega) ⟨.ref (s.heap.objs.size+1),_,I.laid (t':=s.toks) (fun b o e=>sortedAll_old e) (Nat.le_succ _) (show bV X.prog X.w _ _ _ (.lst (rA ys c)) from ⟨hl2,_,e,hv,he⟩),rfl,q _ (I.hok.fresh (Nat.le_succ _))⟩
 obtain⟨hk,hc⟩:=hr (by omega)
 exact C2 I (n:=90) (by omega) hk hdp hd r' hc hl
structure Srt(W:List D)(key:D->List Int)(k:Bool):Prop where
 row:∀d∈W,o7 k d
 cmp:∀d∈W,∀e∈W,cmD d e=true
 lt:∀d∈W,∀e∈W,ltD d e=bX (key d) (key e)
noncomputable def AR:AC:=fun xs Z Q=>∃(ws:List (List Int)),xs=[.d (.tup (ws.map wdD))]/\(∀y∈ws,y≠[])/\ws.length<64/\Q (.d (.lst ((eR ws).map wdD))) Z
theorem uL:∀a b:List Int,jj (a.map D.int) (b.map D.int)=true
 | [],_=>by simp[jj]
 |_::_,[]=>by simp[jj]
 |x::xs,y::ys=>by
  simp only[List.map_cons,jj];split
  ·exact uL xs ys
  ·rfl
theorem u5:∀a b:List Int,iX (a.map D.int) (b.map D.int)=bX a b
 | [],[]=>rfl
 | [],_::_=>rfl
 |_::_,[]=>rfl
 |x::xs,y::ys=>by
  simp only[List.map_cons,iX,bX,d7];by_cases h:x=y
  ·rw[if_pos (by simpa using h),if_pos h,u5 xs ys]
  ·rw[if_neg (by simpa using h),if_neg h]
   rfl
theorem pA(ws:List (List Int)){i:Nat}(h:i<ws.length):(ws.map wdD).getD i .non=wdD (ws.getD i []):=by
 rw[List.getD_eq_getElem?_getD,List.getD_eq_getElem?_getD,List.getElem?_map,List.getElem?_eq_getElem h];rfl
theorem wW{K:W.Frag}:jg (xq K) AR:=⟨fun F H Z vs xs Q Q' rp rv ⟨ws,e1,e2,e3,q⟩ k=>by
 subst e1;obtain⟨v,rfl,r⟩:=fP rv;simp only[RV,Dat] at r;obtain⟨a,us,rfl,z1,z2⟩:=r;refine⟨a,us,ws.map wdD,fun i j=>ltZ (ws.getD i []) (ws.getD j []),false,rfl,.inr (.inl (.inl (aL _ _ z1))),z2.same aL,fun _=>⟨fun d hd=>?_,fun d hd e he=>?_⟩,by have:=bZ ws;omega,fun i j hi hj=>?_,by rw[List.length_map];exact e3,k.lst rp ?_ q⟩
 ·obtain⟨y,hy,rfl⟩:=List.mem_map.mp hd
  obtain⟨x,xr,rfl⟩:=List.exists_cons_of_ne_nil (e2 y hy);exact⟨xr.map D.int,.inr ⟨rfl,x,rfl⟩⟩
 ·obtain⟨y,_,rfl⟩:=List.mem_map.mp hd
  obtain⟨z,_,rfl⟩:=List.mem_map.mp he;exact uL y z
 ·rw[List.length_map] at hi hj
  rw[pA ws hi,pA ws hj];exact(jf _ _).trans (u5 _ _).symm
 ·have hl:us.length=ws.length:=by rw[z2.length,List.length_map]
  have e:rA us (fun i j=>ltZ (ws.getD i []) (ws.getD j []))=srt us ws:=by
   unfold rA srt jo dh;rw[hl]
  rw[e]
  exact pk z2⟩
end L2
namespace L2
open PySem PySem.Spec PyProof PyProof.Rows PySem.SeqAt
section
variable{K:W.Frag}{x qual:Str}{st:Stmt}{f:Addr}{fd:FuncData}
theorem Fun.Gs{p0:Str}(F:Fun K x qual st f fd)(h:∀(kV doc pm:Value)(an:Option Addr)(cdv ct:Value)(u0:Value),bindArgs (W.fnOf x qual (defArgs st) (defBody st) (defScope st) .none kV doc pm an cdv ct) ⟨[u0],[]⟩=pure ([p0].zip [u0])):bq K fd [p0] []:=
 F.binds fun a b c d e g us hl=>match us,hl with | [u0],_=>h a b c d e g u0
theorem Fun.Gq{p0 p1:Str}(F:Fun K x qual st f fd)(h:∀(kV doc pm:Value)(an:Option Addr)(cdv ct:Value)(u0 u1:Value),bindArgs (W.fnOf x qual (defArgs st) (defBody st) (defScope st) .none kV doc pm an cdv ct) ⟨[u0,u1],[]⟩=pure ([p0,p1].zip [u0,u1])):bq K fd [p0,p1] []:=
 F.binds fun a b c d e g us hl=>match us,hl with | [u0,u1],_=>h a b c d e g u0 u1
theorem Fun.Gu{p0 p1 p2:Str}(F:Fun K x qual st f fd)(h:∀(kV doc pm:Value)(an:Option Addr)(cdv ct:Value)(u0 u1 u2:Value),bindArgs (W.fnOf x qual (defArgs st) (defBody st) (defScope st) .none kV doc pm an cdv ct) ⟨[u0,u1,u2],[]⟩=pure ([p0,p1,p2].zip [u0,u1,u2])):bq K fd [p0,p1,p2] []:=
 F.binds fun a b c d e g us hl=>match us,hl with | [u0,u1,u2],_=>h a b c d e g u0 u1 u2
theorem Fun.GK{p0 p1 p2 p3:Str}(F:Fun K x qual st f fd)(h:∀(kV doc pm:Value)(an:Option Addr)(cdv ct:Value)(u0 u1 u2 u3:Value),bindArgs (W.fnOf x qual (defArgs st) (defBody st) (defScope st) .none kV doc pm an cdv ct) ⟨[u0,u1,u2,u3],[]⟩=pure ([p0,p1,p2,p3].zip [u0,u1,u2,u3])):bq K fd [p0,p1,p2,p3] []:=
 F.binds fun a b c d e g us hl=>match us,hl with | [u0,u1,u2,u3],_=>h a b c d e g u0 u1 u2 u3
end
end L2
namespace L2
open PySem PySem.Spec PyProof.Rows
end L2
namespace L2
open PySem PySem.Spec PySem.Calls PyProof.Rows PySem.W
end L2
namespace L2
open PySem PySem.Spec PyProof.Rows
structure db(K:W.Frag)(x:Str)(st:Stmt)(a:Addr)(fd:FuncData):Prop where
 g:W.nsIn K mainGlobals x=some (some (.ref a))
 f:Fun K x x st a fd
 e:W.keepIn K (.ref a)=true
theorem FE{K:W.Frag}{x:Str}{st:Stmt}{a:Addr}{oc:Value}{od an:Option Addr}{osl:Array (Option Value)}{kV doc pm cdv ct:Value}(g:W.nsIn K mainGlobals x=some (some (.ref a)))(l:K.lookup a=some ⟨oc,od,.func (W.fnOf x x (defArgs st) (defBody st) (defScope st) .none kV doc pm an cdv ct),osl⟩)(c:W.codeIn K cdv x=true)(e:W.keepIn K (.ref a)=true):db K x st a (W.fnOf x x (defArgs st) (defBody st) (defScope st) .none kV doc pm an cdv ct):=⟨g,yD l c e,e⟩
theorem fsc{N P:List Str}{sc:Scope}(a:sc.kind=.function)(b:sc.isCoroutine=false)(c:sc.isGenerator=false)(h:N.Nodup/\N.take P.length=P/\(∀x∈P,sc.names.lookup x=some .local\/sc.names.lookup x=some .cell)/\∀y∈sc.names,y.2≠.free):aN N P sc:=⟨a,b,c,h.1,h.2.1,h.2.2.1,h.2.2.2⟩
section
variable{X:Cx}
theorem fR(hg:X.A.guards=some [])(hu:X.A.units+100<cLine)(hs:(X.K.lookup sysModules).isSome=true):cm X (.builtin "repr") (fun xs H Q=>∃(x:V)(d:D),xs=[x]/\Dat H d x/\wf d=true/\(pyD d).depth<=90/\fit d=true/\wt d<=1000000/\Q (.str (kw d)) H):=by
 intro pins s σ H xs us Q I r h;obtain⟨x,d,rfl,hd,hn,hdp,hf,hw,q⟩:=h
 cases d with
 |non=>exact iF hg hu pins s σ H [x] us Q I r ⟨x,_,rfl,hd,hn,by simp[dep],hf,hw,q⟩
 |bl b=>exact iF hg hu pins s σ H [x] us Q I r ⟨x,_,rfl,hd,hn,by simp[dep],hf,hw,q⟩
 |int i=>exact iF hg hu pins s σ H [x] us Q I r ⟨x,_,rfl,hd,hn,by simp[dep],hf,hw,q⟩
 |str b=>cases hn
 |tup ds=>
  obtain⟨a,_,rfl,_⟩:=h8 hd;exact gg hg hu hs pins s σ H [.ref a] us Q I r ⟨a,_,rfl,hd,hdp,hf,hw,q⟩
 |lst ds=>
  obtain⟨a,_,rfl,_⟩:=g9 hd;exact gg hg hu hs pins s σ H [.ref a] us Q I r ⟨a,_,rfl,hd,hdp,hf,hw,q⟩
 |dk ks=>
  have h0:=hd;simp only[Dat] at h0;obtain⟨a,_,rfl,_⟩:=h0;exact gg hg hu hs pins s σ H [.ref a] us Q I r ⟨a,_,rfl,hd,hdp,hf,hw,q⟩
 |dt ks=>
  have h0:=hd;simp only[Dat] at h0;obtain⟨a,_,rfl,_⟩:=h0;exact gg hg hu hs pins s σ H [.ref a] us Q I r ⟨a,_,rfl,hd,hdp,hf,hw,q⟩
end
noncomputable def xF:AC:=fun xs Z Q=>∃x d,xs=[x]/\aS Z x=some d/\wf d=true/\(pyD d).depth<=90/\fit d=true/\wt d<=1000000/\Q (.d (.str (kw d))) Z
theorem nw(xs:List AV)(Z:Om)(Q:AV->Om->Prop):xF xs Z Q=(∃x d,xs=[x]/\aS Z x=some d/\wf d=true/\(pyD d).depth<=90/\fit d=true/\wt d<=1000000/\Q (.d (.str (kw d))) Z):=rfl
theorem kE:jg (fun xs H Q=>∃(x:V)(d:D),xs=[x]/\Dat H d x/\wf d=true/\(pyD d).depth<=90/\fit d=true/\wt d<=1000000/\Q (.str (kw d)) H) xF:=⟨fun F H Z vs xs Q Q' rp rv ⟨x,d,e1,e2,e3,h1,h2,h3,q⟩ k=>by
 subst e1;obtain⟨v,rfl,r⟩:=fP rv
 exact⟨v,d,rfl,e9 rp r e2,e3,h1,h2,h3,k.str rp q⟩⟩
noncomputable def Fv:AE:=fun _ Z Q=>Q (.d (.dk [])) Z
theorem uk(ρ:SA)(Z:Om)(Q:AV->Om->Prop):Fv ρ Z Q=Q (.d (.dk [])) Z:=rfl
theorem Ez:br yA Fv:=⟨fun F H Z σ ρ Q Q' rp rs h k p hp=>by
 obtain⟨rp2,fr2,hc⟩:=rp.lay (o:=.dK []) hp;refine k _ Z _ _ rp2 fr2 ?_ h;simp only[RV,Dat]
 exact⟨p,[],rfl,hc,rfl⟩⟩
end L2
namespace L2
open PySem PySem.Spec PyProof.Rows
open AutoSeq1 (wpAny_loadPart')
end L2
namespace L2
open PySem PySem.Spec PyProof.Rows
section
open PySem.SeqAt
open PySem.AutoSeq1 (wpAny_loadPart')
open PySem.MeetsSeq PySem.MeetsSeq2 PySem.MeetsSeq3
open HT
end
end L2
namespace L2
open PySem PySem.Spec PyProof.Rows
open PySem.Builtin.Str
noncomputable def pb(l:List Nat):Nat->List Nat->List (List Nat)
 |s,[]=>[l.drop s]
 |s,k::ks=>(l.drop s).take (k-s)::pb l (k+1) ks
end L2
namespace L2
open PySem PySem.Spec PyProof.Rows
end L2
namespace L2
open PySem PySem.Spec PySem.Calls PyProof.Rows PySem.W PySem.Builtin PySem.Builtin.ObjectAttr
section
variable{prog:Program}{w:World}{A:Around}{E:Value->Shared->Prop}{s:Shared}{K:Frag}{x C:Addr}{o:Obj}{name:Str}{v:Value}
structure Ga(h h':Heap)(e:Addr)(o:Obj)(v:Value):Prop where
 at_:∃dx,h'.get? e=some { o with dict:=some dx }/\h'.Ns1 dx (fun y=>if y=("at":Str) then some v else none)/\h.get? dx=none/\h.objs.size<=dx
 keep:∀b u,b≠e->h.get? b=some u->h'.get? b=some u
end
end L2
namespace L2
open PySem PySem.Spec PyProof.Rows PySem.W
noncomputable def enC(C n:Nat):Nat:=(C+n)*(C+n)+n
noncomputable def atM(n:Nat)(tk:Tok):Str->Option Value:=fun y=>if y=("at":Str) then some (.int n tk) else none
structure EG(h:Heap)(e dx:Addr)(n:Nat):Prop where
 ob:∃o,h.get? e=some o/\o.dict=some dx
 ns:∃tk,h.Ns1 dx (atM n tk)
noncomputable def CXn(P:Program)(w:World):CXT:=fun outer H s E e s'=>∃(a C t n dx:Addr)(H':Hp)(B:Heap),e=.ref a/\s'.os=s.os/\AllBare s'.gens/\Un (frs outer) [] H H' s.heap s'.heap/\HOk P w H' B /\
 Heap.FlyingW B outer a (.ref C) (.ref t) s'.heap/\(∀b o,s.heap.get? b=some o->H b=none->b ∉ frs outer->B.get? b=some o)/\(∀b o,s.heap.get? b=some o->b ∉ frs outer->∃o',B.get? b=some o')/\EG s'.heap a dx n/\B.get? dx=none/\dx ∉ frs outer/\E (.ref a) (some (enC C n)) H'
structure Ge(h h':Heap)(e C t n dx:Addr):Prop where
 keeps:∀b o,h.get? b=some o->h'.get? b=some o
 new:h.get? e=none
 there:h'.get? e=some ⟨.ref C,some dx,.fields #[.ref t,.none,.none,.none,.bool false,.none],#[]⟩
 dnew:h.get? dx=none
 ns:∃tk,h'.Ns1 dx (atM n tk)
end L2
namespace L2
open PySem PySem.Spec PySem.Calls PyProof.Rows PySem.W
end L2
namespace L2
open PySem PySem.Spec PySem.Calls PyProof.Rows PySem.W PySem.Builtin PySem.Builtin.ObjectAttr PySem.Builtin.Getset_descriptor
end L2
namespace L2
open PySem PySem.Spec PyProof.Rows
structure Gh(E:XK){α β:Type}(R:Hp->α->β->Prop)(t:St->Hp->(β->Hp->Prop)->Prop)(t':SA->Om->(α->Om->Prop)->(Addr->Om->Prop)->Prop):Prop where
 run:∀(F:Fs)(H:Hp)(Z:Om)(σ:St)(ρ:SA)(Q:β->Hp->Prop)(Q':α->Om->Prop)(Ex:Addr->Om->Prop),Rep F H Z->RS (cut F H Z) ρ σ->t' ρ Z Q' Ex->LP R F H Z Q' Q->LX F H Z Ex E->t σ H Q
noncomputable abbrev AEX:=SA->Om->(AV->Om->Prop)->(Addr->Om->Prop)->Prop
noncomputable abbrev AAX:=SA->Om->(List AV->Om->Prop)->(Addr->Om->Prop)->Prop
end L2
namespace L2
open PySem PySem.Spec PySem.Calls PyProof.Rows PySem.W
structure Gg(P:Program)(w:World)(K:W.Frag)(mg:Str->Option Value)(base:Heap)(H₀:Hp)(k:Nat)(f:Addr)(n:Nat)(sp:Sp):Prop where
 fn:∃(oc:Value)(od:Option Addr)(fd:FuncData) (sl:Array (Option Value)) (u:HO),H₀ f=some (.frz ⟨oc,od,.func fd,sl⟩ u)
 len:∀vs H Q E,sp vs H Q E->vs.length=n
 run:∀(A:Around)(outer:List Env)(s:Shared)(H:Hp)(us:List Value)(vs:List V)(Q:VK)(E:XK),d6 k A->sn P w K mg base A outer s H->Frz H₀ H->aH vs us->sp vs H Q E ->
  codeAny (model P w) A (.call (.ref f) ⟨us,[]⟩) (CR (CXn P w) outer P w H s Q E) s
end L2
namespace L2
open PySem PySem.Spec PyProof.Rows
open PySem.Builtin.Str
end L2
namespace L2
open PySem PySem.Spec PyProof.Rows
end L2
namespace L2
open PySem
open PySem.SetTable (below insertAt has runEnd leap bits turns)
noncomputable def iG(xs:Array Nat):Prop:=xs.toList.Pairwise (· < ·)
theorem iG.get{xs:Array Nat}(h:iG xs){i j:Nat}(hij:i<j)(hj:j<xs.size):xs.getD i 0<xs.getD j 0:=by
 have:=(List.pairwise_iff_getElem.mp h) i j (by simpa using Nat.lt_trans hij hj) (by simpa using hj) hij
 simpa[Array.getD,hj,Nat.lt_trans hij hj] using this
theorem lL{xs:Array Nat}(hr:iG xs)(j:Nat):∀(fuel lo hi:Nat),hi-lo<=fuel->lo<=hi->hi<=xs.size->(∀k,k<lo->xs.getD k 0<j)->(∀k,hi<=k->k<xs.size->j<=xs.getD k 0) ->
  below.go xs j fuel lo hi<=xs.size/\(∀k,k<below.go xs j fuel lo hi->xs.getD k 0<j)/\(∀k,below.go xs j fuel lo hi<=k->k<xs.size->j<=xs.getD k 0)
 |0,lo,hi,h1,h2,h3,h4,h5=>by
  have:lo=hi:=by omega
  subst this;exact⟨h3,h4,h5⟩
 |fuel+1,lo,hi,h1,h2,h3,h4,h5=>by
  rw[below.go];by_cases hlt:lo<hi
  ·rw[if_pos hlt]
   have hm:(lo+hi) / 2<hi:=by omega
   have hm2:lo<=(lo+hi) / 2:=by omega
   have e:xs.getD ((lo+hi) / 2) j=xs.getD ((lo+hi) / 2) 0:=by
    have:(lo+hi) / 2<xs.size:=by omega
    simp[Array.getD,this]
   dsimp only;rw[e];by_cases hc:xs.getD ((lo+hi) / 2) 0<j
   ·rw[if_pos hc]
    refine lL hr j fuel _ hi (by omega) (by omega) h3 (fun k hk=>?_) h5
    rcases Nat.lt_or_ge k ((lo+hi) / 2) with h|h
    ·exact Nat.lt_trans (hr.get h (by omega)) hc
    ·rw[show k=(lo+hi) / 2 by omega];exact hc
   ·rw[if_neg hc]
    refine lL hr j fuel lo _ (by omega) (by omega) (by omega) h4 (fun k hk hks=>?_)
    rcases Nat.lt_or_ge ((lo+hi) / 2) k with h|h
    ·exact Nat.le_of_lt (Nat.lt_of_le_of_lt (Nat.le_of_not_lt hc) (hr.get h hks))
    ·rw[show k=(lo+hi) / 2 by omega];exact Nat.le_of_not_lt hc
  ·rw[if_neg hlt]
   have:lo=hi:=by omega
   subst this;exact⟨h3,h4,h5⟩
theorem cV{xs:Array Nat}(hr:iG xs)(j:Nat):below xs j<=xs.size/\(∀k,k<below xs j->xs.getD k 0<j)/\(∀k,below xs j<=k->k<xs.size->j<=xs.getD k 0):=
 lL hr j xs.size 0 xs.size (by omega) (Nat.zero_le _) (Nat.le_refl _) (fun k h=>by omega) (fun k h1 h2=>by omega)
theorem wS{xs:Array Nat}(hr:iG xs){i:Nat}(hi:i<xs.size):below xs (xs.getD i 0)=i:=by
 obtain⟨b1,b2,b3⟩:=cV hr (xs.getD i 0);rcases Nat.lt_trichotomy (below xs (xs.getD i 0)) i with h|h|h
 ·have:=b3 (below xs (xs.getD i 0)) (Nat.le_refl _) (by omega)
  have:=hr.get h hi;omega
 ·exact h
 ·have:=b2 i h
  omega
open PySem.SetTable in
theorem fK{t:SetTable}(hr:iG t.place){i j:Nat}(h:t.place[i]?=some j):t.slot j=.live i:=by
 have hi:=(Array.getElem?_eq_some_iff.mp h).1;have e:t.place.getD i 0=j:=by simp[Array.getD,hi,(Array.getElem?_eq_some_iff.mp h).2]
 have hb:=wS hr hi;rw[e] at hb;simp only[SetTable.slot,hb,h,beq_self_eq_true,if_true]
open PySem.SetTable in
theorem lq{t:SetTable}(hr:iG t.place)(hd:t.dummies=#[]){j:Nat}(h:j ∉ t.place.toList):t.slot j=.empty:=by
 have h1:(t.place[below t.place j]? == some j)=false:=by
  rw[beq_eq_false_iff_ne];intro e;apply h;obtain⟨hi,e⟩:=Array.getElem?_eq_some_iff.mp e;rw[←e]
  simp
 have h2:has t.dummies j=false:=by rw[hd];rfl
 simp only[SetTable.slot,h1,h2,if_false,Bool.false_eq_true]
theorem tG{t:SetTable}(hr:iG t.place)(hd:t.dummies=#[])(j:Nat):(∃i,t.place[i]?=some j/\t.slot j=.live i)\/(j ∉ t.place.toList/\t.slot j=.empty):=by
 by_cases h:j∈t.place.toList
 ·obtain⟨i,hi⟩:=List.mem_iff_getElem?.mp h
  rw[Array.getElem?_toList] at hi;exact .inl ⟨i,hi,fK hr hi⟩
 ·exact .inr ⟨h,lq hr hd h⟩
noncomputable def lj(m:Nat)(p:SetTable.Probe):SetTable.Probe:=
 if p.more>0 then { p with j:=p.j+1,more:=p.more-1 } else
 { p with j:=(leap m p.i p.perturb).1,more:=runEnd m (leap m p.i p.perturb).1-(leap m p.i p.perturb).1,i:=(leap m p.i p.perturb).1,perturb:=(leap m p.i p.perturb).2 }
noncomputable def Dd(m:Nat)(h:Int):SetTable.Probe:={ j:=bits h%(m+1),more:=runEnd m (bits h%(m+1))-bits h%(m+1),i:=bits h%(m+1),perturb:=bits h,dummy:=none }
theorem sY(t:SetTable)(p:SetTable.Probe):t.advance p=lj t.mask p:=rfl
noncomputable def aD(m:Nat)(h:Int):Nat->SetTable.Probe
 |0=>Dd m h
 |n+1=>lj m (aD m h n)
theorem lU(m:Nat)(h:Int):∀n,(aD m h n).dummy=none
 |0=>rfl
 |n+1=>by
  have:=lU m h n;rw[aD,lj];split<;>exact this
noncomputable def lpP(m:Nat)(h:Int):Nat->Nat×Nat
 |0=>(bits h%(m+1),bits h)
 |k+1=>leap m (lpP m h k).1 (lpP m h k).2
noncomputable def atP(m:Nat)(q:Nat×Nat)(d:Nat):SetTable.Probe:={ j:=q.1+d,more:=runEnd m q.1-q.1-d,i:=q.1,perturb:=q.2,dummy:=none }
theorem yE(m i:Nat):runEnd m i-i<=9/\i<=runEnd m i:=by
 unfold runEnd;split<;>omega
theorem iW(m:Nat)(h:Int)(k n:Nat)(e:aD m h n=atP m (lpP m h k) 0):∀d,d<=runEnd m (lpP m h k).1-(lpP m h k).1->aD m h (n+d)=atP m (lpP m h k) d
 |0,_=>e
 |d+1,hd=>by
  have ih:=iW m h k n e d (by omega)
  rw[show n+(d+1)=(n+d)+1 by omega,aD,ih,lj]
  have:(atP m (lpP m h k) d).more>0:=by show runEnd m (lpP m h k).1-(lpP m h k).1-d>0;omega
  rw[if_pos this];simp only[atP,SetTable.Probe.mk.injEq,true_and,and_true];omega
theorem mX(m:Nat)(h:Int):∀k,∃n,n<=10*k/\aD m h n=atP m (lpP m h k) 0
 |0=>⟨0,by omega,rfl⟩
 |k+1=>by
  obtain⟨n,hn,e⟩:=mX m h k;have hr:=yE m (lpP m h k).1;refine⟨n+(runEnd m (lpP m h k).1-(lpP m h k).1)+1,by omega,?_⟩
  rw[aD,iW m h k n e _ (Nat.le_refl _),lj,if_neg (by simp[atP])]
  simp only[atP,lpP,SetTable.Probe.mk.injEq,true_and,and_true,Nat.add_zero,Nat.sub_zero]
theorem nB(m:Nat)(h:Int):∀k,(lpP m h k).2=bits h / 32^k
 |0=>by simp[lpP]
 |k+1=>by
  rw[lpP,leap,nB m h k,Nat.div_div_eq_div_mul,Nat.pow_succ]
theorem zY(h:Int):bits h<2^64:=by
 unfold bits;have h1:=Int.emod_lt_of_pos h (show (0:Int)<2^64 by decide)
 have h2:=Int.emod_nonneg h (show (2^64:Int)≠0 by decide)
 omega
theorem Aa(m:Nat)(h:Int){k:Nat}(hk:13<=k):(lpP m h k).2=0:=by
 rw[nB];refine Nat.div_eq_of_lt (Nat.lt_of_lt_of_le (zY h) ?_);exact Nat.le_trans (show 2^64<=32^13 by decide) (Nat.pow_le_pow_right (by decide) hk)
noncomputable def f5(m i:Nat):Nat:=(i*5+1)%(m+1)
noncomputable def it5(m:Nat):Nat->Nat->Nat
 |0,i=>i
 |k+1,i=>f5 m (it5 m k i)
theorem kC(m:Nat)(i:Nat):∀a b,it5 m (b+a) i=it5 m b (it5 m a i)
 |a,0=>by rw[Nat.zero_add];rfl
 |a,b+1=>by rw[show b+1+a=(b+a)+1 by omega,it5,it5,kC m i a b]
theorem sT(m:Nat)(h:Int):∀d,(lpP m h (13+d)).1=it5 m d (lpP m h 13).1
 |0=>rfl
 |d+1=>by
  rw[show 13+(d+1)=(13+d)+1 by omega,lpP,leap,Aa m h (by omega),it5,←sT m h d]
  simp[f5]
theorem gB(m:Nat)(h:Int):∀k,(lpP m h k).1<=m
 |0=>Nat.le_of_lt_succ (Nat.mod_lt _ (Nat.succ_pos m))
 |k+1=>Nat.le_of_lt_succ (Nat.mod_lt _ (Nat.succ_pos m))
noncomputable def cN:List Nat:=[7,31,127]
theorem cyc:∀m∈cN,it5 m (m+1) 0=0/\∀j,j<m+1->∃a,a<m+1/\it5 m a 0=j:=by
 have:∀m∈cN,it5 m (m+1) 0=0/\∀j∈List.range (m+1),((List.range (m+1)).any fun a=>it5 m a 0 == j)=true:=by decide +kernel
 intro m hm;refine⟨(this m hm).1,fun j hj=>?_⟩;have h:=(this m hm).2 j (List.mem_range.mpr hj);rw[List.any_eq_true] at h;obtain⟨a,ha,e⟩:=h;exact⟨a,List.mem_range.mp ha,by simpa using e⟩
theorem tP{m:Nat}(hm:m∈cN){i j:Nat}(hi:i<=m)(hj:j<=m):∃a,a<m+1/\it5 m a i=j:=by
 obtain⟨c0,c1⟩:=cyc m hm;obtain⟨a,ha,ea⟩:=c1 i (by omega)
 obtain⟨b,hb,eb⟩:=c1 j (by omega)
 rcases Nat.lt_or_ge b a with h|h
 ·refine⟨m+1+b-a,by omega,?_⟩
  rw[←ea,←kC,show m+1+b-a+a=b+(m+1) by omega,kC,c0,eb]
 ·refine⟨b-a,by omega,?_⟩
  rw[←ea,←kC,show b-a+a=b by omega,eb]
theorem yQ{m:Nat}(hm:m∈cN)(h:Int){j:Nat}(hj:j<=m):∃n,n<=10*(m+13)/\(aD m h n).j=j:=by
 obtain⟨a,ha,ea⟩:=tP hm (gB m h 13) hj;obtain⟨n,hn,e⟩:=mX m h (13+a);refine⟨n,by omega,?_⟩
 rw[e];show (lpP m h (13+a)).1+0=j;rw[sT,ea,Nat.add_zero]
theorem nQ(m:Nat)(h:Int):∀n,(aD m h n).j+(aD m h n).more<=m
 |0=>by
  have h1:=Nat.mod_lt (bits h) (show 0<m+1 by omega)
  show bits h%(m+1)+(runEnd m (bits h%(m+1))-bits h%(m+1))<=m;unfold runEnd;split<;>omega
 |n+1=>by
  have ih:=nQ m h n;rw[aD,lj];split
  ·dsimp only;omega
  ·have h1:=Nat.mod_lt ((aD m h n).i*5+1+(aD m h n).perturb / 32) (show 0<m+1 by omega)
   dsimp only;unfold runEnd leap;split<;>dsimp only at *<;>omega
end L2
namespace L2
open PySem
open PySem.SetTable (below insertAt has runEnd leap bits turns)
structure Tb(t:SetTable)(hs:List Int):Prop where
 ris:iG t.place
 dum:t.dummies=#[]
 siz:t.place.size=hs.length
 msk:t.mask∈cN
 le:∀j∈t.place.toList,j<=t.mask
 few:hs.length*5<t.mask*3
 rch:∀(i j:Nat)(h:Int),t.place[i]?=some j->hs[i]?=some h->∃n,(aD t.mask h n).j=j/\∀q,q<n->(aD t.mask h q).j∈t.place.toList
theorem oq:∀ {ys xs:List Nat},xs.Pairwise (· < ·)->ys.Pairwise (· < ·)->(∀x∈xs,x∈ys)->xs.Sublist ys
 | [],[],_,_,_=>.slnil
 | [],x::xs,_,_,h=>absurd (h x (List.mem_cons_self ..)) (by simp)
 |y::ys,[],_,_,_=>List.nil_sublist _
 |y::ys,x::xs,hx,hy,h=>by
  rw[List.pairwise_cons] at hx hy;by_cases e:x=y
  ·subst e
   refine .cons_cons _ (oq hx.2 hy.2 fun z hz=>?_);have:=hx.1 z hz;rcases List.mem_cons.mp (h z (List.mem_cons_of_mem _ hz)) with e|e
   ·omega
   ·exact e
  ·have hxy:x∈ys:=(List.mem_cons.mp (h x (List.mem_cons_self ..))).resolve_left e
   have hlt:=hy.1 x hxy;refine .cons _ (oq (List.pairwise_cons.mpr hx) hy.2 fun z hz=>?_);rcases List.mem_cons.mp hz with e1|e1
   ·rw[e1];exact hxy
   ·have:=hx.1 z e1
    rcases List.mem_cons.mp (h z (List.mem_cons_of_mem _ e1)) with e2|e2
    ·omega
    ·exact e2
theorem qG(n:Nat):(List.range n).Pairwise (· < ·):=List.pairwise_lt_range
theorem vI{L:List Nat}{m:Nat}(hr:L.Pairwise (· < ·))(hl:L.length<m+1):∃j,j<=m/\j ∉ L:=by
 apply Classical.byContradiction;intro hn;have h:∀x∈List.range (m+1),x∈L:=fun x hx=>Classical.byContradiction fun h=>hn ⟨x,by have:=List.mem_range.mp hx;omega,h⟩
 have:=(oq (qG (m+1)) hr h).length_le;rw[List.length_range] at this;omega
theorem qO{P:Nat->Prop}:∀n,P n->∃k,k<=n/\P k/\∀q,q<k->¬ P q:=by
 intro n
 induction n using Nat.strongRecOn with
 |ind n ih=>
  intro h;by_cases hq:∃q,q<n/\P q
  ·obtain⟨q,h1,h2⟩:=hq
   obtain⟨k,a,b,c⟩:=ih q h1 h2;exact⟨k,by omega,b,c⟩
  ·exact⟨n,Nat.le_refl _,h,fun q h1 h2=>hq ⟨q,h1,h2⟩⟩
theorem r6{m:Nat}(hm:m∈cN){L:List Nat}(hr:L.Pairwise (· < ·))(hl:L.length<m+1)(h:Int):∃N,N<=10*(m+13)/\(aD m h N).j ∉ L/\∀q,q<N->(aD m h q).j∈L:=by
 obtain⟨j,hj,hn⟩:=vI hr hl;obtain⟨n,h1,h2⟩:=yQ hm h hj;obtain⟨N,a,b,c⟩:=qO (P:=fun n=>(aD m h n).j ∉ L) n (by rw[h2];exact hn)
 exact⟨N,by omega,b,fun q hq=>Classical.byContradiction (c q hq)⟩
theorem Tb.GH{t:SetTable}{hs:List Int}(T:Tb t hs):t.place.toList.length<t.mask+1:=by
 have:=T.few;rw[Array.length_toList,T.siz];omega
theorem pc{t:SetTable}{hs:List Int}(T:Tb t hs){g:Nat->Int}(hg:∀(i:Nat)(h:Int),hs[i]?=some h->g i=h){h:Int}{N:Nat}(hN:(aD t.mask h N).j ∉ t.place.toList)(hb:∀q,q<N->(aD t.mask h q).j∈t.place.toList):∀(fuel n:Nat),n<=N->N<n+fuel ->
  (SetTable.probe.go t g h fuel (aD t.mask h n)=some (.empty (aD t.mask h N).j none)/\∀q,n<=q->q<N->∀i:Nat,t.place[i]?=some (aD t.mask h q).j->hs[i]?≠some h) \/
  (∃k i,n<=k/\k<N/\t.place[i]?=some (aD t.mask h k).j/\hs[i]?=some h/\SetTable.probe.go t g h fuel (aD t.mask h n)=some (.candidate (aD t.mask h k).j i (aD t.mask h (k+1)))/\∀q,n<=q->q<k->∀i:Nat,t.place[i]?=some (aD t.mask h q).j->hs[i]?≠some h)
 |0,n,h1,h2=>by omega
 |fuel+1,n,h1,h2=>by
  rw[SetTable.probe.go];rcases Nat.lt_or_ge n N with hlt|hge
  ·have hm:=hb n hlt
   obtain⟨i,hi,hsl⟩:=(tG T.ris T.dum (aD t.mask h n).j).resolve_right fun z=>z.1 hm;have his:i<hs.length:=by rw[←T.siz];exact(Array.getElem?_eq_some_iff.mp hi).1
   rw[hsl];dsimp only;have e:=hg i _ (List.getElem?_eq_getElem his);by_cases hh:hs[i]=h
   ·refine .inr ⟨n,i,Nat.le_refl _,hlt,hi,by rw[List.getElem?_eq_getElem his,hh],?_,fun q a b=>by omega⟩
    rw[if_pos (by rw[e,hh];simp)]
    rfl
   ·rw[if_neg (by rw[e];simpa using hh),sY]
    have uniq:∀i':Nat,t.place[i']?=some (aD t.mask h n).j->hs[i']?≠some h:=fun i' hi'=>by
     have h3:=fK T.ris hi';rw[hsl] at h3;injection h3 with h3;subst h3;rw[List.getElem?_eq_getElem his];intro z;injection z with z;exact hh z
    rcases pc T hg hN hb fuel (n+1) (by omega) (by omega) with⟨a,b⟩|⟨k,i',a1,a2,a3,a4,a5,a6⟩
    ·refine .inl ⟨a,fun q q1 q2 i' hi'=>?_⟩
     rcases Nat.eq_or_lt_of_le q1 with rfl|q1
     ·exact uniq i' hi'
     ·exact b q q1 q2 i' hi'
    ·refine .inr ⟨k,i',by omega,a2,a3,a4,a5,fun q q1 q2 i'' hi''=>?_⟩
     rcases Nat.eq_or_lt_of_le q1 with rfl|q1
     ·exact uniq i'' hi''
     ·exact a6 q q1 q2 i'' hi''
  ·have:n=N:=by omega
   subst this;rw[lq T.ris T.dum hN];dsimp only;rw[lU];exact .inl ⟨rfl,fun q a b=>by omega⟩
theorem bM{α:Type}(xs:Array α)(p:Nat)(x:α):(insertAt xs p x).toList=xs.toList.take p++x::xs.toList.drop p:=SetTable.toList_insertAt xs p x
theorem Bm{α:Type}{l:List α}{p:Nat}{x y:α}:y∈l.take p++x::l.drop p↔y=x\/y∈l:=by
 rw[List.mem_append,List.mem_cons]
 conv=>rhs;rw[←List.take_append_drop p l,List.mem_append]
 constructor
 ·rintro(h|h|h)
  ·exact .inr (.inl h)
  ·exact .inl h
  ·exact .inr (.inr h)
 ·rintro(h|h|h)
  ·exact .inr (.inl h)
  ·exact .inl h
  ·exact .inr (.inr h)
theorem sE{xs:Array Nat}(hr:iG xs){j:Nat}(hj:j ∉ xs.toList):(∀x∈xs.toList.take (below xs j),x<j)/\(∀x∈xs.toList.drop (below xs j),j<x):=by
 obtain⟨b1,b2,b3⟩:=cV hr j;constructor
 ·intro x hx
  obtain⟨k,hk,rfl⟩:=List.mem_iff_getElem.mp hx;rw[List.length_take] at hk;have hk2:k<xs.size:=by rw[←Array.length_toList];omega
  have:=b2 k (by omega)
  rw[List.getElem_take,Array.getElem_toList];simpa[Array.getD,hk2] using this
 ·intro x hx
  obtain⟨k,hk,rfl⟩:=List.mem_iff_getElem.mp hx;rw[List.length_drop,Array.length_toList] at hk;have hk2:below xs j+k<xs.size:=by omega
  have:=b3 (below xs j+k) (by omega) hk2
  rw[List.getElem_drop,Array.getElem_toList];have h1:j<=xs[below xs j+k]:=by simpa[Array.getD,hk2] using this
  have h2:xs[below xs j+k]≠j:=fun e=>hj (by rw[←e,←Array.getElem_toList hk2];exact List.getElem_mem _)
  omega
theorem AF{xs:Array Nat}(hr:iG xs){j:Nat}(hj:j ∉ xs.toList):iG (insertAt xs (below xs j) j):=by
 obtain⟨h1,h2⟩:=sE hr hj;unfold iG;rw[bM,List.pairwise_append,List.pairwise_cons];refine⟨hr.sublist (List.take_sublist _ _),⟨h2,hr.sublist (List.drop_sublist _ _)⟩,fun a ha b hb=>?_⟩;rcases List.mem_cons.mp hb with rfl|hb
 ·exact h1 a ha
 ·exact Nat.lt_trans (h1 a ha) (h2 b hb)
theorem lp{α:Type}{l:List α}{p i:Nat}(hp:p<=l.length){x y:α}(h:(l.take p++x::l.drop p)[i]?=some y):(i=p/\y=x)\/(i≠p/\l[if i<p then i else i-1]?=some y):=by
 have ht:(l.take p).length=p:=by rw[List.length_take];omega
 rcases Nat.lt_trichotomy i p with hi|hi|hi
 ·rw[List.getElem?_append_left (by omega),List.getElem?_take_of_lt hi] at h
  exact .inr ⟨by omega,by rw[if_pos hi];exact h⟩
 ·subst hi
  rw[List.getElem?_append_right (by omega),ht,Nat.sub_self,List.getElem?_cons_zero] at h
  injection h with h;exact .inl ⟨rfl,h.symm⟩
 ·rw[List.getElem?_append_right (by omega),ht,show i-p=(i-p-1)+1 by omega,List.getElem?_cons_succ,List.getElem?_drop,show p+(i-p-1)=i-1 by omega] at h
  exact .inr ⟨by omega,by rw[if_neg (by omega)];exact h⟩
theorem Tb.put{t:SetTable}{hs:List Int}(T:Tb t hs){h:Int}{N:Nat}(hN:(aD t.mask h N).j ∉ t.place.toList)(hb:∀q,q<N->(aD t.mask h q).j∈t.place.toList)(few:(hs.length+1)*5<t.mask*3):
  Tb (t.put (aD t.mask h N).j).1 (hs.take (t.put (aD t.mask h N).j).2++h::hs.drop (t.put (aD t.mask h N).j).2):=by
 have hp:=(cV T.ris (aD t.mask h N).j).1;have hjm:=nQ t.mask h N;generalize hj:(aD t.mask h N).j=j at *;have e1:(t.put j).1.place=insertAt t.place (below t.place j) j:=rfl;have e2:(t.put j).2=below t.place j:=rfl;have e3:(t.put j).1.mask=t.mask:=rfl;have mem:∀y,y∈(t.put j).1.place.toList↔y=j\/y∈t.place.toList:=fun y=>by rw[e1,bM];exact Bm
 refine⟨by rw[e1];exact AF T.ris hN,?_,?_,T.msk,fun y hy=>?_,?_,fun i y h' hi hh=>?_⟩
 ·show (if has t.dummies j then _ else t.dummies)=#[]
  rw[T.dum];rfl
 ·rw[e1,e2,←Array.length_toList,bM]
  have:=T.siz;have h2:t.place.toList.length=hs.length:=by rw[Array.length_toList];exact this
  simp only[List.length_append,List.length_cons,List.length_take,List.length_drop,h2]
 ·rcases(mem y).mp hy with rfl|hy
  ·show _<=t.mask;omega
  ·exact T.le y hy
 ·show _<t.mask*3
  simp only[List.length_append,List.length_cons,List.length_take,List.length_drop];rw[e2];have:=T.siz;omega
 ·rw[e1,←Array.getElem?_toList,bM] at hi
  rw[e2] at hh;have hps:below t.place j<=hs.length:=by rw[←T.siz];exact hp
  rw[e3];rcases lp (by rw[Array.length_toList];exact hp) hi with⟨i1,i2⟩|⟨i1,i2⟩
  ·rcases lp hps hh with⟨_,h2⟩|⟨h1,_⟩
   ·subst i2 h2
    exact⟨N,hj,fun q hq=>(mem _).mpr (.inr (hb q hq))⟩
   ·exact absurd i1 h1
  ·rcases lp hps hh with⟨h1,_⟩|⟨_,h2⟩
   ·exact absurd h1 i1
   ·rw[Array.getElem?_toList] at i2
    obtain⟨n,a,b⟩:=T.rch _ _ _ i2 h2;exact⟨n,a,fun q hq=>(mem _).mpr (.inr (b q hq))⟩
end L2
namespace L2
open PySem
open PySem.SetTable (below insertAt has runEnd leap bits turns layClean)
noncomputable def nsP(m:Nat)(h:Int):Nat->Nat
 |0=>0
 |k+1=>nsP m h k+(runEnd m (lpP m h k).1-(lpP m h k).1)+1
theorem oP(m:Nat)(h:Int):∀k,aD m h (nsP m h k)=atP m (lpP m h k) 0
 |0=>rfl
 |k+1=>by
  rw[nsP,aD,iW m h k _ (oP m h k) _ (Nat.le_refl _),lj,if_neg (by simp[atP])]
  simp only[atP,lpP,SetTable.Probe.mk.injEq,true_and,and_true,Nat.add_zero,Nat.sub_zero]
theorem ur(m:Nat)(h:Int)(k:Nat):∀d,nsP m h k+d<=nsP m h (k+d)
 |0=>Nat.le_refl _
 |d+1=>by
  have:=ur m h k d;rw[show k+(d+1)=(k+d)+1 by omega,nsP]
  omega
theorem qe{m:Nat}(hm:m∈cN){F:Nat->Prop}{j:Nat}(hj:j<=m)(hf:F j)(h:Int):∃N,N<nsP m h (m+15)/\F (aD m h N).j/\∀q,q<N->¬ F (aD m h q).j:=by
 obtain⟨a,ha,ea⟩:=tP hm (gB m h 13) hj
 have e:(aD m h (nsP m h (13+a))).j=j:=by
  rw[oP];show (lpP m h (13+a)).1+0=j;rw[sT,ea,Nat.add_zero]
 obtain⟨N,b,c,d⟩:=qO (P:=fun n=>F (aD m h n).j) (nsP m h (13+a)) (by rw[e];exact hf)
 have:=ur m h (13+a) (m+15-(13+a));rw[show 13+a+(m+15-(13+a))=m+15 by omega] at this
 exact⟨N,by omega,c,d⟩
noncomputable def qj(o:Array (Option Nat))(j:Nat):Prop:=∃k,o[j]?=some (some k)
theorem vc{m:Nat}{o:Array (Option Nat)}(hs:o.size=m+1){h:Int}{N:Nat}(hN:o[(aD m h N).j]?=some none)(hb:∀q,q<N->qj o (aD m h q).j):∀(fuel k:Nat),nsP m h k<=N->N<nsP m h (k+fuel) ->
  layClean.free m o fuel (lpP m h k).1 (lpP m h k).2=some (aD m h N).j
 |0,k,h1,h2=>by rw[Nat.add_zero] at h2;omega
 |fuel+1,k,h1,h2=>by
  rw[layClean.free];have hr:=yE m (lpP m h k).1;have hl:=gB m h k;have pos:∀d,d<=runEnd m (lpP m h k).1-(lpP m h k).1->(aD m h (nsP m h k+d)).j=(lpP m h k).1+d:=fun d hd=>by rw[iW m h k _ (oP m h k) d hd];rfl
  have hem:runEnd m (lpP m h k).1<=m:=by unfold runEnd;split<;>omega
  have val:∀d,d<=runEnd m (lpP m h k).1-(lpP m h k).1->∀v,o[(lpP m h k).1+d]?=some v->o.getD ((lpP m h k).1+d) (some 0)=v:=fun d hd v hv=>by
   obtain⟨hv1,hv2⟩:=Array.getElem?_eq_some_iff.mp hv;simp[Array.getD,hv1,hv2]
  by_cases hc:N<=nsP m h k+(runEnd m (lpP m h k).1-(lpP m h k).1)
  ·have hd:N-nsP m h k<=runEnd m (lpP m h k).1-(lpP m h k).1:=by omega
   have e:(List.range (runEnd m (lpP m h k).1+1-(lpP m h k).1)).find? (fun d=>(o.getD ((lpP m h k).1+d) (some 0)).isNone)=some (N-nsP m h k):=by
    rw[List.find?_range_eq_some];refine⟨?_,List.mem_range.mpr (by omega),fun d hd2=>?_⟩
    ·rw[val _ hd none (by rw[←pos _ hd,show nsP m h k+(N-nsP m h k)=N by omega];exact hN)]
     rfl
    ·obtain⟨v,hv⟩:=hb (nsP m h k+d) (by omega)
     rw[pos d (by omega)] at hv
     rw[val d (by omega) _ hv]
     rfl
   rw[e];dsimp only;rw[←pos _ hd,show nsP m h k+(N-nsP m h k)=N by omega]
  ·have e:(List.range (runEnd m (lpP m h k).1+1-(lpP m h k).1)).find? (fun d=>(o.getD ((lpP m h k).1+d) (some 0)).isNone)=none:=by
    rw[List.find?_eq_none];intro d hd2;have hd3:=List.mem_range.mp hd2;obtain⟨v,hv⟩:=hb (nsP m h k+d) (by omega)
    rw[pos d (by omega)] at hv
    rw[val d (by omega) _ hv]
    simp
   rw[e];dsimp only;exact vc hs hN hb fuel (k+1) (by rw[nsP];omega) (by rw[show k+1+fuel=k+(fuel+1) by omega];exact h2)
structure Own(m:Nat)(hs:List Int)(o:Array (Option Nat)):Prop where
 siz:o.size=m+1
 prm:(o.toList.filterMap id).Perm (List.range hs.length)
 rch:∀(j k:Nat)(h:Int),o[j]?=some (some k)->hs[k]?=some h->∃n,(aD m h n).j=j/\∀q,q<n->qj o (aD m h q).j
theorem pD{k:Nat}:∀(l:List (Option Nat)) (j:Nat),l[j]?=some none->((l.set j (some k)).filterMap id).Perm (k::l.filterMap id)
 | [],j,h=>by simp at h
 |x::l,0,h=>by
  simp only[List.getElem?_cons_zero,Option.some.injEq] at h;subst h;simp
 |x::l,j+1,h=>by
  have ih:=pD (k:=k) l j (by simpa using h)
  rw[List.set_cons_succ]
  cases x with
  |none=>simpa using ih
  |some y=>
   simp only[List.filterMap_cons,id];exact(ih.cons y).trans (List.Perm.swap ..)
theorem uG:∀(l:List (Option Nat)),(l.filterMap id).length<l.length->∃j:Nat,l[j]?=some none
 | [],h=>by simp at h
 |none::l,_=>⟨0,rfl⟩
 |some x::l,h=>by
  obtain⟨j,hj⟩:=uG l (by simp only[List.filterMap_cons,id,List.length_cons] at h;omega)
  exact⟨j+1,by simpa using hj⟩
theorem Own.step{m:Nat}(hm:m∈cN){hs:List Int}{o:Array (Option Nat)}(O:Own m hs o)(hl:hs.length<m+1)(h:Int):
  ∃j,layClean.free m o (turns m) (bits h%(m+1)) (bits h)=some j/\Own m (hs++[h]) (o.setIfInBounds j (some hs.length)):=by
 have hln:(o.toList.filterMap id).length=hs.length:=by rw[O.prm.length_eq,List.length_range]
 have hol:o.toList.length=m+1:=by rw[Array.length_toList];exact O.siz
 obtain⟨j0,hj0⟩:=uG o.toList (by omega)
 rw[Array.getElem?_toList] at hj0;have hj0m:j0<=m:=by have:=(Array.getElem?_eq_some_iff.mp hj0).1;have:=O.siz;omega
 obtain⟨N,a,b,c⟩:=qe hm (F:=fun j=>o[j]?=some none) hj0m hj0 h
 have own:∀q,q<N->qj o (aD m h q).j:=fun q hq=>by
  have hq1:(aD m h q).j<o.size:=by have:=nQ m h q;have:=O.siz;omega
  have hc:=c q hq
  cases e:o[(aD m h q).j]? with
  |none=>rw[Array.getElem?_eq_none_iff] at e;omega
  |some v=>cases v with
   |none=>exact absurd e hc
   |some k=>exact⟨k,e⟩
 refine⟨(aD m h N).j,vc O.siz b own (turns m) 0 (Nat.zero_le _) (by rw[Nat.zero_add];exact a),?_⟩
 have hlt:(aD m h N).j<o.size:=(Array.getElem?_eq_some_iff.mp b).1
 have grow:∀j,qj o j->qj (o.setIfInBounds (aD m h N).j (some hs.length)) j:=fun j ⟨k,hk⟩=>by
  by_cases e:(aD m h N).j=j
  ·rw[←e,b] at hk;cases hk
  ·exact⟨k,by rw[Array.getElem?_setIfInBounds_ne e];exact hk⟩
 refine⟨by rw[Array.size_setIfInBounds];exact O.siz,?_,fun j k h' hj hk=>?_⟩
 ·rw[Array.toList_setIfInBounds,List.length_append,List.length_singleton,List.range_succ]
  refine(pD _ _ (by rw[Array.getElem?_toList];exact b)).trans ?_
  exact(O.prm.cons _).trans (List.perm_append_singleton ..).symm
 ·by_cases e:(aD m h N).j=j
  ·subst e
   rw[Array.getElem?_setIfInBounds_self_of_lt hlt] at hj;injection hj with hj;injection hj with hj;subst hj;rw[List.getElem?_append_right (Nat.le_refl _),Nat.sub_self] at hk;injection hk with hk;subst hk;exact⟨N,rfl,fun q hq=>grow _ (own q hq)⟩
  ·rw[Array.getElem?_setIfInBounds_ne e] at hj
   have hk1:k<hs.length:=by
    have:k∈o.toList.filterMap id:=by
     rw[List.mem_filterMap];exact⟨some k,List.mem_of_getElem? (by rw[Array.getElem?_toList];exact hj),rfl⟩
    have:=(O.prm.mem_iff).mp this;exact List.mem_range.mp this
   rw[List.getElem?_append_left hk1] at hk;obtain⟨n,a,b⟩:=O.rch j k h' hj hk;exact⟨n,a,fun q hq=>grow _ (b q hq)⟩
theorem qS{m:Nat}(hm:m∈cN):∀(be done:List Int) (o:Array (Option Nat)),Own m done o->(done++be).length<m+1->∃o',Own m (done++be) o' /\
  be.foldl (fun(acc:Option (Array (Option Nat)×Nat)) h=>do
   let (owner,k) ← acc
   let j ← layClean.free m owner (turns m) (bits h%(m+1)) (bits h)
   pure (owner.setIfInBounds j (some k),k+1)) (some (o,done.length))=some (o',(done++be).length)
 | [],done,o,O,_=>⟨o,by rw[List.append_nil];exact O,by rw[List.append_nil];rfl⟩
 |h::be,done,o,O,hl=>by
  obtain⟨j,e,O'⟩:=O.step hm (by rw[List.length_append,List.length_cons] at hl;omega) h
  obtain⟨o',a,b⟩:=qS hm be (done++[h]) _ O' (by rw[List.append_assoc];exact hl)
  rw[List.append_assoc] at a b;refine⟨o',a,?_⟩;rw[List.foldl_cons];rw[List.length_append,List.length_singleton] at b;rw[List.singleton_append] at b;rw[←b]
  congr 1
  show (layClean.free m o (turns m) (bits h%(m+1)) (bits h)).bind _=_;rw[e];rfl
theorem Ax(m:Nat):Own m [] (Array.replicate (m+1) none):=by
 refine⟨by simp,?_,fun j k h hj hk=>by simp at hk⟩
 rw[Array.toList_replicate]
 have:∀n,(List.replicate n (none:Option Nat)).filterMap id=[]:=fun n=>by induction n with
  |zero=>rfl
  |succ n ih=>rw[List.replicate_succ,List.filterMap_cons];exact ih
 rw[this];exact .refl _
theorem vA{m:Nat}(hm:m∈cN){hs:List Int}(hl:hs.length<m+1):∃o,layClean m hs.toArray=some o/\Own m hs o:=by
 obtain⟨o,a,b⟩:=qS hm hs [] _ (Ax m) hl;refine⟨o,?_,a⟩;unfold layClean;rw[List.foldl_toArray];rw[List.length_nil] at b;rw[b];rfl
theorem Av{m:Nat}(hm:m∈cN){hs:List Int}(hl:hs.length*5<m*3)(fi mo:Nat)(led pl:Bool):∃t order,SetTable.laid m fi mo led pl hs.toArray=some (t,order)/\t.led=led/\t.plain=pl/\t.mask=m/\order.toList.Perm (List.range hs.length) /\
  Tb t (order.toList.map fun k=>hs.getD k 0):=by
 obtain⟨o,e,O⟩:=vA hm (hs:=hs) (by omega)
 generalize hL:((List.range (m+1)).filterMap fun j=>(o.getD j none).map fun k=>(j,k))=L
 have hmem:∀j k,(j,k)∈L↔o[j]?=some (some k):=fun j k=>by
  rw[←hL,List.mem_filterMap]
  constructor
  ·rintro⟨j',h1,h2⟩
   have hj:j'<o.size:=by rw[O.siz];exact List.mem_range.mp h1
   rw[Option.map_eq_some_iff] at h2;obtain⟨k',h3,h4⟩:=h2;injection h4 with h5 h6;subst h5 h6;rw[Array.getElem?_eq_getElem hj];simpa[Array.getD,hj] using h3
  ·intro h
   obtain⟨h1,h2⟩:=Array.getElem?_eq_some_iff.mp h;exact⟨j,List.mem_range.mpr (by rw[←O.siz];exact h1),by simp[Array.getD,h1,h2]⟩
 have hf:(L.map (·.1)).Pairwise (· < ·):=by
  rw[←hL,List.map_filterMap]
  refine List.Pairwise.filterMap _ (fun a a' haa b hb b' hb'=>?_) (qG (m+1))
  have e1:b=a:=by
   cases h:o.getD a none with
   |none=>rw[h] at hb;simp at hb
   |some k=>rw[h] at hb;simpa using hb.symm
  have e2:b'=a':=by
   cases h:o.getD a' none with
   |none=>rw[h] at hb';simp at hb'
   |some k=>rw[h] at hb';simpa using hb'.symm
  rw[e1,e2];exact haa
 have hsnd:L.map (·.2)=o.toList.filterMap id:=by
  rw[←hL,List.map_filterMap]
  have:o.toList=(List.range (m+1)).map fun j=>o.getD j none:=by
   refine List.ext_getElem? fun i=>?_;rw[Array.getElem?_toList,List.getElem?_map];by_cases hi:i<o.size
   ·rw[List.getElem?_range (by rw[←O.siz];exact hi),Array.getElem?_eq_getElem hi]
    simp[Array.getD,hi]
   ·rw[Array.getElem?_eq_none (by omega),List.getElem?_eq_none (by rw[List.length_range,←O.siz];omega)]
    rfl
  rw[this,List.filterMap_map]
  congr 1
  funext j
  simp only[Function.comp_apply,id,Option.map_map];cases o.getD j none<;>rfl
 have hlen:L.length=hs.length:=by
  have:=congrArg List.length hsnd;rw[List.length_map] at this;rw[this,O.prm.length_eq,List.length_range]
 refine⟨{ mask:=m,place:=(L.map (·.1)).toArray,dummies:=#[],finger:=fi,led:=led,moves:=mo,plain:=pl },(L.map (·.2)).toArray,?_,rfl,rfl,rfl,by show (L.map (·.2)).Perm _;rw[hsnd];exact O.prm,?_⟩
 ·unfold SetTable.laid
  rw[e];show some _=some _;rw[←hL]
 ·refine⟨hf,rfl,by simp[hlen],hm,fun j hj=>?_,by simp[hlen];exact hl,fun i j h hi hh=>?_⟩
  ·obtain⟨⟨j',k⟩,h1,h2⟩:=List.mem_map.mp hj
   have:=(Array.getElem?_eq_some_iff.mp ((hmem j' k).mp h1)).1;rw[O.siz] at this;have h2:j'=j:=h2;show j<=m;omega
  ·simp only[List.getElem?_toArray,List.getElem?_map,Option.map_eq_some_iff] at hi hh
   obtain⟨⟨j',k⟩,h1,h2⟩:=hi;obtain⟨k',⟨⟨j'',k''⟩,h3,h4⟩,h5⟩:=hh;rw[h1] at h3;injection h3 with h3;injection h3 with h3 h6;subst h2 h4 h3 h6;have hm2:=(hmem j' k).mp (List.mem_of_getElem? h1)
   have hk:k<hs.length:=by
    have:k∈o.toList.filterMap id:=by
     rw[←hsnd]
     exact List.mem_map.mpr ⟨(j',k),List.mem_of_getElem? h1,rfl⟩
    exact List.mem_range.mp ((O.prm.mem_iff).mp this)
   have hg:hs[k]?=some h:=by
    rw[List.getElem?_eq_getElem hk];rw[List.getD_eq_getElem?_getD,List.getElem?_eq_getElem hk] at h5;exact congrArg some h5
   obtain⟨n,a,b⟩:=O.rch j' k h hm2 hg;refine⟨n,a,fun q hq=>?_⟩;obtain⟨k2,hk2⟩:=b q hq;exact List.mem_map.mpr ⟨(_,k2),(hmem _ _).mpr hk2,rfl⟩
end L2
namespace L2
open PySem PySem.Spec PyProof.Rows
open PySem.SetTable (below insertAt turns)
structure SK(prog:Program)(w:World)(K:Type)[DecidableEq K] where
 is:Heap->K->Addr->Prop
 hash:K->Int
 draws:K->Nat
 frame:∀ {h h':Heap} {k:K} {b:Addr},is h k b->(∀c o,h.get? c=some o->o.cls=.type "tuple"->h'.get? c=some o)->is h' k b
 pyHash:∀ {A:Around} {E:Value->Shared->Prop} {s:Shared} {Q:Int->Shared->Prop} {k:K} {b:Addr},A.units+100<cLine->is s.heap k b->Q (hash k) { s with toks:=s.toks+draws k }->wpAny (model prog w) A (pyHash (.ref b)) Q E s
 eqBool:∀ {A:Around} {E:Value->Shared->Prop} {s:Shared} {Q:Bool->Shared->Prop} {k l:K} {a b:Addr},A.units+100<cLine->is s.heap k a->is s.heap l b->Q (decide (k=l)) s->wpAny (model prog w) A (PySem.eqBool (.ref a) (.ref b)) Q E s
 quiet:∀ {A:Around} {E:Value->Shared->Prop} {s:Shared} {Q:Bool->Shared->Prop} {k:K} {b:Addr},is s.heap k b->Q true s->wpAny (model prog w) A (eqIsQuiet 8 (.ref b)) Q E s
 noCl:∀ {A:Around} {E:Value->Shared->Prop} {s:Shared} {Q:Bool->Shared->Prop} {k:K} {b:Addr},is s.heap k b->Q false s->wpAny (model prog w) A (ofAClassStatement 8 (.ref b)) Q E s
 byV:∀ {A:Around} {E:Value->Shared->Prop} {s:Shared} {Q:Bool->Shared->Prop} {k:K} {b:Addr},is s.heap k b->Q true s->wpAny (model prog w) A (hashByValue 8 (.ref b)) Q E s
section
variable{prog:Program}{w:World}{K:Type}[DecidableEq K](knd:SK prog w K)
inductive Els (h:Heap):List (Int×Value)->List K->Prop
 |nil:Els h [] []
 |cons {k:K} {b:Addr} {l:List (Int×Value)} {ks:List K}:knd.is h k b->Els h l ks->Els h ((knd.hash k,.ref b)::l) (k::ks)
variable{knd}
theorem Els.len{h:Heap}{l:List (Int×Value)}{ks:List K}(e:Els knd h l ks):l.length=ks.length:=by
 induction e with
 |nil=>rfl
 |cons _ _ ih=>simp[ih]
theorem Els.frame{h h':Heap}{l:List (Int×Value)}{ks:List K}(e:Els knd h l ks)(f:∀c o,h.get? c=some o->o.cls=.type "tuple"->h'.get? c=some o):Els knd h' l ks:=by
 induction e with
 |nil=>exact .nil
 |cons x _ ih=>exact .cons (knd.frame x f) ih
theorem Els.get{h:Heap}{l:List (Int×Value)}{ks:List K}(e:Els knd h l ks):∀ {i:Nat} {k:K},ks[i]?=some k->∃b,l[i]?=some (knd.hash k,.ref b)/\knd.is h k b:=by
 induction e with
 |nil=>intro i k hi;simp at hi
 | @cons k0 b l ks x _ ih=>
  intro i k hi
  cases i with
  |zero=>cases hi;exact⟨b,rfl,x⟩
  |succ i=>exact ih hi
theorem Els.take{h:Heap}{l:List (Int×Value)}{ks:List K}(e:Els knd h l ks):∀n,Els knd h (l.take n) (ks.take n):=by
 induction e with
 |nil=>intro n;simp;exact .nil
 |cons x _ ih=>
  intro n
  cases n with
  |zero=>exact .nil
  |succ n=>exact .cons x (ih n)
theorem Els.drop{h:Heap}{l:List (Int×Value)}{ks:List K}(e:Els knd h l ks):∀n,Els knd h (l.drop n) (ks.drop n):=by
 induction e with
 |nil=>intro n;simp;exact .nil
 |cons x y ih=>
  intro n
  cases n with
  |zero=>exact .cons x y
  |succ n=>exact ih n
theorem Els.app{h:Heap}{l l':List (Int×Value)}{ks ks':List K}(e:Els knd h l ks)(e':Els knd h l' ks'):Els knd h (l++l') (ks++ks'):=by
 induction e with
 |nil=>exact e'
 |cons x _ ih=>exact .cons x ih
theorem Els.hashes{h:Heap}{l:List (Int×Value)}{ks:List K}(e:Els knd h l ks):l.map (·.1)=ks.map knd.hash:=by
 induction e with
 |nil=>rfl
 |cons _ _ ih=>simp[ih]
theorem Els.pick{h:Heap}{l:List (Int×Value)}{ks:List K}(e:Els knd h l ks):∀(ns:List Nat),(∀n∈ns,n<ks.length)->Els knd h (ns.filterMap (l[·]?)) (ns.filterMap (ks[·]?))
 | [],_=>.nil
 |n::ns,hn=>by
  have h1:=Els.pick e ns fun m hm=>hn m (List.mem_cons_of_mem _ hm);have hk:=List.getElem?_eq_getElem (hn n (List.mem_cons_self ..));obtain⟨b,h3,h4⟩:=e.get hk;rw[List.filterMap_cons,h3,List.filterMap_cons,hk];exact .cons h4 h1
variable(knd) in
noncomputable def iD(h:Heap)(a:Addr)(led:Bool)(ks:List K):Prop:=∃o es ep t,h.get? a=some o/\o.ExactSet/\o.data=.set es ep t/\t.led=led/\t.plain=true/\Tb t (ks.map knd.hash)/\Els knd h es.toList ks/\ks.Nodup
theorem Tb.fits{t:SetTable}{hs:List Int}(T:Tb t hs):t.fits hs.length=true:=by
 have:=T.few;have h2:=T.siz;simp only[SetTable.fits,SetTable.fill,T.dum,Bool.and_eq_true,beq_iff_eq,decide_eq_true_eq];refine⟨h2,?_⟩;show t.place.size+0<=t.mask;omega
theorem Tb.GL{t:SetTable}{hs:List Int}(T:Tb t hs):t.gaveWay=false:=by
 have:∀m∈cN,(m%2 == 0)=false:=by decide
 exact this _ T.msk
variable{A:Around}{E:Value->Shared->Prop}{s:Shared}
theorem Ak{k:K}{b:Addr}(hb:knd.is s.heap k b):∀ {l:List (Int×Value)} {ks:List K},Els knd s.heap l ks->∀ {Q:Bool->Shared->Prop},Q false s->wpAny (model prog w) A (searchCouldBeSeen (.ref b) (l.map (·.2))) Q E s:=by
 intro l ks el Q q;unfold searchCouldBeSeen;refine wpAny_bind ?_;refine wpAny_forIn_list _ (fun be r s'=>r.1=none/\s'=s/\∃l ks,be=l.map (·.2)/\Els knd s.heap l ks) _ ?_ ?_ _ _ ⟨rfl,rfl,l,ks,rfl,el⟩
 ·rintro v be r s' ⟨hr,rfl,l,ks,hl,el⟩
  cases el with
  |nil=>simp at hl
  | @cons k' b' l ks x el=>
   simp only[List.map_cons,List.cons.injEq] at hl;obtain⟨rfl,rfl⟩:=hl;dsimp only;split
   ·exact wpAny_pure ⟨rfl,rfl,l,ks,rfl,el⟩
   ·refine wpAny_bind (knd.quiet hb ?_)
    simp only[Bool.not_true,Bool.false_eq_true,if_false];refine wpAny_bind (knd.quiet x ?_);simp only[Bool.not_true,Bool.false_eq_true,if_false];refine wpAny_bind (knd.noCl hb ?_);simp only[Bool.false_eq_true,if_false];refine wpAny_bind (knd.noCl x ?_);simp only[Bool.false_eq_true,if_false];exact wpAny_pure ⟨rfl,rfl,l,ks,rfl,el⟩
 ·rintro⟨r1,r2⟩ s' ⟨hr,rfl,_⟩
  simp only at hr;subst hr;exact wpAny_pure q
end
section
variable{prog:Program}{w:World}{K:Type}[DecidableEq K]{knd:SK prog w K}{A:Around}{E:Value->Shared->Prop}{s:Shared}
noncomputable def F4(t:SetTable)(ks:List K)(hash:K->Int)(k:K)(r:SetFound):Prop:=
 (k∈ks/\r=.there none)\/(k ∉ ks/\∃N,(aD t.mask (hash k) N).j ∉ t.place.toList/\(∀q,q<N->(aD t.mask (hash k) q).j∈t.place.toList)/\r=.free (aD t.mask (hash k) N).j false)
theorem nH{a b:Addr}{k:K}{ks:List K}{o:Obj}{es:Array (Int×Value)}{ep:Nat}{t:SetTable}{Q:SetFound->Shared->Prop}(hu:A.units+100<cLine)(hb:knd.is s.heap k b)(ho:s.heap.get? a=some o)(hd:o.data=.set es ep t)(T:Tb t (ks.map knd.hash))(el:Els knd s.heap es.toList ks)(nd:ks.Nodup){N:Nat}(hN:(aD t.mask (knd.hash k) N).j ∉ t.place.toList)(hbf:∀q,q<N->(aD t.mask (knd.hash k) q).j∈t.place.toList)(hNb:N<10*turns t.mask)(q:∀r,F4 t ks knd.hash k r->Q r s):∀(fuel n:Nat)(st:Option SetTable.Probe),st.getD (t.probeStart (knd.hash k))=aD t.mask (knd.hash k) n->n<=N->N-n<fuel ->
   (∀p,p<n->∀i:Nat,t.place[i]?=some (aD t.mask (knd.hash k) p).j->ks[i]?≠some k)->wpAny (model prog w) A (setSearchFrom a (.ref b) (knd.hash k) true fuel st) Q E s
 |0,n,st,_,_,h3,_=>by omega
 |fuel+1,n,st,h1,h2,h3,h4=>by
  have hsz:es.size=ks.length:=by rw[←Array.length_toList];exact el.len
  have hf:t.fits es.size=true:=by have:=T.fits;rwa [List.length_map,←hsz] at this
  unfold setSearchFrom;refine wpAny_bind (wpAny_setState_of ho hd hf ?_);dsimp only;rw[T.GL,h1];simp only[Bool.false_eq_true,if_false]
  have P:=pc T (g:=fun i=>(es[i]?.map (·.1)).getD 0) (h:=knd.hash k) (fun i h hi=>by
   rw[List.getElem?_map,Option.map_eq_some_iff] at hi;obtain⟨k',hk',rfl⟩:=hi;obtain⟨b',h5,_⟩:=el.get hk';rw[Array.getElem?_toList] at h5
   rw[h5];rfl) hN hbf (10*turns t.mask) n h2 (by omega)
  rcases P with⟨e,nos⟩|⟨m,i,m1,m2,m3,m4,e,nos⟩
  ·erw [show SetTable.probe t (fun i=>(es[i]?.map (·.1)).getD 0) (knd.hash k) (aD t.mask (knd.hash k) n)=_ from e]
   dsimp only;refine wpAny_pure (q _ (.inr ⟨fun hk=>?_,N,hN,hbf,rfl⟩));obtain⟨i,hi⟩:=List.mem_iff_getElem?.mp hk;have hil:i<t.place.size:=by rw[T.siz,List.length_map];exact(List.getElem?_eq_some_iff.mp hi).1
   obtain⟨n',r1,r2⟩:=T.rch i _ _ (Array.getElem?_eq_getElem hil) (by rw[List.getElem?_map,hi];rfl)
   have hn':n'<N:=by
    rcases Nat.lt_trichotomy n' N with h|h|h
    ·exact h
    ·subst h;exact absurd (by rw[r1,←Array.getElem_toList hil];exact List.getElem_mem _) hN
    ·exact absurd (r2 N h) hN
   rcases Nat.lt_or_ge n' n with h|h
   ·exact h4 n' h i (by rw[r1];exact Array.getElem?_eq_getElem hil) hi
   ·exact nos n' h hn' i (by rw[r1];exact Array.getElem?_eq_getElem hil) (by rw[List.getElem?_map,hi];rfl)
  ·erw [show SetTable.probe t (fun i=>(es[i]?.map (·.1)).getD 0) (knd.hash k) (aD t.mask (knd.hash k) n)=_ from e]
   dsimp only;rw[List.getElem?_map,Option.map_eq_some_iff] at m4;obtain⟨k',hk',hhk⟩:=m4;obtain⟨b',h5,h6⟩:=el.get hk';rw[Array.getElem?_toList] at h5
   have be:wpAny (model prog w) A (do
     let some (_,y):=es[i]?|unsupported "internal:set-entry"
     let equal ← holding [y] (eqBool y (.ref b))
     let (es',_,t') ← setState a
     if true && equal then return .there none
     let some same:=t'.sameMemory t.moves t.mask|unsupported "set.changed-during-lookup:is-the-new-block-at-the-old-address"
     let still ← match (if same then t'.slot (aD t.mask (knd.hash k) m).j else .empty) with
      |.live i'=>match es'[i']? with
       |some (_,y')=>do pure (if ← isSame y' y then some i' else none)
       |none=>pure none
      |_=>pure none
     match still with
     |none=>rule "set.search.anew";setSearchFrom a (.ref b) (knd.hash k) true fuel none
     |some i'=>if equal then return .there (some i') else setSearchFrom a (.ref b) (knd.hash k) true fuel (some (aD t.mask (knd.hash k) (m+1)))) Q E s:=by
    rw[h5];dsimp only;refine wpAny_bind (wpAny_holding (knd.eqBool hu h6 hb ?_));refine wpAny_bind (wpAny_setState_of ho hd hf ?_);dsimp only;by_cases hkk:k'=k
    ·rw[decide_eq_true hkk]
     simp only[Bool.and_self,if_true];exact wpAny_pure (q _ (.inl ⟨hkk ▸ List.mem_of_getElem? hk',rfl⟩))
    ·rw[decide_eq_false hkk]
     simp only[Bool.and_false,Bool.false_eq_true,if_false];have hsm:t.sameMemory t.moves t.mask=some true:=by unfold SetTable.sameMemory;simp
     rw[hsm];dsimp only;rw[if_pos rfl,fK T.ris m3];dsimp only;rw[h5];dsimp only;refine wpAny_bind (wpAny_isSame_ref_self (wpAny_bind (wpAny_pure ?_)));simp only[if_true];refine nH hu hb ho hd T el nd hN hbf hNb q fuel (m+1) _ rfl (by omega) (by omega) fun p hp i' hi'=>?_
     rcases Nat.lt_or_ge p n with h|h
     ·exact h4 p h i' hi'
     ·rcases Nat.lt_or_ge p m with h'|h'
      ·intro z
       exact nos p h h' i' hi' (by rw[List.getElem?_map,z];rfl)
      ·obtain rfl:p=m:=by omega
       have h7:=fK T.ris m3;rw[fK T.ris hi'] at h7;injection h7 with h7;subst h7;rw[hk'];intro z;exact hkk (Option.some.inj z)
   by_cases hl:t.led=true
   ·rw[hl]
    simp only[Bool.not_true,Bool.false_eq_true,if_false];exact be
   ·rw[Bool.not_eq_true] at hl
    rw[hl];simp only[Bool.not_false,if_true];refine wpAny_bind ?_
    have hfl:∀l:List (Int×Value),∀ks:List K,Els knd s.heap l ks->∃ks',Els knd s.heap (l.filter fun e=>e.1 == knd.hash k) ks':=fun l ks h=>by
     induction h with
     |nil=>exact⟨[],.nil⟩
     | @cons k0 b0 l0 ks0 x _ ih=>
      obtain⟨ks',ih⟩:=ih;rw[List.filter_cons];split
      ·exact⟨_,.cons x ih⟩
      ·exact⟨_,ih⟩
    obtain⟨ks',hks⟩:=hfl _ _ el;rw[Array.toList_filter];refine Ak hb hks ?_;simp only[Bool.false_eq_true,if_false];exact be
end
section
variable{prog:Program}{w:World}{K:Type}[DecidableEq K]{knd:SK prog w K}{A:Around}{E:Value->Shared->Prop}{s:Shared}
theorem l8{h:Heap}{a:Addr}{o:Obj}{es:Array (Int×Value)}{ep:Nat}{t:SetTable}(es':Array (Int×Value))(t':SetTable)(ho:h.get? a=some o)(hd:o.data=.set es ep t):
  (h.update a (Obj.putSet es' t')).get? a=some { o with data:=.set es' (ep+1) t' }:=by
 have:=Heap.get?_update_self (Obj.putSet es' t') ho (by rw[putSet_of es' t' hd];rfl)
 rwa [putSet_of es' t' hd] at this
theorem iM{h h':Heap}{a:Addr}{o:Obj}(ho:h.get? a=some o)(hx:o.ExactSet)(b:Heap.SameBut a h h'):∀c o',h.get? c=some o'->o'.cls=.type "tuple"->h'.get? c=some o':=fun c o' hc ht=>by
 have:c≠a:=fun e=>by
  subst e;rw[ho] at hc;cases hc;rw[hx.1] at ht;simp at ht
 rw[b.2 c this];exact hc
theorem nL{ks:List K}{f:K->Int}:∀(ns:List Nat),(∀n∈ns,n<ks.length)->ns.map (fun i=>(ks.map f).getD i 0)=(ns.filterMap (ks[·]?)).map f
 | [],_=>rfl
 |n::ns,h=>by
  have hn:=h n (List.mem_cons_self ..);rw[List.map_cons,nL ns fun m hm=>h m (List.mem_cons_of_mem _ hm),List.filterMap_cons,List.getElem?_eq_getElem hn,List.map_cons]
  congr 1
  rw[List.getD_eq_getElem?_getD,List.getElem?_map,List.getElem?_eq_getElem hn];rfl
theorem ju{ks:List K}{ns:List Nat}(h:ns.Perm (List.range ks.length)):(ns.filterMap (ks[·]?)).Perm ks:=by
 have:=h.filterMap (ks[·]?)
 rwa [List.filterMap_getElem?_range_length] at this
theorem yq{a:Addr}{ks:List K}{o:Obj}{es:Array (Int×Value)}{ep:Nat}{t:SetTable}{m wn:Nat}{Q:Unit->Shared->Prop}(ho:s.heap.get? a=some o)(hx:o.ExactSet)(hd:o.data=.set es ep t)(hf:t.fits es.size=true)(el:Els knd s.heap es.toList ks)(nd:ks.Nodup)(hp:t.plain=true)(hw:SetTable.sizeAbove wn-1=m)(hw2:SetTable.sizeAbove wn<=sizeLine)(hm:m∈cN)(hl:ks.length*5<m*3)(q:∀h' ks',Heap.SameBut a s.heap h'->iD knd h' a t.led ks'->ks'.Perm ks->Q () { s with heap:=h' }):wpAny (model prog w) A (setRelay a wn) Q E s:=by
 unfold setRelay;refine wpAny_bind (wpAny_setState_of ho hd hf ?_);dsimp only;rw[if_neg (by omega)]
 have hsz:es.size=ks.length:=by rw[←Array.length_toList];exact el.len
 obtain⟨t',order,e,l1,l2,l3,pm,T'⟩:=Av hm (hs:=ks.map knd.hash) (by rw[List.length_map];exact hl) t.finger (t.movedTo m) t.led t.plain
 have er:t.relaid (es.map (·.1)) wn=some (t',order):=by
  unfold SetTable.relaid;rw[hw,show es.map (·.1)=(ks.map knd.hash).toArray from by rw[←el.hashes];exact Array.toList_inj.mp (by rw[Array.toList_map]),e]
 rw[List.length_map] at pm;have hlt:∀n∈order.toList,n<ks.length:=fun n hn=>List.mem_range.mp ((pm.mem_iff).mp hn);have el':=el.pick order.toList hlt
 have ee:(order.filterMap (es[·]?)).toList=order.toList.filterMap (es.toList[·]?):=by
  rw[Array.toList_filterMap]
  congr 1
  funext i
  rw[Array.getElem?_toList]
 have es':(order.filterMap (es[·]?)).size=es.size:=by
  rw[←Array.length_toList,ee,el'.len,(ju pm).length_eq,hsz]
 rw[er];refine wpAny_bind (m:=(if ((order.filterMap (es[·]?)).size != es.size)=true then (do unsupported "internal:set-table-lost-an-element";pure (order.filterMap (es[·]?),t')) else pure (order.filterMap (es[·]?),t'):Sem (Array (Int×Value)×SetTable))) ?_
 rw[if_neg (by rw[es'];simp)]
 refine wpAny_pure ?_;dsimp only;refine wpAny_storeSet_of ho hd ?_ ?_
 ·have hb:=Heap.SameBut.update s.heap a (Obj.putSet (order.filterMap (es[·]?)) t')
  refine q _ (order.toList.filterMap (ks[·]?)) hb ⟨_,_,_,t',l8 _ _ ho hd,hx,rfl,l1,by rw[l2,hp],?_,?_,(ju pm).nodup_iff.mpr nd⟩ (ju pm)
  ·rw[←nL _ hlt];exact T'
  ·rw[ee];exact el'.frame (iM ho hx hb)
 ·rw[es',hsz]
  have:∀m∈cN,m*3<=1000:=by decide
  have:=this m hm;have:(1000:Nat)<=sizeLine:=by decide
  omega
theorem rN{n m:Nat}(hm:m∈cN)(h1:n*5<m*3)(h2:m*3<=(n+1)*5)(h3:n+1<=76):∃m',m'∈cN/\SetTable.sizeAbove (SetTable.grown (n+1))-1=m'/\SetTable.sizeAbove (SetTable.grown (n+1))<=sizeLine/\(n+1)*5<m'*3:=by
 have hm':m=7\/m=31\/m=127:=by simpa[cN] using hm
 rcases hm' with rfl|rfl|rfl
 ·obtain rfl:n=4:=by omega
  exact⟨31,by decide,by decide,by decide,by decide⟩
 ·obtain rfl:n=18:=by omega
  exact⟨127,by decide,by decide,by decide,by decide⟩
 ·omega
theorem DZ{a b:Addr}{k:K}{ks:List K}{led:Bool}{Q:Bool->Shared->Prop}(hu:A.units+100<cLine)(hb:knd.is s.heap k b)(S:iD knd s.heap a led ks)(hn:ks.length+1<=76)(q:∀r h' ks',Heap.SameBut a s.heap h'->iD knd h' a led ks'->(k∈ks/\ks'=ks)\/(k ∉ ks/\ks'.Perm (k::ks))->Q r { s with heap:=h' }):wpAny (model prog w) A (setAddHashed a (.ref b) (knd.hash k)) Q E s:=by
 obtain⟨o,es,ep,t,ho,hx,hd,hled,hpl,T,el,nd⟩:=S;have hsz:es.size=ks.length:=by rw[←Array.length_toList];exact el.len
 have hf:t.fits es.size=true:=by have:=T.fits;rwa [List.length_map,←hsz] at this
 unfold setAddHashed setAddHashedIn;refine wpAny_holding (wpAny_bind (wpAny_setState_of ho hd hf ?_));dsimp only;rw[show byScan (.ref b) es=false from by simp[byScan,Value.scannable]]
 simp only[Bool.false_eq_true,if_false];have hbig:10*(t.mask+13)<100000:=(by decide:∀m∈cN,10*(m+13)<100000) _ T.msk
 obtain⟨N,n1,n2,n3⟩:=r6 T.msk T.ris T.GH (knd.hash k);refine wpAny_bind (nH hu hb ho hd T el nd n2 n3 (by unfold SetTable.turns;omega) (fun r hr=>?_) 100000 0 none rfl (Nat.zero_le _) (by omega) (fun p hp=>by omega))
 rcases hr with⟨hk,rfl⟩|⟨hk,N',m1,m2,rfl⟩
 ·dsimp only
  refine wpAny_pure ?_;have e:s={ s with heap:=s.heap }:=by cases s;rfl
  rw[e];exact q false s.heap ks (Heap.SameBut.refl a s.heap) ⟨o,es,ep,t,ho,hx,hd,hled,hpl,T,el,nd⟩ (.inl ⟨hk,rfl⟩)
 ·dsimp only
  refine wpAny_bind (wpAny_setState_of ho hd hf ?_);dsimp only;have hp1:((t.put (aD t.mask (knd.hash k) N').j).1).plain=true:=hpl;rw[hp1];simp only[if_true];refine wpAny_bind (knd.byV hb ?_);simp only[if_true]
  have hps:(t.put (aD t.mask (knd.hash k) N').j).2<=ks.length:=by
   have:=(cV T.ris (aD t.mask (knd.hash k) N').j).1;have h2:=T.siz;rw[List.length_map] at h2;show below t.place _<=_;omega
  generalize hput:t.put (aD t.mask (knd.hash k) N').j=P at *
  have hs1:(insertAt es P.2 (knd.hash k,.ref b)).size=ks.length+1:=by
   rw[←Array.length_toList,bM]
   have:=el.len;simp only[List.length_append,List.length_cons,List.length_take,List.length_drop];omega
  have hz:(100000:Nat)<=sizeLine:=by decide
  refine wpAny_bind (wpAny_storeSet_of ho hd ?_ (by rw[hs1];omega))
  have hb1:=Heap.SameBut.update s.heap a (Obj.putSet (insertAt es P.2 (knd.hash k,.ref b)) P.1);have ho1:=l8 (insertAt es P.2 (knd.hash k,.ref b)) P.1 ho hd;have fr:=iM ho hx hb1
  have el1:Els knd (s.heap.update a (Obj.putSet (insertAt es P.2 (knd.hash k,.ref b)) P.1)) (insertAt es P.2 (knd.hash k,.ref b)).toList (ks.take P.2++k::ks.drop P.2):=by
   rw[bM];exact((el.take P.2).app (.cons hb (el.drop P.2))).frame fr
  have pm:(ks.take P.2++k::ks.drop P.2).Perm (k::ks):=by
   have:=List.perm_middle (a:=k) (l₁:=ks.take P.2) (l₂:=ks.drop P.2)
   rwa [List.take_append_drop] at this
  have nd1:(ks.take P.2++k::ks.drop P.2).Nodup:=pm.nodup_iff.mpr (List.nodup_cons.mpr ⟨hk,nd⟩);have few:=T.few;rw[List.length_map] at few
  have hpl1:P.1.place.size=ks.length+1:=by
   have h2:=T.siz;rw[List.length_map] at h2;rw[←hput]
   show (insertAt t.place _ _).size=_;rw[←Array.length_toList,bM]
   have:=(cV T.ris (aD t.mask (knd.hash k) N').j).1;simp only[List.length_append,List.length_cons,List.length_take,List.length_drop,Array.length_toList];omega
  have hdm:P.1.dummies=#[]:=by
   rw[←hput]
   show (if SetTable.has t.dummies _ then _ else t.dummies)=#[]
   rw[T.dum];rfl
  have hmk:P.1.mask=t.mask:=by rw[←hput];rfl
  have hfill:P.1.fill=ks.length+1:=by unfold SetTable.fill;rw[hpl1,hdm];rfl
  by_cases hfull:P.1.tooFull=true
  ·rw[hfull]
   simp only[Bool.not_false,Bool.and_self,if_true]
   have hge:t.mask*3<=(ks.length+1)*5:=by
    unfold SetTable.tooFull at hfull;rw[hfill,hmk] at hfull;simpa using hfull
   obtain⟨m',g1,g2,g3,g4⟩:=rN T.msk few hge hn;have e1:es.size+1=ks.length+1:=by rw[hsz]
   rw[e1];refine wpAny_bind (yq (s:={ s with heap:=_ }) ho1 hx rfl ?_ el1 nd1 hp1 g2 g3 g1 (by rw[pm.length_eq,List.length_cons];exact g4) fun h' ks' hb2 S2 pm2=>?_)
   ·rw[hs1]
    unfold SetTable.fits;rw[hpl1,hfill,hmk];simp only[beq_self_eq_true,Bool.true_and,decide_eq_true_eq];have:∀m∈cN,7<=m:=by decide
    have:=this _ T.msk;omega
   ·refine wpAny_pure (q true h' ks' (hb1.trans hb2) ?_ (.inr ⟨hk,pm2.trans pm⟩))
    have hl2:P.1.led=led:=by rw[←hput];exact hled
    rwa [hl2] at S2
  ·rw[Bool.not_eq_true] at hfull
   rw[hfull];simp only[Bool.and_false,Bool.false_eq_true,if_false]
   have hlt:(ks.length+1)*5<t.mask*3:=by
    unfold SetTable.tooFull at hfull;rw[hfill,hmk] at hfull;simpa using hfull
   refine wpAny_pure (q true _ (ks.take P.2++k::ks.drop P.2) hb1 ⟨_,_,_,P.1,ho1,hx,rfl,by rw[←hput];exact hled,hp1,?_,el1,nd1⟩ (.inr ⟨hk,pm⟩))
   have:=T.put m1 m2 (by rw[List.length_map];exact hlt)
   rw[hput] at this;rw[List.map_append,List.map_cons,List.map_take,List.map_drop];exact this
end
end L2
set_option maxRecDepth 1000000
set_option maxHeartbeats 4000000
namespace L2
open PySem PySem.Spec PyProof.Rows
open PySem.SetTable (below)
theorem iY:Manifest.owners.lookup (String.ofList ['r','o','t','a','r','e','t','i','_','t','e','s'].reverse)=some Manifest.sig_set_iterator:=by kernel_rfl
theorem b8:Slot "set_iterator" "__next__" "set_iterator.__next__":=
 .of (owner:="set_iterator") (n:="__next__") (by rw[typeLookup_type,builtinLookup_eq_fast];kernel_rfl) (by decide +kernel) (by decide +kernel) (by decide +kernel)
  (by first|exact .inl (by decide +kernel)|exact .inr (by decide +kernel)) (by rw[isSubtype_type];kernel_rfl)
theorem gF:entryFor table "set_iterator.__next__"=some Builtin.«set_iterator.__next__»:=entryFor_of_tree (by kernel_rfl)
theorem io(a:Value):argsOk "set_iterator.__next__" ⟨[a],[]⟩:=by
 unfold argsOk;rw[signature?_of (id:="set_iterator.__next__") (n:=['_','_','t','x','e','n','_','_']) (o:=['r','o','t','a','r','e','t','i','_','t','e','s']) (by kernel_rfl) iY];kernel_rfl
theorem lG{α:Type}:∀(l:List α)(i:Nat)(h:i<l.length),(l[i]::l.eraseIdx i).Perm l
 |a::l,0,_=>.refl _
 |a::l,i+1,h=>by
  have ih:=lG l i (by simpa using h)
  rw[List.eraseIdx_cons_succ];exact(List.Perm.swap ..).trans (ih.cons a)
theorem uv{α:Type}(f:Nat->Nat):∀(fuel k:Nat)(left:List α)(out:Array α),left.length<=fuel->(pickOrder.go f fuel k left out).toList.Perm (out.toList++left)
 |0,k,left,out,h=>by
  have:left=[]:=List.length_eq_zero_iff.mp (by omega)
  subst this;rw[List.append_nil];exact .refl _
 |fuel+1,k,left,out,h=>by
  rw[pickOrder.go]
  cases e:left[f k%left.length]? with
  |none=>
   dsimp only
   have:left=[]:=by
    rw[List.getElem?_eq_none_iff] at e
    cases left with
    |nil=>rfl
    |cons a l=>have:=Nat.mod_lt (f k) (show 0<(a::l).length by simp);omega
   subst this;simp
  |some x=>
   dsimp only;have hlt:=(List.getElem?_eq_some_iff.mp e).1;have hx:=(List.getElem?_eq_some_iff.mp e).2;have ih:=uv f fuel (k+1) (left.eraseIdx (f k%left.length)) (out.push x) (by rw[List.length_eraseIdx_of_lt hlt];omega)
   rw[Array.toList_push,List.append_assoc] at ih;refine ih.trans (List.Perm.append_left _ ?_);have:=lG left _ hlt;rw[hx] at this;exact this
theorem sj{α:Type}(f:Nat->Nat)(xs:Array α):(pickOrder f xs).toList.Perm xs.toList:=by
 have:=uv f xs.size 0 xs.toList #[] (by simp)
 simpa[pickOrder] using this
section
variable{prog:Program}{w:World}{K:Type}[DecidableEq K]{knd:SK prog w K}{A:Around}{E:Value->Shared->Prop}{s:Shared}
noncomputable def dv(w:World)(a:Addr)(es:Array (Int×Value))(ep:Nat):Array (Int×Value):=if w.params.followText "set-order"=true then pickOrder (w.params.setOrder a ep) es else es
theorem g5(w:World)(a:Addr)(es:Array (Int×Value))(ep:Nat):(dv w a es ep).toList.Perm es.toList:=by
 unfold dv;split
 ·exact sj _ _
 ·exact .refl _
noncomputable def bn(w:World)(h:Heap)(it S:Addr)(t:SetTable)(i n ep:Nat):Prop:=
 ∃(o:Obj)(sl:Nat),h.get? it=some o/\o.cls=.type "set_iterator"/\o.data=.fields #[.int sl 0,.int i 0,.ref S,.int n 0,.int ep 0]/\(w.params.followText "set-order"=false->below t.place sl=i)
theorem bn.typeIs{h:Heap}{it S:Addr}{t:SetTable}{i n ep:Nat}{s:Shared}(x:bn w s.heap it S t i n ep):s.TypeIs (.ref it) "set_iterator":=let ⟨o,_,ho,hc,_⟩:=x;⟨o,ho,hc⟩
theorem sP{xs:Array Nat}(hr:iG xs){i j:Nat}(h:xs[i]?=some j):below xs (j+1)=i+1:=by
 obtain⟨hi,hj⟩:=Array.getElem?_eq_some_iff.mp h;obtain⟨b1,b2,b3⟩:=cV hr (j+1);have e:xs.getD i 0=j:=by simp[Array.getD,hi,hj]
 rcases Nat.lt_trichotomy (below xs (j+1)) (i+1) with h1|h1|h1
 ·have:=b3 i (by omega) hi
  omega
 ·exact h1
 ·have h2:=b2 (i+1) (by omega)
  have h3:=hr.get (show i<i+1 by omega) (show i+1<xs.size by omega)
  omega
theorem lr{S:Addr}{o:Obj}{es:Array (Int×Value)}{ep i sl:Nat}{t:SetTable}{hs:List Int}{Q:Option (Value×Nat)->Shared->Prop}(ho:s.heap.get? S=some o)(hd:o.data=.set es ep t)(T:Tb t hs)(hsz:es.size=hs.length)(hled:t.led=!w.params.followText "set-order")(hpl:t.plain=true)(hbl:w.params.followText "set-order"=false->below t.place sl=i)(q1:∀e,(dv w S es ep)[i]?=some e->∀nx,(w.params.followText "set-order"=false->below t.place nx=i+1)->Q (some (e.2,nx)) s)(q2:(dv w S es ep)[i]?=none->Q none s):wpAny (model prog w) A (setNext S sl i ep) Q E s:=by
 have hf:t.fits es.size=true:=by rw[hsz];exact T.fits
 unfold setNext;refine wpAny_bind (wpAny_setState_of ho hd hf ?_);dsimp only;unfold setsByText;refine wpAny_bind (wpAny_bind (wpAny_askSetting (wpAny_pure ?_)))
 cases hft:w.params.followText "set-order" with
 |true=>
  have hw:dv w S es ep=pickOrder (w.params.setOrder S ep) es:=by unfold dv;rw[hft];rfl
  rw[show (⟨(model prog w).prog,(model prog w).w.params⟩:Setting).params.followText "set-order"=true from hft]
  simp only[if_true,bne_self_eq_false,Bool.false_eq_true,if_false];refine wpAny_bind ?_;unfold setWalk;refine wpAny_bind (wpAny_setState_of ho hd hf ?_);dsimp only;unfold setsByText;refine wpAny_bind (wpAny_bind (wpAny_askSetting (wpAny_pure ?_)));rw[show (⟨(model prog w).prog,(model prog w).w.params⟩:Setting).params.followText "set-order"=true from hft]
  simp only[if_true];refine wpAny_bind (wpAny_askSetting (wpAny_pure (wpAny_pure ?_)));show Q (((pickOrder (w.params.setOrder S ep) es)[i]?).map fun e=>(e.2,sl)) s;rw[←hw]
  cases he:(dv w S es ep)[i]? with
  |none=>exact q2 he
  |some e=>exact q1 e he sl fun z=>by rw[hft] at z;cases z
 |false=>
  have hw:dv w S es ep=es:=by unfold dv;rw[hft];rfl
  rw[show (⟨(model prog w).prog,(model prog w).w.params⟩:Setting).params.followText "set-order"=false from hft]
  simp only[Bool.false_eq_true,if_false];have hl:t.led=true:=by rw[hled,hft];rfl
  split
  ·rename_i hdr
   have:(!t.plain && decide (es.size>1))=true:=hdr;rw[hpl] at this;simp at this
  ·refine wpAny_bind ?_
   show wpAny _ _ (if (!t.led && !es.isEmpty)=true then unsupported _ else pure ()) _ _ _
   rw[hl];simp only[Bool.not_true,Bool.false_and,Bool.false_eq_true,if_false];refine wpAny_pure (wpAny_pure ?_);rw[hbl hft];have hps:t.place.size=es.size:=by rw[hsz];exact T.siz
   cases he:es[i]? with
   |none=>exact q2 (by rw[hw];exact he)
   |some e=>
    have hi:=(Array.getElem?_eq_some_iff.mp he).1;rw[Array.getElem?_eq_getElem (show i<t.place.size by omega)]
    exact q1 e (by rw[hw];exact he) _ fun _=>sP T.ris (Array.getElem?_eq_getElem (show i<t.place.size by omega))
theorem wK{it S:Addr}{o:Obj}{es:Array (Int×Value)}{ep i:Nat}{t:SetTable}{hs:List Int}{e:Int×Value}{Q:Option Value->Shared->Prop}(hit:bn w s.heap it S t i es.size ep)(ho:s.heap.get? S=some o)(hd:o.data=.set es ep t)(T:Tb t hs)(hsz:es.size=hs.length)(hled:t.led=!w.params.followText "set-order")(hpl:t.plain=true)(he:(dv w S es ep)[i]?=some e)(q:∀h',bn w h' it S t (i+1) es.size ep->Heap.SameBut it s.heap h'->Q (some e.2) { s with heap:=h' }):wpAny (model prog w) A (pyNext (.ref it)) Q E s:=by
 obtain⟨oi,sl,hoi,hci,hdi,hbl⟩:=id hit;have hf:t.fits es.size=true:=by rw[hsz];exact T.fits
 unfold pyNext
 refine wpAny_bind (wpAny_attempt (wpAny_callSpecial?_slot (name:=Str.ofString "__next__") (bn.typeIs hit (h:=s.heap)) b8
  (wpAny_call_entry b8 (bn.typeIs hit (h:=s.heap)) gF ?_ (io _))))
 unfold Builtin.«set_iterator.__next__»;refine wpAny_bind (wpAny_pure ?_);refine wpAny_bind (wpAny_fieldsOf hoi hdi ?_);dsimp only;refine wpAny_bind (wpAny_setEntries_of ho hd hf ?_);simp only[bne_self_eq_false,Bool.false_eq_true,if_false,Int.toNat_natCast];refine wpAny_bind (lr ho hd T hsz hled hpl hbl (fun e' he' nx hnx=>?_) fun z=>by rw[z] at he;cases he)
 rw[he] at he';cases he';dsimp only;have g1:(s.heap.update it (Obj.mapFields fun x=>x.setIfInBounds 0 (rawInt nx))).get? it=some (Obj.mapFields (fun x=>x.setIfInBounds 0 (rawInt nx)) oi):=Heap.get?_update_self _ hoi (Obj.isFreed_of_fields (Obj.data_mapFields hdi _));have d1:=Obj.data_mapFields hdi (fun x=>x.setIfInBounds 0 (rawInt nx));refine wpAny_bind (wpAny_setField hoi hdi (by simp) ?_)
 refine wpAny_bind (wpAny_setField g1 d1 (by simp) (wpAny_pure ⟨e.2,rfl,wpAny_pure (q _ ?_ ((Heap.SameBut.update ..).trans (Heap.SameBut.update ..)))⟩))
 refine⟨_,nx,Heap.get?_update_self _ g1 (Obj.isFreed_of_fields (Obj.data_mapFields d1 _)),?_,?_,hnx⟩
 ·rw[Obj.cls_mapFields,Obj.cls_mapFields];exact hci
 ·rw[Obj.data_mapFields d1]
  simp[rawInt]
theorem zh{it S:Addr}{o:Obj}{es:Array (Int×Value)}{ep i:Nat}{t:SetTable}{hs:List Int}{Q:Option Value->Shared->Prop}(hh:A.handled=none)(hit:bn w s.heap it S t i es.size ep)(ho:s.heap.get? S=some o)(hd:o.data=.set es ep t)(T:Tb t hs)(hsz:es.size=hs.length)(hled:t.led=!w.params.followText "set-order")(hpl:t.plain=true)(he:(dv w S es ep)[i]?=none)(q:∀h',Heap.ExtBut it s.heap h'->Q none { s with heap:=h' }):wpAny (model prog w) A (pyNext (.ref it)) Q E s:=by
 obtain⟨oi,sl,hoi,hci,hdi,hbl⟩:=id hit;have hf:t.fits es.size=true:=by rw[hsz];exact T.fits
 unfold pyNext
 refine wpAny_bind (wpAny_attempt (wpAny_callSpecial?_slot (name:=Str.ofString "__next__") (bn.typeIs hit (h:=s.heap)) b8
  (wpAny_call_entry b8 (bn.typeIs hit (h:=s.heap)) gF ?_ (io _))))
 unfold Builtin.«set_iterator.__next__»;refine wpAny_bind (wpAny_pure ?_);refine wpAny_bind (wpAny_fieldsOf hoi hdi ?_);dsimp only;refine wpAny_bind (wpAny_setEntries_of ho hd hf ?_);simp only[bne_self_eq_false,Bool.false_eq_true,if_false,Int.toNat_natCast];refine wpAny_bind (lr ho hd T hsz hled hpl hbl (fun e' he' nx hnx=>by rw[he] at he';cases he') fun z=>?_)
 dsimp only;refine wpAny_bind (wpAny_setField hoi hdi (by simp) ?_)
 show wpAny _ _ (newExc (.type "StopIteration") [] >>= _) _ _ _;refine wpAny_bind ?_;simp only[newExc,newTuple];refine wpAny_bind (wpAny_newObj_type ?_ (by size_fits))
 refine wpAny_bind (m:=firstArgMember _ _) (wpAny_of_eq (a:=Value.none) (by first|rfl|(simp only[firstArgMember];rfl)) ?_)
 refine wpAny_newObj_type ?_ (by size_fits)
 simp only[raiseNew];refine wpAny_bind (wpAny_handled ?_);rw[show A.in1.handled=none from hh]
 refine wpAny_bind (wpAny_pure (wpAny_throw ?_));refine wpAny_bind (wpAny_isInstance (T:="StopIteration") (b:=true) ⟨_,Heap.get?_push_size _ rfl,rfl⟩ isSubtype_stop ?_);exact wpAny_pure (q _ (((Heap.SameBut.update ..).extBut.push _).push _))
end
theorem mh:entryFor table "set.__iter__"=some Builtin.«frozenset.__iter__»:=entryFor_alias (id':="frozenset.__iter__") (by kernel_rfl) rfl (by decide +kernel) (by kernel_rfl)
theorem j6:Slot "set_iterator" "__iter__" "set_iterator.__iter__":=
 .of (owner:="set_iterator") (n:="__iter__") (by rw[typeLookup_type,builtinLookup_eq_fast];kernel_rfl) (by decide +kernel) (by decide +kernel) (by decide +kernel)
  (by first|exact .inl (by decide +kernel)|exact .inr (by decide +kernel)) (by rw[isSubtype_type];kernel_rfl)
theorem o5:entryFor table "set_iterator.__iter__"=some Builtin.«dict_keyiterator.__iter__»:=entryFor_alias (id':="dict_keyiterator.__iter__") (by kernel_rfl) rfl (by decide +kernel) (by kernel_rfl)
theorem qd(a:Value):argsOk "set_iterator.__iter__" ⟨[a],[]⟩:=by
 unfold argsOk;rw[signature?_of (id:="set_iterator.__iter__") (n:=['_','_','r','e','t','i','_','_']) (o:=['r','o','t','a','r','e','t','i','_','t','e','s']) (by kernel_rfl) iY];kernel_rfl
section
variable{prog:Program}{w:World}{K:Type}[DecidableEq K]{knd:SK prog w K}{A:Around}{E:Value->Shared->Prop}{s:Shared}
theorem rB{xs:Array Nat}(hr:iG xs):below xs 0=0:=by
 obtain⟨b1,b2,b3⟩:=cV hr 0;rcases Nat.eq_zero_or_pos (below xs 0) with h|h
 ·exact h
 ·have:=b2 0 h
  omega
theorem xb{S:Addr}{o:Obj}{es:Array (Int×Value)}{ep:Nat}{t:SetTable}{hs:List Int}{Q:Value->Shared->Prop}(ho:s.heap.get? S=some o)(hx:o.ExactSet)(hd:o.data=.set es ep t)(T:Tb t hs)(hsz:es.size=hs.length)(hpl:t.plain=true)(q:bn w (s.heap.push { cls:=.type "set_iterator",data:=.fields #[.int 0 0,.int 0 0,.ref S,.int es.size 0,.int ep 0] }) s.heap.objs.size S t 0 es.size ep->Q (.ref s.heap.objs.size) { s with heap:=s.heap.push { cls:=.type "set_iterator",data:=.fields #[.int 0 0,.int 0 0,.ref S,.int es.size 0,.int ep 0] } }):
  wpAny (model prog w) A (pyIter (.ref S)) Q E s:=by
 have hf:t.fits es.size=true:=by rw[hsz];exact T.fits
 have hT:s.TypeIs (.ref S) "set":=⟨o,ho,hx.1⟩;refine wpAny_pyIter_slot hT F.slot_set_iter (wpAny_call_entry F.slot_set_iter hT mh ?_ (F.args_set_iter_1 _));unfold Builtin.«frozenset.__iter__»;refine wpAny_bind (m:=Builtin.Frozenset.slot0 "__iter__" ⟨[.ref S],[]⟩) (wpAny_pure ?_);unfold Builtin.Frozenset.sizeOf;refine wpAny_bind (wpAny_bind (wpAny_setEntries_of ho hd hf (wpAny_pure ?_)));unfold setDrawn
 refine wpAny_bind (wpAny_bind (wpAny_setState_of ho hd hf ?_));dsimp only;unfold setsByText;refine wpAny_bind (wpAny_bind (wpAny_askSetting (wpAny_pure ?_)));refine wpAny_pure ?_;split
 ·rename_i hdr
  rw[Bool.and_eq_true] at hdr;have:(!t.plain && decide (es.size>1))=true:=hdr.2;rw[hpl] at this;simp at this
 ·refine wpAny_bind (wpAny_pure ?_)
  refine wpAny_bind (wpAny_bind (wpAny_setState_of ho hd hf (wpAny_pure ?_)));refine wpAny_bind (wpAny_newObj_type (wpAny_pure ⟨_,rfl,"set_iterator",_,⟨_,Heap.get?_push_size _ rfl,rfl⟩,b8.lookup,?_⟩));refine q ⟨_,0,Heap.get?_push_size _ rfl,rfl,rfl,fun _=>rB T.ris⟩
theorem vW{it S:Addr}{t:SetTable}{i n ep:Nat}{Q:Value->Shared->Prop}(hit:bn w s.heap it S t i n ep)(h:Q (.ref it) s):wpAny (model prog w) A (pyIter (.ref it)) Q E s:=by
 have hT:=bn.typeIs (s:=s) hit (h:=s.heap);refine wpAny_pyIter_slot hT j6 (wpAny_call_entry j6 hT o5 ?_ (qd _));show wpAny _ _ (ret (.ref it)) _ _ s;exact wpAny_pure ⟨_,rfl,"set_iterator",_,hT,b8.lookup,h⟩
theorem bn.keep{h h':Heap}{it S:Addr}{t:SetTable}{i n ep:Nat}(x:bn w h it S t i n ep)(e:∀o,h.get? it=some o->h'.get? it=some o):bn w h' it S t i n ep:=let ⟨o,sl,ho,r⟩:=x;⟨o,sl,e _ ho,r⟩
theorem vY(hh:A.handled=none){I S:Addr}(hne:S≠I){o:Obj}{es:Array (Int×Value)}{ep:Nat}{t:SetTable}{hs:List Int}(hd:o.data=.set es ep t)(T:Tb t hs)(hsz:es.size=hs.length)(hled:t.led=!w.params.followText "set-order")(hpl:t.plain=true):
  Walks prog w A I [I,S] [I] es.size (fun i v=>((dv w S es ep)[i]?).map (·.2)=some v) (fun i h=>bn w h I S t i es.size ep/\h.get? S=some o) where
 sub:=fun b hb=>by simp at hb;simp[hb]
 frame:=fun _ _ _ st hk=>⟨st.1.keep fun o e=>hk I (by simp) o e,hk S (by simp) o st.2⟩
 item:=fun i s Q E hi st hQ=>by
  have hwl:(dv w S es ep).size=es.size:=by rw[←Array.length_toList,(g5 w S es ep).length_eq,Array.length_toList]
  have he:=Array.getElem?_eq_getElem (show i<(dv w S es ep).size by omega)
  refine wK st.1 st.2 hd T hsz hled hpl he fun h' hit' hs'=>?_;exact hQ _ h' s.toks (by rw[he];rfl) ⟨hit',by rw[hs'.2 S hne];exact st.2⟩ fun b o hb e=>hs'.extBut b o (fun h=>hb (by simp[h])) e
 done:=fun s Q E st hQ=>by
  have hwl:(dv w S es ep).size=es.size:=by rw[←Array.length_toList,(g5 w S es ep).length_eq,Array.length_toList]
  exact zh hh st.1 st.2 hd T hsz hled hpl (Array.getElem?_eq_none (by omega)) fun h' he'=>hQ h' s.toks fun b o hb e=>he' b o (fun h=>hb (by simp[h])) e
 self:=fun _ _ _ _ st hQ=>vW st.1 hQ
theorem yu{S:Addr}{Q:Bool->Shared->Prop}(hT:s.TypeIs (.ref S) "set")(q:Q false s):wpAny (model prog w) A (Builtin.List.listLengthHint (.ref S)) Q E s:=by
 unfold Builtin.List.listLengthHint;refine wpAny_bind (wpAny_specialOf hT F.slot_set_len.lookup ?_)
 (generalize hid:("set.__len__":String)=id0;(fail_if_success (clear hid id0));wp_delta;rw[show splitId id0=some ("set","__len__") from by subst hid;decide +kernel];subst hid)
 refine wpAny_bind (wpAny_isInstance (b:=true) hT (by rw[isSubtype_type];kernel_rfl) ?_)
 rw[if_neg (by decide)]
 refine wpAny_ite_true (by decide +kernel) ?_
 refine wpAny_bind (wpAny_typeOf hT ?_);exact wpAny_pure q
end
end L2
namespace L2
open PySem PySem.Spec PyProof.Rows
section
variable{prog:Program}{w:World}{K:Type}[DecidableEq K]{knd:SK prog w K}{A:Around}{E:Value->Shared->Prop}{s:Shared}
theorem rm(hh:A.handled=none){S:Addr}{o:Obj}{es:Array (Int×Value)}{ep:Nat}{t:SetTable}{hs:List Int}{Q:List Value->Shared->Prop}(ho:s.heap.get? S=some o)(hx:o.ExactSet)(hd:o.data=.set es ep t)(T:Tb t hs)(hsz:es.size=hs.length)(hled:t.led=!w.params.followText "set-order")(hpl:t.plain=true)(q:∀s':Shared,(∀b o,s.heap.get? b=some o->s'.heap.get? b=some o)->s'.gens=s.gens->s'.drawn=s.drawn->s'.os=s.os->s.toks<=s'.toks->s.heap.objs.size<=s'.heap.objs.size->Q ((dv w S es ep).toList.map (·.2)) s'):wpAny (model prog w) A (collect (.ref S)) Q E s:=by
 have hT:∀s':Shared,s'.heap.get? S=some o->s'.TypeIs (.ref S) "set":=fun s' h=>⟨o,h,hx.1⟩;have hS:=Heap.lt_size ho;unfold collect;refine wpAny_bind (wpAny_runValue (codeAny_builtin F.entry_proto_collect ?_));rw[Around.under_plainId F.plain_proto_collect _];show wpAny _ A.in1 (newList [] >>= fun l=>again (.builtin "list.__iadd__" ⟨[l,.ref S],[]⟩)) _ _ s;refine wpAny_bind (wpAny_newObj_type ?_)
 refine wpAny_pure ⟨plainId_quiet F.plain_list_iadd _,codeAny_builtin F.entry_list_iadd ?_⟩;rw[Around.under_plainId F.plain_list_iadd _];have ho1:(s.heap.push { cls:=.type "list",data:=.seq ([]:List Value).toArray }).get? S=some o:=Heap.get?_push_of_some _ ho;have hS₁:(s.heap.push { cls:=.type "list",data:=.seq ([]:List Value).toArray }).get? s.heap.objs.size=some { cls:=.type "list",data:=.seq ([]:List Value).toArray }:=Heap.get?_push_size _ rfl
 have h1:Builtin.List.listSameRef (.ref s.heap.objs.size) (.ref S)=false:=by simp[Builtin.List.listSameRef,Nat.ne_of_gt hS]
 show wpAny _ A.in1 (Builtin.List.listExtendWith (.ref s.heap.objs.size) (.ref S) (.ref s.heap.objs.size)) _ _ _;unfold Builtin.List.listExtendWith;refine wpAny_bind (wpAny_typeOf (hT _ ho1) ?_);rw[if_neg (by rw[h1];decide)]
 refine wpAny_bind (xb ho1 hx hd T hsz hpl fun hit=>?_);have ho2:((s.heap.push { cls:=.type "list",data:=.seq ([]:List Value).toArray }).push { cls:=.type "set_iterator",data:=.fields #[.int 0 0,.int 0 0,.ref S,.int es.size 0,.int ep 0] }).get? S=some o:=Heap.get?_push_of_some _ ho1;refine wpAny_bind (wpAny_holding (yu (hT _ ho2) ?_));rw[if_pos (by decide +kernel)]
 rw[size_push'] at hit ⊢;have hne:S≠s.heap.objs.size+1:=fun e=>by rw[e] at hS;exact absurd hS (Nat.not_lt.mpr (Nat.le_succ _))
 have W:=vY (prog:=prog) (w:=w) (A:=A.in1) (by show A.handled=none;exact hh) hne hd T hsz hled hpl
 have hzz:es.size<=sizeLine:=by
  have h1:=T.few;have h2:=(by decide:∀m∈cN,m*3<=1000) _ T.msk
  have h3:(1000:Nat)<=sizeLine:=by decide
  rw[hsz];omega
 refine wpAny_bind (wpAny_rule ?_);refine wpAny_bind ?_;have hS2:((s.heap.push { cls:=.type "list",data:=.seq ([]:List Value).toArray }).push { cls:=.type "set_iterator",data:=.fields #[.int 0 0,.int 0 0,.ref S,.int es.size 0,.int ep 0] }).get? s.heap.objs.size=some { cls:=.type "list",data:=.seq ([]:List Value).toArray }:=Heap.get?_push_of_some _ hS₁;show wpAny _ A.in1 (updateSeq s.heap.objs.size (·.push .none) >>= fun _=>updateSeq s.heap.objs.size (·.pop)) _ _ _
 refine wpAny_bind (wpAny_updateSeq hS2 rfl ?_);have hS3:=Heap.get?_update_self (Obj.mapSeq (·.push Value.none)) hS2 rfl
 refine wpAny_updateSeq hS3 rfl ?_;have hS4:=Heap.get?_update_self (Obj.mapSeq (·.pop)) hS3 rfl
 generalize hH:((s.heap.push { cls:=.type "list",data:=.seq ([]:List Value).toArray }).push { cls:=.type "set_iterator",data:=.fields #[.int 0 0,.int 0 0,.ref S,.int es.size 0,.int ep 0] })=H1 at *
 have oth:∀b o,b≠s.heap.objs.size->H1.get? b=some o->((H1.update s.heap.objs.size (Obj.mapSeq (·.push Value.none))).update s.heap.objs.size (Obj.mapSeq (·.pop))).get? b=some o:=
  fun b o hb e=>(Heap.get?_update_other _ _ (Ne.symm hb)).trans ((Heap.get?_update_other _ _ (Ne.symm hb)).trans e)
 refine wpAny_pure ⟨plainId_quiet F.plain_extend_loop _,codeAny_extend_loopS W.toS hzz s.heap.objs.size (by simp;exact fun e=>Nat.ne_of_gt hS e) _ es.size 0 _ _ _ rfl (Nat.zero_le _) ⟨hit.keep fun o e=>oth _ o (by omega) e,oth _ _ (Nat.ne_of_lt hS) ho2⟩ hS4 (ItemsOf.nil _) fun s' acc' c' hm hS' hacc=>?_⟩
 show wpAny _ A (load s.heap.objs.size >>= _) _ _ s';refine wpAny_bind (wpAny_load hS' ?_);have hwl:(dv w S es ep).size=es.size:=by rw[←Array.length_toList,(g5 w S es ep).length_eq,Array.length_toList]
 have e:acc'.toList=(dv w S es ep).toList.map (·.2):=by
  refine List.ext_getElem? fun i=>?_;rw[Array.getElem?_toList,List.getElem?_map,Array.getElem?_toList];by_cases hi:i<acc'.size
  ·have:=hacc.2 i _ (Array.getElem?_eq_getElem hi)
   rw[Array.getElem?_eq_getElem hi];exact this.symm
  ·have h5:=hacc.1
   rw[Array.getElem?_eq_none (by omega),Array.getElem?_eq_none (by rw[hwl,←h5];omega)]
   rfl
 rw[←e] at q
 refine wpAny_pure (q s' (fun b o hb=>?_) ?_ ?_ ?_ ?_ (Nat.le_of_lt (Heap.lt_size hS')))
 ·have hlt:=Heap.lt_size hb
  exact hm.heap b o (fun h=>by rcases List.mem_cons.mp h with h|h;exact Nat.ne_of_lt hlt h;rw[List.mem_singleton] at h;exact Nat.ne_of_lt (Nat.lt_succ_of_lt hlt) h) (oth b o (Nat.ne_of_lt hlt) (by rw[←hH];exact Heap.get?_push_of_some _ (Heap.get?_push_of_some _ hb)))
 ·exact hm.gens
 ·exact hm.drawn
 ·exact hm.os
 ·exact hm.toks
end
section
variable{prog:Program}{w:World}{K:Type}[DecidableEq K]{knd:SK prog w K}{A:Around}{E:Value->Shared->Prop}{s:Shared}
theorem iD.frame{h h':Heap}{a:Addr}{led:Bool}{ks:List K}(x:iD knd h a led ks)(h1:∀o,h.get? a=some o->h'.get? a=some o)(h2:∀c o,h.get? c=some o->o.cls=.type "tuple"->h'.get? c=some o):iD knd h' a led ks:=by
 obtain⟨o,es,ep,t,ho,hx,hd,r1,r2,T,el,nd⟩:=x;exact⟨o,es,ep,t,h1 o ho,hx,hd,r1,r2,T,el.frame h2,nd⟩
theorem px{I S:Addr}{fp wr:List Addr}{G:Array GenState->Array GenState->Prop}{n:Nat}{items:Array Value}{St:Nat->Shared->Prop}{R:Result->Shared->Prop}{led:Bool}(W:WalksS prog w A.in1 I fp wr G n (fun i v=>items[i]?=some v) St)(hSf:S ∉ fp)(hwr:∀i (s:Shared),St i s->∀b∈wr,∀o,s.heap.get? b=some o->o.cls≠.type "tuple"){keys:List K}(hn:n=keys.length)(hn75:n<=75)(hu:A.in1.units+100<cLine):
  ∀(k i:Nat)(s:Shared)(ks:List K),n-i=k->i<=n->St i s->iD knd s.heap S led ks->(∀x,x∈ks↔x∈keys.take i)->ks.length<=i->(∀(j:Nat)(x:K),keys[j]?=some x->∃b,items[j]?=some (.ref b)/\knd.is s.heap x b) ->
   (∀s' ks',Moved (S::wr) G s s'->iD knd s'.heap S led ks'->(∀x,x∈ks'↔x∈keys)->R (.ok (.ret .none)) s') ->
   codeAny (model prog w) A (.builtin "set.update.loop" ⟨[.ref S,.ref I],[]⟩) R s:=by
 have hSw:S ∉ wr:=fun h=>hSf (W.sub _ h);have hsub:∀b∈wr,b∈S::wr:=fun b hb=>List.mem_cons_of_mem _ hb;intro k
 induction k with
 |zero=>
  intro i s ks hk hi hst hS hm _ _ hR;have hin:i=n:=by omega
  subst hin;refine codeAny_builtin F.entry_set_update_loop ?_;rw[Around.under_plainId F.plain_set_update_loop _];show wpAny _ A.in1 (pyNext (.ref I) >>= _) _ _ s;refine wpAny_bind (W.done s _ _ hst fun s' hmv=>?_);show wpAny _ A.in1 (ret Value.none) _ _ s';refine wpAny_pure (hR s' ks (hmv.mono hsub) (hS.frame (fun o e=>hmv.heap S o hSw e) fun c o e ht=>hmv.heap c o (fun hc=>hwr _ _ hst c hc o e ht) e) fun x=>?_)
  rw[hm x,hn,List.take_length]
 |succ k ih=>
  intro i s ks hk hi hst hS hm hlen hit hR;have hlt:i<n:=by omega
  obtain⟨x,hx⟩:∃x,keys[i]?=some x:=⟨_,List.getElem?_eq_getElem (by omega)⟩
  refine codeAny_builtin F.entry_set_update_loop ?_;rw[Around.under_plainId F.plain_set_update_loop _];show wpAny _ A.in1 (pyNext (.ref I) >>= _) _ _ s;refine wpAny_bind (W.item i s _ _ hlt hst fun v s' hP hst' hmv=>?_);have fr:∀c o,s.heap.get? c=some o->o.cls=.type "tuple"->s'.heap.get? c=some o:=fun c o e ht=>hmv.heap c o (fun hc=>hwr _ _ hst c hc o e ht) e;obtain⟨b,hb1,hb2⟩:=hit i x hx
  rw[hb1] at hP;cases hP;have hb:=knd.frame hb2 fr;have hS':=hS.frame (h':=s'.heap) (fun o e=>hmv.heap S o hSw e) fr;show wpAny _ A.in1 (holding [Value.ref b] (setAdd S (.ref b)) >>= _) _ _ s';refine wpAny_bind (wpAny_holding ?_);unfold setAdd;refine wpAny_holding ?_;refine wpAny_bind (knd.pyHash hu hb ?_);refine DZ (s:={ s' with toks:=s'.toks+knd.draws x }) hu hb hS' (by omega) fun r h' ks' hsb hS2 hks=>?_
  obtain⟨oS,_,_,_,hoS,hxS,_⟩:=id hS';have fr2:=iM hoS hxS hsb;refine wpAny_pure ⟨plainId_quiet F.plain_set_update_loop _,ih (i+1) _ ks' (by omega) hlt (W.frame _ s' _ _ hst' (Nat.le_add_right _ _) fun b hb o e=>?_) hS2 (fun y=>?_) ?_ (fun j y hy=>?_) fun s'' ks'' hm'' hS'' hk''=>?_⟩
  ·rw[hsb.2 b (fun h:b=S=>hSf (by rw[←h];exact hb))];exact e
  ·rw[List.take_succ,hx]
   simp only[List.mem_append,Option.toList_some,List.mem_singleton];rcases hks with⟨h1,rfl⟩|⟨h1,h2⟩
   ·rw[hm y]
    constructor
    ·exact .inl
    ·rintro(h|rfl)
     ·exact h
     ·exact(hm _).mp h1
   ·rw[h2.mem_iff,List.mem_cons,hm y]
    exact Or.comm
  ·rcases hks with⟨h1,rfl⟩|⟨h1,h2⟩
   ·omega
   ·rw[h2.length_eq,List.length_cons];omega
  ·obtain⟨c,hc1,hc2⟩:=hit j y hy
   exact⟨c,hc1,knd.frame (knd.frame hc2 fr) fr2⟩
  ·refine hR s'' ks'' (Moved.trans W.gtrans ((hmv.mono hsub).then_heap (Nat.le_add_right _ _) fun b o hb e=>?_) hm'') hS'' hk''
   rw[hsb.2 b (fun h:b=S=>hb (by rw[h];exact List.mem_cons_self))];exact e
theorem uu(a:Value){Q₁:Value->Shared->Prop}(h:Q₁ (.ref s.heap.objs.size) { s with heap:=s.heap.push { cls:=.type "set",dict:=none,data:=.set #[] 0 (.fresh 0 0 (!w.params.followText "set-order")) } }):
  codeAny (model prog w) A (.call (.builtin "set.__new__") ⟨[.type "set",a],[]⟩) (wants Q₁ E) s:=by
 refine codeAny_of_tree ?_;show wpAny _ A.in1 (do checkBuiltinCall "set.__new__" ⟨[.type "set",a],[]⟩;again (.builtin "set.__new__" ⟨[.type "set",a],[]⟩)) _ _ s
 refine wpAny_bind (wpAny_of_eq (F.newCall_set_1 a) (wpAny_pure ⟨plainId_quiet F.plain_set_new _,codeAny_builtin F.entry_set_new ?_⟩));rw[Around.under_plainId F.plain_set_new _];unfold Builtin.«set.__new__» Builtin.Frozenset.newClass;have hsub:=sub_set_self;obtain⟨hp,g,d,tk,os⟩:=s;dsimp only
 wp_walk
 refine wpAny_askSetting (wpAny_pure ?_);dsimp only;simp only[newObj];refine wpAny_bind (wpAny_alloc (wpAny_pure ?_));exact wpAny_pure h
theorem nG{a:Addr}{h:Heap}{led:Bool}(ho:h.get? a=some { cls:=.type "set",dict:=none,data:=.set #[] 0 (.fresh 0 0 led) }):iD knd h a led []:=by
 have m7:(7:Nat)∈cN:=by decide
 refine⟨_,#[],0,.fresh 0 0 led,ho,⟨rfl,rfl,rfl⟩,rfl,rfl,rfl,⟨List.Pairwise.nil,rfl,rfl,m7,fun j hj=>(by cases hj),(by show 0*5<7*3;decide),fun i j h hi=>?_⟩,.nil,List.nodup_nil⟩
 simp[SetTable.fresh] at hi
end
end L2
set_option maxHeartbeats 8000000
namespace L2
open PySem PySem.Spec PyProof.Rows
section
variable{prog:Program}{w:World}{K:Type}[DecidableEq K]{knd:SK prog w K}{A:Around}{E:Value->Shared->Prop}{s:Shared}
theorem rV{l:Addr}{items:Array Value}{keys:List K}{Q:Value->Shared->Prop}(hh:A.handled=none)(hu:A.units+120<cLine)(hl:s.heap.IsList l items)(hn:items.size=keys.length)(hn75:items.size<=75)(hi:∀(j:Nat)(x:K),keys[j]?=some x->∃b,items[j]?=some (.ref b)/\knd.is s.heap x b)
  (h:∀(h':Heap)(tk:Nat)(ks:List K),iD knd h' s.heap.objs.size (!w.params.followText "set-order") ks->(∀x,x∈ks↔x∈keys)->s.toks<=tk ->
   (∀b o,b<s.heap.objs.size->s.heap.get? b=some o->h'.get? b=some o)->Q (.ref s.heap.objs.size) { s with heap:=h',toks:=tk }) :
  wpAny (model prog w) A (call (.type "set") [.ref l]) Q E s:=by
 obtain⟨c,tl,hmro⟩:=F.called_set.mro;have hmade:=F.called_set.made;have hsub:=F.called_set.sub;refine wpAny_call (codeAny_of_tree ?_);show wpAny _ _ (callAny (.type "set") _) _ _ _;refine wpAny_pure ⟨Code.quiet_builtin _ (by decide +kernel),codeAny_builtin F.entry_type_call ?_⟩
 rw[Around.under_plain (weight_type_call_type "set" [.ref l] []) rfl];have h1:=F.called_set.notType;have h2:=F.called_set.canCreate;have hct:=F.typeCall_set_1 (.ref l)
 repeat (any_goals (first|assumption|wp_step))
 refine codeAny_mono (uu (.ref l) (E:=E) (Q₁:=fun obj s₁=>obj=.ref s.heap.objs.size/\s₁={ s with heap:=s.heap.push { cls:=.type "set",dict:=none,data:=.set #[] 0 (.fresh 0 0 (!w.params.followText "set-order")) } }) ⟨rfl,rfl⟩) fun r s₁ hr=>?_
 cases r with
 |error e=>exact hr
 |ok fl=>
  cases fl with
  |ret obj=>
   obtain⟨rfl,rfl⟩:=hr;have hS:(s.heap.push { cls:=.type "set",dict:=none,data:=.set #[] 0 (.fresh 0 0 (!w.params.followText "set-order")) }).get? s.heap.objs.size=some { cls:=.type "set",dict:=none,data:=.set #[] 0 (.fresh 0 0 (!w.params.followText "set-order")) }:=Heap.get?_push_size _ rfl;have hT:Shared.TypeIs { s with heap:=s.heap.push { cls:=.type "set",dict:=none,data:=.set #[] 0 (.fresh 0 0 (!w.params.followText "set-order")) } } (.ref s.heap.objs.size) "set":=⟨_,hS,rfl⟩
   have hli:=F.called_set.init.lookup;have hbi:=F.called_set.init.bind (.ref s.heap.objs.size)
   repeat (any_goals (first|assumption|wp_step))
   refine codeAny_mono (codeAny_call_builtin (R:=wants (fun r s₂=>r=.none/\∃h' tk ks,s₂={ s with heap:=h',toks:=tk } /\
     iD knd h' s.heap.objs.size (!w.params.followText "set-order") ks/\(∀x,x∈ks↔x∈keys)/\s.toks<=tk /\
     (∀b o,b<s.heap.objs.size->s.heap.get? b=some o->h'.get? b=some o)) E) F.called_set.init.plain F.entry_set_init (check_set_init_1 hT ?_)) fun r₂ s₂ hr₂=>?_
   ·obtain⟨ol,hol,hcl,nl,hdl⟩:=hl
    obtain⟨ocls,odict,odata,oslots⟩:=ol;simp only at hcl hdl;subst hcl;subst hdl;have hol':(s.heap.push { cls:=.type "set",dict:=none,data:=.set #[] 0 (.fresh 0 0 (!w.params.followText "set-order")) }).get? l=some { cls:=.type "list",dict:=odict,data:=.seq items nl,slots:=oslots }:=Heap.get?_push_of_some _ hol;have hsls:=F.sub_list_set;have hslf:=F.sub_list_frozenset;have hne:(Value.type "list" == Value.type "dict")=false:=by decide
    have hl1:(s.heap.push { cls:=.type "set",dict:=none,data:=.set #[] 0 (.fresh 0 0 (!w.params.followText "set-order")) }).IsList l items:=⟨_,hol',rfl,nl,rfl⟩;unfold Builtin.«set.__init__» noKeywords Builtin.Frozenset.updateFrom;generalize hPI:pyIter=PI
    wp_walk
    subst hPI;refine wpAny_pyIter_list hl1 ?_;refine wpAny_bind (wpAny_runValue ?_);have hlS:l<s.heap.objs.size:=Heap.lt_size hol;have hh3:A.in1.in1.in1.handled=none:=by simp[hh]
    have hneI:l≠(s.heap.push { cls:=.type "set",dict:=none,data:=.set #[] 0 (.fresh 0 0 (!w.params.followText "set-order")) }).objs.size:=by
     rw[Heap.size_push];exact Nat.ne_of_lt (Nat.lt_succ_of_lt hlS)
    have hSf:s.heap.objs.size ∉ [(s.heap.push { cls:=.type "set",dict:=none,data:=.set #[] 0 (.fresh 0 0 (!w.params.followText "set-order")) }).objs.size,l]:=by
     rw[Heap.size_push];simp only[List.mem_cons,List.mem_singleton,List.not_mem_nil,or_false,not_or];exact⟨Nat.ne_of_lt (Nat.lt_succ_self _),Nat.ne_of_gt hlS⟩
    have kp:∀b o,s.heap.get? b=some o->((s.heap.push { cls:=.type "set",dict:=none,data:=.set #[] 0 (.fresh 0 0 (!w.params.followText "set-order")) }).push { cls:=.type "list_iterator",data:=.fields #[.ref l,.int 0 0] }).get? b=some o:=fun b o e=>Heap.get?_push_of_some _ (Heap.get?_push_of_some _ e)
    refine px (knd:=knd) (led:=!w.params.followText "set-order") ((Walks.list hh3 _ l hneI items).toS) hSf (fun i s' st b hb o ho=>?_) hn hn75 ?_ (items.size-0) 0 _ [] (by omega) (Nat.zero_le _)
     ⟨⟨_,Heap.get?_push_size _ rfl,rfl,rfl⟩,(hl1.push _)⟩ (nG (Heap.get?_push_of_some _ hS)) (fun x=>by simp) (Nat.zero_le _) (fun j x hx=>?_) ?_
    ·rw[List.mem_singleton] at hb
     subst hb;obtain⟨⟨oi,h3,h4,_⟩,_⟩:=st;rw[h3] at ho;cases ho;rw[h4];simp
    ·show A.units+1+1+1+100<cLine
     omega
    ·obtain⟨b,h3,h4⟩:=hi j x hx
     exact⟨b,h3,knd.frame h4 fun c o e _=>kp c o e⟩
    ·intro s' ks' hm hS' hks
     obtain⟨h',g',d',tk',os'⟩:=s';have eg:g'=s.gens:=hm.gens;have ed:d'=s.drawn:=hm.drawn;have eo:os'=s.os:=hm.os;subst eg;subst ed;subst eo;show wpAny _ _ _ _ _ _;refine wpAny_pure ?_;show wpAny _ _ (ret Value.none) _ _ _;refine wpAny_pure ⟨rfl,h',tk',ks',rfl,hS',hks,hm.toks,fun b o hb e=>?_⟩;have hb1:b≠s.heap.objs.size:=Nat.ne_of_lt hb
     have hb2:b≠(s.heap.push { cls:=.type "set",dict:=none,data:=.set #[] 0 (.fresh 0 0 (!w.params.followText "set-order")) }).objs.size:=by
      rw[Heap.size_push];exact Nat.ne_of_lt (Nat.lt_succ_of_lt hb)
     exact hm.heap b o (by simp only[List.mem_cons,List.mem_singleton,List.not_mem_nil,or_false,not_or];exact⟨hb1,hb2⟩) (kp b o e)
   ·cases r₂ with
    |error e=>exact hr₂
    |ok fl₂=>
     cases fl₂ with
     |ret r=>
      obtain⟨rfl,h',tk,ks,rfl,hS',hks,htk,hk'⟩:=hr₂
      repeat (any_goals (first|assumption|wp_step))
      exact h _ _ _ hS' hks htk hk'
     |_=>exact hr₂.elim
  |_=>exact hr.elim
end
theorem mG:isSubtype (.type "tuple") (.type "set")=pure false:=by rw[isSubtype_type];kernel_rfl
theorem ig:isSubtype (.type "tuple") (.type "frozenset")=pure false:=by rw[isSubtype_type];kernel_rfl
section
variable{prog:Program}{w:World}{K:Type}[DecidableEq K]{knd:SK prog w K}{A:Around}{E:Value->Shared->Prop}{s:Shared}
theorem rS{l:Addr}{items:Array Value}{keys:List K}{Q:Value->Shared->Prop}(hh:A.handled=none)(hu:A.units+120<cLine)(hl:s.heap.IsTuple l items)(hn:items.size=keys.length)(hn75:items.size<=75)(hi:∀(j:Nat)(x:K),keys[j]?=some x->∃b,items[j]?=some (.ref b)/\knd.is s.heap x b)
  (h:∀(h':Heap)(tk:Nat)(ks:List K),iD knd h' s.heap.objs.size (!w.params.followText "set-order") ks->(∀x,x∈ks↔x∈keys)->s.toks<=tk ->
   (∀b o,b<s.heap.objs.size->s.heap.get? b=some o->h'.get? b=some o)->Q (.ref s.heap.objs.size) { s with heap:=h',toks:=tk }) :
  wpAny (model prog w) A (call (.type "set") [.ref l]) Q E s:=by
 obtain⟨c,tl,hmro⟩:=F.called_set.mro;have hmade:=F.called_set.made;have hsub:=F.called_set.sub;refine wpAny_call (codeAny_of_tree ?_);show wpAny _ _ (callAny (.type "set") _) _ _ _;refine wpAny_pure ⟨Code.quiet_builtin _ (by decide +kernel),codeAny_builtin F.entry_type_call ?_⟩
 rw[Around.under_plain (weight_type_call_type "set" [.ref l] []) rfl];have h1:=F.called_set.notType;have h2:=F.called_set.canCreate;have hct:=F.typeCall_set_1 (.ref l)
 repeat (any_goals (first|assumption|wp_step))
 refine codeAny_mono (uu (.ref l) (E:=E) (Q₁:=fun obj s₁=>obj=.ref s.heap.objs.size/\s₁={ s with heap:=s.heap.push { cls:=.type "set",dict:=none,data:=.set #[] 0 (.fresh 0 0 (!w.params.followText "set-order")) } }) ⟨rfl,rfl⟩) fun r s₁ hr=>?_
 cases r with
 |error e=>exact hr
 |ok fl=>
  cases fl with
  |ret obj=>
   obtain⟨rfl,rfl⟩:=hr;have hS:(s.heap.push { cls:=.type "set",dict:=none,data:=.set #[] 0 (.fresh 0 0 (!w.params.followText "set-order")) }).get? s.heap.objs.size=some { cls:=.type "set",dict:=none,data:=.set #[] 0 (.fresh 0 0 (!w.params.followText "set-order")) }:=Heap.get?_push_size _ rfl;have hT:Shared.TypeIs { s with heap:=s.heap.push { cls:=.type "set",dict:=none,data:=.set #[] 0 (.fresh 0 0 (!w.params.followText "set-order")) } } (.ref s.heap.objs.size) "set":=⟨_,hS,rfl⟩
   have hli:=F.called_set.init.lookup;have hbi:=F.called_set.init.bind (.ref s.heap.objs.size)
   repeat (any_goals (first|assumption|wp_step))
   refine codeAny_mono (codeAny_call_builtin (R:=wants (fun r s₂=>r=.none/\∃h' tk ks,s₂={ s with heap:=h',toks:=tk } /\
     iD knd h' s.heap.objs.size (!w.params.followText "set-order") ks/\(∀x,x∈ks↔x∈keys)/\s.toks<=tk /\
     (∀b o,b<s.heap.objs.size->s.heap.get? b=some o->h'.get? b=some o)) E) F.called_set.init.plain F.entry_set_init (check_set_init_1 hT ?_)) fun r₂ s₂ hr₂=>?_
   ·obtain⟨ol,hol,hcl,nl,hdl⟩:=hl
    obtain⟨ocls,odict,odata,oslots⟩:=ol;simp only at hcl hdl;subst hcl;subst hdl;have hol':(s.heap.push { cls:=.type "set",dict:=none,data:=.set #[] 0 (.fresh 0 0 (!w.params.followText "set-order")) }).get? l=some { cls:=.type "tuple",dict:=odict,data:=.seq items nl,slots:=oslots }:=Heap.get?_push_of_some _ hol;have hsls:=mG;have hslf:=ig;have hne:(Value.type "tuple" == Value.type "dict")=false:=by decide
    have hl1:(s.heap.push { cls:=.type "set",dict:=none,data:=.set #[] 0 (.fresh 0 0 (!w.params.followText "set-order")) }).IsTuple l items:=⟨_,hol',rfl,nl,rfl⟩;unfold Builtin.«set.__init__» noKeywords Builtin.Frozenset.updateFrom;generalize hPI:pyIter=PI
    wp_walk
    subst hPI;refine wpAny_pyIter_tuple hl1 ?_;refine wpAny_bind (wpAny_runValue ?_);have hlS:l<s.heap.objs.size:=Heap.lt_size hol;have hh3:A.in1.in1.in1.handled=none:=by simp[hh]
    have hneI:l≠(s.heap.push { cls:=.type "set",dict:=none,data:=.set #[] 0 (.fresh 0 0 (!w.params.followText "set-order")) }).objs.size:=by
     rw[Heap.size_push];exact Nat.ne_of_lt (Nat.lt_succ_of_lt hlS)
    have hSf:s.heap.objs.size ∉ [(s.heap.push { cls:=.type "set",dict:=none,data:=.set #[] 0 (.fresh 0 0 (!w.params.followText "set-order")) }).objs.size,l]:=by
     rw[Heap.size_push];simp only[List.mem_cons,List.mem_singleton,List.not_mem_nil,or_false,not_or];exact⟨Nat.ne_of_lt (Nat.lt_succ_self _),Nat.ne_of_gt hlS⟩
    have kp:∀b o,s.heap.get? b=some o->((s.heap.push { cls:=.type "set",dict:=none,data:=.set #[] 0 (.fresh 0 0 (!w.params.followText "set-order")) }).push { cls:=.type "tuple_iterator",data:=.fields #[.ref l,.int 0 0] }).get? b=some o:=fun b o e=>Heap.get?_push_of_some _ (Heap.get?_push_of_some _ e)
    refine px (knd:=knd) (led:=!w.params.followText "set-order") ((Walks.tuple hh3 _ l hneI items).toS) hSf (fun i s' st b hb o ho=>?_) hn hn75 ?_ (items.size-0) 0 _ [] (by omega) (Nat.zero_le _)
     ⟨⟨_,Heap.get?_push_size _ rfl,rfl,rfl⟩,(hl1.push _)⟩ (nG (Heap.get?_push_of_some _ hS)) (fun x=>by simp) (Nat.zero_le _) (fun j x hx=>?_) ?_
    ·rw[List.mem_singleton] at hb
     subst hb;obtain⟨⟨oi,h3,h4,_⟩,_⟩:=st;rw[h3] at ho;cases ho;rw[h4];simp
    ·show A.units+1+1+1+100<cLine
     omega
    ·obtain⟨b,h3,h4⟩:=hi j x hx
     exact⟨b,h3,knd.frame h4 fun c o e _=>kp c o e⟩
    ·intro s' ks' hm hS' hks
     obtain⟨h',g',d',tk',os'⟩:=s';have eg:g'=s.gens:=hm.gens;have ed:d'=s.drawn:=hm.drawn;have eo:os'=s.os:=hm.os;subst eg;subst ed;subst eo;show wpAny _ _ _ _ _ _;refine wpAny_pure ?_;show wpAny _ _ (ret Value.none) _ _ _;refine wpAny_pure ⟨rfl,h',tk',ks',rfl,hS',hks,hm.toks,fun b o hb e=>?_⟩;have hb1:b≠s.heap.objs.size:=Nat.ne_of_lt hb
     have hb2:b≠(s.heap.push { cls:=.type "set",dict:=none,data:=.set #[] 0 (.fresh 0 0 (!w.params.followText "set-order")) }).objs.size:=by
      rw[Heap.size_push];exact Nat.ne_of_lt (Nat.lt_succ_of_lt hb)
     exact hm.heap b o (by simp only[List.mem_cons,List.mem_singleton,List.not_mem_nil,or_false,not_or];exact⟨hb1,hb2⟩) (kp b o e)
   ·cases r₂ with
    |error e=>exact hr₂
    |ok fl₂=>
     cases fl₂ with
     |ret r=>
      obtain⟨rfl,h',tk,ks,rfl,hS',hks,htk,hk'⟩:=hr₂
      repeat (any_goals (first|assumption|wp_step))
      exact h _ _ _ hS' hks htk hk'
     |_=>exact hr₂.elim
  |_=>exact hr.elim
end
end L2
set_option maxHeartbeats 4000000
namespace L2
open PySem PySem.Spec PyProof.Rows
section
variable{prog:Program}{w:World}{A:Around}{E:Value->Shared->Prop}{s:Shared}
theorem yR(n:Nat){k:Int}{v:Value}(h:(intKind prog w).is k v=true):ofAClassStatement n v=pure false:=by
 cases v with
 |ref a=>exact absurd ((intKind prog w).byValue _ _ h) (by simp[carriedByValue])
 |_=>cases n<;>rfl
theorem zZ(n:Nat){k:Int}{v:Value}(h:(intKind prog w).is k v=true):hashByValue n v=pure true:=by
 have:∃t,v=.int k t:=by
  cases v<;>simp[intKind,Value.isInt] at h
  subst h;exact⟨_,rfl⟩
 obtain⟨t,rfl⟩:=this;cases n<;>rfl
theorem wL{ks:List Int}{a:Addr}{Q:Bool->Shared->Prop}(hk:IsTupleKey (intKind prog w) s.heap ks a)(h:Q false s):wpAny (model prog w) A (ofAClassStatement 8 (.ref a)) Q E s:=by
 have hT:=hk.typeIs;obtain⟨o,items,n,ho,_,hd,hi⟩:=hk;unfold ofAClassStatement;refine wpAny_bind (wpAny_typeOf hT ?_);dsimp only;rw[if_pos (by decide)]
 refine wpAny_bind (wpAny_pure ?_);simp only[Bool.not_true,Bool.false_eq_true,if_false];refine wpAny_bind (wpAny_seqItems ho hd ?_);dsimp only;refine wpAny_bind ?_;rw[←Array.forIn_toList]
 refine wpAny_forIn_list _ (fun be r s'=>r.1=none/\s'=s/\∃ks,ItemsAre (intKind prog w) ks be) _ ?_ ?_ _ _ ⟨rfl,rfl,ks,hi⟩
 ·rintro v be r s' ⟨hr,rfl,ks,hall⟩
  cases hall with
  |cons h1 h2=>
   rw[yR _ h1];refine wpAny_bind (wpAny_pure ?_);simp only[Bool.false_eq_true,if_false];exact wpAny_pure ⟨rfl,rfl,_,h2⟩
 ·rintro⟨r1,r2⟩ s' ⟨hr,rfl,_⟩
  simp only at hr;subst hr;exact wpAny_pure h
theorem Br{ks:List Int}{a:Addr}{Q:Bool->Shared->Prop}(hk:IsTupleKey (intKind prog w) s.heap ks a)(h:Q true s):wpAny (model prog w) A (hashByValue 8 (.ref a)) Q E s:=by
 have hT:=hk.typeIs;obtain⟨o,items,n,ho,_,hd,hi⟩:=hk;unfold hashByValue;refine wpAny_bind (wpAny_specialOf hT F.slot_tuple_hash.lookup ?_);dsimp only;refine wpAny_bind (wpAny_seqItems ho hd ?_);refine wpAny_bind ?_;show wpAny _ _ (forIn items _ _) _ _ s;rw[←Array.forIn_toList]
 refine wpAny_forIn_list _ (fun be r s'=>r.1=none/\s'=s/\∃ks,ItemsAre (intKind prog w) ks be) _ ?_ ?_ _ _ ⟨rfl,rfl,ks,hi⟩
 ·rintro v be r s' ⟨hr,rfl,ks,hall⟩
  cases hall with
  |cons h1 h2=>
   rw[zZ _ h1];refine wpAny_bind (wpAny_pure ?_);simp only[Bool.not_true,Bool.false_eq_true,if_false];exact wpAny_pure ⟨rfl,rfl,_,h2⟩
 ·rintro⟨r1,r2⟩ s' ⟨hr,rfl,_⟩
  simp only at hr;subst hr;exact wpAny_pure h
noncomputable def wdK(prog:Program)(w:World):SK prog w (List Int) where
 is:=IsTupleKey (intKind prog w)
 hash:=tupleKeyHash (intKind prog w)
 draws:=fun ks=>ks.length+1
 frame:=fun⟨o,items,n,ho,hc,hd,hi⟩ f=>⟨o,items,n,f _ _ ho hc,hc,hd,hi⟩
 pyHash:=fun hu hk h=>wpAny_pyHash_tuple (by omega) hk h
 eqBool:=fun hu hx hy h=>wpAny_eqBool_tuple (by omega) hx hy h
 quiet:=fun hk h=>wpAny_eqIsQuiet_tuple hk h
 noCl:=fun hk h=>wL hk h
 byV:=fun hk h=>Br hk h
end
noncomputable def wc(prog:Program)(w:World)(P:List Int->Addr->Prop):SK prog w (List Int) where
 is:=fun h k b=>IsTupleKey (intKind prog w) h k b/\P k b
 hash:=tupleKeyHash (intKind prog w)
 draws:=fun ks=>ks.length+1
 frame:=fun⟨x,p⟩ f=>⟨(wdK prog w).frame x f,p⟩
 pyHash:=fun hu hk h=>(wdK prog w).pyHash hu hk.1 h
 eqBool:=fun hu hx hy h=>(wdK prog w).eqBool hu hx.1 hy.1 h
 quiet:=fun hk h=>(wdK prog w).quiet hk.1 h
 noCl:=fun hk h=>(wdK prog w).noCl hk.1 h
 byV:=fun hk h=>(wdK prog w).byV hk.1 h
section
variable{prog:Program}{w:World}{A:Around}{E:Value->Shared->Prop}{s:Shared}
theorem Els.perm{K:Type}[DecidableEq K]{knd:SK prog w K}{h:Heap}{l l':List (Int×Value)}(p:l'.Perm l):∀ {ks:List K},Els knd h l ks->∃ks',Els knd h l' ks'/\ks'.Perm ks:=by
 induction p with
 |nil=>exact fun {ks} e=>⟨ks,e,.refl _⟩
 |cons a _ ih=>
  intro ks e
  rename_i l1 l2 hp
  cases e with
  |cons x e=>
   obtain⟨ks',e',q⟩:=ih e;exact⟨_,.cons x e',q.cons _⟩
 |swap a b l=>
  intro ks e
  cases e with
  |cons x e=>
   cases e with
   |cons y e=>exact⟨_,.cons y (.cons x e),.swap ..⟩
 |trans _ _ ih1 ih2=>
  intro ks e;obtain⟨k1,e1,q1⟩:=ih2 e;obtain⟨k2,e2,q2⟩:=ih1 e1;exact⟨k2,e2,q2.trans q1⟩
theorem ke:∀ {x:List Int} {vs:List Value},ItemsAre (intKind prog w) x vs->Zs vs x
 | [],[],_=>trivial
 |n::ns,v::vs,h=>by
  cases h with
  |cons h1 h2=>
   refine⟨?_,ke h2⟩;cases v<;>simp[intKind,Value.isInt] at h1
   subst h1;exact⟨_,rfl⟩
 | [],_::_,h=>by cases h
 |_::_,[],h=>by cases h
theorem j5:∀ {x:List Int} {vs:List Value},Zs vs x->ItemsAre (intKind prog w) x vs
 | [],[],_=>.nil
 |n::ns,v::vs,h=>by
  obtain⟨⟨t,rfl⟩,h2⟩:=h;exact .cons (by simp[intKind,Value.isInt]) (j5 h2)
 | [],_::_,h=>h.elim
 |_::_,[],h=>h.elim
theorem Els.tw{P:List Int->Addr->Prop}{h:Heap}:∀ {l:List (Int×Value)} {ks:List (List Int)},Els (wc prog w P) h l ks->TW h (l.map (·.2)) ks
 |_,_,.nil=>trivial
 |_,_,.cons ⟨⟨o,items,n,h1,h2,h3,h4⟩,_⟩ e=>⟨⟨_,o,items,n,rfl,h1,h2,h3,ke h4⟩,Els.tw e⟩
theorem Els.ps{P:List Int->Addr->Prop}{h:Heap}:∀ {l:List (Int×Value)} {ks:List (List Int)},Els (wc prog w P) h l ks->∃bs:List Addr,l.map (·.2)=bs.map Value.ref/\bs.length=ks.length/\∀(i:Nat)(b:Addr)(k:List Int),bs[i]?=some b->ks[i]?=some k->P k b
 |_,_,.nil=>⟨[],rfl,rfl,fun i b k hb=>by simp at hb⟩
 |_,_,.cons (b:=b0) ⟨_,p⟩ e=>by
  obtain⟨bs,h1,h2,h3⟩:=Els.ps e;refine⟨b0::bs,by simp[h1],by simp[h2],fun i b k hb hk=>?_⟩
  cases i with
  |zero=>cases hb;cases hk;exact p
  |succ i=>exact h3 i b k hb hk
theorem tm(hh:A.handled=none){P:List Int->Addr->Prop}{S:Addr}{ks:List (List Int)}{Q:Value->Shared->Prop}(x:iD (wc prog w P) s.heap S (!w.params.followText "set-order") ks)(ne:∀k∈ks,k≠[])(h64:ks.length<64)
  (q:∀(s':Shared)(a:Addr)(bs:List Addr) (W:List (List Int)),W.Perm ks->bs.length=W.length->(∀(i:Nat)(b:Addr)(k:List Int),bs[i]?=some b->W[i]?=some k->P k b)->(∀b o,s.heap.get? b=some o->s'.heap.get? b=some o)->s'.gens=s.gens->s'.drawn=s.drawn->s'.os=s.os->s.heap.objs.size<=a ->
   (∃e,s'.heap.get? a=some (seqObj "list" (mr (bs.map Value.ref) W) e))->Q (.ref a) s'):wpAny (model prog w) A (call (.builtin "sorted") [.ref S]) Q E s:=by
 obtain⟨o,es,ep,t,ho,hx,hd,hled,hpl,T,el,nd⟩:=x;have hsz:es.size=(ks.map (wc prog w P).hash).length:=by rw[List.length_map,←Array.length_toList];exact el.len
 have z64:64<=sizeLine:=by rw[sizeLine_eq];omega
 refine Calls.call_function_entry kind_sorted plain_sorted entry_sorted (args_sorted1 _) ?_;unfold Builtin.«sorted»;refine wpAny_bind (m:=checkCount "sorted" 1 1 _) (wpAny_pure (wpAny_bind (rm (prog:=prog) (A:=A.in1) (show A.handled=none from hh) ho hx hd T hsz hled hpl fun s' k1 k2 k3 k4 k5 k6=>?_)))
 obtain⟨W,el',pm⟩:=Els.perm (g5 w S es ep) el;have el2:=el'.frame (h':=s'.heap) fun c o hc _=>k1 c o hc;obtain⟨bs,b1,b2,b3⟩:=el2.ps;have tw:=el2.tw;rw[b1] at tw ⊢;have hlen:(bs.map Value.ref).length<64:=by rw[List.length_map,b2,pm.length_eq];exact h64
 refine wpAny_bind (wpAny_newList ?_ (by omega))
 have g2:(s'.heap.push (seqObj "list" (bs.map Value.ref).toArray 0)).get? s'.heap.objs.size=some (seqObj "list" (bs.map Value.ref).toArray 0):=Heap.get?_push_size _ rfl;have tw2:TW (s'.heap.push (seqObj "list" (bs.map Value.ref).toArray 0)) (bs.map Value.ref) W:=tw.keep fun b o e _=>Heap.get?_push_of_some _ e;refine wpAny_bind (wpAny_holding (wpAny_call_entry slot_list_sort ⟨_,g2,rfl⟩ entry_list_sort (mL g2 tw2 (fun _ k hk=>ne k ((pm.mem_iff).mp hk)) hlen ⟨_,rfl,wpAny_pure ⟨_,rfl,?_⟩⟩) (args_list_sort _)))
 refine q _ s'.heap.objs.size bs W pm b2 b3 (fun b o e=>?_) k2 k3 k4 k6 (sortedHeap_at (n:=0) g2)
 ·have lt:=Heap.lt_size (k1 b o e)
  rw[show _=_ from sortedHeap_old (Nat.ne_of_lt lt) (by rw[size_push'];exact Nat.lt_succ_of_lt lt)]
  exact Heap.get?_push_of_some _ (k1 b o e)
end
theorem d6.GN{k:Nat}{A:Around}(r:d6 k A):A.units+130<cLine:=by have:=r.un;omega
theorem TWv.get{H:Hp}:∀ {xs:List V} {W:List (List Int)} {j:Nat} {x:List Int},TWv H xs W->W[j]?=some x->∃a,xs[j]?=some (.ref a)/\H a=some (.tup (x.map V.int))
 | [],[],j,x,_,h=>by simp at h
 |v::vs,y::ys,0,x,⟨⟨a,e1,e2⟩,_⟩,h=>by
  cases h;exact⟨a,by rw[e1];rfl,e2⟩
 |v::vs,y::ys,j+1,x,⟨_,q⟩,h=>TWv.get (xs:=vs) (W:=ys) q h
 | [],_::_,_,_,q,_=>q.elim
 |_::_,[],_,_,q,_=>q.elim
theorem nJ:∀bs:List Addr,aH (bs.map V.ref) (bs.map Value.ref)
 | []=>.nil
 |b::bs=>.cons rfl (nJ bs)
noncomputable def PLs(P:List Int->Addr->Prop)(bs:List Addr)(W:List (List Int)):Prop:=bs.length=W.length/\∀(i:Nat)(b:Addr)(k:List Int),bs[i]?=some b->W[i]?=some k->P k b
theorem Cz{P:List Int->Addr->Prop}{bs:List Addr}{W:List (List Int)}(h:PLs P bs W):∃bs',srt (bs.map V.ref) W=bs'.map V.ref/\PLs P bs' (eR W):=by
 obtain⟨hl,hp⟩:=h;refine⟨(dh W).toList.map fun i=>bs.getD i 0,?_,by simp[eR],fun i b k hb hk=>?_⟩
 ·unfold srt
  rw[List.map_map];refine List.map_congr_left fun i hi=>?_;have hi':=(b7 W).mem hi;simp only[Function.comp_apply,List.getD_eq_getElem?_getD,List.getElem?_map];rw[List.getElem?_eq_getElem (show i<bs.length by omega)]
  rfl
 ·unfold eR at hk
  rw[List.getElem?_map,Option.map_eq_some_iff] at hb hk;obtain⟨j,hj,rfl⟩:=hb;obtain⟨j',hj',rfl⟩:=hk;rw[hj] at hj';cases hj';have hjl:=(b7 W).mem (List.mem_of_getElem? hj);rw[List.getD_eq_getElem?_getD,List.getD_eq_getElem?_getD,List.getElem?_eq_getElem hjl,List.getElem?_eq_getElem (show j<bs.length by omega)]
  exact hp j _ _ (List.getElem?_eq_getElem (show j<bs.length by omega)) (List.getElem?_eq_getElem hjl)
theorem mR:∀ {ks ws:List (List Int)},ks.Nodup->(∀x∈ks,x∈ws)->ks.length<=ws.length
 | [],ws,_,_=>Nat.zero_le _
 |k::ks,ws,nd,h=>by
  rw[List.nodup_cons] at nd;have hk:=h k (List.mem_cons_self ..);have ih:=mR (ws:=ws.erase k) nd.2 fun x hx=>(List.mem_erase_of_ne (fun(e:x=k)=>nd.1 (e ▸ hx))).mpr (h x (List.mem_cons_of_mem _ hx));rw[List.length_erase_of_mem hk] at ih;have:=List.length_pos_of_mem hk;rw[List.length_cons];omega
noncomputable def pI(K:W.Frag)(ta:TA):TE:=fun σ H Q=>ta σ H fun vs H1=>∃(l:Addr) (ws:List (List Int)) (xs:List V) (P:List Int->Addr->Prop),vs=[.ref l]/\(SqL K H1 l xs\/SqT K H1 l xs)/\TWv H1 xs ws/\(∀(j:Nat)(b:Addr)(k:List Int),xs[j]?=some (.ref b)->ws[j]?=some k->P k b)/\(∀x∈ws,x≠[])/\ws.length<=63 /\
 ∀p r bs,H1 p=none->Ris r->r.Nodup->(∀x,x∈r↔x∈ws)->PLs P bs r->Q (.ref p) (upd H1 p (.lst (bs.map V.ref)))
theorem rX{X:Cx}{a:Expr}{ta:TA}{p p2 pos pos2:Pos}(K:PySem.W.Frag)(hK:X.K=K)(hc:X.calm=true)(hu:X.A.units+130<cLine)(hg:Gl X "sorted")(hm:X.mg "sorted"=none)(hg2:Gl X "set")(hm2:X.mg "set"=none)(ha:PA X [a] ta)(hs:starEach [a] X.env=[(false,eval a X.env)]:=by rfl)(hs2:starEach [.Call (.Name "set" p2) [a] [] pos2] X.env=[(false,eval (.Call (.Name "set" p2) [a] [] pos2) X.env)]:=by rfl):PE X (.Call (.Name "sorted" p) [.Call (.Name "set" p2) [a] [] pos2] [] pos) (pI K ta):=.mk <| by
 subst hK;intro pins s σ H Q I h;refine wpAny_Call_Name_kw (iC I hg hm PyProof.Rows.boot_sorted ?_ (by decide) (by decide))
 refine PyProof.Rows.callWith_builtin1 ?_ hs2 rfl;rw[hs2];show wpAny _ _ (spliced [(false,eval (.Call (.Name "set" p2) [a] [] pos2) X.env)]) _ _ s;refine Calls.spliced_cons (Call_ (iC I hg2 hm2 PyProof.Rows.boot_set (PyProof.Rows.callWith_type1 (thn (ha pos2 pins s σ H _ I h) fun us s1 ⟨vs,H1,I1,r1,q1⟩=>?_) hs rfl) (by decide) (by decide)))
 obtain⟨l,ws,xs,P,e,hq,tw,hP,hne,hn,q⟩:=q1;subst e;obtain⟨u,rfl,rx⟩:=du r1;cases rx;have hd:=I1.ok.hd hc;have tl:=tw.len
 have go:∀its:List Value,aH xs its->(∀(Q2:Value->Shared->Prop),(∀(j:Nat)(x:List Int),ws[j]?=some x->∃b,its.toArray[j]?=some (.ref b)/\(wc X.prog X.w P).is s1.heap x b)->(∀(h':Heap)(tk:Nat) (ks:List (List Int)),iD (wc X.prog X.w P) h' s1.heap.objs.size (!X.w.params.followText "set-order") ks->(∀x,x∈ks↔x∈ws)->s1.toks<=tk ->
   (∀b o,b<s1.heap.objs.size->s1.heap.get? b=some o->h'.get? b=some o)->Q2 (.ref s1.heap.objs.size) { s1 with heap:=h',toks:=tk })->wpAny (model X.prog X.w) X.A (call (.type "set") [.ref l]) Q2 X.xe s1)->wpAny (model X.prog X.w) X.A (call (.type "set") [.ref l]) (fun v s'=>wpAny (model X.prog X.w) X.A (spliced []) (fun vs s2=>wpAny (model X.prog X.w) X.A (call (.builtin "sorted") (v::vs)) (EP X pins σ Q) X.xe s2) X.xe s') X.xe s1:=fun its rv cs=>by
  refine cs _ (fun j x hx=>?_) fun h' tk ks S hks htk kk=>?_
  ·obtain⟨b,hb1,hb2⟩:=tw.get hx
   obtain⟨v,hv1,hv2⟩:=rv.get hb1;cases hv2;obtain⟨_,its',e4,⟨o,e5,e6,n,e7⟩,_⟩:=I1.hok b _ hb2;exact⟨b,by rw[List.getElem?_toArray];exact hv1,⟨o,its'.toArray,n,e5,e6,e7,j5 (Zs.of e4)⟩,hP j b x hb1 hx⟩
  ·refine Calls.spliced_nil ?_
   obtain⟨oS,_,_,_,hoS,_,_,_,_,_,_,nd⟩:=id S
   have kld:ks.length<64:=by
    have:=mR nd fun x hx=>(hks x).mp hx;omega
   have hsz:s1.heap.objs.size<h'.objs.size:=Heap.lt_size hoS;refine tm hd S (fun k hk=>hne k ((hks k).mp hk)) kld fun s' a bs W pm bl bP k1 k2 k3 k4 k5 k6=>?_;obtain⟨e,he⟩:=k6;obtain⟨bs',hbs,hpl⟩:=Cz (P:=P) ⟨bl,bP⟩;have kp:∀b o,s1.heap.get? b=some o->s'.heap.get? b=some o:=fun b o hb=>k1 b o (kk b o (Heap.lt_size hb) hb);have r':=nJ bs
   have hv:aH (srt (bs.map V.ref) W) ((dh W).toList.map fun i=>(bs.map Value.ref).getD i Value.none):=iU fun i hi=>by
    have hi':=(b7 W).mem hi;obtain⟨u,hu,ru⟩:=r'.get (List.getElem?_eq_getElem (by rw[List.length_map];omega:i<(bs.map V.ref).length))
    rw[List.getD_eq_getElem?_getD,List.getD_eq_getElem?_getD,hu,List.getElem?_eq_getElem (by rw[List.length_map];omega:i<(bs.map V.ref).length)]
    exact ru
   have hl:(srt (bs.map V.ref) W).length<=sizeLine:=by
    have a:=(b7 W).size_eq;have b:64<=sizeLine:=by rw[sizeLine_eq];omega
    have c:=pm.length_eq;simp[srt] at a ⊢;omega
   have I3:=I1.laid (t':=s'.toks) (h':=s'.heap) (a:=a) (o:=.lst (srt (bs.map V.ref) W)) kp (Nat.le_trans (Nat.le_of_lt hsz) k5) (show bV X.prog X.w _ _ _ (.lst (srt (bs.map V.ref) W)) from ⟨hl,_,e,hv,he⟩)
   have es:s'={ s1 with heap:=s'.heap,toks:=s'.toks }:=by
    cases s';simp only at k2 k3 k4;subst k2 k3 k4;rfl
   rw[es];rw[hbs] at I3;exact⟨.ref a,_,I3,rfl,q a (eR W) bs' (I1.hok.fresh (Nat.le_trans (Nat.le_of_lt hsz) k5)) (zO W) ((eA W).nodup_iff.mpr (pm.nodup_iff.mpr nd)) (fun x=>by rw[zp,pm.mem_iff,hks]) hpl⟩
 rcases hq with hq|hq
 ·obtain⟨its,rv,pl,hz⟩:=I1.list hq
  have hlen:=rv.length;exact go its rv fun Q2 c1 c2=>rV hd (by omega) pl.isList (by rw[List.size_toArray];omega) (by rw[List.size_toArray];omega) c1 c2
 ·obtain⟨its,rv,pl,hz⟩:=I1.tuple hq
  have hlen:=rv.length;exact go its rv fun Q2 c1 c2=>rS hd (by omega) pl (by rw[List.size_toArray];omega) (by rw[List.size_toArray];omega) c1 c2
noncomputable def pL(ta:AA):AE:=fun ρ Z Q=>ta ρ Z fun xs Z1=>∃(x:AV)(d:D) (ws:List (List Int)),xs=[x]/\aS Z1 x=some d/\jC d=some (ws.map wdD)/\(∀w∈ws,w≠[])/\ws.length<=63/\∀r,Ris r->r.Nodup->(∀x,x∈r↔x∈ws)->Q (.d (.lst (r.map wdD))) Z1
theorem kf(ta:AA)(ρ:SA)(Z:Om)(Q:AV->Om->Prop):pL ta ρ Z Q=(ta ρ Z fun xs Z1=>∃(x:AV)(d:D) (ws:List (List Int)),xs=[x]/\aS Z1 x=some d/\jC d=some (ws.map wdD)/\(∀w∈ws,w≠[])/\ws.length<=63/\∀r,Ris r->r.Nodup->(∀x,x∈r↔x∈ws)->Q (.d (.lst (r.map wdD))) Z1):=rfl
theorem uU{G:Hp}:∀ {bs:List Addr} {r:List (List Int)},PLs (fun k b=>Dat G (wdD k) (.ref b)) bs r->ay G (r.map wdD) (bs.map V.ref)
 | [],[],_=>rfl
 |b::bs,k::r,⟨hl,h⟩=>⟨_,_,rfl,h 0 b k rfl rfl,uU ⟨by simpa using hl,fun i b' k' hb hk=>h (i+1) b' k' hb hk⟩⟩
 | [],_::_,⟨hl,_⟩=>by simp at hl
 |_::_,[],⟨hl,_⟩=>by simp at hl
theorem tI{G:Hp}:∀ {ds:List D} {xs:List V},ay G ds xs->∀ {j:Nat} {v:V} {d:D},xs[j]?=some v->ds[j]?=some d->Dat G d v
 | [],xs,h,j,v,d,_,hd=>by simp at hd
 |e::ds,xs,h,j,v,d,hv,hd=>by
  simp only[ay] at h;obtain⟨x,xr,rfl,h1,h2⟩:=h
  cases j with
  |zero=>cases hv;cases hd;exact h1
  |succ j=>exact tI h2 hv hd
theorem wB{K:W.Frag}{ta:TA}{ta':AA}(h:jk ta ta'):br (pI K ta) (pL ta'):=⟨fun F H Z σ ρ Q Q' rp rs w k=>h.go rp rs w fun xs Z1 vs H1 rp1 fr1 rs1 rv ⟨x,d,ws,e,hd,hs,hne,hn,q⟩=>by
 subst e;obtain⟨v,rfl,r1⟩:=fP rv
 have key:∀a us,v=.ref a->(SqL K H1 a us\/SqT K H1 a us)->ay (cut F H1 Z1) (ws.map wdD) us->∃(l:Addr) (ws:List (List Int)) (xs:List V) (P:List Int->Addr->Prop),[v]=[.ref l]/\(SqL K H1 l xs\/SqT K H1 l xs)/\TWv H1 xs ws/\(∀(j:Nat)(b:Addr)(k:List Int),xs[j]?=some (.ref b)->ws[j]?=some k->P k b)/\(∀x∈ws,x≠[])/\ws.length<=63 /\
   ∀p r bs,H1 p=none->Ris r->r.Nodup->(∀x,x∈r↔x∈ws)->PLs P bs r->Q (.ref p) (upd H1 p (.lst (bs.map V.ref))):=fun a us ea hq hds=>by
  refine⟨a,ws,us,fun k b=>Dat (cut F H1 Z1) (wdD k) (.ref b),by rw[ea],hq,?_,fun j b k hb hk=>tI hds hb (by rw[List.getElem?_map,hk];rfl),hne,hn,fun p r bs hp hr hnd hm hpl=>?_⟩
  ·exact TWv.of (hds.same aL)
  ·exact(k.fr fr1).lst rp1 (uU hpl) (q r hr hnd hm) p hp
 cases d with
 |lst es=>
  cases hs;obtain⟨a,us,rfl,z1,z2⟩:=c9 rp1 r1 hd;exact key a us rfl (.inl (.inl (.inl z1))) z2
 |tup es=>
  cases hs
  have hx:x=.d (.tup (ws.map wdD)):=by
   cases x with
   |d d=>simp only[aS,Option.some.injEq] at hd;rw[hd]
   |r v=>
    cases v with
    |ref l=>
     simp only[aS] at hd;split at hd
     ·rw[Option.map_eq_some_iff] at hd
      obtain⟨_,_,h⟩:=hd;cases h
     ·cases hd
     ·cases hd
    |_=>simp[aS] at hd
   |p v P=>simp[aS] at hd
  subst hx;simp only[RV,Dat] at r1;obtain⟨a,us,rfl,z1,z2⟩:=r1;exact key a us rfl (.inr (.inl (.inl (aL _ _ z1)))) z2
 |_=>cases hs⟩
end L2
set_option maxRecDepth 100000
set_option maxHeartbeats 1000000
namespace L2
open PySem PySem.Spec PySem.Calls PyProof PyProof.Rows
section
variable{prog:Program}{w:World}{A:Around}{E:Value->Shared->Prop}{s:Shared}{κ:SortKind}{it:Array Keyed}{c:Nat->Nat->Bool}{n:Nat}
structure Stt(κ:SortKind)(it:Array Keyed)(p:Array Nat)(st:SortSt):Prop where
 k:kindOf st=κ
 a:arrOf st=p.map (W.kas_item it)
 f:failedOf st=none
end
section
variable{prog:Program}{w:World}{A:Around}{E:Value->Shared->Prop}{s:Shared}{κ:SortKind}{it:Array Keyed}{c:Nat->Nat->Bool}{n:Nat}
noncomputable def Sg(c:Nat->Nat->Bool)(p:Array Nat)(a b:Nat):Prop:=∀i j,a<=i->i<=j->j<b->c (p.getD j 0) (p.getD i 0)=false
structure Nx(κ:SortKind)(it:Array Keyed)(n lo:Nat)(p:Array Nat)(st:SortSt)(p':Array Nat)(st':SortSt):Prop where
 o:Ord n p'
 s:Stt κ it p' st'
 d:pendingOf st'=pendingOf st
 l:∀k,k<lo->p'.getD k 0=p.getD k 0
end
section
variable{c:Nat->Nat->Bool}
noncomputable abbrev Up2(c:Nat->Nat->Bool)(l:List Nat):Prop:=l.Pairwise fun x y=>c y x=false
noncomputable def Bel(c:Nat->Nat->Bool)(l m:List Nat):Prop:=∀x∈l,∀y∈m,c y x=false
structure ML(c:Nat->Nat->Bool)(a b out:List Nat)(ia ib:Nat):Prop where
 pm:(out++(a.drop ia++b.drop ib)).Perm (a++b)
 so:Up2 c out
 la:Bel c out (a.drop ia)
 lb:Bel c out (b.drop ib)
end
section
variable{prog:Program}{w:World}{A:Around}{E:Value->Shared->Prop}{s:Shared}{κ:SortKind}{it:Array Keyed}{c:Nat->Nat->Bool}{n:Nat}
structure Sm(st st':SortSt):Prop where
 k:kindOf st'=kindOf st
 a:arrOf st'=arrOf st
 d:pendingOf st'=pendingOf st
 f:failedOf st'=failedOf st
end
section
variable{c:Nat->Nat->Bool}
noncomputable abbrev flp(c:Nat->Nat->Bool):Nat->Nat->Bool:=fun x y=>c y x
structure MH(c:Nat->Nat->Bool)(a b out:List Nat)(na nb:Nat):Prop where
 m:ML (flp c) a.reverse b.reverse out (a.length-na) (b.length-nb)
 ha:na<=a.length
 hb:nb<=b.length
end
section
variable{prog:Program}{w:World}{A:Around}{E:Value->Shared->Prop}{s:Shared}{κ:SortKind}{it:Array Keyed}{c:Nat->Nat->Bool}{n:Nat}
structure Mg(κ:SortKind)(it:Array Keyed)(n:Nat)(c:Nat->Nat->Bool)(p p':Array Nat)(st':SortSt)(a b:Nat):Prop where
 o:Ord n p'
 s:Stt κ it p' st'
 lo:∀k,k<a->p'.getD k 0=p.getD k 0
 hi:∀k,b<=k->p'.getD k 0=p.getD k 0
 g:Sg c p' a b
end
section
variable{c:Nat->Nat->Bool}
noncomputable def Fp(c:Nat->Nat->Bool)(p:Array Nat):List (Nat×Nat×Nat)->Nat->Nat->Prop
 | [],a,b=>a=b
 |x::r,a,b=>x.1=a/\1<=x.2.1/\Sg c p a (a+x.2.1)/\Fp c p r (a+x.2.1) b
end
section
variable{prog:Program}{w:World}{A:Around}{E:Value->Shared->Prop}{s:Shared}{κ:SortKind}{it:Array Keyed}{c:Nat->Nat->Bool}{n:Nat}
structure Rn(κ:SortKind)(it:Array Keyed)(n:Nat)(c:Nat->Nat->Bool)(p:Array Nat)(l:List (Nat×Nat×Nat))(lo:Nat)(st:SortSt):Prop where
 o:Ord n p
 s:Stt κ it p st
 d:pendingOf st=l.toArray
 r:Fp c p l 0 lo
end
end L2
set_option maxHeartbeats 4000000
namespace My
open PySem PySem.Spec L2
noncomputable def top(i:Nat):Stmt:=PySem.Challenge.pw_unlikeplace_k30_papers_of_edges.main.body.getD i (.Pass ⟨0,0,0,0⟩)
noncomputable abbrev ix:Stmt:=top 2
noncomputable abbrev lh:Stmt:=top 3
noncomputable abbrev gk:Stmt:=top 4
noncomputable abbrev g6:Stmt:=top 5
noncomputable abbrev gW:Stmt:=top 6
noncomputable abbrev eT:Stmt:=top 7
noncomputable abbrev k8:Stmt:=top 8
noncomputable abbrev fb:Stmt:=top 9
noncomputable abbrev f9:Stmt:=top 11
noncomputable abbrev dn:Stmt:=top 13
noncomputable abbrev iy:Stmt:=top 15
noncomputable abbrev dU:Stmt:=top 17
noncomputable abbrev jT:Stmt:=top 18
noncomputable abbrev cE:Stmt:=top 19
noncomputable abbrev oG:Stmt:=top 21
noncomputable abbrev lQ:Stmt:=top 22
noncomputable abbrev ou:Stmt:=top 23
noncomputable abbrev fL:Stmt:=top 24
noncomputable abbrev jc:Stmt:=top 25
noncomputable abbrev iE:Stmt:=top 26
noncomputable abbrev iN:Stmt:=top 27
noncomputable abbrev kL:Stmt:=top 28
noncomputable abbrev eY:Stmt:=top 29
noncomputable abbrev dQ:Stmt:=top 30
noncomputable abbrev jw:Stmt:=top 31
noncomputable abbrev oV:Stmt:=top 32
noncomputable abbrev me:Stmt:=top 33
noncomputable abbrev iR:Stmt:=top 34
noncomputable abbrev mf:Stmt:=top 35
theorem qP:aN ["thing"] ["thing"] (defScope ix):=fsc rfl rfl rfl (by decide +kernel)
theorem wk:aN ["thing"] ["thing"] (defScope lh):=fsc rfl rfl rfl (by decide +kernel)
theorem mE:aN ["thing"] ["thing"] (defScope gk):=fsc rfl rfl rfl (by decide +kernel)
theorem sI:aN ["places","thing"] ["places","thing"] (defScope g6):=fsc rfl rfl rfl (by decide +kernel)
theorem nV:aN ["some","thing"] ["some","thing"] (defScope gW):=fsc rfl rfl rfl (by decide +kernel)
theorem nS:aN ["some"] ["some"] (defScope eT):=fsc rfl rfl rfl (by decide +kernel)
theorem vQ:aN ["number"] ["number"] (defScope k8):=fsc rfl rfl rfl (by decide +kernel)
theorem lC:aN ["number","goal"] ["number","goal"] (defScope fb):=fsc rfl rfl rfl (by decide +kernel)
theorem mw:aN ["rule","place","yes","no"] ["rule","place","yes","no"] (defScope f9):=fsc rfl rfl rfl (by decide +kernel)
theorem kx:aN ["rule","yes","no"] ["rule","yes","no"] (defScope dn):=fsc rfl rfl rfl (by decide +kernel)
theorem qX:aN ["thing","kind","size"] ["thing","kind","size"] (defScope iy):=fsc rfl rfl rfl (by decide +kernel)
theorem md:aN ["words","thing"] ["words","thing"] (defScope dU):=fsc rfl rfl rfl (by decide +kernel)
theorem sN:aN ["rule","yes","no"] ["rule","yes","no"] (defScope jT):=fsc rfl rfl rfl (by decide +kernel)
theorem dc:aN ["rule","box","thing","many","leaves"] ["rule","box","thing"] (defScope cE):=fsc rfl rfl rfl (by decide +kernel)
theorem xT:aN ["_law_script"] ["_law_script"] (defScope oG):=fsc rfl rfl rfl (by decide +kernel)
theorem cH:aN ["_law_pen_here","_law_many","_law_cells","_law_place","_law_left","_law_cell","_law_number"] ["_law_pen_here","_law_many"] (defScope lQ):=fsc rfl rfl rfl (by decide +kernel)
theorem eG:aN ["_law_places","_law_found","_law_k","_law_longer","_law_word"] ["_law_places"] (defScope ou):=fsc rfl rfl rfl (by decide +kernel)
theorem bD:aN ["_law_pen_here","_law_places","_law_words","_law_way","_law_top","_law_place","_law_share","_law_sorts_here","_law_word","_law_more","_law_sort","_law_others"] ["_law_pen_here","_law_places"] (defScope fL):=fsc rfl rfl rfl (by decide +kernel)
theorem eD:aN ["_law_pen_here","_law_places","_law_yes","_law_no","_law_place","_law_bit","_law_ones","_law_others"] ["_law_pen_here","_law_places"] (defScope jc):=fsc rfl rfl rfl (by decide +kernel)
theorem gU:aN ["_law_pen_here","_law_things","_law_left","_law_found"] ["_law_pen_here","_law_things"] (defScope iE):=fsc rfl rfl rfl (by decide +kernel)
theorem dY:aN ["_law_number","_law_found","_law_size"] ["_law_number"] (defScope iN):=fsc rfl rfl rfl (by decide +kernel)
theorem kU:aN ["_law_pen_here","_law_word","_law_bits","_law_some_here"] ["_law_pen_here","_law_word"] (defScope kL):=fsc rfl rfl rfl (by decide +kernel)
theorem n8:aN ["_law_places","_law_thing"] ["_law_places","_law_thing"] (defScope eY):=fsc rfl rfl rfl (by decide +kernel)
theorem lE:aN ["_law_some_here","_law_thing"] ["_law_some_here","_law_thing"] (defScope dQ):=fsc rfl rfl rfl (by decide +kernel)
theorem dF:aN ["_law_rule","_law_yes","_law_no","_law_many","_law_one","_law_place","_law_other"] ["_law_rule","_law_yes","_law_no"] (defScope jw):=fsc rfl rfl rfl (by decide +kernel)
theorem jp:aN ["_law_rule","_law_box_here","_law_thing","_law_many","_law_fewest"] ["_law_rule","_law_box_here","_law_thing"] (defScope oV):=fsc rfl rfl rfl (by decide +kernel)
theorem vo:aN ["_law_pen_here","_law_words"] ["_law_pen_here","_law_words"] (defScope me):=fsc rfl rfl rfl (by decide +kernel)
theorem cc:aN ["_law_pen_here","_law_yes","_law_no","_law_some_here","_law_at","_law_strange","_law_flipped","_law_others","_law_thing","_law_papers"] ["_law_pen_here","_law_yes","_law_no"] (defScope iR):=fsc rfl rfl rfl (by decide +kernel)
theorem d5:aN ["_law_script","_law_pen_here","_law_turn","_law_box_here","_law_rule","_law_yes","_law_no","_law_papers","_law_paper","_law_kept","_law_found"] ["_law_script"] (defScope mf):=fsc rfl rfl rfl (by decide +kernel)
set_option genInjectivity false in
structure Adr where
 cY:Addr
 iB:FuncData
 eQ:Addr
 lX:FuncData
 bY:Addr
 fS:FuncData
 dA:Addr
 jH:FuncData
 cu:Addr
 gR:FuncData
 cB:Addr
 gI:FuncData
 eN:Addr
 l9:FuncData
 bR:Addr
 fh:FuncData
 bW:Addr
 fT:FuncData
 bJ:Addr
 eM:FuncData
 cT:Addr
 iH:FuncData
 bN:Addr
 fc:FuncData
 dL:Addr
 jN:FuncData
 bu:Addr
 dO:FuncData
 fW:Addr
 oy:FuncData
 eF:Addr
 l4:FuncData
 fQ:Addr
 oH:FuncData
 dI:Addr
 jM:FuncData
 fU:Addr
 nX:FuncData
 cW:Addr
 iK:FuncData
 cX:Addr
 iI:FuncData
 ga:Addr
 oU:FuncData
 cD:Addr
 gP:FuncData
 bO:Addr
 eZ:FuncData
 dJ:Addr
 jY:FuncData
 fV:Addr
 o6:FuncData
 eL:Addr
 lY:FuncData
 eO:Addr
 lK:FuncData
 i4:Addr
 tM:FuncData
 dR:Tok
structure Txt(K:W.Frag)(mg:Str->Option Value)(t:Adr):Prop where
 kT:mg "is_whole"=some (.ref t.cY)
 sq:Fun K "is_whole" "is_whole" ix t.cY t.iB
 lO:W.keepIn K (.ref t.cY)=true
 mi:bq K t.iB ["thing"] []
 xW:mg "is_bit"=some (.ref t.eQ)
 ze:Fun K "is_bit" "is_bit" lh t.eQ t.lX
 zc:W.keepIn K (.ref t.eQ)=true
 y6:bq K t.lX ["thing"] []
 o3:mg "are_places"=some (.ref t.bY)
 oY:Fun K "are_places" "are_places" gk t.bY t.fS
 nR:W.keepIn K (.ref t.bY)=true
 nZ:bq K t.fS ["thing"] []
 vm:mg "is_word"=some (.ref t.dA)
 vx:Fun K "is_word" "is_word" g6 t.dA t.jH
 we:W.keepIn K (.ref t.dA)=true
 wF:bq K t.jH ["places","thing"] []
 qC:mg "is_one_of"=some (.ref t.cu)
 p5:Fun K "is_one_of" "is_one_of" gW t.cu t.gR
 qy:W.keepIn K (.ref t.cu)=true
 pG:bq K t.gR ["some","thing"] []
 rg:mg "is_rising"=some (.ref t.cB)
 qY:Fun K "is_rising" "is_rising" eT t.cB t.gI
 q8:W.keepIn K (.ref t.cB)=true
 qR:bq K t.gI ["some"] []
 xo:mg "height"=some (.ref t.eN)
 xv:Fun K "height" "height" k8 t.eN t.l9
 yX:W.keepIn K (.ref t.eN)=true
 w5:bq K t.l9 ["number"] []
 ml:mg "least_times"=some (.ref t.bR)
 mH:Fun K "least_times" "least_times" fb t.bR t.fh
 mC:W.keepIn K (.ref t.bR)=true
 mF:bq K t.fh ["number","goal"] []
 oE:mg "parts_pair"=some (.ref t.bW)
 oe:Fun K "parts_pair" "parts_pair" f9 t.bW t.fT
 oJ:W.keepIn K (.ref t.bW)=true
 oa:bq K t.fT ["rule","place","yes","no"] []
 gO:mg "squares_with"=some (.ref t.bJ)
 lS:Fun K "squares_with" "squares_with" dn t.bJ t.eM
 gS:W.keepIn K (.ref t.bJ)=true
 gA:bq K t.eM ["rule","yes","no"] []
 tu:mg "is_paper"=some (.ref t.cT)
 sK:Fun K "is_paper" "is_paper" iy t.cT t.iH
 sR:W.keepIn K (.ref t.cT)=true
 tf:bq K t.iH ["thing","kind","size"] []
 im:mg "are_some_of"=some (.ref t.bN)
 my:Fun K "are_some_of" "are_some_of" dU t.bN t.fc
 iu:W.keepIn K (.ref t.bN)=true
 iq:bq K t.fc ["words","thing"] []
 wH:mg "is_edge"=some (.ref t.dL)
 vC:Fun K "is_edge" "is_edge" jT t.dL t.jN
 wI:W.keepIn K (.ref t.dL)=true
 wm:bq K t.jN ["rule","yes","no"] []
 jB:mg "shown_by_edges"=some (.ref t.bu)
 jZ:Fun K "shown_by_edges" "shown_by_edges" cE t.bu t.dO
 jF:W.keepIn K (.ref t.bu)=true
 jU:bq K t.dO ["rule","box","thing"] []
 A6:mg "_law_pen"=some (.ref t.fW)
 Bs:Fun K "_law_pen" "_law_pen" oG t.fW t.oy
 Bb:W.keepIn K (.ref t.fW)=true
 Ah:bq K t.oy ["_law_script"] []
 bc:mg "_law_draw"=some (.ref t.eF)
 w4:Fun K "_law_draw" "_law_draw" lQ t.eF t.l4
 bd:W.keepIn K (.ref t.eF)=true
 bg:bq K t.l4 ["_law_pen_here","_law_many"] []
 AQ:mg "_law_all"=some (.ref t.fQ)
 Bq:Fun K "_law_all" "_law_all" ou t.fQ t.oH
 Bl:W.keepIn K (.ref t.fQ)=true
 A5:bq K t.oH ["_law_places"] []
 vJ:mg "_law_sorts"=some (.ref t.dI)
 wj:Fun K "_law_sorts" "_law_sorts" fL t.dI t.jM
 vE:W.keepIn K (.ref t.dI)=true
 vT:bq K t.jM ["_law_pen_here","_law_places"] []
 Ae:mg "_law_box"=some (.ref t.fU)
 Bj:Fun K "_law_box" "_law_box" jc t.fU t.nX
 A1:W.keepIn K (.ref t.fU)=true
 Am:bq K t.nX ["_law_pen_here","_law_places"] []
 su:mg "_law_turned"=some (.ref t.cW)
 rC:Fun K "_law_turned" "_law_turned" iE t.cW t.iK
 tz:W.keepIn K (.ref t.cW)=true
 tB:bq K t.iK ["_law_pen_here","_law_things"] []
 rW:mg "_law_height"=some (.ref t.cX)
 rF:Fun K "_law_height" "_law_height" iN t.cX t.iI
 se:W.keepIn K (.ref t.cX)=true
 tq:bq K t.iI ["_law_number"] []
 AB:mg "_law_odd"=some (.ref t.ga)
 AH:Fun K "_law_odd" "_law_odd" kL t.ga t.oU
 Bd:W.keepIn K (.ref t.ga)=true
 A7:bq K t.oU ["_law_pen_here","_law_word"] []
 pF:mg "_law_is_word"=some (.ref t.cD)
 rk:Fun K "_law_is_word" "_law_is_word" eY t.cD t.gP
 qK:W.keepIn K (.ref t.cD)=true
 p7:bq K t.gP ["_law_places","_law_thing"] []
 iw:mg "_law_are_words"=some (.ref t.bO)
 mD:Fun K "_law_are_words" "_law_are_words" dQ t.bO t.eZ
 ip:W.keepIn K (.ref t.bO)=true
 ik:bq K t.eZ ["_law_some_here","_law_thing"] []
 vz:mg "_law_edges"=some (.ref t.dJ)
 vK:Fun K "_law_edges" "_law_edges" jw t.dJ t.jY
 wb:W.keepIn K (.ref t.dJ)=true
 vD:bq K t.jY ["_law_rule","_law_yes","_law_no"] []
 A8:mg "_law_due"=some (.ref t.fV)
 Al:Fun K "_law_due" "_law_due" oV t.fV t.o6
 AW:W.keepIn K (.ref t.fV)=true
 AD:bq K t.o6 ["_law_rule","_law_box_here","_law_thing"] []
 pe:mg "_law_some"=some (.ref t.eL)
 yy:Fun K "_law_some" "_law_some" me t.eL t.lY
 qB:W.keepIn K (.ref t.eL)=true
 pR:bq K t.lY ["_law_pen_here","_law_words"] []
 xy:mg "_law_bent"=some (.ref t.eO)
 xM:Fun K "_law_bent" "_law_bent" iR t.eO t.lK
 zb:W.keepIn K (.ref t.eO)=true
 yc:bq K t.lK ["_law_pen_here","_law_yes","_law_no"] []
 EA:mg "law"=some (.ref t.i4)
 Ek:Fun K "law" "law" mf t.i4 t.tM
 Gd:W.keepIn K (.ref t.i4)=true
 Gb:bq K t.tM ["_law_script"] []
 CM:∀(s:Shared)(v:Value),BindsTo s t.tM ⟨[v],[]⟩ [("_law_script",v)]
 yG:mg "abs"=none
 zJ:mg "all"=none
 yY:mg "bool"=none
 pi:mg "enumerate"=none
 ud:mg "int"=none
 bi:mg "isinstance"=none
 cg:mg "len"=none
 oZ:mg "list"=none
 gY:mg "range"=none
 o9:mg "repr"=none
 FG:mg "set"=none
 l7:mg "sorted"=none
 BK:mg "str"=none
 wZ:mg "sum"=none
 cf:mg "tuple"=none
 mn:mg "MOST_PLACES"=some (.int 5 t.dR)
 sm:(K.lookup sysModules).isSome=true
set_option hygiene false
local macro_rules | `(tactic| walk_at "ab")=>`(tactic| simp only[rd,jd,ra,ve,tW,tO,fw,pH,nv,uY,fY,gM,qN,tZ,ph,BD,xw,u9,qw,t6,vd,qo,pM,qh,qm,pw,ue,xY,tR,tJ,uE,zu,B6,uH,w9,xP,uB,uV,xi,uf,ng,kY,ny,m6,qt,qA,pW,nD,nF,lP,ni,k9,uC,nh,mP,pS,qW,p8,mW,pN,kf,nw,uk,qq,qU,nC,xk,xD,BM,qi,jr,uX,tL,pC,oI,t9,n6,uW,yU,k7,gL,qM,mI,pQ,xS,ux,kR,yN,zf,wR,nP,zM,yd,sS,zB,zD,y9,xl,qJ,ub,bK,lV,ox,xu,xK,zG,iO,mB,Om.Gm,Om.Gp,sz1,sz2,sz3,sz4,sz5,sz6,sz7,sz8,EU,Fc,Int.toNat_natCast,yp,y7,BS,Bv,BP,d7,uZ,tK,vh,uQ,Nat.zero_le,AV.d.injEq,AV.r.injEq,D.int.injEq,D.bl.injEq,D.str.injEq,D.tup.injEq,D.lst.injEq,OC.own.injEq,V.ref.injEq,V.ty.injEq,List.map_cons,List.map_nil,List.cons_append,List.nil_append,List.length_cons,List.length_nil,List.length_map,List.length_append,List.replicate,List.getElem?_cons_zero,List.getElem?_cons_succ,List.set_cons_zero,List.set_cons_succ,Option.some.injEq,Option.map_some,Option.join_some,exists_eq',exists_eq_left',exists_eq_left,List.cons.injEq,and_true,true_and,and_assoc,exists_and_left,Nat.sub_self,Nat.reduceAdd,Nat.reduceSub,Nat.reduceLeDiff,Int.reduceLT,Int.reduceToNat,Nat.reduceLT,decide_eq_true_eq,Bool.not_true,Bool.not_false,if_true,if_false,Bool.false_eq_true,reduceCtorEq,false_and,and_false,or_false,false_or,exists_false,beq_iff_eq,ne_eq,Bool.true_eq_false])
local macro_rules | `(tactic| walk_at "a1")=>`(tactic| simp only[rd,ra,ve,tW,tO,fw,pH,nv,uY,fY,gM,qN,tZ,ph,BD,xw,u9,qw,t6,vd,qo,pM,qh,qm,pw,ue,xY,tR,tJ,uE,zu,B6,uH,w9,xP,uB,uV,xi,uf,ng,kY,ny,m6,qt,qA,pW,nD,nF,lP,ni,k9,uC,nh,mP,pS,qW,p8,mW,pN,kf,nw,uk,qq,qU,nC,xk,xD,BM,qi,jr,uX,tL,pC,oI,t9,n6,uW,yU,k7,gL,qM,mI,pQ,xS,ux,kR,yN,zf,wR,nP,zM,yd,sS,zB,zD,y9,xl,qJ,ub,bK,lV,ox,xu,xK,zG,iO,mB,Om.Gm,Om.Gp,sz1,sz2,sz3,sz4,sz5,sz6,sz7,sz8,EU,Fc,Int.toNat_natCast,yp,y7,BS,Bv,BP,d7,uZ,tK,vh,uQ,Nat.zero_le,AV.d.injEq,AV.r.injEq,D.int.injEq,D.bl.injEq,D.str.injEq,D.tup.injEq,D.lst.injEq,OC.own.injEq,V.ref.injEq,V.ty.injEq,List.map_cons,List.map_nil,List.cons_append,List.nil_append,List.length_cons,List.length_nil,List.length_map,List.length_append,List.replicate,List.getElem?_cons_zero,List.getElem?_cons_succ,List.set_cons_zero,List.set_cons_succ,Option.some.injEq,Option.map_some,Option.join_some,exists_eq',exists_eq_left',exists_eq_left,List.cons.injEq,and_true,true_and,and_assoc,exists_and_left,Nat.sub_self,Nat.reduceAdd,Nat.reduceSub,Nat.reduceLeDiff,Int.reduceLT,Int.reduceToNat,Nat.reduceLT,decide_eq_true_eq,Bool.not_true,Bool.not_false,if_true,if_false,Bool.false_eq_true,reduceCtorEq,false_and,and_false,or_false,false_or,exists_false,beq_iff_eq,ne_eq,Bool.true_eq_false])
local macro_rules | `(tactic| walk_at "s1")=>`(tactic| (try walk_at "a1");(first|rw[jd]|rw[yL]);walk_at "a1")
set_option hygiene true
section
variable{P:Program}{w:World}{K:W.Frag}{mg:Str->Option Value}{base:Heap}{t:Adr}
noncomputable def scr(K:W.Frag)(a:Addr)(ns:List Int):AV:=.p (.ref a) (fun H=>SqL K H a (ns.map V.int))
noncomputable def En(K:W.Frag)(te:AE)(tl th:AO):AE:=fun ρ Z Q=>te ρ Z fun x Z1=>tl ρ Z1 fun lo Z2=>th ρ Z2 fun hi Z3=>∃a ns,x=scr K a ns/\Q (.d (.lst (bp (ns.map D.int) lo hi))) Z3
theorem ET{te:TE}{te':AE}{tl th:TO}{tl' th':AO}(he:br te te')(hl:Ref REq tl tl')(hh:Ref REq th th'):br (tSl (nN K) te tl th) (En K te' tl' th'):=⟨fun F H Z σ ρ Q Q' rp rs w k=>
 he.go rp rs w fun x Z1 v H1 rp1 fr1 rs1 rv1 q1=>hl.go rp1 rs1 q1 fun lo Z2 lo' H2 rp2 fr2 rs2 e2 q2=>hh.go rp2 rs2 q2 fun hi Z3 hi' H3 rp3 fr3 rs3 e3 ⟨a,ns,e,q⟩=>by
  cases (show lo=lo' from e2)
  cases (show hi=hi' from e3)
  subst e;obtain⟨e4,e5⟩:=rv1.same (fr2.trans fr3).same
  exact .inl ⟨a,_,e4,e5 _ aL,(k.fr ((fr1.trans fr2).trans fr3)).lst rp3 (nE _ ns).cut q⟩⟩
structure Pl where
 ns:List Int
 i:Int
 f:Int
 h0:0<=i
 hf:0<=f
 hn:ns.length<=63
noncomputable def plO(c:Pl):OC:=.own [.d (.lst (c.ns.map D.int)),.d (.int c.i),.d (.int c.f)]
noncomputable def i7(Z:Om)(p:Addr):Prop:=∃c,Z p=some (plO c)
theorem bF{Z:Om}{p:Addr}{c:Pl}:i7 (Z.put p (plO c)) p:=⟨c,Om.Gm⟩
noncomputable def Do(K:W.Frag):ASp:=fun xs Z Q=>∃(a:Addr)(ns:List Int),xs=[scr K a ns]/\ns.length<=63/\∀p c,Z p=none->Q (.r (.ref p)) (Z.put p (plO c))
theorem DB(T:Txt K mg t):a7 P w K mg base CX0 1 t.fW t.oy ["_law_script"] (cL (Do K)):=by
 refine T.Bs.okA xT (fun xs Z Q h=>by obtain⟨a,ns,rfl,_⟩:=h;rfl) (fun cdv A outer s H E hr=>⟨_,_,(av (aO (bE (ac (bL (dq K rfl) (pv 0) cj (cn ah)) (aq ah (aq ah af)))))),(a8 (jL (aa (ET ae c8 (da ak)) (aa ak (aa ak ag))))),fun xs Z Q h=>?_⟩)
 obtain⟨a,ns,rfl,hn,k⟩:=h;walk_at "ab";unfold En;walk_at "ab";refine⟨a,ns,rfl,fun p hp=>?_⟩;have e:bp (ns.map D.int) none (some 63)=(bp ns none (some 63)).map D.int:=by simp[bp]
 rw[e];exact k p ⟨bp ns none (some 63),0,0,Int.le_refl _,Int.le_refl _,Nat.le_trans (by simp only[bp,List.length_take,List.length_drop];omega) hn⟩ hp
noncomputable def A9:ASp:=fun xs Z Q=>∃(p:Addr)(m:Int),xs=[.r (.ref p),.d (.int m)]/\i7 Z p/\0<m/\m<1073741824/\∀(r:Int)(c:Pl),0<=r->r<m->Q (.d (.int r)) (Z.put p (plO c))
theorem gb(T:Txt K mg t):a7 P w K mg base CX0 1 t.eF t.l4 ["_law_pen_here","_law_many"] (cL A9):=by
 refine T.w4.okA cH (fun xs Z Q h=>by obtain⟨p,m,rfl,_⟩:=h;rfl) (fun cdv A outer s H E hr=>⟨_,_,(aj (gQ (pv 0) (Ct (n:=3) rfl (eH (aX (i:=2) cH.nd rfl (Or.inl rfl)) (eH (aX (i:=3) cH.nd rfl (Or.inl rfl)) (eH (aX (i:=4) cH.nd rfl (Or.inl rfl)) oh)))))
   (aj (cZ (aV BQ (pv 4) ah (aT _)) (aj (gQ (aF kG (pv 4) (pv 1)) (jx (pv 0) ah fD))
   (av (aO (aF fj (pv 4) (pv 1))))) bC)
   (aj (gQ (aF (am aY (am aM aZ)) (pv 3) ah) (jx (pv 0) ah fD))
   (aj (aE (i:=5) cH.nd rfl (Or.inl rfl) ah)
   (aj (cZ (aV BQ (ax (aP K rfl) (by rfl) T.cg (by kernel_rfl) (ac (pv 2) af)) ah (aT _)) (av (aE (i:=5) cH.nd rfl (Or.inl rfl) (aQ (az K rfl) (pv 2) (aF fj (pv 3) (ax (aP K rfl) (by rfl) T.cg (by kernel_rfl) (ac (pv 2) af))) (fun _ _=>rfl)))) bC)
   (aj (cZ (PW.pt (sB (aV pX (pv 3) (ax (aP K rfl) (by rfl) T.cg (by kernel_rfl) (ac (pv 2) af)) (aT _)) (oo (aV Em (ax lN (by rfl) T.yG (by kernel_rfl) (ac (pv 5) af)) (aF De ah ah) (aT _))))) (aj (gQ (aF kG (ax lN (by rfl) T.yG (by kernel_rfl) (ac (pv 5) af)) (pv 1)) (jx (pv 0) ah fD))
   (av (aO (aF fj (ax lN (by rfl) T.yG (by kernel_rfl) (ac (pv 5) af)) (pv 1))))) bC)
   (aj (aE (i:=6) cH.nd rfl (Or.inl rfl) (aF fj (aF (am dH dB) (aF (am aY (am aM aZ)) (aF (am aY (am aM aZ)) (aF fj (pv 5) ah) (aF (am dH dB) ah (pv 3))) ah) ah) ah))
   (aj (aE (i:=6) cH.nd rfl (Or.inl rfl) (aF fj (aF (am aY (am aM aZ)) (aF (am aY (am aM aZ)) (aF (am dH dB) (pv 6) (pv 6)) (aF (am dH dB) ah (pv 6))) (pv 3)) ah))
   (aj (aE (i:=6) cH.nd rfl (Or.inl rfl) (aF fj (aF (am aY (am aM aZ)) (aF (am dH dB) (pv 6) ah) (aF (am dH dB) ah (pv 3))) ah))
   (av (aO (aF fj (aF kG (aF fj (aF (am dH dB) (pv 6) (pv 6)) ah) ah) (pv 1))))))))))))),(aB (aK ae (Fu (iA ap (iA ap (iA ap yZ)))))
   (aB (fC (ba (ao fH ae ak)) (aB (aK (ao iL ae ae) (mO ae ak))
   (a8 (ao iL ae ae))) bU)
   (aB (aK (ao bz ae ak) (mO ae ak))
   (aB (aK ak ap)
   (aB (fC (ba (ao fH (a9 cr (aa ae ag)) ak)) (aK (ao bw ae (ao iL ae (a9 cr (aa ae ag)))) ap) bU)
   (aB (fC (yM (ba (ao fH ae (a9 cr (aa ae ag)))) (ba (ao fH (a9 DW (aa ae ag)) (ao iL ak ak)))) (aB (aK (ao iL (a9 DW (aa ae ag)) ae) (mO ae ak))
   (a8 (ao iL (a9 DW (aa ae ag)) ae))) bU)
   (aB (aK (ao iL (ao fE (ao bz (ao bz (ao iL ae ak) (ao fE ak ae)) ak) ak) ak) ap)
   (aB (aK (ao iL (ao bz (ao bz (ao fE ae ae) (ao fE ak ae)) ae) ak) ap)
   (aB (aK (ao iL (ao bz (ao fE ae ak) (ao fE ak ae)) ak) ap)
   (a8 (ao iL (ao iL (ao iL (ao fE ae ae) ak) ak) ae))))))))))),fun xs Z Q h=>?_⟩)
 obtain⟨p,m,rfl,⟨c,hp⟩,hm,hm2,k⟩:=h;have fin:∀(r:Int)(c:Pl),Q (.d (.int (r%m))) (Z.put p (plO c)):=fun r c=>k _ c (Int.emod_nonneg _ (by omega)) (Int.emod_lt_of_pos _ hm)
 unfold plO at hp;walk_at "s1";rw[hp];refine⟨_,rfl,rfl,_,_,rfl,_,_,rfl,_,_,rfl,rfl,?_⟩;walk_at "s1";refine vM (fun h1=>?_) (fun h1=>?_)
 ·walk_at "ab"
  simp only[hp];walk_at "ab";exact⟨⟨hm,hm2⟩,hm,fin _ ⟨c.ns,c.i,c.f / m,c.h0,Int.ediv_nonneg c.hf (by omega),c.hn⟩⟩
 ·walk_at "s1"
  simp only[hp];walk_at "a1";walk_at "s1";refine nO (fun ρ' Z'=>Z'=Z.put p (OC.own [AV.d (D.lst (c.ns.map D.int)),AV.d (D.int (c.i+1)),AV.d (D.int c.f)])/\∃x:Int,ρ'=[some (AV.r (V.ref p)),some (AV.d (D.int m)),some (AV.d (D.lst (c.ns.map D.int))),some (AV.d (D.int c.i)),some (AV.d (D.int c.f)),some (AV.d (D.int x)),none]) (fun M kM=>?_) ?_
  ·walk_at "a1"
   refine vM (fun h2=>?_) (fun h2=>?_)
   ·have hx1:0<=c.i%(c.ns.length:Int):=Int.emod_nonneg _ (by omega)
    have hx2:c.i%(c.ns.length:Int)<(c.ns.length:Int):=Int.emod_lt_of_pos _ h2;obtain⟨y,_,_,ey⟩:=tS (f:=AV.d ∘ D.int) (xs:=c.ns) hx1 hx2;rw[←List.map_map] at ey
    exact⟨h2,_,ey,kM _ _ ⟨rfl,_,rfl⟩⟩
   ·exact kM _ _ ⟨rfl,_,rfl⟩
  rintro ρ Z' ⟨rfl,x,rfl⟩;have absn:∀z:Int,0<=(if z<0 then -z else z):=fun z=>by split<;>omega
  refine nO (fun ρ' Z'=>Z'=Z.put p (OC.own [AV.d (D.lst (c.ns.map D.int)),AV.d (D.int (c.i+1)),AV.d (D.int c.f)])/\ρ'=[some (AV.r (V.ref p)),some (AV.d (D.int m)),some (AV.d (D.lst (c.ns.map D.int))),some (AV.d (D.int c.i)),some (AV.d (D.int c.f)),some (AV.d (D.int x)),none]) (fun M kM=>?_) ?_
  ·walk_at "a1"
   refine vM (fun h2=>⟨⟨by decide,by decide,by decide⟩,vM (fun h3=>?_) (fun h3=>kM _ _ ⟨rfl,rfl⟩)⟩) (fun h2=>kM _ _ ⟨rfl,rfl⟩)
   walk_at "ab";exact⟨⟨hm,hm2⟩,hm,fin _ ⟨c.ns,c.i+1,(if x<0 then -x else x) / m,by have:=c.h0;omega,Int.ediv_nonneg (absn x) (by omega),c.hn⟩⟩
  rintro ρ Z' ⟨rfl,rfl⟩;walk_at "ab";exact⟨gD (by decide),sg (by decide),pd (by decide) (by decide),gD (by decide),sg (by decide),gD (by decide),pd (by decide) (by decide),⟨by decide,by decide⟩,hm,fin _ ⟨c.ns,c.i+1,c.f,by have:=c.h0;omega,c.hf,c.hn⟩⟩
theorem vS{H:Hp}{a:Addr}{ns:List Int}(h:SqL K H a (ns.map V.int)):RV (cut (fun _=>false) H (fun _=>none)) (scr K a ns) (.ref a):=by
 refine⟨rfl,fun G' s=>?_⟩;have s2:cS H G':=fun b o e=>s b o (bB.mpr ⟨rfl,rfl,e⟩);rcases h with(h|⟨o,h⟩)|h
 ·exact .inl (.inl (s2 _ _ h))
 ·exact .inl (.inr ⟨o,s2 _ _ h⟩)
 ·exact .inr h
theorem F9{H:Hp}:Rep (fun _=>false) H (fun _=>none):=⟨fun _ _ h=>by simp at h,fun _ _ h=>by simp at h,fun _ h=>by simp at h,fun _ _ h=>by simp at h⟩
noncomputable def Ay(K:W.Frag):ASp:=fun xs Z Q=>∃(a:Addr)(ns:List Int),xs=[scr K a ns]/\ns.length<=63/\Z=(fun _=>none)/\∀Z',Q (.d (.bl true)) Z'
noncomputable def rD(K:W.Frag):Sp:=cL (Ay K)
theorem vG{K:W.Frag}{H:Hp}{a:Addr}{ns:List Int}(hl:ns.length<=63)(hO:Fh H)(hS:SqL K H a (ns.map V.int)):rD K [.ref a] H (fun v _=>v=.bl true) fun _ _ _=>False:=
 ⟨fun _=>false,[scr K a ns],fun _=>none,fun a _=>a=.d (.bl true),F9,⟨_,_,rfl,vS hS,rfl⟩,⟨a,ns,rfl,hl,rfl,fun _=>rfl⟩,fun a Z' v H' _ _ rv q=>by subst q;exact xh rv⟩
noncomputable def Eb:ASp:=fun xs Z Q=>∃n:Nat,xs=[.d (.int n)]/\n<=5/\Q (.d (.lst ((wl n).map wdD))) Z
theorem DY(T:Txt K mg t):a7 P w K mg base CX0 1 t.fQ t.oH ["_law_places"] (cL Eb):=by
 refine T.Bq.okD eG (fun xs Z Q h=>by obtain⟨n,rfl,_⟩:=h;rfl) (fun cdv A outer s H E hr=>⟨_,_,(aj (aE (i:=1) eG.nd rfl (Or.inl rfl) (bE (bj (a0 af) af)))
   (aj (gn PassesOwn.never rfl (d9 rfl T.gY (ac (pv 0) af)) (aX (i:=2) eG.nd rfl (Or.inl rfl)) (aj (aE (i:=3) eG.nd rfl (Or.inl rfl) (bE af))
   (aj (gn PassesOwn.never rfl (cw K rfl (pv 1)) (aX (i:=4) eG.nd rfl (Or.inl rfl)) (av (aE (i:=3) eG.nd rfl (Or.inl rfl) (aF (am aY (am aM aZ)) (pv 3) (bE (ac (aF (am aY (am aM aZ)) (pv 4) (a0 (aq ah af))) (ac (aF (am aY (am aM aZ)) (pv 4) (a0 (aq ah af))) af)))))))
   (av (aE (i:=1) eG.nd rfl (Or.inl rfl) (pv 3))))))
   (av (aO (pv 1))))),(aB (aK (di (aa (bx ag) ag)) ap)
   (aB (i0 (jQ (aa ae ag)) ap (aB (aK (di ag) ap)
   (aB (i0 (dW ae) ap (aK (ao bz ae (di (aa (ao bz ae (bx (aa ak ag))) (aa (ao bz ae (bx (aa ak ag))) ag)))) ap))
   (aK ae ap))))
   (a8 ae))),fun xs Z Q h=>?_⟩)
 obtain⟨n,rfl,hn,k⟩:=h;walk_at "ab";refine⟨by omega,by omega,?_⟩
 refine kJ (fun i ρ Z'=>Z'=Z/\∃v2 v3 v4,ρ=[some (.d (.int n)),some (.d (.lst ((wl i).map wdD))),v2,v3,v4]) ⟨rfl,_,_,_,rfl⟩ ?_ ?_
 ·rintro i ρ Z1 N hi ⟨rfl,v2,v3,v4,rfl⟩ kN
  have hw:=mT (n:=i) (by omega)
  walk_at "ab";refine uP (fun j ρ Z2=>Z2=Z1/\∃v4,ρ=[some (.d (.int n)),some (.d (.lst ((wl i).map wdD))),some (.d (.int (0+i))),some (.d (.lst (((((wl i).take j).flatMap fun w=>[w++[0],w++[1]]).map wdD)))),v4]) ⟨rfl,_,rfl⟩ ?_ ?_
  ·rintro j d ρ Z2 M hd ⟨rfl,v4,rfl⟩ kM
   obtain⟨x,hx,rfl⟩:=iS hd;have hx1:=(cy (List.mem_of_getElem? hx)).1;have hj:=(List.getElem?_eq_some_iff.mp hx).1
   have hl2:((((wl i).take j).flatMap fun w=>[w++[0],w++[1]]).length)=2*j:=by
    have h:∀ws:List (List Int),(ws.flatMap fun w=>[w++[0],w++[1]]).length=2*ws.length:=fun ws=>by
     induction ws with
     |nil=>rfl
     |cons a r ih=>rw[List.flatMap_cons,List.length_append,ih];simp;omega
    rw[h,List.length_take];omega
   walk_at "ab"
   have et:(((wl i).take (j+1)).flatMap fun w=>[w++[0],w++[1]])=((wl i).take j).flatMap (fun w=>[w++[0],w++[1]])++[x++[0],x++[1]]:=by
    rw[List.take_succ,hx,List.flatMap_append];simp
   exact⟨sC (m:=0) (by omega),sC (m:=0) (by omega),sC (m:=0) (by rw[hl2];omega),kM _ _ ⟨rfl,some (.d (wdD x)),by rw[et];simp⟩⟩
  ·rintro ρ Z2 ⟨rfl,v4,rfl⟩
   rw[List.length_map,List.take_length];walk_at "ab";exact kN _ _ ⟨rfl,_,_,_,rfl⟩
 ·rintro ρ Z1 ⟨rfl,v2,v3,v4,rfl⟩
  walk_at "ab";rw[ar];exact k
theorem i7.some{Z:Om}{p:Addr}(h:i7 Z p):(Z p).isSome=true:=by obtain⟨c,e⟩:=h;rw[e];rfl
structure S5(Z0 Z:Om)(p l a b:Addr)(ys zs:List (List Int)):Prop where
 ex:∃c,Ex (Z0.put p (plO c)) Z
 hl:Z l=some (.own [.r (.ref a),.r (.ref b)])
 ha:Z a=some (.own ((ys.map wdD).map AV.d))
 hb:Z b=some (.own ((zs.map wdD).map AV.d))
 nl:Z0 l=none
 na:Z0 a=none
 nb:Z0 b=none
 pl:l≠p
 pa:a≠p
 pb:b≠p
 la:l≠a
 lb:l≠b
 ab:a≠b
theorem lm{Z0 Z:Om}{p:Addr}(h:∃c,Ex (Z0.put p (plO c)) Z):i7 Z p:=by
 obtain⟨c,h⟩:=h;exact⟨c,(h p (by rw[Om.Gm];rfl)).trans Om.Gm⟩
theorem S5.draw{Z0 Z:Om}{p l a b:Addr}{ys zs:List (List Int)}(h:S5 Z0 Z p l a b ys zs)(c:Pl):S5 Z0 (Z.put p (plO c)) p l a b ys zs:=
 ⟨let ⟨_,e⟩:=h.ex;⟨c,e.put2⟩,by rw[Om.Gn h.pl];exact h.hl,by rw[Om.Gn h.pa];exact h.ha,by rw[Om.Gn h.pb];exact h.hb,h.nl,h.na,h.nb,h.pl,h.pa,h.pb,h.la,h.lb,h.ab⟩
theorem cQ{Z:Om}{p l:Addr}{c:OC}(h:Z l=none)(hp:l≠p):(Z.put p c) l=none:=by rw[Om.Gn hp];exact h
theorem S5.GI{Z0 Z:Om}{p l a b:Addr}{ys zs:List (List Int)}(h:S5 Z0 Z p l a b ys zs)(us:List (List Int)):S5 Z0 (Z.put a (.own ((us.map wdD).map AV.d))) p l a b us zs:=
 ⟨let ⟨c,e⟩:=h.ex;⟨c,e.over (cQ h.na h.pa)⟩,by rw[Om.Gn h.la];exact h.hl,Om.Gm,by rw[Om.Gn h.ab.symm];exact h.hb,h.nl,h.na,h.nb,h.pl,h.pa,h.pb,h.la,h.lb,h.ab⟩
theorem S5.setB{Z0 Z:Om}{p l a b:Addr}{ys zs:List (List Int)}(h:S5 Z0 Z p l a b ys zs)(us:List (List Int)):S5 Z0 (Z.put b (.own ((us.map wdD).map AV.d))) p l a b ys us:=
 ⟨let ⟨c,e⟩:=h.ex;⟨c,e.over (cQ h.nb h.pb)⟩,by rw[Om.Gn h.lb];exact h.hl,by rw[Om.Gn h.ab];exact h.ha,Om.Gm,h.nl,h.na,h.nb,h.pl,h.pa,h.pb,h.la,h.lb,h.ab⟩
theorem Bp{Z:Om}{z:AV}{d:D}{K:D->Om->Prop}(h:aS Z z=some d)(k:∀Z',(Z'=Z\/∃a ds,z=.r (.ref a)/\Z a=some (.own (ds.map AV.d))/\Z'=Z.put a (.frz ds))->K d Z'):jP Z z K:=by
 cases z with
 |d x=>cases h;exact k _ (.inl rfl)
 |p u P=>cases h
 |r u=>
  cases u with
  |ref a=>
   simp only[aS] at h;simp only[jP]
   cases e:Z a with
   |none=>rw[e] at h;cases h
   |some c=>
    rw[e] at h
    cases c with
    |own xs=>
     simp only[Option.map_eq_some_iff] at h;obtain⟨ds,h1,rfl⟩:=h;refine⟨ds,h1,k _ (.inr ⟨a,ds,rfl,?_,rfl⟩)⟩;rw[e,dZ h1]
    |frz ds=>cases h;exact k _ (.inl rfl)
    |dic ks=>cases h
  |_=>cases h
theorem pU{Z:Om}{a:Addr}{ds:List D}(h:Z a=some (.own (ds.map AV.d)))(x:AV):aS (Z.put a (.frz ds)) x=aS Z x:=by
 cases x with
 |d x=>rfl
 |p u P=>rfl
 |r u=>
  cases u with
  |ref b=>
   by_cases e:b=a
   ·subst e
    rw[i6 h];simp only[aS,Om.Gm]
   ·simp only[aS,Om.Gn e]
  |_=>rfl
theorem pB{Z:Om}{l:Addr}{c:OC}{x:AV}(h:∀a,x=.r (.ref a)->a≠l):aS (Z.put l c) x=aS Z x:=by
 cases x with
 |d x=>rfl
 |p u P=>rfl
 |r u=>
  cases u with
  |ref b=>simp only[aS,Om.Gn (h b rfl)]
  |_=>rfl
structure Wz(Z0 Z:Om)(p l:Addr)(z:AV)(ws:List (List Int)):Prop where
 len:ws.length<=32
 dat:aS Z z=some (.lst (ws.map wdD))
 adr:∀a,z=.r (.ref a)->a≠l/\a≠p/\Z0 a=none
structure S6(Z0 Z:Om)(p l:Addr)(zs:List AV)(A:List (List (List Int))):Prop where
 ex:∃c,Ex (Z0.put p (plO c)) Z
 hl:Z l=some (.own zs)
 h2:zs.length=2
 hA:A.length=2
 nl:Z0 l=none
 pl:l≠p
 wz:∀(j:Nat) z,zs[j]?=some z->∃ws,A[j]?=some ws/\Wz Z0 Z p l z ws
theorem S6.frz{Z0 Z Z':Om}{p l:Addr}{zs:List AV}{A:List (List (List Int))}(h:S6 Z0 Z p l zs A){z:AV}{us:List (List Int)}(hz:Wz Z0 Z p l z us)(e:Z'=Z\/∃a ds,z=.r (.ref a)/\Z a=some (.own (ds.map AV.d))/\Z'=Z.put a (.frz ds)):S6 Z0 Z' p l zs A:=by
 rcases e with rfl|⟨a,ds,rfl,ha,rfl⟩
 ·exact h
 ·obtain⟨n1,n2,n3⟩:=hz.adr a rfl
  exact⟨let ⟨c,e⟩:=h.ex;⟨c,e.over (cQ n3 n2)⟩,by rw[Om.Gn n1.symm];exact h.hl,h.h2,h.hA,h.nl,h.pl,fun j y hy=>let ⟨ws,q0,q⟩:=h.wz j y hy;⟨ws,q0,q.len,by rw[pU ha];exact q.dat,q.adr⟩⟩
theorem Wz.keep{Z0 Z:Om}{p l:Addr}{y:AV}{ws:List (List Int)}{c:OC}(hy:Wz Z0 Z p l y ws):Wz Z0 (Z.put l c) p l y ws:=⟨hy.len,by rw[pB fun a e=>(hy.adr a e).1];exact hy.dat,hy.adr⟩
theorem S6.set{Z0 Z:Om}{p l:Addr}{zs:List AV}{A:List (List (List Int))}(h:S6 Z0 Z p l zs A){j:Nat}{v:AV}{us:List (List Int)}(hv:Wz Z0 Z p l v us):S6 Z0 (Z.put l (.own (zs.set j v))) p l (zs.set j v) (A.set j us):=by
 refine⟨let ⟨c,e⟩:=h.ex;⟨c,e.over (cQ h.nl h.pl)⟩,Om.Gm,by simp[h.h2],by simp[h.hA],h.nl,h.pl,fun i y hy=>?_⟩
 rw[List.getElem?_set] at hy ⊢;by_cases e:j=i
 ·subst e
  rw[if_pos rfl] at hy ⊢;rw[h.h2] at hy;rw[h.hA];by_cases e2:j<2
  ·rw[if_pos e2] at hy ⊢
   cases hy;exact⟨us,rfl,hv.keep⟩
  ·rw[if_neg e2] at hy;cases hy
 ·rw[if_neg e] at hy ⊢
  obtain⟨ws,q0,q⟩:=h.wz i y hy;exact⟨ws,q0,q.keep⟩
theorem S6.new{Z0 Z:Om}{p l q:Addr}{zs:List AV}{A:List (List (List Int))}(h:S6 Z0 Z p l zs A){us:List (List Int)}(hq:Z q=none)(hu:us.length<=32):S6 Z0 (Z.put q (.own ((us.map wdD).map AV.d))) p l zs A/\Wz Z0 (Z.put q (.own ((us.map wdD).map AV.d))) p l (.r (.ref q)) us:=by
 obtain⟨c,e⟩:=h.ex;have h0:(Z0.put p (plO c)) q=none:=e.none hq;have nq:l≠q:=fun z=>by subst z;rw[h.hl] at hq;cases hq
 have npq:q≠p:=fun z=>by subst z;rw[Om.Gm] at h0;cases h0
 rw[Om.Gn npq] at h0;refine⟨⟨⟨c,e.new hq⟩,by rw[Om.Gn nq];exact h.hl,h.h2,h.hA,h.nl,h.pl,fun j y hy=>?_⟩,hu,i6 Om.Gm,fun a e=>?_⟩
 ·obtain⟨ws,q0,q1⟩:=h.wz j y hy
  refine⟨ws,q0,q1.len,?_,q1.adr⟩;rw[pB fun a ea z=>?_]
  ·exact q1.dat
  ·subst ea z
   have q2:=q1.dat
   simp only[aS,hq] at q2;cases q2
 ·cases e
  exact⟨nq.symm,npq,h0⟩
theorem FO{Z0 Z:Om}{p l:Addr}{us:List (List Int)}(hu:us.length<=32):Wz Z0 Z p l (.d (.lst (us.map wdD))) us:=⟨hu,rfl,fun a e=>by cases e⟩
theorem AY{Z:Om}{o:AV}{ds:List D}{lo hi:Option Int}{Q:AV->Om->Prop}(h:aS Z o=some (.lst ds))(q:Q (.d (.lst (bp ds lo hi))) Z):slA o lo hi Z Q:=by
 cases o with
 |d x=>cases h;rw[kR];exact q
 |p u P=>cases h
 |r u=>
  cases u with
  |ref b=>rw[Bu];exact⟨ds,h,q⟩
  |_=>cases h
theorem F5{α:Type}(xs:List α):(bp xs none (some 1)).length<=1:=by
 have h:=HT.sIx_nat xs.length xs.length 1;simp only[bp,List.length_take,HT.sIx_none];have h:HT.sIx xs.length xs.length (some 1)=min 1 xs.length:=h;omega
theorem at2{zs:List AV}{k:Int}(h2:zs.length=2)(h0:0<=k)(h1:k<2):∃z,zs[k.toNat]?=some z/\atI zs k=some z:=by
 match zs,h2 with
 | [x,y],_=>
  rcases(by omega:k=0\/k=1) with rfl|rfl
  ·exact⟨x,rfl,rfl⟩
  ·exact⟨y,rfl,rfl⟩
theorem ix2{k:Int}(h0:0<=k)(h1:k<2):ixN 2 k=some k.toNat:=by
 rcases(by omega:k=0\/k=1) with rfl|rfl
 ·rfl
 ·rfl
noncomputable def gy(n:Nat)(us:List (List Int)):List (List Int):=bp (((wl n).filter fun v=>!decide (v∈us))++bp us none (some 1)) none (some 1)
theorem uc{α:Type}(xs:List α):bp xs none (some 1)=xs.take 1:=by
 have h:=HT.sIx_nat xs.length xs.length 1;simp only[bp,HT.sIx_none];have h:HT.sIx xs.length xs.length (some 1)=min 1 xs.length:=h;simp only[h,List.drop_zero,Nat.sub_zero]
 cases xs with
 |nil=>rfl
 |cons x xs=>simp
theorem xX:∀n:Fin 5,∃a∈wl (n.val+1),∃b∈wl (n.val+1),a≠b:=by decide +kernel
structure Srt(n i:Nat)(A:List (List (List Int))):Prop where
 sub:∀ys∈A,ys.Sublist (wl n)
 two:∃ys zs,A=[ys,zs]/\(∀v∈ys,v ∉ zs)/\(1<=i->ys≠[])/\(2<=i->zs≠[])
theorem AU{n:Nat}{us:List (List Int)}(hn1:1<=n)(hn:n<=5)(h:us.Sublist (wl n)):(gy n us).Sublist (wl n)/\gy n us≠[]/\(us≠[]->(us.filter fun v=>!decide (v∈gy n us))≠[]):=by
 obtain⟨a,ha,b,hb,hab⟩:=xX ⟨n-1,by omega⟩
 simp only[Nat.sub_add_cancel hn1] at ha hb;unfold gy;rw[uc,uc]
 cases e:(wl n).filter fun v=>!decide (v∈us) with
 |cons x xs=>
  have hx:x∈(wl n).filter fun v=>!decide (v∈us):=by rw[e];simp
  obtain⟨h1,h2⟩:=List.mem_filter.mp hx;have h2:x ∉ us:=by simpa using h2
  refine⟨by simpa using h1,by simp,fun hu=>?_⟩
  rw[List.filter_eq_self.mpr]
  ·exact hu
  ·intro v hv
   have:v≠x:=fun z=>h2 (z ▸ hv);simp[this]
 |nil=>
  have all:∀v∈wl n,v∈us:=fun v hv=>by
   have:=List.filter_eq_nil_iff.mp e v hv;simpa using this
  cases us with
  |nil=>exact absurd (all a ha) (by simp)
  |cons x xs=>
   refine⟨by simpa using h.mem (List.mem_cons_self ..),by simp,fun _=>?_⟩
   obtain⟨c,hc,hcx⟩:∃c∈wl n,c≠x:=by
    by_cases e1:a=x
    ·exact⟨b,hb,fun z=>hab (e1.trans z.symm)⟩
    ·exact⟨a,ha,e1⟩
   refine List.ne_nil_of_mem (List.mem_filter.mpr ⟨all c hc,?_⟩);simp[hcx]
theorem yi{n i:Nat}{A:List (List (List Int))}{ws us:List (List Int)}(hn1:1<=n)(hn:n<=5)(hi:i<2)(h:Srt n i A)(e1:A[i]?=some ws)(e2:A[1-i]?=some us)(hw:ws=[]):Srt n (i+1) ((A.set i (gy n us)).set (1-i) (us.filter fun v=>!decide (v∈gy n us))):=by
 obtain⟨ys,zs,rfl,hd,h1,h2⟩:=h.two;have ho:us.Sublist (wl n):=h.sub us (List.mem_of_getElem? e2);obtain⟨f1,f2,f3⟩:=AU hn1 hn ho;have dj:∀v∈us.filter fun v=>!decide (v∈gy n us),v ∉ gy n us:=fun v hv=>by simpa using(List.mem_filter.mp hv).2
 have hg:(us.filter fun v=>!decide (v∈gy n us)).Sublist (wl n):=List.filter_sublist.trans ho;subst hw;rcases(by omega:i=0\/i=1) with rfl|rfl
 ·refine⟨fun y hy=>?_,_,_,rfl,fun v hv hv2=>dj v hv2 hv,fun _=>f2,fun z=>by omega⟩
  simp only[List.set_cons_zero,List.set_cons_succ,List.mem_cons,List.not_mem_nil,or_false] at hy;rcases hy with rfl|rfl
  ·exact f1
  ·exact hg
 ·simp only[List.getElem?_cons_succ,List.getElem?_cons_zero,Nat.sub_self,Option.some.injEq] at e1 e2
  subst e1 e2;refine⟨fun y hy=>?_,_,_,rfl,dj,fun _=>f3 (h1 (Nat.le_refl _)),fun _=>f2⟩;simp only[Nat.sub_self,List.set_cons_zero,List.set_cons_succ,List.mem_cons,List.not_mem_nil,or_false] at hy;rcases hy with rfl|rfl
  ·exact hg
  ·exact f1
theorem xA{n i:Nat}{A:List (List (List Int))}{ws:List (List Int)}(hi:i<2)(h:Srt n i A)(e1:A[i]?=some ws)(hw:ws≠[]):Srt n (i+1) A:=by
 obtain⟨ys,zs,rfl,hd,h1,h2⟩:=h.two;rcases(by omega:i=0\/i=1) with rfl|rfl
 ·cases e1
  exact⟨h.sub,_,_,rfl,hd,fun _=>hw,fun z=>by omega⟩
 ·cases e1
  exact⟨h.sub,_,_,rfl,hd,fun _=>h1 (Nat.le_refl _),fun _=>hw⟩
theorem g7{n i:Nat}{x:List Int}{ys:List (List Int)}(hx:(wl n)[i]?=some x)(h:ys.Sublist ((wl n).take i)):(ys++[x]).Sublist ((wl n).take (i+1))/\ys.Sublist ((wl n).take (i+1)):=by
 rw[List.take_succ,hx];exact⟨h.append (List.Sublist.refl _),h.trans (List.sublist_append_left _ _)⟩
theorem Cq:∀n:Fin 6,(wl n.val).Nodup:=by decide +kernel
theorem Ar{n i:Nat}{x:List Int}(hn:n<=5)(hx:(wl n)[i]?=some x):x ∉ (wl n).take i:=fun h=>by
 have hi:=(List.getElem?_eq_some_iff.mp hx).1;obtain⟨j,hj⟩:=List.mem_iff_getElem?.mp h
 have hji:j<i:=by
  have:=(List.getElem?_eq_some_iff.mp hj).1;rw[List.length_take] at this;omega
 rw[List.getElem?_take_of_lt hji] at hj;have:=(Cq ⟨n,by omega⟩)
 simp only at this;have h1:=(List.getElem?_inj (by omega:j<(wl n).length) this).mp (hj.trans hx.symm)
 omega
noncomputable def zK:ASp:=fun xs Z Q=>∃(p:Addr)(n:Nat),xs=[.r (.ref p),.d (.int n)]/\i7 Z p/\1<=n/\n<=5/\∀(ys zs:List (List Int)) (c:Pl),ys.Sublist (wl n)->zs.Sublist (wl n)->ys≠[]->zs≠[]->(∀v∈ys,v ∉ zs)->Q (.d (.tup [.tup (ys.map wdD),.tup (zs.map wdD)])) (Z.put p (plO c))
theorem yT(T:Txt K mg t):a7 P w K mg base CX0 3 t.dI t.jM ["_law_pen_here","_law_places"] (cL zK):=by
 have G_l_draw:a7 P w K mg base _ _ _ _ _ _:=gb T;have G_l_all:a7 P w K mg base _ _ _ _ _ _:=DY T
 refine T.wj.okD bD (fun xs Z Q h=>by obtain ⟨p,n,rfl,_⟩:=h;rfl) (fun cdv A outer s H E hr=>⟨_,_,(aj (aE (i:=2) bD.nd rfl (Or.inl rfl) (aA G_l_all (hr.mono (by omega)) (by rfl) T.AQ T.Bl T.A5 .nil aW (ac (pv 1) af)))
   (aj (aE (i:=3) bD.nd rfl (Or.inl rfl) (aA G_l_draw (hr.mono (by omega)) (by rfl) T.bc T.bd T.bg .nil aW (ac (pv 0) (aq ah af))))
   (aj (aE (i:=4) bD.nd rfl (Or.inl rfl) (aF (am aY (am aM aZ)) ah (aA G_l_draw (hr.mono (by omega)) (by rfl) T.bc T.bd T.bg .nil aW (ac (pv 0) (ac (pv 1) af)))))
   (aj (aE (i:=5) bD.nd rfl (Or.inl rfl) (aA G_l_draw (hr.mono (by omega)) (by rfl) T.bc T.bd T.bg .nil aW (ac (pv 0) (ac (pv 1) af))))
   (aj (aE (i:=6) bD.nd rfl (Or.inl rfl) (aQ (az K rfl) (bE (aq ah (aq ah (aq ah (aq ah af))))) (aA G_l_draw (hr.mono (by omega)) (by rfl) T.bc T.bd T.bg .nil aW (ac (pv 0) (aq ah af))) (fun _ _=>rfl)))
   (aj (aE (i:=7) bD.nd rfl (Or.inr rfl) (bE (ly (bE af) (ly (bE af) af))))
   (aj (gn PassesOwn.never rfl (cw K rfl (pv 2)) (aX (i:=8) bD.nd rfl (Or.inl rfl)) (aj (aE (i:=9) bD.nd rfl (Or.inl rfl) (aA G_l_draw (hr.mono (by omega)) (by rfl) T.bc T.bd T.bg .nil aW (ac (pv 0) (aq ah af))))
   (aj (aE (i:=10) bD.nd rfl (Or.inr rfl) (aQ (az K rfl) (bE (ac (pv 9) (ac (bv mZ (by rfl) T.ud (by kernel_rfl) (ac (ci pX (ax (jJ K rfl rfl) (by rfl) T.wZ (by kernel_rfl) (ac (pv 8) af)) (pv 4) (aT _)) af)) (ac (aF fj (ax (jJ K rfl rfl) (by rfl) T.wZ (by kernel_rfl) (ac (pv 8) af)) ah) (ac (aF gN ah (aQ (az K rfl) (pv 8) (pv 5) (fun _ _=>rfl))) (ac (bv mZ (by rfl) T.ud (by kernel_rfl) (ac (ci pX (aF (am aY (am aM aZ)) (ax (jJ K rfl rfl) (by rfl) T.wZ (by kernel_rfl) (ac (pv 8) af)) (pv 9)) (pv 4) (aT _)) af)) af)))))) (pv 3) (fun _ _=>rfl)))
   (av (cZ (aV (ce hr.Go) (aA G_l_draw (hr.mono (by omega)) (by rfl) T.bc T.bd T.bg .nil aW (ac (pv 0) (ac (pv 6) af))) ah (aT _)) (av (og (pV PySem.F.plainAttrs_list PySem.F.slot_list_append PySem.F.type_list_append hU (aQ (az K rfl) (pv 7) (pv 10) (fun _ _=>rfl)) (ac (pv 8) af)))) bC)))))
   (aj (gn PassesOwn.never rfl (d9 rfl T.gY (aq ah af)) (aX (i:=10) bD.nd rfl (Or.inr rfl)) (av (cZ (aV (ce hr.Go) (aQ (az K rfl) (pv 7) (pv 10) (fun _ _=>rfl)) (bE af) (aT _)) (aj (aE (i:=11) bD.nd rfl (Or.inr rfl) (aQ (az K rfl) (pv 7) (aF gN ah (pv 10)) (fun _ _=>rfl)))
   (aj (gQ (bL (dq K rfl) (aF (am aY (am aM aZ)) (ck (N:=(["_law_word","_law_others"] : List Str)) (src:=[none,some 11]) rfl (by show df _ (defScope fL) _ _ (["_law_pen_here","_law_places","_law_words","_law_way","_law_top","_law_place","_law_share","_law_sorts_here","_law_word","_law_more","_law_sort","_law_others"] : List Str) = true;decide +kernel) (by intro g' h;cases h) (cw K rfl (pv 2)) (fun _ _ _ _ _ _=>(aX (i:=0) (show (["_law_word","_law_others"] : List Str).Nodup by decide +kernel) rfl (Or.inl rfl))) (fun _ _ _ _ _ _=>(eV (aV (gZ hr.Go) (pv 0) (pv 1) (by with_unfolding_all rfl)))) (fun _ _ _ _ _ _=>(cq rfl rfl (pv 0)))) (bL (dq K rfl) (pv 11) cj (cn ah))) cj (cn ah)) (jx (pv 7) (pv 10) fD))
   (av (gQ (ck (N:=(["_law_word","_law_sorts_here","_law_sort"]:List Str)) (src:=[none,some 7,some 10]) rfl (by show df _ (defScope fL) _ _ (["_law_pen_here","_law_places","_law_words","_law_way","_law_top","_law_place","_law_share","_law_sorts_here","_law_word","_law_more","_law_sort","_law_others"]:List Str)=true;decide +kernel) (by intro g' h;cases h) (cw K rfl (pv 11)) (fun _ _ _ _ _ _=>(aX (i:=0) (show (["_law_word","_law_sorts_here","_law_sort"]:List Str).Nodup by decide +kernel) rfl (Or.inl rfl))) (fun _ _ _ _ _ _=>(eV (aV (gZ hr.Go) (pv 0) (aQ (az K rfl) (pv 1) (pv 2) (fun _ _=>rfl)) (by with_unfolding_all rfl)))) (fun _ _ _ _ _ _=>(cq rfl rfl (pv 0)))) (jx (pv 7) (aF gN ah (pv 10)) fD))))) bC)))
   (av (aO (a0 (ac (bv (bA K rfl) (by rfl) T.cf (by kernel_rfl) (ac (aQ (az K rfl) (pv 7) ah (fun _ _=>rfl)) af)) (ac (bv (bA K rfl) (by rfl) T.cf (by kernel_rfl) (ac (aQ (az K rfl) (pv 7) ah (fun _ _=>rfl)) af)) af))))))))))))),(aB (aK (aJ (aa ae ag)) ap)
   (aB (aK (aJ (aa ae (aa ak ag))) ap)
   (aB (aK (ao bz ak (aJ (aa ae (aa ae ag)))) ap)
   (aB (aK (aJ (aa ae (aa ae ag))) ap)
   (aB (aK (ao bw (di (aa ak (aa ak (aa ak (aa ak ag))))) (aJ (aa ae (aa ak ag)))) ap)
   (aB (aK (jL (aa (jL ag) (aa (jL ag) ag))) ap)
   (aB (i0 (dW ae) ap (aB (aK (aJ (aa ae (aa ak ag))) ap)
   (aB (aK (ao bw (di (aa ae (aa (a9 Cn (aa (ao fH (a9 sk (aa ae ag)) ae) ag)) (aa (ao iL (a9 sk (aa ae ag)) ak) (aa (ao ka ak (ao bw ae ae)) (aa (a9 Cn (aa (ao fH (ao bz (a9 sk (aa ae ag)) ae) ae) ag)) ag)))))) ae) ap)
   (fC (ba (ao bS (aJ (aa ae (aa ae ag))) ak)) (s9 (lx (ao bw ae ae) (aa ae ag))) bU))))
   (aB (i0 (jQ (aa ak ag)) ap (fC (ba (ao bS (ao bw ae ae) (di ag))) (aB (aK (ao bw ae (ao ka ak ae)) ap)
   (aB (aK (jG (ao bz (dC (dW ae) ap (ba (ao wD ae ae)) (de ae)) (jG ae c8 (da ak))) c8 (da ak)) (mO ae ae))
   (aK (Ac (dW ae) ap (ba (ao wD ae (ao bw ae ae))) (de ae)) (mO ae (ao ka ak ae))))) bU))
   (a8 (bx (aa (a9 eW (aa (ao bw ae ak) ag)) (aa (a9 eW (aa (ao bw ae ak) ag)) ag)))))))))))),fun xs Z Q h=>?_⟩)
 obtain⟨p,n,rfl,hp,hn1,hn,k⟩:=h;have hwn:=mT hn;walk_at "s1";refine⟨n,rfl,hn,?_⟩;walk_at "s1";refine⟨p,5,rfl,hp,by decide,by decide,fun way c w0 w1=>?_⟩
 walk_at "s1";refine⟨p,n,rfl,bF,by omega,by omega,fun top c t0 t1=>⟨top,rfl,?_⟩⟩
 rw[Om.Gp];walk_at "s1";refine⟨p,n,rfl,bF,by omega,by omega,fun pl c p0 p1=>?_⟩
 rw[Om.Gp];walk_at "s1";refine⟨p,4,rfl,bF,by decide,by decide,fun v c v0 v1=>⟨v,rfl,?_⟩⟩
 rw[Om.Gp]
 obtain⟨sh,esh,sh1,sh2⟩:∃sh:Int,atI [AV.d (D.int 1),AV.d (D.int 1),AV.d (D.int 3),AV.d (D.int 6)] v=some (.d (.int sh))/\1<=sh/\sh<=8:=by
  rcases(by omega:v=0\/v=1\/v=2\/v=3) with rfl|rfl|rfl|rfl
  ·exact⟨1,rfl,by decide,by decide⟩
  ·exact⟨1,rfl,by decide,by decide⟩
  ·exact⟨3,rfl,by decide,by decide⟩
  ·exact⟨6,rfl,by decide,by decide⟩
 refine⟨_,esh,?_⟩;walk_at "s1";intro a ha b hb l hl
 have hS:S5 Z ((((Z.put p (plO c)).put a (OC.own [])).put b (OC.own [])).put l (OC.own [AV.r (V.ref a),AV.r (V.ref b)])) p l a b [] []:=by
  have ex:Ex (Z.put p (plO c)) ((((Z.put p (plO c)).put a (OC.own [])).put b (OC.own [])).put l (OC.own [AV.r (V.ref a),AV.r (V.ref b)])):=(((Ex.refl _).new ha).new hb).new hl;obtain⟨nap,ha⟩:=cP ha;obtain⟨nba,hb⟩:=cP hb;obtain⟨nbp,hb⟩:=cP hb;obtain⟨nlb,hl⟩:=cP hl;obtain⟨nla,hl⟩:=cP hl;obtain⟨nlp,hl⟩:=cP hl;exact⟨⟨c,ex⟩,Om.Gm,by rw[Om.Gn (Ne.symm nla),Om.Gn (Ne.symm nba),Om.Gm];rfl,by rw[Om.Gn (Ne.symm nlb),Om.Gm];rfl,hl,ha,hb,nlp,nap,nbp,nla,nlb,Ne.symm nba⟩
 revert hS;generalize (((Z.put p (plO c)).put a (OC.own [])).put b (OC.own [])).put l (OC.own [AV.r (V.ref a),AV.r (V.ref b)])=Z1;intro hS;walk_at "s1";refine uP (fun i ρ Z'=>∃(ys zs:List (List Int)) (v8 v9 v10:Option AV),S5 Z Z' p l a b ys zs/\ρ=[some (AV.r (V.ref p)),some (AV.d (D.int n)),some (AV.d (D.lst ((wl n).map wdD))),some (AV.d (D.int way)),some (AV.d (D.int (1+top))),some (AV.d (D.int pl)),some (AV.d (D.int sh)),some (AV.r (V.ref l)),v8,v9,v10,none]/\ys.Sublist ((wl n).take i)/\zs.Sublist ((wl n).take i)/\∀v∈ys,v ∉ zs) ⟨[],[],_,_,_,hS,rfl,List.nil_sublist _,List.nil_sublist _,fun v hv=>by simp at hv⟩ ?_ ?_
 ·rintro i d ρ Z' N hd ⟨ys,zs,v8,v9,v10,hS,rfl,sy,sz,dj⟩ kN
  obtain⟨x,hx,rfl⟩:=L2.iS hd;have hy:ys.length<=i:=Nat.le_trans sy.length_le (by rw[List.length_take];omega)
  have hz:zs.length<=i:=Nat.le_trans sz.length_le (by rw[List.length_take];omega)
  have hno:=Ar hn hx;have hi:=(List.getElem?_eq_some_iff.mp hx).1;have hxl:=(cy (List.mem_of_getElem? hx)).1;have hx01:=(cy (List.mem_of_getElem? hx)).2;walk_at "s1";refine⟨p,2,rfl,lm hS.ex,by decide,by decide,fun u c u0 u1=>?_⟩
  have hS:=hS.draw c;revert hS;generalize Z'.put p (plO c)=Z2;intro hS;refine nO (fun ρ' Z'=>Z'=Z2/\∃g:Int,(g=0\/g=1)/\ρ'=[some (AV.r (V.ref p)),some (AV.d (D.int n)),some (AV.d (D.lst ((wl n).map wdD))),some (AV.d (D.int way)),some (AV.d (D.int (1+top))),some (AV.d (D.int pl)),some (AV.d (D.int sh)),some (AV.r (V.ref l)),some (AV.d (wdD x)),some (AV.d (D.int u)),some (AV.d (D.int g)),none]) (fun M kM=>?_) ?_
  ·walk_at "a1"
   have hpx:=qc (w:=x) (i:=pl) p0 (by omega)
   have hb1:x.getD pl.toNat 0=0\/x.getD pl.toNat 0=1:=by
    rw[List.getD_eq_getElem?_getD]
    cases e:x[pl.toNat]? with
    |none=>exact .inl rfl
    |some y=>exact hx01 y (List.mem_of_getElem? e)
   refine⟨x,rfl,x,rfl,_,hpx,_,rfl,x,rfl,?_⟩;have b01:∀P:Prop,[Decidable P]->(if P then (1:Int) else 0)=0\/(if P then (1:Int) else 0)=1:=fun P _=>by split<;>simp
   rcases(by omega:way=0\/way=1\/way=2\/way=3\/way=4) with rfl|rfl|rfl|rfl|rfl
   ·exact⟨_,rfl,kM _ _ ⟨rfl,u,by omega,rfl⟩⟩
   ·exact⟨_,rfl,kM _ _ ⟨rfl,_,b01 _,rfl⟩⟩
   ·exact⟨_,rfl,kM _ _ ⟨rfl,_,by omega,rfl⟩⟩
   ·exact⟨_,rfl,kM _ _ ⟨rfl,_,by omega,rfl⟩⟩
   ·exact⟨_,rfl,kM _ _ ⟨rfl,_,b01 _,rfl⟩⟩
  rintro ρ' Z' ⟨rfl,g,hg,rfl⟩;walk_at "a1";refine⟨p,sh,rfl,lm hS.ex,by omega,by omega,fun u2 c2 u20 u21=>⟨.int u2,rfl,by simp[dep],?_⟩⟩
  have hS:=hS.draw c2;revert hS;generalize Z'.put p (plO c2)=Z3;intro hS;refine vM (fun h2=>?_) (fun h2=>kN _ _ ⟨ys,zs,_,_,_,hS,rfl,(g7 hx sy).2,(g7 hx sz).2,dj⟩);simp only[hS.hl];rcases hg with rfl|rfl
  ·refine⟨_,rfl,.r (.ref a),rfl,a,rfl,⟨_,hS.ha⟩,_,hS.ha,aR (by simp;omega),kN _ _ ⟨ys++[x],zs,_,_,_,?_,rfl,(g7 hx sy).1,(g7 hx sz).2,?_⟩⟩
   ·simpa using hS.GI (ys++[x])
   ·intro v hv hv2
    rcases List.mem_append.mp hv with hv|hv
    ·exact dj v hv hv2
    ·exact hno (sz.mem (List.mem_singleton.mp hv ▸ hv2))
  ·refine⟨_,rfl,.r (.ref b),rfl,b,rfl,⟨_,hS.hb⟩,_,hS.hb,aR (by simp;omega),kN _ _ ⟨ys,zs++[x],_,_,_,?_,rfl,(g7 hx sy).2,(g7 hx sz).1,?_⟩⟩
   ·simpa using hS.setB (zs++[x])
   ·intro v hv hv2
    rcases List.mem_append.mp hv2 with hv2|hv2
    ·exact dj v hv hv2
    ·exact hno (sy.mem (List.mem_singleton.mp hv2 ▸ hv))
 ·rintro ρ Z' ⟨ys,zs,v8,v9,v10,hS,rfl,sy,sz,dj⟩
  rw[List.length_map,List.take_length] at sy sz;have hy:=sy.length_le;have hz:=sz.length_le
  have hS:S6 Z Z' p l [.r (.ref a),.r (.ref b)] [ys,zs]:=⟨hS.ex,hS.hl,rfl,rfl,hS.nl,hS.pl,fun j z hz'=>by
   match j with
   |0=>cases hz';exact⟨ys,rfl,by omega,i6 hS.ha,fun a e=>by cases e;exact⟨hS.la.symm,hS.pa,hS.na⟩⟩
   |1=>cases hz';exact⟨zs,rfl,by omega,i6 hS.hb,fun a e=>by cases e;exact⟨hS.lb.symm,hS.pb,hS.nb⟩⟩
   |j+2=>simp at hz'⟩
  have hR:Srt n 0 [ys,zs]:=⟨fun y hy=>by
   simp only[List.mem_cons,List.not_mem_nil,or_false] at hy;rcases hy with rfl|rfl
   ·exact sy
   ·exact sz,ys,zs,rfl,dj,fun z=>by omega,fun z=>by omega⟩
  dsimp only;walk_at "s1";refine⟨by decide,by decide,kJ (fun i ρ Z'=>∃(zs:List AV) (A:List (List (List Int))) (v8 v9 v10 v11:Option AV),S6 Z Z' p l zs A/\Srt n i A/\ρ=[some (AV.r (V.ref p)),some (AV.d (D.int n)),some (AV.d (D.lst ((wl n).map wdD))),some (AV.d (D.int way)),some (AV.d (D.int (1+top))),some (AV.d (D.int pl)),some (AV.d (D.int sh)),some (AV.r (V.ref l)),v8,v9,v10,v11]) ⟨_,_,_,_,_,_,hS,hR,rfl⟩ ?_ ?_⟩
  ·rintro i ρ Z1 N hi ⟨zs,A,v8,v9,v10,v11,hS,hR,rfl⟩ kN
   have hi2:i<2:=hi;have ek:(0+(i:Int)).toNat=i:=by omega
   have ek2:(1-(0+(i:Int))).toNat=1-i:=by omega
   obtain⟨z,mz,ez⟩:=at2 (k:=0+(i:Int)) hS.h2 (by omega) (by omega)
   obtain⟨ws,aw,hws,dz,adz⟩:=hS.wz _ z mz;obtain⟨o,mo,eo⟩:=at2 (k:=1-(0+(i:Int))) hS.h2 (by omega) (by omega)
   obtain⟨us,au,wo⟩:=hS.wz _ o mo;have hus:=wo.len
   have doo:=wo.dat
   have ej:=ix2 (k:=0+(i:Int)) (by omega) (by omega)
   have ej2:=ix2 (k:=1-(0+(i:Int))) (by omega) (by omega)
   rw[ek] at aw ej;rw[ek2] at au ej2;have hwd:∀ws:List (List Int),dep (D.lst (ws.map wdD))<=100:=fun ws=>by have:=bZ ws;simp only[dep];omega
   walk_at "a1";simp only[hS.hl];refine⟨_,rfl,_,ez,_,dz,hwd _,vM (fun h=>?_) (fun h=>kN _ _ ⟨zs,A,_,_,_,_,hS,xA hi2 hR aw (fun z=>h (by rw[z];rfl)),rfl⟩)⟩
   have hw0:ws=[]:=by
    cases ws with
    |nil=>rfl
    |cons w ws=>simp[eqD,dG] at h
   walk_at "s1";simp only[hS.hl];refine⟨_,rfl,_,eo,?_⟩;walk_at "s1";refine kH wdD (fun v=>!decide (v∈us)) wdD (Nat.le_of_lt (aR (by omega))) (fun v hv Q q=>?_) (fun v hv _ Q q=>?_) (fun ρ=>⟨_,bK _,?_⟩)
   ·walk_at "a1"
    refine⟨_,doo,_,.inl rfl,by have:=bZ us;omega,?_⟩
    rw[lW];exact q
   ·walk_at "a1"
    exact q
   refine AY doo ⟨_,rfl,?_,_,hS.hl,i,by rw[hS.h2];exact ej,?_⟩
   ·have h1:=(List.length_filter_le (fun v=>!decide (v∈us)) (wl n))
    have h2:=(dm (us.map wdD) none (some 1)).length_le;rw[List.length_map] at h2 ⊢;exact Nat.le_of_lt (aR (by omega))
   rw[lD,←List.map_append,lD]
   have hc1:(gy n us).length<=32:=Nat.le_trans (F5 (((wl n).filter fun v=>!decide (v∈us))++bp us none (some 1))) (by decide:1<=32)
   have hR2:=yi hn1 hn hi2 hR aw au hw0;change Srt n (i+1) ((A.set i (gy n us)).set (1-i) (us.filter fun v=>!decide (v∈gy n us))) at hR2;show jP (Z1.put l (OC.own (zs.set i (AV.d (D.lst ((gy n us).map wdD)))))) _ _;have hS2:=hS.set (j:=i) (FO (us:=gy n us) hc1);have ho:=wo.keep (c:=OC.own (zs.set i (AV.d (D.lst ((gy n us).map wdD)))))
   have doo2:=ho.dat
   have ai:(A.set i (gy n us))[i]?=some (gy n us):=by rw[List.getElem?_set_self (by rw[hS.hA];exact hi2)]
   clear doo2;revert hS2 ho hR2 ai;generalize gy n us=fs at hc1 ⊢;generalize Z1.put l (OC.own (zs.set i (AV.d (D.lst (fs.map wdD)))))=Z2;intro hR2 hS2 ho ai
   have doo2:=ho.dat
   refine Bp doo2 fun Z3 e3=>⟨_,rfl,?_⟩;have hS3:S6 Z Z3 p l (zs.set i (AV.d (D.lst (fs.map wdD)))) (A.set i fs):=hS2.frz ho e3;obtain⟨z3,m3,e3'⟩:=at2 (k:=0+(i:Int)) hS3.h2 (by omega) (by omega)
   obtain⟨w3,a3,hw3,d3,_⟩:=hS3.wz _ z3 m3;rw[ek,ai] at a3;cases a3;refine kH wdD (fun v=>!decide (v∈fs)) wdD (Nat.le_of_lt (aR (by omega))) (fun v hv Q q=>?_) (fun v hv _ Q q=>?_) (fun ρ q hq=>?_)
   ·walk_at "a1"
    simp only[hS3.hl];refine⟨_,rfl,_,e3',_,d3,_,.inl rfl,by have:=bZ fs;omega,?_⟩
    rw[lW];exact q
   ·walk_at "a1"
    exact q
   obtain⟨hS4,hW⟩:=hS3.new (us:=us.filter fun v=>!decide (v∈fs)) hq (Nat.le_trans (List.length_filter_le _ _) hus);exact⟨_,hS4.hl,1-i,by rw[hS4.h2];exact ej2,kN _ _ ⟨_,_,_,_,_,_,hS4.set hW,hR2,rfl⟩⟩
  ·rintro ρ Z1 ⟨zs,A,v8,v9,v10,v11,hS,hR,rfl⟩
   obtain⟨c,ex⟩:=hS.ex;obtain⟨z,mz,ez⟩:=at2 (k:=0) hS.h2 (by decide) (by decide)
   obtain⟨ws,aw,hws,dz,_⟩:=hS.wz _ z mz;obtain⟨o,mo,eo⟩:=at2 (k:=1) hS.h2 (by decide) (by decide)
   obtain⟨us,au,hus,doo,_⟩:=hS.wz _ o mo;obtain⟨ys,zs',rfl,dj,n1,n2⟩:=hR.two;cases aw;cases au;walk_at "a1";simp only[hS.hl];refine⟨_,rfl,_,ez,_,.inl dz,_,rfl,_,eo,_,.inl doo,?_⟩;rw[eP ex hp.some];exact k _ _ c (hR.sub _ (by simp)) (hR.sub _ (by simp)) (n1 (by decide)) (n2 (by decide)) dj
noncomputable def dw:D->Bool|.int _=>true|_=>false
noncomputable def i8:D->Bool|.int i=>decide (0<=i) && decide (i<=1)|_=>false
noncomputable def Bh:D->Bool|.int i=>decide (1<=i) && decide (i<=5)|_=>false
noncomputable def sw:D->Int|.int i=>i|_=>0
noncomputable def unw:D->List Int|.tup ds=>ds.map sw|_=>[]
noncomputable def eX(n:Nat):D->Bool|.tup ds=>decide ((ds.length:Int)=n) && ds.all i8|_=>false
theorem zS{d:D}(h:i8 d=true):D.int (sw d)=d:=by
 cases d<;>first|rfl|(simp[i8] at h)
theorem qb:∀ {ds:List D},ds.all i8=true->(ds.map sw).map D.int=ds
 | [],_=>rfl
 |d::ds,h=>by
  simp only[List.all_cons,Bool.and_eq_true] at h;rw[List.map_cons,List.map_cons,zS h.1,qb h.2]
theorem kz{n:Nat}{d:D}(h:eX n d=true):d=wdD (unw d)/\(unw d).length=n:=by
 cases d with
 |tup ds=>
  simp only[eX,Bool.and_eq_true,decide_eq_true_eq] at h;refine⟨?_,by simp only[unw,List.length_map];omega⟩
  show D.tup ds=D.tup ((ds.map sw).map D.int);rw[qb h.2]
 |_=>simp[eX] at h
theorem CG(v:List Int):unw (wdD v)=v:=by
 show (v.map D.int).map sw=v;rw[List.map_map];exact(List.map_congr_left fun x _=>rfl).trans (List.map_id v)
theorem AK(ws:List (List Int)):(ws.map wdD).map unw=ws:=by
 rw[List.map_map];exact(List.map_congr_left fun x _=>CG x).trans (List.map_id ws)
theorem Fm{n:Nat}(h1:1<=n)(h5:n<=5):Bh (.int n)=true/\(sw (.int n)).toNat=n:=by
 refine⟨?_,by simp[sw]⟩
 show (decide (1<=(n:Int)) && decide ((n:Int)<=5))=true;rw[decide_eq_true (by omega),decide_eq_true (by omega)];rfl
noncomputable def Sz(m B:Nat)(d:D):Prop:=(pyD d).depth<=m/\fit d=true/\wt d<=B
theorem ye{m B:Nat}:∀ {ds:List D},(∀d∈ds,Sz m B d)->PyData.depthAll (fe ds)<=m/\fits ds=true/\wts ds<=ds.length*(B+2)
 | [],_=>by simp[fe,PyData.depthAll,fits,wts]
 |d::ds,h=>by
  obtain⟨a1,a2,a3⟩:=h d List.mem_cons_self;obtain⟨b1,b2,b3⟩:=ye fun e he=>h e (List.mem_cons_of_mem _ he);refine⟨by simp only[fe,PyData.depthAll];omega,by simp only[fits,a2,b2,Bool.and_self],?_⟩
  simp only[wts,List.length_cons,Nat.succ_mul];omega
theorem cJ{m B L:Nat}{d:D}{ds:List D}(e:jC d=some ds)(hl:ds.length<=L)(h:∀d∈ds,Sz m B d):Sz (m+1) (L*(B+2)+3) d:=by
 obtain⟨b1,b2,b3⟩:=ye h;have:ds.length*(B+2)<=L*(B+2):=Nat.mul_le_mul_right _ hl
 cases d with
 |tup es=>cases e;exact⟨by simp only[pyD,PyData.depth];omega,by simpa only[fit] using b2,by simp only[wt];omega⟩
 |lst es=>cases e;exact⟨by simp only[pyD,PyData.depth];omega,by simpa only[fit] using b2,by simp only[wt];omega⟩
 |_=>cases e
theorem Sz.up{m m' B B':Nat}{d:D}(h:Sz m B d)(h1:m<=m')(h2:B<=B'):Sz m' B' d:=⟨Nat.le_trans h.1 h1,h.2.1,Nat.le_trans h.2.2 h2⟩
theorem oN{x:Int}(h:x=0\/x=1):Sz 0 3 (.int x):=by
 rcases h with rfl|rfl<;>exact⟨Nat.le_refl _,by decide,by decide⟩
theorem rj{n:Nat}{v:List Int}(hn:n<=5)(h:v∈wl n):Sz 1 28 (wdD v):=by
 obtain⟨h1,h2⟩:=cy h;refine(cJ (m:=0) (B:=3) (L:=5) (d:=wdD v) (ds:=v.map D.int) rfl (by simp;omega) fun d hd=>?_).up (Nat.le_refl _) (by decide)
 obtain⟨x,hx,rfl⟩:=List.mem_map.mp hd;exact oN (h2 x hx)
noncomputable def xz:ASp:=fun xs Z Q=>∃d:D,xs=[.d d]/\Q (.d (.bl (dw d))) Z
theorem q9(T:Txt K mg t):a7 P w K mg base CX0 1 t.cY t.iB ["thing"] (cL xz):=by
 refine T.sq.okD qP (fun xs Z Q h=>by obtain⟨x,rfl,_⟩:=h;rfl) (fun cdv A outer s H E hr=>⟨_,_,(av (aO (dS K rfl (ax cz (by rfl) T.bi (by kernel_rfl) (ac (pv 0) (ac (dr (v:=.ty "int") (by rfl) T.ud (by kernel_rfl) (by rfl)) af))) (f8 (Bt K rfl (ax cz (by rfl) T.bi (by kernel_rfl) (ac (pv 0) (ac (dr (v:=.ty "bool") (by rfl) T.yY (by kernel_rfl) (by rfl)) af)))))))),(a8 (fq (a9 gH (aa ae (aa gz ag))) (C0 (a9 gH (aa ae (aa gz ag)))))),fun xs Z Q h=>?_⟩)
 obtain⟨d,rfl,k⟩:=h;walk_at "a1";refine⟨by decide,?_⟩
 by_cases hi:isD "int" d=true
 ·rw[if_pos hi,ar]
  refine⟨by decide,?_⟩
  rw[show (!isD "bool" d)=dw d from by cases d<;>simp[isD,tyD] at hi<;>rfl]
  exact k
 ·rw[if_neg hi,ar]
  rw[show isD "int" d=dw d from by cases d<;>simp[isD,tyD] at hi<;>rfl]
  exact k
noncomputable def DC:ASp:=fun xs Z Q=>∃d:D,xs=[.d d]/\Q (.d (.bl (i8 d))) Z
theorem C6(T:Txt K mg t):a7 P w K mg base CX0 2 t.eQ t.lX ["thing"] (cL DC):=by
 have G_is_whole:a7 P w K mg base _ _ _ _ _ _:=q9 T;refine T.ze.okD wk (fun xs Z Q h=>by obtain⟨x,rfl,_⟩:=h;rfl) (fun cdv A outer s H E hr=>⟨_,_,(av (aO (dS K rfl (aA G_is_whole (hr.mono (by omega)) (by rfl) T.kT T.lO T.mi .nil aW (ac (pv 0) af)) (f8 (qH qF qF ah (pv 0) ah))))),(a8 (fq (aJ (aa ae ag)) (u7 fH fH ak ae ak))),fun xs Z Q h=>?_⟩)
 obtain⟨d,rfl,k⟩:=h;walk_at "a1";refine⟨d,rfl,_,rfl,?_⟩;by_cases hw:dw d=true
 ·obtain⟨i,rfl⟩:∃i,d=.int i:=by cases d<;>first|exact⟨_,rfl⟩|(simp[dw] at hw)
  rw[if_pos hw];walk_at "a1";rw[ar];simp only[i8] at k;by_cases h0:0<=i
  ·rw[if_pos h0]
   rw[decide_eq_true h0,Bool.true_and] at k;exact k
  ·rw[if_neg h0]
   rw[decide_eq_false h0,Bool.false_and] at k;exact k
 ·rw[if_neg hw]
  refine⟨_,rfl,?_⟩;rw[ar,show dw d=i8 d from by cases d<;>first|rfl|(simp[dw] at hw)]
  exact k
noncomputable def Bk:ASp:=fun xs Z Q=>∃d:D,xs=[.d d]/\Q (.d (.bl (Bh d))) Z
theorem Bo(T:Txt K mg t):a7 P w K mg base CX0 2 t.bY t.fS ["thing"] (cL Bk):=by
 have G_is_whole:a7 P w K mg base _ _ _ _ _ _:=q9 T;refine T.oY.okD mE (fun xs Z Q h=>by obtain⟨x,rfl,_⟩:=h;rfl) (fun cdv A outer s H E hr=>⟨_,_,(av (aO (dS K rfl (aA G_is_whole (hr.mono (by omega)) (by rfl) T.kT T.lO T.mi .nil aW (ac (pv 0) af)) (f8 (qH qF qF ah (pv 0) (Ab (v:=.int 5) rfl T.mn ⟨_,rfl⟩)))))),(a8 (fq (aJ (aa ae ag)) (u7 fH fH ak ae ak))),fun xs Z Q h=>?_⟩)
 obtain⟨d,rfl,k⟩:=h;walk_at "a1";refine⟨d,rfl,_,rfl,?_⟩;by_cases hw:dw d=true
 ·obtain⟨i,rfl⟩:∃i,d=.int i:=by cases d<;>first|exact⟨_,rfl⟩|(simp[dw] at hw)
  rw[if_pos hw];walk_at "a1";rw[ar];simp only[Bh] at k;by_cases h0:1<=i
  ·rw[if_pos h0]
   rw[decide_eq_true h0,Bool.true_and] at k;exact k
  ·rw[if_neg h0]
   rw[decide_eq_false h0,Bool.false_and] at k;exact k
 ·rw[if_neg hw]
  refine⟨_,rfl,?_⟩;rw[ar,show dw d=Bh d from by cases d<;>first|rfl|(simp[dw] at hw)]
  exact k
noncomputable def D5:ASp:=fun xs Z Q=>∃(n:Nat)(d:D),xs=[.d (.int n),.d d]/\1<=n/\n<=5/\Q (.d (.bl (eX n d))) Z
theorem CT(T:Txt K mg t):a7 P w K mg base CX0 3 t.dA t.jH ["places","thing"] (cL D5):=by
 have G_is_bit:a7 P w K mg base _ _ _ _ _ _:=C6 T;have G_are_places:a7 P w K mg base _ _ _ _ _ _:=Bo T
 refine T.vx.okD sI (fun xs Z Q h=>by obtain ⟨n,v,rfl,_⟩:=h;rfl) (fun cdv A outer s H E hr=>⟨_,_,(aj (cZ (PW.pt (eU (dg (bf K rfl (aA G_are_places (hr.mono (by omega)) (by rfl) T.o3 T.nR T.nZ .nil aW (ac (pv 0) af)) (fun _=>rfl))) (eJ (dg (bf K rfl (ax cz (by rfl) T.bi (by kernel_rfl) (ac (pv 1) (ac (dr (v:=.ty "tuple") (by rfl) T.cf (by kernel_rfl) (by rfl)) af))) (fun _=>rfl)))))) (av (aO iQ)) bC)
   (av (aO (dS K rfl (ci (ce hr.Go) (ax (aP K rfl) (by rfl) T.cg (by kernel_rfl) (ac (pv 1) af)) (pv 0) (aT _)) (f8 (ax (jE K rfl rfl) (by rfl) T.zJ (by kernel_rfl) (ac (ck (N:=(["bit"]:List Str)) (src:=[none]) rfl (by show df _ (defScope g6) _ _ (["places","thing"]:List Str)=true;decide +kernel) (by intro g' h;cases h) (cw K rfl (pv 1)) (fun _ _ _ _ _ _=>(aX (i:=0) (show (["bit"]:List Str).Nodup by decide +kernel) rfl (Or.inl rfl))) (fun _ _ _ _ _ _=>fZ) (fun _ _ _ _ _ _=>(cq rfl rfl (aA G_is_bit (hr.mono (by omega)) (by rfl) T.xW T.zc T.y6 .nil aW (ac (pv 0) af))))) af))))))),(aB (fC (i5 (eS (dX (aJ (aa ae ag)))) (eS (dX (a9 gH (aa ae (aa gz ag)))))) (a8 on) bU)
   (a8 (fq (ao bS (a9 cr (aa ae ag)) ae) (a9 wO (aa (dC (dW ae) ap rY (de (aJ (aa ae ag)))) ag))))),fun xs Z Q h=>?_⟩)
 obtain⟨n,d,rfl,hn1,hn,k⟩:=h;walk_at "s1";refine⟨_,rfl,_,rfl,?_⟩;rw[(Fm hn1 hn).1,if_neg (by decide)]
 refine⟨by decide,?_⟩
 by_cases ht:isD "tuple" d=true
 ·obtain⟨ds,rfl⟩:∃ds,d=.tup ds:=by cases d<;>first|exact⟨_,rfl⟩|(simp[isD,tyD] at ht)
  rw[ht,if_neg (by decide)]
  walk_at "a1";simp only[eX] at k;by_cases hl:(ds.length:Int)=n
  ·rw[if_pos hl]
   rw[decide_eq_true hl,Bool.true_and] at k;refine ji (rs:=(ds.map i8).map D.bl) (by simp) (Nat.le_of_lt (aR (by simp;omega))) (fun j a r h1 h2 Q q=>?_) (fun ρ=>⟨_,bK _,_,rfl,?_⟩)
   ·simp only[List.map_map,List.getElem?_map,Option.map_eq_some_iff] at h1 h2
    obtain⟨y,hy,rfl⟩:=h1;obtain⟨y',hy',rfl⟩:=h2;rw[hy] at hy';cases hy';simp only[Function.comp_apply] at q ⊢;walk_at "a1";exact⟨y,rfl,q⟩
   ·rw[ar,List.all_map]
    exact k
  ·rw[if_neg hl,ar]
   rw[decide_eq_false hl,Bool.false_and] at k;rw[show ((ds.length:Int) == (n:Int))=false from by simpa using hl]
   exact k
 ·rw[if_pos (by simpa using ht),ar]
  rw[show eX n d=false from by cases d<;>first|rfl|(simp[isD,tyD] at ht)] at k
  exact k
theorem BT:∀a b:List Int,jj (a.map D.int) (b.map D.int)=true
 | [],_=>by simp[jj]
 |_::_,[]=>by simp[jj]
 |x::xs,y::ys=>by
  simp only[List.map_cons,jj];split
  ·exact BT xs ys
  ·rfl
theorem BV:∀a b:List Int,iX (a.map D.int) (b.map D.int)=bX a b
 | [],[]=>rfl
 | [],_::_=>rfl
 |_::_,[]=>rfl
 |x::xs,y::ys=>by
  simp only[List.map_cons,iX,bX,d7];by_cases h:x=y
  ·rw[if_pos (by simpa using h),if_pos h,BV xs ys]
  ·rw[if_neg (by simpa using h),if_neg h]
   rfl
noncomputable def upB(ws:List (List Int)):List Bool:=(List.range (ws.length-1)).map fun j=>bX (ws.getD j []) (ws.getD (j+1) [])
theorem r8{ws:List (List Int)}(hr:Ris ws):(upB ws).all id=decide ws.Nodup:=by
 rw[Bool.eq_iff_iff,decide_eq_true_eq,List.all_eq_true];constructor
 ·intro h
  rw[List.Nodup,List.pairwise_iff_getElem];intro i j hi hj hij e
  have h1:bX ws[i] ws[i+1]=true:=by
   have:=h (bX (ws.getD i []) (ws.getD (i+1) [])) (by unfold upB;exact List.mem_map.mpr ⟨i,List.mem_range.mpr (by omega),rfl⟩)
   simpa[show i<ws.length by omega,show i+1<ws.length by omega] using this
  have h2:bX ws[j] ws[i+1]=false:=by
   rcases Nat.eq_or_lt_of_le (show i+1<=j by omega) with q|q
   ·subst q
    cases z:bX ws[i+1] ws[i+1] with
    |false=>rfl
    |true=>have:=lv _ _ z;rw[z] at this;cases this
   ·exact List.pairwise_iff_getElem.mp hr (i+1) j (by omega) hj q
  rw[e] at h1;rw[h2] at h1;cases h1
 ·intro hn b hb
  obtain⟨j,hj,rfl⟩:=List.mem_map.mp hb;have hj:=List.mem_range.mp hj;have a1:ws.getD j []=ws[j]:=by simp[show j<ws.length by omega]
  have a2:ws.getD (j+1) []=ws[j+1]:=by simp[show j+1<ws.length by omega]
  rw[a1,a2];have h1:bX ws[j+1] ws[j]=false:=List.pairwise_iff_getElem.mp hr j (j+1) (by omega) (by omega) (by omega)
  cases e:bX ws[j] ws[j+1] with
  |true=>rfl
  |false=>exact absurd (sZ _ _ h1 e) (List.pairwise_iff_getElem.mp hn j (j+1) (by omega) (by omega) (by omega))
noncomputable def rl(b:Bool):Str:=if b then "rising" else "any"
noncomputable def ppB(b:Bool)(y n:List Int)(i:Nat):Bool:=if b then decide (y.getD i 0=1) && decide (n.getD i 0=0) else !decide (y.getD i 0=n.getD i 0)
noncomputable def FN:ASp:=fun xs Z Q=>∃(b:Bool)(i:Int)(y n:List Int),xs=[.d (.str (rl b)),.d (.int i),.d (wdD y),.d (wdD n)]/\0<=i/\i<y.length/\i<n.length/\Q (.d (.bl (ppB b y n i.toNat))) Z
theorem EW(T:Txt K mg t):a7 P w K mg base CX0 1 t.bW t.fT ["rule","place","yes","no"] (cL FN):=by
 refine T.oe.okD mw (fun xs Z Q h=>by obtain⟨b,i,y,n,rfl,_⟩:=h;rfl) (fun cdv A outer s H E hr=>⟨_,_,(aj (cZ (aV (ce hr.Go) (pv 0) bQ (aT _)) (av (aO (dS K rfl (ci (ce hr.Go) (aQ (az K rfl) (pv 2) (pv 1) (fun _ _=>rfl)) ah (aT _)) (f8 (ci (ce hr.Go) (aQ (az K rfl) (pv 3) (pv 1) (fun _ _=>rfl)) ah (aT _)))))) bC)
   (av (aO (ci (fm hr.Go) (aQ (az K rfl) (pv 2) (pv 1) (fun _ _=>rfl)) (aQ (az K rfl) (pv 3) (pv 1) (fun _ _=>rfl)) (aT _))))),(aB (fC (ba (ao bS ae cO)) (a8 (fq (ao bS (ao bw ae ae) ak) (ao bS (ao bw ae ae) ak))) bU)
   (a8 (ao bS (ao bw ae ae) (ao bw ae ae)))),fun xs Z Q h=>?_⟩)
 obtain⟨b,i,y,n,rfl,h0,h1,h2,k⟩:=h;have e1:=qc h0 h1;have e2:=qc h0 h2;cases b<;>simp only[rl,ppB,if_true,if_false,Bool.false_eq_true] at k ⊢<;>walk_at "ab"<;>simp only[e1,e2]<;>walk_at "ab"
 ·rw[ar];exact k
 ·rw[ar]
  by_cases hy:y.getD i.toNat 0=1
  ·rw[if_pos hy];rw[decide_eq_true hy,Bool.true_and] at k;exact k
  ·rw[if_neg hy];rw[decide_eq_false hy,Bool.false_and] at k;rw[beq_eq_false_iff_ne.mpr hy];exact k
noncomputable def p4(b:Bool)(y z:List Int):Nat:=((List.range y.length).filter (ppB b y z)).length
noncomputable def C4:ASp:=fun xs Z Q=>∃(b:Bool)(y z:List Int),xs=[.d (.str (rl b)),.d (wdD y),.d (wdD z)]/\y.length=z.length/\y.length<=5/\∀ds:List D,ds.length=p4 b y z->Q (.d (.lst ds)) Z
theorem wG(y:List Int)(p:Nat->Bool):∀(s:Nat),(((y.map D.int).zipIdx s).filter fun q=>p q.2).length=((List.range' s y.length).filter p).length:=by
 induction y with
 |nil=>intro s;rfl
 |cons a y ih=>
  intro s;have:=ih (s+1);simp only[List.map_cons,List.zipIdx_cons,List.length_cons,List.range'_succ,List.filter_cons];split<;>simp[this]
theorem Ea(T:Txt K mg t):a7 P w K mg base CX0 2 t.bJ t.eM ["rule","yes","no"] (cL C4):=by
 have G_parts_pair:a7 P w K mg base _ _ _ _ _ _:=EW T;refine T.lS.okD kx (fun xs Z Q h=>by obtain⟨b,y,z,rfl,_⟩:=h;rfl) (fun cdv A outer s H E hr=>⟨_,_,(av (aO (ck (N:=(["place","bit","rule","yes","no"]:List Str)) (src:=[none,none,some 0,some 1,some 2]) rfl (by show df _ (defScope dn) _ _ (["rule","yes","no"]:List Str)=true;decide +kernel) (by intro g' h;cases h) (Ba K rfl (by rfl) T.pi (ac (pv 1) af)) (fun _ _ _ _ _ _=>(uJ K rfl (n:=2) rfl (eH (aX (i:=0) (show (["place","bit","rule","yes","no"]:List Str).Nodup by decide +kernel) rfl (Or.inl rfl)) (eH (aX (i:=1) (show (["place","bit","rule","yes","no"]:List Str).Nodup by decide +kernel) rfl (Or.inl rfl)) oh)))) (fun _ _ _ _ _ _=>(eV (bf K rfl (aA G_parts_pair (hr.mono (by omega)) (by rfl) T.oE T.oJ T.oa .nil aW (ac (pv 2) (ac (pv 0) (ac (pv 3) (ac (pv 4) af))))) (fun _=>rfl)))) (fun _ _ _ _ _ _=>(cq rfl rfl (a0 (ac (pv 0) (ac (pv 1) af)))))))),(a8 (dC (DS (aa ae ag)) (B8 (iA ap (iA ap yZ))) (dX (aJ (aa ae (aa ae (aa ae (aa ae ag)))))) (de (bx (aa ae (aa ae ag)))))),fun xs Z Q h=>?_⟩)
 obtain⟨b,y,z,rfl,hl,h5,k⟩:=h;simp only[wdD];walk_at "a1";refine kF (xs:=(y.map D.int).zipIdx) (fun ρ=>∃a c,ρ=[a,c,some (.d (.str (rl b))),some (.d (.tup (y.map D.int))),some (.d (.tup (z.map D.int)))]) ⟨_,_,rfl⟩ (fun p=>AV.d (.tup [.int (p.2:Nat),p.1])) (fun p=>ppB b y z p.2) (fun p=>.tup [.int (p.2:Nat),p.1]) rfl (Nat.le_of_lt (aR (by simp;omega))) (fun p ρ N hp hR kN=>?_) (fun ρ hR=>⟨_,bK _,?_⟩)
 ·obtain⟨a,c,rfl⟩:=hR
  obtain⟨d,i⟩:=p;have hi:i<y.length:=by have:=(List.mem_zipIdx hp).2.1;simpa using this
  walk_at "a1";refine kN _ ⟨_,_,rfl⟩ (fun Q q=>?_) (fun _ Q q=>?_)
  ·walk_at "a1"
   exact⟨b,(i:Int),y,z,rfl,by omega,by omega,by omega,_,rfl,by simpa using q⟩
  ·walk_at "a1"
   exact q
 ·rw[ar]
  refine k _ ?_;rw[List.length_map,p4,List.range_eq_range'];exact wG y (ppB b y z) 0
noncomputable def jA(b:Bool)(y z:List Int):Bool:=decide (p4 false y z=1) && decide (p4 b y z=1)
noncomputable def DN:ASp:=fun xs Z Q=>∃(b:Bool)(y z:List Int),xs=[.d (.str (rl b)),.d (wdD y),.d (wdD z)]/\y.length=z.length/\y.length<=5/\Q (.d (.bl (jA b y z))) Z
theorem Cw(T:Txt K mg t):a7 P w K mg base CX0 3 t.dL t.jN ["rule","yes","no"] (cL DN):=by
 have G_squares_with:a7 P w K mg base _ _ _ _ _ _:=Ea T;refine T.vC.okD sN (fun xs Z Q h=>by obtain⟨b,y,z,rfl,_⟩:=h;rfl) (fun cdv A outer s H E hr=>⟨_,_,(av (aO (dS K rfl (ci (ce hr.Go) (ax (aP K rfl) (by rfl) T.cg (by kernel_rfl) (ac (aA G_squares_with (hr.mono (by omega)) (by rfl) T.gO T.gS T.gA .nil aW (aq bQ (ac (pv 1) (ac (pv 2) af)))) af)) ah (aT _)) (f8 (ci (ce hr.Go) (ax (aP K rfl) (by rfl) T.cg (by kernel_rfl) (ac (aA G_squares_with (hr.mono (by omega)) (by rfl) T.gO T.gS T.gA .nil aW (ac (pv 0) (ac (pv 1) (ac (pv 2) af)))) af)) ah (aT _)))))),(a8 (fq (ao bS (a9 cr (aa (aJ (aa cO (aa ae (aa ae ag)))) ag)) ak) (ao bS (a9 cr (aa (aJ (aa ae (aa ae (aa ae ag)))) ag)) ak))),fun xs Z Q h=>?_⟩)
 obtain⟨b,y,z,rfl,hl,h5,k⟩:=h;walk_at "a1";refine⟨false,y,z,rfl,hl,h5,fun ds hds=>⟨ds.length,ox _ _,?_⟩⟩;rw[hds];simp only[jA] at k;by_cases h1:p4 false y z=1
 ·rw[if_pos (by rw[h1];rfl)]
  refine⟨b,y,z,rfl,hl,h5,fun es hes=>⟨es.length,ox _ _,?_⟩⟩;rw[hes,ar];rw[decide_eq_true h1,Bool.true_and] at k;rw[show (((p4 b y z:Nat):Int) == 1)=decide (p4 b y z=1) from by rw[Bool.eq_iff_iff];simp;omega]
  exact k
 ·rw[if_neg (by omega),ar]
  rw[decide_eq_false h1,Bool.false_and] at k;rw[show (((p4 false y z:Nat):Int) == 1)=false from by rw[beq_eq_false_iff_ne];omega]
  exact k
noncomputable def iV(n:Nat)(ws:List (List Int))(d:D):Bool:=eX n d && inD d (ws.map wdD)
noncomputable def DG:ASp:=fun xs Z Q=>∃(n:Nat) (ws:List (List Int)) (d:D),xs=[.d (.tup (ws.map wdD)),.d d]/\1<=n/\n<=5/\ws≠[]/\(∀v∈ws,v.length=n)/\ws.length<=32/\Q (.d (.bl (iV n ws d))) Z
theorem CQ(T:Txt K mg t):a7 P w K mg base CX0 4 t.cu t.gR ["some","thing"] (cL DG):=by
 have G_is_word:a7 P w K mg base _ _ _ _ _ _:=CT T;refine T.p5.okD nV (fun xs Z Q h=>by obtain⟨n,ws,d,rfl,_⟩:=h;rfl) (fun cdv A outer s H E hr=>⟨_,_,(av (aO (dS K rfl (aA G_is_word (hr.mono (by omega)) (by rfl) T.vm T.we T.wF .nil aW (ac (ax (aP K rfl) (by rfl) T.cg (by kernel_rfl) (ac (aQ (az K rfl) (pv 0) ah (fun _ _=>rfl)) af)) (ac (pv 1) af))) (f8 (ci (yx hr.Go) (pv 1) (pv 0) (by with_unfolding_all rfl)))))),(a8 (fq (aJ (aa (a9 cr (aa (ao bw ae ak) ag)) (aa ae ag))) (ao wD ae ae))),fun xs Z Q h=>?_⟩)
 obtain⟨n,ws,d,rfl,hn1,hn,h0,hl,h32,k⟩:=h;walk_at "a1";obtain⟨v,ws',rfl⟩:=List.exists_cons_of_ne_nil h0;have hv:=hl v (List.mem_cons_self ..);refine⟨.d (wdD v),uq (j:=0) rfl,n,by rw[n6,hv],n,d,rfl,hn1,hn,eX n d,rfl,?_⟩
 simp only[iV] at k;by_cases hw:eX n d=true
 ·rw[if_pos hw,ar]
  rw[hw,Bool.true_and] at k;exact⟨by have:=bZ (v::ws');omega,k⟩
 ·rw[if_neg hw,ar]
  rw[Bool.not_eq_true] at hw;rw[hw,Bool.false_and] at k;exact⟨_,rfl,by rw[hw];exact k⟩
noncomputable def FB:ASp:=fun xs Z Q=>∃(a g:Nat),xs=[.d (.int a),.d (.int g)]/\1<=a/\a<=100000000/\g<=100000000/\Q (.d (.int ((g+a-1) / a:Nat))) Z
theorem FI(T:Txt K mg t):a7 P w K mg base CX0 1 t.bR t.fh ["number","goal"] (cL FB):=by
 refine T.mH.okD lC (fun xs Z Q h=>by obtain⟨a,g,rfl,_⟩:=h;rfl) (fun cdv A outer s H E hr=>⟨_,_,(av (aO (aF kG (aF gN (aF (am aY (am aM aZ)) (pv 1) (pv 0)) ah) (pv 0)))),(a8 (ao iL (ao ka (ao bz ae ae) ak) ae)),fun xs Z Q h=>?_⟩)
 obtain⟨a,g,rfl,ha,ha2,hg,k⟩:=h;walk_at "a1";rw[ar,show ((g:Int)+a-1) / a=(((g+a-1) / a:Nat):Int) from by rw[Int.natCast_ediv];congr 1;omega]
 exact⟨Aq (by omega) (by omega),k⟩
noncomputable def hgt(k:Nat):Nat:=if k<=1 then 0 else Nat.log2 (k-1)+1
noncomputable def x8:ASp:=fun xs Z Q=>∃(k:Nat),xs=[.d (.int k)]/\Q (.d (.int (hgt k))) Z
theorem Dq(T:Txt K mg t):a7 P w K mg base CX0 1 t.eN t.l9 ["number"] (cL x8):=by
 refine T.xv.okD vQ (fun xs Z Q h=>by obtain⟨a,rfl,_⟩:=h;rfl) (fun cdv A outer s H E hr=>⟨_,_,(aj (cZ (aV qF (pv 0) ah (aT _)) (av (aO ah)) bC)
   (av (aO (Dt PySem.F.plainAttrs_int PySem.F.slot_int_bit_length PySem.F.type_int_bit_length wq (aF gN (pv 0) ah))))),(aB (fC (ba (ao fH ae ak)) (a8 ak) bU)
   (a8 (CW (ao ka ae ak)))),fun xs Z Q h=>?_⟩)
 obtain⟨n,rfl,k⟩:=h;walk_at "s1";rw[ar];unfold hgt at k;by_cases h1:n<=1
 ·rw[if_pos h1] at k
  rw[if_pos (by omega)]
  exact k
 ·rw[if_neg h1] at k
  rw[if_neg (by omega),show ((n:Int)-1)=((n-1:Nat):Int) from by omega]
  have:Builtin.Int.intBits ((n-1:Nat):Int)=Nat.log2 (n-1)+1:=by
   unfold Builtin.Int.intBits;rw[if_neg (by simp;omega),Int.natAbs_natCast]
  rw[this];exact k
noncomputable def kr(kd:Str)(m:Nat):D->Bool
 |.tup (x::xs)=>decide (xs.length+1=m) && eqD x (.str kd)
 |_=>false
noncomputable def CJ:ASp:=fun xs Z Q=>∃(d:D)(kd:Str)(m:Nat),xs=[.d d,.d (.str kd),.d (.int m)]/\1<=m/\(∀x ds,d=.tup (x::ds)->dep x<=90)/\Q (.d (.bl (kr kd m d))) Z
theorem CH(T:Txt K mg t):a7 P w K mg base CX0 1 t.cT t.iH ["thing","kind","size"] (cL CJ):=by
 refine T.sK.okD qX (fun xs Z Q h=>by obtain⟨d,kd,m,rfl,_⟩:=h;rfl) (fun cdv A outer s H E hr=>⟨_,_,(av (aO (dS K rfl (ax cz (by rfl) T.bi (by kernel_rfl) (ac (pv 0) (ac (dr (v:=.ty "tuple") (by rfl) T.cf (by kernel_rfl) (by rfl)) af))) (dS K rfl (ci (ce hr.Go) (ax (aP K rfl) (by rfl) T.cg (by kernel_rfl) (ac (pv 0) af)) (pv 2) (aT _)) (f8 (ci (ce hr.Go) (aQ (az K rfl) (pv 0) ah (fun _ _=>rfl)) (pv 1) (aT _))))))),(a8 (fq (a9 gH (aa ae (aa gz ag))) (fq (ao bS (a9 cr (aa ae ag)) ae) (ao bS (ao bw ae ak) ae)))),fun xs Z Q h=>?_⟩)
 obtain⟨d,kd,m,rfl,hm,hd,k⟩:=h;walk_at "a1";refine⟨by decide,?_⟩
 rw[ar];by_cases ht:isD "tuple" d=true
 ·rw[if_pos ht]
  obtain⟨ds,rfl⟩:∃ds,d=.tup ds:=by cases d<;>first|exact⟨_,rfl⟩|(simp[isD,tyD] at ht)
  refine⟨ds.length,by simp[l5,gC],?_⟩
  by_cases hl:ds.length=m
  ·rw[if_pos (by rw[hl])]
   cases ds with
   |nil=>simp at hl;omega
   |cons x xs=>
    refine⟨_,.inr rfl,.d x,uq (j:=0) rfl,x,rfl,Nat.le_trans (hd x xs rfl) (by decide),?_⟩
    simp only[kr] at k;rw[decide_eq_true (by simpa using hl),Bool.true_and] at k
    exact k
  ·rw[if_neg (by omega),show (((ds.length:Nat):Int) == (m:Int))=false from by rw[beq_eq_false_iff_ne];omega]
   cases ds with
   |nil=>exact k
   |cons x xs=>
    simp only[kr] at k;rw[decide_eq_false (by simpa using hl),Bool.false_and] at k
    exact k
 ·rw[if_neg ht]
  rw[Bool.not_eq_true] at ht;rw[ht];rw[show kr kd m d=false from by cases d<;>first|rfl|(simp[isD,tyD] at ht)] at k
  exact k
noncomputable def zT:ASp:=fun xs Z Q=>∃ws:List (List Int),xs=[.d (.tup (ws.map wdD))]/\ws.length<=60/\Q (.d (.bl ((upB ws).all id))) Z
theorem zX(T:Txt K mg t):a7 P w K mg base CX0 1 t.cB t.gI ["some"] (cL zT):=by
 refine T.qY.okD nS (fun xs Z Q h=>by obtain⟨x,rfl,_⟩:=h;rfl) (fun cdv A outer s H E hr=>⟨_,_,(av (aO (ax (jE K rfl rfl) (by rfl) T.zJ (by kernel_rfl) (ac (ck (N:=(["k","some"]:List Str)) (src:=[none,some 0]) rfl (by show df _ (defScope eT) _ _ (["some"]:List Str)=true;decide +kernel) (by intro g' h;cases h) (d9 rfl T.gY (ac (aF gN (ax (aP K rfl) (by rfl) T.cg (by kernel_rfl) (ac (pv 0) af)) ah) af)) (fun _ _ _ _ _ _=>(aX (i:=0) (show (["k","some"]:List Str).Nodup by decide +kernel) rfl (Or.inl rfl))) (fun _ _ _ _ _ _=>fZ) (fun _ _ _ _ _ _=>(cq rfl rfl (ci (DT hr.Go) (aQ (az K rfl) (pv 1) (pv 0) (fun _ _=>rfl)) (aQ (az K rfl) (pv 1) (aF (am aY (am aM aZ)) (pv 0) ah) (fun _ _=>rfl)) (aT _))))) af)))),(a8 (a9 wO (aa (dC (jQ (aa (ao ka (a9 cr (aa ae ag)) ak) ag)) ap rY (de (ao Fb (ao bw ae ae) (ao bw ae (ao bz ae ak))))) ag))),fun xs Z Q h=>?_⟩)
 obtain⟨ws,rfl,hl,k⟩:=h;walk_at "a1";have e0:((ws.length:Int)-1).toNat=ws.length-1:=by omega
 refine⟨by omega,by omega,?_⟩
 rw[e0];have hsz:(jS 0 (ws.length-1)).length=ws.length-1:=by simp[jS]
 refine ji (rs:=(upB ws).map D.bl) (by rw[hsz];simp[upB]) (Nat.le_of_lt (aR (by omega))) (fun j a r h1 h2 Q q=>?_) (fun ρ=>⟨_,bK _,_,rfl,?_⟩)
 ·have hj:j<ws.length-1:=by rw[←hsz];exact(List.getElem?_eq_some_iff.mp h1).1
  obtain rfl:r=D.bl (bX ws[j] ws[j+1]):=by
   simp[upB,hj,show j<ws.length by omega,show j+1<ws.length by omega] at h2;exact h2.symm
  simp[jS,hj] at h1;subst h1;have a1:atI ((ws.map wdD).map AV.d) (j:Int)=some (.d (wdD ws[j])):=fX j rfl (by simp[show j<ws.length by omega])
  have a2:atI ((ws.map wdD).map AV.d) ((j:Int)+1)=some (.d (wdD ws[j+1])):=fX (j+1) rfl (by simp[show j+1<ws.length by omega])
  walk_at "a1";refine⟨_,a1,_,a2,?_⟩;rw[Aw];refine⟨_,_,rfl,rfl,by rw[gL];decide,BT _ _,?_⟩
  rw[show ltD (wdD ws[j]) (wdD ws[j+1])=bX ws[j] ws[j+1] from BV _ _]
  exact q
 ·rw[ar]
  exact k
noncomputable def smD(n:Nat)(ws:List (List Int)):D->Bool
 |.tup ds=>!ds.isEmpty && (ds.all (iV n ws) && (upB (ds.map unw)).all id)
 |_=>false
noncomputable def C7:ASp:=fun xs Z Q=>∃(n:Nat) (ws:List (List Int)) (d:D),xs=[.d (.tup (ws.map wdD)),.d d]/\1<=n/\n<=5/\ws≠[]/\(∀v∈ws,v.length=n)/\ws.length<=32/\(∀ds,d=.tup ds->ds.length<=60)/\Q (.d (.bl (smD n ws d))) Z
theorem DM(T:Txt K mg t):a7 P w K mg base CX0 5 t.bN t.fc ["words","thing"] (cL C7):=by
 have G_is_one_of:a7 P w K mg base _ _ _ _ _ _:=CQ T;have G_is_rising:a7 P w K mg base _ _ _ _ _ _:=zX T
 refine T.my.okD md (fun xs Z Q h=>by obtain ⟨n,ws,d,rfl,_⟩:=h;rfl) (fun cdv A outer s H E hr=>⟨_,_,(aj (cZ (PW.pt (eU (dg (bf K rfl (ax cz (by rfl) T.bi (by kernel_rfl) (ac (pv 1) (ac (dr (v:=.ty "tuple") (by rfl) T.cf (by kernel_rfl) (by rfl)) af))) (fun _=>rfl))) (eJ (aV (ce hr.Go) (ax (aP K rfl) (by rfl) T.cg (by kernel_rfl) (ac (pv 1) af)) ah (aT _))))) (av (aO iQ)) bC)
   (av (aO (dS K rfl (ax (jE K rfl rfl) (by rfl) T.zJ (by kernel_rfl) (ac (ck (N:=(["word","words"]:List Str)) (src:=[none,some 0]) rfl (by show df _ (defScope dU) _ _ (["words","thing"]:List Str)=true;decide +kernel) (by intro g' h;cases h) (cw K rfl (pv 1)) (fun _ _ _ _ _ _=>(aX (i:=0) (show (["word","words"]:List Str).Nodup by decide +kernel) rfl (Or.inl rfl))) (fun _ _ _ _ _ _=>fZ) (fun _ _ _ _ _ _=>(cq rfl rfl (aA G_is_one_of (hr.mono (by omega)) (by rfl) T.qC T.qy T.pG .nil aW (ac (pv 1) (ac (pv 0) af)))))) af)) (f8 (aA G_is_rising (hr.mono (by omega)) (by rfl) T.rg T.q8 T.qR .nil aW (ac (pv 1) af))))))),(aB (fC (i5 (eS (dX (a9 gH (aa ae (aa gz ag))))) (ba (ao bS (a9 cr (aa ae ag)) ak))) (a8 on) bU)
   (a8 (fq (a9 wO (aa (dC (dW ae) ap rY (de (aJ (aa ae (aa ae ag))))) ag)) (aJ (aa ae ag))))),fun xs Z Q h=>?_⟩)
 obtain⟨n,ws,d,rfl,hn1,hn,h0,hl,h32,h60,k⟩:=h;walk_at "s1";refine⟨by decide,?_⟩
 by_cases ht:isD "tuple" d=true
 case neg=>
  rw[if_pos (by simpa using ht),ar]
  rw[show smD n ws d=false from by cases d<;>first|rfl|(simp[isD,tyD] at ht)] at k
  exact k
 obtain⟨ds,rfl⟩:∃ds,d=.tup ds:=by cases d<;>first|exact⟨_,rfl⟩|(simp[isD,tyD] at ht)
 rw[ht,if_neg (by decide)]
 refine⟨ds.length,lV _ _,?_⟩;by_cases hds:ds=[]
 ·subst hds
  rw[if_pos (by rfl),ar]
  exact k
 have h60:=h60 ds rfl;rw[if_neg (by have:=List.length_pos_iff.mpr hds;omega)]
 walk_at "a1";refine ji (rs:=(ds.map (iV n ws)).map D.bl) (by simp) (Nat.le_of_lt (aR (by simp;omega))) (fun j a r h1 h2 Q q=>?_) (fun ρ=>⟨_,bK _,_,rfl,?_⟩)
 ·simp only[List.map_map,List.getElem?_map,Option.map_eq_some_iff] at h1 h2
  obtain⟨y,hy,rfl⟩:=h1;obtain⟨y',hy',rfl⟩:=h2;rw[hy] at hy';cases hy';simp only[Function.comp_apply] at q ⊢;walk_at "a1";exact⟨n,ws,y,rfl,hn1,hn,h0,hl,h32,q⟩
 rw[List.all_map,ar];simp only[smD] at k;rw[show ds.isEmpty=false from by cases ds<;>first|rfl|exact absurd rfl hds,Bool.not_false,Bool.true_and] at k
 by_cases ha:ds.all (iV n ws)=true
 ·rw[if_pos (by exact ha)]
  rw[ha,Bool.true_and] at k
  have ed:ds=(ds.map unw).map wdD:=by
   rw[List.map_map];refine((List.map_congr_left fun x hx=>?_).trans (List.map_id ds)).symm;have:=List.all_eq_true.mp ha x hx;simp only[iV,Bool.and_eq_true] at this;exact((kz this.1).1).symm
  exact⟨ds.map unw,by rw[←ed],by simp;omega,_,rfl,by rw[ar];exact k⟩
 ·rw[if_neg (by exact ha)]
  rw[Bool.not_eq_true] at ha;rw[ha,Bool.false_and] at k;rw[show ds.all (id ∘ iV n ws)=false from ha]
  exact k
noncomputable def f7:D->List (List Int)
 |.tup ds=>ds.map unw
 |_=>[]
noncomputable def cC(b:Bool)(us vs:List (List Int)):Nat:=(us.map fun y=>(vs.filter (jA b y)).length).sum
noncomputable def Dm(b:Bool)(us vs:List (List Int)):D:=.tup [.int (((cC b us vs*cC b us vs+us.length*vs.length-1) / (us.length*vs.length):Nat)),.int (hgt ((cC b us vs*cC b us vs+us.length*vs.length-1) / (us.length*vs.length)))]
noncomputable def shE(b:Bool)(n:Nat)(ys zs:List (List Int))(d:D):D:=match d with
 |.tup [x,p,q]=>if eqD x (.str "edges")=true/\smD n ys p=true/\smD n zs q=true then Dm b (f7 p) (f7 q) else .non
 |_=>.non
theorem jO{n:Nat}{ws:List (List Int)}{p:D}(h:smD n ws p=true):p=.tup ((f7 p).map wdD)/\f7 p≠[]/\(∀v∈f7 p,v.length=n)/\(∀v∈f7 p,inD (wdD v) (ws.map wdD)=true)/\(upB (f7 p)).all id=true:=by
 cases p with
 |tup ds=>
  simp only[smD,Bool.and_eq_true] at h;obtain⟨h1,h2,h3⟩:=h
  have hw:∀x∈ds,x=wdD (unw x)/\(unw x).length=n/\inD x (ws.map wdD)=true:=fun x hx=>by
   have:=List.all_eq_true.mp h2 x hx;simp only[iV,Bool.and_eq_true] at this;exact⟨(kz this.1).1,(kz this.1).2,this.2⟩
  have ed:ds=(ds.map unw).map wdD:=by
   rw[List.map_map];exact((List.map_congr_left fun x hx=>(hw x hx).1.symm).trans (List.map_id ds)).symm
  refine⟨by show D.tup ds=D.tup ((ds.map unw).map wdD);rw[←ed],?_,fun v hv=>?_,fun v hv=>?_,h3⟩
  ·intro z
   have:ds=[]:=List.map_eq_nil_iff.mp z;subst this;simp at h1
  ·obtain⟨x,hx,rfl⟩:=List.mem_map.mp hv
   exact(hw x hx).2.1
  ·obtain⟨x,hx,rfl⟩:=List.mem_map.mp hv
   rw[←(hw x hx).1]
   exact(hw x hx).2.2
 |_=>simp[smD] at h
theorem kK(b:Bool)(us vs:List (List Int)):cC b us vs<=us.length*vs.length:=by
 induction us with
 |nil=>simp[cC]
 |cons u us ih=>
  simp only[cC,List.map_cons,List.sum_cons,List.length_cons,Nat.succ_mul] at ih ⊢;have:=List.length_filter_le (jA b u) vs;omega
theorem jK{b:Bool}{us vs:List (List Int)}{i:Nat}{y:List Int}(h:us[i]?=some y):cC b (us.take (i+1)) vs=cC b (us.take i) vs+(vs.filter (jA b y)).length:=by
 rw[List.take_succ,h];simp[cC]
theorem vp{p:List Int->Bool}{vs:List (List Int)}{j:Nat}{z:List Int}(h:vs[j]?=some z):((vs.take (j+1)).filter p).length=((vs.take j).filter p).length+if p z=true then 1 else 0:=by
 rw[List.take_succ,h,List.filter_append,List.length_append]
 congr 1
 simp only[Option.toList_some,List.filter_cons,List.filter_nil];split<;>rfl
noncomputable def D9:ASp:=fun xs Z Q=>∃(b:Bool)(n:Nat) (ys zs:List (List Int)) (d:D),xs=[.d (.str (rl b)),.d (.tup [.tup (ys.map wdD),.tup (zs.map wdD)]),.d d]/\1<=n/\n<=5/\ys≠[]/\zs≠[]/\(∀v∈ys,v.length=n)/\(∀v∈zs,v.length=n)/\ys.length<=32/\zs.length<=32/\(∀x ds,d=.tup (x::ds)->dep x<=90/\∀y∈ds,∀es,y=.tup es->es.length<=60)/\Q (.d (shE b n ys zs d)) Z
theorem Da(T:Txt K mg t):a7 P w K mg base CX0 6 t.bu t.dO ["rule","box","thing"] (cL D9):=by
 have G_is_paper:a7 P w K mg base _ _ _ _ _ _:=CH T;have G_are_some_of:a7 P w K mg base _ _ _ _ _ _:=DM T;have G_is_edge:a7 P w K mg base _ _ _ _ _ _:=Cw T;have G_least_times:a7 P w K mg base _ _ _ _ _ _:=FI T;have G_height:a7 P w K mg base _ _ _ _ _ _:=Dq T
 refine T.jZ.okD dc (fun xs Z Q h=>by obtain ⟨b,n,ys,zs,d,rfl,_⟩:=h;rfl) (fun cdv A outer s H E hr=>⟨_,_,(aj (cZ (dg (bf K rfl (aA G_is_paper (hr.mono (by omega)) (by rfl) T.tu T.sR T.tf .nil aW (ac (pv 2) (aq bQ (aq ah af)))) (fun _=>rfl))) (av (aO f6)) bC)
   (aj (cZ (PW.pt (eU (dg (bf K rfl (aA G_are_some_of (hr.mono (by omega)) (by rfl) T.im T.iu T.iq .nil aW (ac (aQ (az K rfl) (pv 1) ah (fun _ _=>rfl)) (ac (aQ (az K rfl) (pv 2) ah (fun _ _=>rfl)) af))) (fun _=>rfl))) (eJ (dg (bf K rfl (aA G_are_some_of (hr.mono (by omega)) (by rfl) T.im T.iu T.iq .nil aW (ac (aQ (az K rfl) (pv 1) ah (fun _ _=>rfl)) (ac (aQ (az K rfl) (pv 2) ah (fun _ _=>rfl)) af))) (fun _=>rfl)))))) (av (aO f6)) bC)
   (aj (aE (i:=3) dc.nd rfl (Or.inl rfl) (ax (aP K rfl) (by rfl) T.cg (by kernel_rfl) (ac (ck (N:=(["yes","no","rule","thing"] : List Str)) (src:=[none,none,some 0,some 2]) rfl (by show df _ (defScope cE) _ _ (["rule","box","thing","many","leaves"] : List Str) = true;decide +kernel) (by intro g' h;cases h;rfl) (cw K rfl (aQ (az K rfl) (pv 2) ah (fun _ _=>rfl))) (fun _ _ _ _ _ _=>(aX (i:=0) (show (["yes","no","rule","thing"] : List Str).Nodup by decide +kernel) rfl (Or.inl rfl))) (fun _ _ _ _ _ _=>fZ) (fun _ _ _ _ _ _=>(CF rfl rfl rfl (by intro g' h;cases h) (cw K rfl (aQ (az K rfl) (pv 3) ah (fun _ _=>rfl))) (aX (i:=1) (show (["yes","no","rule","thing"] : List Str).Nodup by decide +kernel) rfl (Or.inl rfl)) (eV (bf K rfl (aA G_is_edge (hr.mono (by omega)) (by rfl) T.wH T.wI T.wm .nil aW (ac (pv 2) (ac (pv 0) (ac (pv 1) af)))) (fun _=>rfl))) (cq rfl rfl ah)))) af)))
   (aj (aE (i:=4) dc.nd rfl (Or.inl rfl) (aA G_least_times (hr.mono (by omega)) (by rfl) T.ml T.mC T.mF .nil aW (ac (aF (am dH dB) (ax (aP K rfl) (by rfl) T.cg (by kernel_rfl) (ac (aQ (az K rfl) (pv 2) ah (fun _ _=>rfl)) af)) (ax (aP K rfl) (by rfl) T.cg (by kernel_rfl) (ac (aQ (az K rfl) (pv 2) ah (fun _ _=>rfl)) af))) (ac (aF (am dH dB) (pv 3) (pv 3)) af))))
   (av (aO (a0 (ac (pv 4) (ac (aA G_height (hr.mono (by omega)) (by rfl) T.xo T.yX T.w5 .nil aW (ac (pv 4) af)) af))))))))),(aB (fC (eS (dX (aJ (aa ae (aa cO (aa ak ag)))))) (a8 iZ) bU)
   (aB (fC (i5 (eS (dX (aJ (aa (ao bw ae ak) (aa (ao bw ae ak) ag))))) (eS (dX (aJ (aa (ao bw ae ak) (aa (ao bw ae ak) ag)))))) (a8 iZ) bU)
   (aB (aK (a9 cr (aa (dC (dW (ao bw ae ak)) ap rY (E8 (dW (ao bw ae ak)) ap (dX (aJ (aa ae (aa ae (aa ae ag))))) (de ak))) ag)) ap)
   (aB (aK (aJ (aa (ao fE (a9 cr (aa (ao bw ae ak) ag)) (a9 cr (aa (ao bw ae ak) ag))) (aa (ao fE ae ae) ag))) ap)
   (a8 (bx (aa ae (aa (aJ (aa ae ag)) ag)))))))),fun xs Z Q h=>?_⟩)
 obtain⟨b,n,ys,zs,d,rfl,hn1,hn,y0,z0,yl,zl,y32,z32,hd,k⟩:=h;walk_at "s1";refine⟨d,_,3,rfl,by decide,fun x ds e=>(hd x ds e).1,_,rfl,?_⟩
 by_cases hp:kr (Str.ofString "edges") 3 d=true
 case neg=>
  rw[Bool.not_eq_true] at hp;rw[hp,if_pos (by rfl),ar]
  rw[show shE b n ys zs d=.non from by
   unfold shE;split
   ·rename_i x p q
    refine if_neg fun z=>?_;simp only[kr,z.1] at hp;simp at hp
   ·rfl] at k
  exact k
 rw[hp,if_neg (by decide)]
 obtain⟨x,p,q,rfl⟩:∃x p q,d=.tup [x,p,q]:=by
  cases d with
  |tup ds=>
   match ds,hp with
   | [x,p,q],_=>exact⟨x,p,q,rfl⟩
   | [],h=>simp[kr] at h
   | [x],h=>simp[kr] at h
   | [x,y],h=>simp[kr] at h
   |x::y::z::u::r,h=>simp[kr] at h
  |_=>simp[kr] at hp
 have hx:eqD x (.str (Str.ofString "edges"))=true:=by simpa[kr] using hp
 obtain⟨hd1,hd2⟩:=hd x [p,q] rfl;walk_at "s1";refine⟨n,ys,p,rfl,hn1,hn,y0,yl,y32,fun es e=>hd2 p (List.mem_cons_self ..) es e,smD n ys p,rfl,?_⟩;by_cases h1:smD n ys p=true
 case neg=>
  rw[Bool.not_eq_true] at h1;rw[h1,if_pos (by rfl),ar]
  simp only[shE,h1,Bool.false_eq_true,false_and,and_false,if_false] at k;exact k
 rw[h1,if_neg (by decide)]
 refine⟨n,zs,q,rfl,hn1,hn,z0,zl,z32,fun es e=>hd2 q (List.mem_cons_of_mem _ (List.mem_cons_self ..)) es e,smD n zs q,rfl,?_⟩;by_cases h2:smD n zs q=true
 case neg=>
  rw[Bool.not_eq_true] at h2;rw[h2,if_pos (by rfl),ar]
  simp only[shE,h2,Bool.false_eq_true,and_false,if_false] at k;exact k
 rw[h2,if_neg (by decide)]
 simp only[shE,hx,h1,h2,and_self,if_true] at k;obtain⟨e1,p0,pl,_,_⟩:=jO h1;obtain⟨e2,q0,ql,_,_⟩:=jO h2;have p60:(f7 p).length<=60:=by have:=hd2 p (List.mem_cons_self ..) _ e1;simpa using this
 have q60:(f7 q).length<=60:=by have:=hd2 q (List.mem_cons_of_mem _ (List.mem_cons_self ..)) _ e2;simpa using this
 generalize f7 p=us at *;generalize f7 q=vs at *;subst e1 e2;have hle:=kK b us vs;have hmul:us.length*vs.length<=60*60:=Nat.mul_le_mul p60 q60;have hpos:1<=us.length*vs.length:=Nat.mul_pos (List.length_pos_iff.mpr p0) (List.length_pos_iff.mpr q0);walk_at "s1";refine ya (fun i xs ρ Z'=>Z'=Z/\(∃v0 v1,ρ=[v0,v1,some (.d (.str (rl b))),some (.d (D.tup [x,D.tup (us.map wdD),D.tup (vs.map wdD)]))])/\xs=List.replicate (cC b (us.take i) vs) (.d (.int 1))) ⟨rfl,⟨_,_,rfl⟩,rfl⟩ ?_ ?_
 ·rintro i d xs ρ Z' N hdi ⟨rfl,⟨v0,v1,rfl⟩,rfl⟩ kN
  obtain⟨y,hyi,rfl⟩:=iS hdi;walk_at "a1";refine ya (fun j xs ρ Z''=>Z''=Z'/\(∃v1,ρ=[some (.d (wdD y)),v1,some (.d (.str (rl b))),some (.d (D.tup [x,D.tup (us.map wdD),D.tup (vs.map wdD)]))])/\xs=List.replicate (cC b (us.take i) vs+((vs.take j).filter (jA b y)).length) (.d (.int 1))) ⟨rfl,⟨_,rfl⟩,by simp⟩ ?_ ?_
  ·rintro j d2 xs ρ Z'' M hd2 ⟨rfl,⟨v1,rfl⟩,rfl⟩ kM
   obtain⟨z,hzj,rfl⟩:=iS hd2;walk_at "a1";have hy5:y.length=n:=pl y (List.mem_of_getElem? hyi);have hz5:z.length=n:=ql z (List.mem_of_getElem? hzj);have hf:=jK (b:=b) (vs:=vs) hyi
   have hle2:cC b (us.take i) vs+((vs.take j).filter (jA b y)).length<3601:=by
    have a1:=kK b (us.take i) vs;have a2:=List.length_filter_le (jA b y) (vs.take j);have hi:i<us.length:=(List.getElem?_eq_some_iff.mp hyi).1;have hj:j<vs.length:=(List.getElem?_eq_some_iff.mp hzj).1;rw[List.length_take,Nat.min_eq_left (by omega)] at a1 a2
    have a3:(i+1)*vs.length<=us.length*vs.length:=Nat.mul_le_mul_right _ hi;rw[Nat.succ_mul] at a3;omega
   refine⟨b,y,z,rfl,by rw[hy5,hz5],by omega,jA b y z,rfl,?_⟩
   have ft:=vp (p:=jA b y) hzj;by_cases hb:jA b y z=true
   ·rw[if_pos hb]
    refine⟨by rw[List.length_replicate];exact Nat.lt_of_lt_of_le hle2 (by decide),?_⟩
    rw[if_pos hb] at ft;exact kM _ _ _ ⟨rfl,⟨_,rfl⟩,by rw[ft,←Nat.add_assoc,List.replicate_succ']⟩
   ·rw[if_neg hb]
    rw[if_neg hb] at ft;exact kM _ _ _ ⟨rfl,⟨_,rfl⟩,by rw[ft,Nat.add_zero]⟩
  ·rintro xs ρ Z'' ⟨rfl,⟨v1,rfl⟩,rfl⟩
   rw[List.length_map,List.take_length];exact kN _ _ _ ⟨rfl,⟨_,_,rfl⟩,by rw[jK hyi]⟩
 ·rintro xs ρ Z' ⟨rfl,⟨v0,v1,rfl⟩,rfl⟩
  rw[List.length_map,List.take_length];refine⟨List.replicate (cC b us vs) (.int 1),by rw[←bK,List.map_replicate],?_⟩
  walk_at "s1";have hE:cC b us vs<=3600:=by omega
  have hEE:cC b us vs*cC b us vs<=3600*3600:=Nat.mul_le_mul hE hE;rw[List.length_replicate];refine⟨gD ⟨by omega,by omega⟩,gD ⟨by omega,by omega⟩,us.length*vs.length,cC b us vs*cC b us vs,by rw[Int.natCast_mul,Int.natCast_mul],hpos,by omega,by omega,_,rfl,?_⟩
  refine⟨_,rfl,?_⟩;rw[ar];exact k
theorem Ag{d:D}(hw:dw d=true):inD d [.int 0,.int 1]=i8 d:=by
 cases d<;>first|(simp[dw] at hw;done)|skip
 rename_i i
 simp only[inD,i8,List.any_cons,List.any_nil,d7,Bool.or_false];rw[Bool.eq_iff_iff];simp;omega
theorem p6{p:D->Bool}(ds:List D):eqD (.lst (ds.filter fun d=>!p d)) (.lst [])=ds.all p:=by
 induction ds with
 |nil=>rfl
 |cons d ds ih=>
  rw[List.filter_cons,List.all_cons]
  cases h:p d with
  |true=>simpa using ih
  |false=>rfl
noncomputable def D3:ASp:=fun xs Z Q=>∃(n:Nat)(d:D),xs=[.d (.int n),.d d]/\n<=5/\dep d<=50/\Q (.d (.bl (eX n d))) Z
theorem C3(T:Txt K mg t):a7 P w K mg base CX0 1 t.cD t.gP ["_law_places","_law_thing"] (cL D3):=by
 refine T.rk.okD n8 (fun xs Z Q h=>by obtain ⟨n,v,rfl,_⟩:=h;rfl) (fun cdv A outer s H E hr=>⟨_,_,(aj (cZ (PW.pt (eU (dg (bf K rfl (ax cz (by rfl) T.bi (by kernel_rfl) (ac (pv 1) (ac (dr (v:=.ty "tuple") (by rfl) T.cf (by kernel_rfl) (by rfl)) af))) (fun _=>rfl))) (eJ (aV (fm hr.Go) (ax (aP K rfl) (by rfl) T.cg (by kernel_rfl) (ac (pv 1) af)) (pv 0) (aT _))))) (av (aO iQ)) bC)
   (av (aO (ci (ce hr.Go) (ck (N:=(["_law_bit"]:List Str)) (src:=[none]) rfl (by show df _ (defScope eY) _ _ (["_law_places","_law_thing"]:List Str)=true;decide +kernel) (by intro g' h;cases h) (cw K rfl (pv 1)) (fun _ _ _ _ _ _=>(aX (i:=0) (show (["_law_bit"]:List Str).Nodup by decide +kernel) rfl (Or.inl rfl))) (fun _ _ _ _ _ _=>(eV (PW.pt (eU (dg (bf K rfl (ax cz (by rfl) T.bi (by kernel_rfl) (ac (pv 0) (ac (dr (v:=.ty "int") (by rfl) T.ud (by kernel_rfl) (by rfl)) af))) (fun _=>rfl))) (eU (bf K rfl (ax cz (by rfl) T.bi (by kernel_rfl) (ac (pv 0) (ac (dr (v:=.ty "bool") (by rfl) T.yY (by kernel_rfl) (by rfl)) af))) (fun _=>rfl)) (eJ (aV (gZ hr.Go) (pv 0) (a0 (aq ah (aq ah af))) (by with_unfolding_all rfl)))))))) (fun _ _ _ _ _ _=>(cq rfl rfl (pv 0)))) (bE af) (aT _))))),(aB (fC (i5 (eS (dX (a9 gH (aa ae (aa gz ag))))) (ba (ao bS (a9 cr (aa ae ag)) ae))) (a8 on) bU)
   (a8 (ao bS (dC (dW ae) ap (i5 (eS (dX (a9 gH (aa ae (aa gz ag))))) (i5 (dX (a9 gH (aa ae (aa gz ag)))) (ba (ao wD ae (bx (aa ak (aa ak ag))))))) (de ae)) (di ag)))),fun xs Z Q h=>?_⟩)
 obtain⟨n,d,rfl,hn,hd,k⟩:=h;walk_at "s1";refine⟨by decide,?_⟩
 by_cases ht:isD "tuple" d=true
 case neg=>
  rw[if_pos (by simpa using ht),ar]
  rw[show eX n d=false from by cases d<;>first|rfl|(simp[isD,tyD] at ht)] at k
  exact k
 obtain⟨ds,rfl⟩:∃ds,d=.tup ds:=by cases d<;>first|exact⟨_,rfl⟩|(simp[isD,tyD] at ht)
 rw[ht,if_neg (by decide)]
 refine⟨ds.length,lV _ _,?_⟩;simp only[eX] at k;by_cases hl:(ds.length:Int)=n
 case neg=>
  rw[if_pos (by simpa using hl),ar]
  rw[decide_eq_false hl,Bool.false_and] at k;exact k
 rw[if_neg (by simpa using hl)]
 rw[decide_eq_true hl,Bool.true_and] at k;refine⟨_,rfl,?_⟩;refine kF (xs:=ds) (fun ρ=>∃a,ρ=[a]) ⟨_,rfl⟩ AV.d (fun d=>!i8 d) (fun d=>d) rfl (Nat.le_of_lt (aR (by omega))) (fun d ρ N hp hR kN=>?_) (fun ρ hR=>⟨_,bK _,?_,?_⟩)
 ·obtain⟨a,rfl⟩:=hR
  walk_at "a1";refine kN _ ⟨_,rfl⟩ (fun Q q=>?_) (fun _ Q q=>?_)
  ·walk_at "a1"
   refine⟨by decide,?_⟩
   by_cases hi:isD "int" d=true
   case neg=>
    rw[if_pos (by simpa using hi)]
    rw[show i8 d=false from by cases d<;>first|rfl|(simp[isD,tyD] at hi)] at q
    exact q
   rw[hi,if_neg (by decide)]
   refine⟨by decide,?_⟩
   by_cases hb:isD "bool" d=true
   ·rw[if_pos hb]
    rw[show i8 d=false from by cases d<;>first|rfl|(simp[isD,tyD] at hb)] at q
    exact q
   ·rw[if_neg hb]
    refine⟨by decide,?_⟩
    rw[Ag (by cases d<;>first|rfl|(simp[isD,tyD] at hi hb))]
    exact q
  ·walk_at "a1"
   exact q
 ·have:cx (((ds.filter fun d=>!i8 d)).map fun d=>d)<=90:=gf fun e he=>by
   rw[List.map_id'] at he;have h1:=eK (List.mem_filter.mp he).1;simp only[dep] at hd;omega
  simp only[dep];omega
 ·rw[List.map_id',p6,ar]
  exact k
theorem qx:∀a b:List (List Int),dG (a.map wdD) (b.map wdD)=decide (a=b)
 | [],[]=>rfl
 | [],_::_=>rfl
 |_::_,[]=>rfl
 |x::a,y::b=>by
  simp only[List.map_cons,dG,k7,qx a b];rw[Bool.eq_iff_iff];simp
theorem yC{ws:List (List Int)}(h:(upB ws).all id=true):Ris ws:=by
 have up:∀i (hi:i+1<ws.length),bX ws[i] ws[i+1]=true:=fun i hi=>by
  have:=List.all_eq_true.mp h (bX (ws.getD i []) (ws.getD (i+1) [])) (by unfold upB;exact List.mem_map.mpr ⟨i,List.mem_range.mpr (by omega),rfl⟩)
  simpa[show i<ws.length by omega,show i+1<ws.length by omega] using this
 have:∀(k i:Nat)(hi:i+k+1<ws.length),bX ws[i+k+1] ws[i]=false:=fun k=>by
  induction k with
  |zero=>exact fun i hi=>lv _ _ (up i hi)
  |succ k ih=>exact fun i hi=>sf _ _ _ (ih i (by omega)) (lv _ _ (up (i+k+1) hi))
 unfold Ris;rw[List.pairwise_iff_getElem];intro i j hi hj hij;obtain⟨k,rfl⟩:∃k,j=i+k+1:=⟨j-i-1,by omega⟩
 exact this k i hj
theorem CO{us r:List (List Int)}(hr:Ris r)(hn:r.Nodup)(hm:∀x,x∈r↔x∈us):eqD (.lst (us.map wdD)) (.lst (r.map wdD))=(upB us).all id:=by
 rw[show eqD (.lst (us.map wdD)) (.lst (r.map wdD))=dG (us.map wdD) (r.map wdD) from by simp[eqD],qx,Bool.eq_iff_iff,decide_eq_true_eq]
 constructor
 ·rintro rfl
  rw[r8 hr,decide_eq_true hn]
 ·intro h
  have h1:=yC h;have h2:us.Nodup:=by rw[r8 h1] at h;exact of_decide_eq_true h
  exact xH ((List.perm_ext_iff_of_nodup h2 hn).mpr fun x=>(hm x).symm) h1 hr
noncomputable def A4:ASp:=fun xs Z Q=>∃(n:Nat) (ws:List (List Int)) (d:D),xs=[.d (.tup (ws.map wdD)),.d d]/\1<=n/\n<=5/\ws≠[]/\(∀v∈ws,v.length=n)/\ws.length<=32/\(∀ds,d=.tup ds->dep d<=50/\ds.length<=60)/\Q (.d (.bl (smD n ws d))) Z
theorem CZ(T:Txt K mg t):a7 P w K mg base CX0 2 t.bO t.eZ ["_law_some_here","_law_thing"] (cL A4):=by
 have G_l_is_word:a7 P w K mg base _ _ _ _ _ _:=C3 T
 refine T.mD.okD lE (fun xs Z Q h=>by obtain ⟨n,ws,d,rfl,_⟩:=h;rfl) (fun cdv A outer s H E hr=>⟨_,_,(aj (cZ (PW.pt (eU (dg (bf K rfl (ax cz (by rfl) T.bi (by kernel_rfl) (ac (pv 1) (ac (dr (v:=.ty "tuple") (by rfl) T.cf (by kernel_rfl) (by rfl)) af))) (fun _=>rfl))) (eJ (aV (ce hr.Go) (pv 1) (a0 af) (aT _))))) (av (aO iQ)) bC)
   (aj (cZ (aV (fm hr.Go) (ck (N:=(["_law_word","_law_some_here"] : List Str)) (src:=[none,some 0]) rfl (by show df _ (defScope dQ) _ _ (["_law_some_here","_law_thing"] : List Str) = true;decide +kernel) (by intro g' h;cases h) (cw K rfl (pv 1)) (fun _ _ _ _ _ _=>(aX (i:=0) (show (["_law_word","_law_some_here"] : List Str).Nodup by decide +kernel) rfl (Or.inl rfl))) (fun _ _ _ _ _ _=>(eV (PW.pt (eU (dg (bf K rfl (aA G_l_is_word (hr.mono (by omega)) (by rfl) T.pF T.qK T.p7 .nil aW (ac (ax (aP K rfl) (by rfl) T.cg (by kernel_rfl) (ac (aQ (az K rfl) (pv 1) ah (fun _ _=>rfl)) af)) (ac (pv 0) af))) (fun _=>rfl))) (eJ (aV (gZ hr.Go) (pv 0) (pv 1) (by with_unfolding_all rfl))))))) (fun _ _ _ _ _ _=>(cq rfl rfl (pv 0)))) (bE af) (aT _)) (av (aO iQ)) bC)
   (av (aO (ci (ce hr.Go) (bv (dP K rfl) (by rfl) T.oZ (by kernel_rfl) (ac (pv 1) af)) (rX K rfl rfl hr.GN (by rfl) T.l7 (by rfl) T.FG (ac (pv 1) af)) (aT _)))))),(aB (fC (i5 (eS (dX (a9 gH (aa ae (aa gz ag))))) (ba (ao bS ae (bx ag)))) (a8 on) bU)
   (aB (fC (ba (ao bS (dC (dW ae) ap (i5 (eS (dX (aJ (aa (a9 cr (aa (ao bw ae ak) ag)) (aa ae ag))))) (ba (ao wD ae ae))) (de ae)) (di ag))) (a8 on) bU)
   (a8 (ao bS (a9 yz (aa ae ag)) (wB (aa ae ag)))))),fun xs Z Q h=>?_⟩)
 obtain⟨n,ws,d,rfl,hn1,hn,h0,hl,h32,h60,k⟩:=h;walk_at "s1";refine⟨by decide,?_⟩
 by_cases ht:isD "tuple" d=true
 case neg=>
  rw[if_pos (by simpa using ht),ar]
  rw[show smD n ws d=false from by cases d<;>first|rfl|(simp[isD,tyD] at ht)] at k
  exact k
 obtain⟨ds,rfl⟩:∃ds,d=.tup ds:=by cases d<;>first|exact⟨_,rfl⟩|(simp[isD,tyD] at ht)
 rw[ht,if_neg (by decide)]
 obtain⟨hd,h60⟩:=h60 ds rfl;refine⟨by omega,?_⟩
 by_cases hds:ds=[]
 ·subst hds
  rw[if_pos (by rfl),ar]
  exact k
 rw[if_neg (by cases ds<;>first|exact absurd rfl hds|(intro z;cases z))]
 simp only[smD] at k;rw[show ds.isEmpty=false from by cases ds<;>first|rfl|exact absurd rfl hds,Bool.not_false,Bool.true_and] at k
 have hdd:∀x∈ds,dep x<=50:=fun x hx=>by
  have:=eK hx;simp only[dep] at hd;omega
 obtain⟨v,ws',rfl⟩:=List.exists_cons_of_ne_nil h0;have hv:=hl v (List.mem_cons_self ..);walk_at "s1";refine kF (xs:=ds) (fun ρ=>∃a,ρ=[a,some (.d (.tup ((v::ws').map wdD)))]) ⟨_,rfl⟩ AV.d (fun d=>!iV n (v::ws') d) (fun d=>d) rfl (Nat.le_of_lt (aR (by omega))) (fun d ρ N hp hR kN=>?_) (fun ρ hR=>⟨_,bK _,?_,?_⟩)
 ·obtain⟨a,rfl⟩:=hR
  walk_at "a1";refine kN _ ⟨_,rfl⟩ (fun Q q=>?_) (fun _ Q q=>?_)
  ·walk_at "a1"
   refine⟨n,d,by rw[hv],hn,hdd d hp,eX n d,rfl,?_⟩
   by_cases hw:eX n d=true
   ·rw[hw,if_neg (by decide)]
    refine⟨by have:=bZ (v::ws');simp only[List.map_cons] at this ⊢;omega,?_⟩
    simp only[iV,hw,Bool.true_and] at q;exact q
   ·rw[Bool.not_eq_true] at hw
    rw[hw,if_pos (by decide)]
    simp only[iV,hw,Bool.false_and] at q;exact q
  ·walk_at "a1"
   exact q
 ·have:cx (((ds.filter fun d=>!iV n (v::ws') d)).map fun d=>d)<=90:=gf fun e he=>by
   rw[List.map_id'] at he;have h1:=hdd e (List.mem_filter.mp he).1;omega
  simp only[dep];omega
 rw[List.map_id',p6];by_cases ha:ds.all (iV n (v::ws'))=true
 case neg=>
  rw[Bool.not_eq_true] at ha;rw[ha,if_pos (by decide),ar]
  rw[ha,Bool.false_and] at k;exact k
 rw[ha,if_neg (by decide)]
 rw[ha,Bool.true_and] at k
 have hone:∀x∈ds,x=wdD (unw x)/\(unw x).length=n:=fun x hx=>by
  have:=List.all_eq_true.mp ha x hx;simp only[iV,Bool.and_eq_true] at this;exact kz this.1
 obtain⟨us,rfl,hul⟩:∃us:List (List Int),ds=us.map wdD/\∀u∈us,u.length=n:=⟨ds.map unw,by
  rw[List.map_map]
  exact((List.map_congr_left fun x hx=>(hone x hx).1.symm).trans (List.map_id ds)).symm,fun u hu=>by
  obtain⟨x,hx,rfl⟩:=List.mem_map.mp hu
  exact(hone x hx).2⟩
 rw[AK] at k;obtain⟨a,rfl⟩:=hR;have hu60:us.length<=60:=by simpa using h60
 refine⟨us,rfl,fun u hu z=>?_,by omega,fun r h1 h2 h3=>⟨?_,?_⟩⟩
 ·have:=hul u hu
  rw[z] at this;simp at this;omega
 ·have:=bZ us
  simp only[dep];omega
 ·rw[CO h1 h2 h3,ar]
  exact k
theorem D8(n:Nat):n<=2^hgt n:=by
 unfold hgt;split
 ·omega
 ·have:=Nat.lt_log2_self (n:=n-1)
  omega
theorem DI{f n:Nat}(h:f<hgt n):2^f<n:=by
 unfold hgt at h;split at h
 ·omega
 ·have h1:=Nat.log2_self_le (n:=n-1) (by omega)
  have h2:2^f<=2^Nat.log2 (n-1):=Nat.pow_le_pow_right (by decide) (by omega)
  omega
theorem z5(T:Txt K mg t):a7 P w K mg base CX0 1 t.cX t.iI ["_law_number"] (cL x8):=by
 refine T.rF.okD dY (fun xs Z Q h=>by obtain⟨a,rfl,_⟩:=h;rfl) (fun cdv A outer s H E hr=>⟨_,_,(aj (aE (i:=1) dY.nd rfl (Or.inl rfl) ah)
   (aj (aE (i:=2) dY.nd rfl (Or.inl rfl) ah)
   (aj (kZ PassesOwn.never (aV pX (pv 2) (pv 0) (aT _)) (aj (aE (i:=2) dY.nd rfl (Or.inl rfl) (aF (am dH dB) ah (pv 2)))
   (av (aE (i:=1) dY.nd rfl (Or.inl rfl) (aF (am aY (am aM aZ)) (pv 1) ah)))))
   (av (aO (pv 1)))))),(aB (aK ak ap)
   (aB (aK ak ap)
   (aB (oW (ba (ao fH ae ae)) (aB (aK (ao fE ak ae) ap)
   (aK (ao bz ae ak) ap)))
   (a8 ae)))),fun xs Z Q h=>?_⟩)
 obtain⟨n,rfl,k⟩:=h;walk_at "s1";walk_at "s1";rw[jd,jX];refine⟨fun m ρ Z'=>Z'=Z/\∃f:Nat,ρ=[some (.d (.int n)),some (.d (.int f)),some (.d (.int (2^f:Nat)))]/\f<=hgt n/\m=hgt n-f,⟨_,rfl,0,rfl,Nat.zero_le _,rfl⟩,?_⟩;rintro m ρ Z' ⟨rfl,f,rfl,hf,rfl⟩;walk_at "a1";by_cases hlt:2^f<n
 ·have hne:f≠hgt n:=fun z=>by subst z;have:=D8 n;omega
  rw[if_pos (by exact_mod_cast hlt)]
  refine⟨fun ρ Z1=>Z1=Z'/\∃g:Nat,g=f+1/\ρ=[some (.d (.int n)),some (.d (.int g)),some (.d (.int (2^g:Nat)))],?_,?_⟩
  ·rintro ρ Z1 ⟨rfl,g,rfl,rfl⟩
   exact⟨_,by omega,rfl,f+1,rfl,by omega,rfl⟩
  ·walk_at "s1"
   refine⟨gD (by decide),?_⟩
   exact⟨by omega,by rw[Nat.pow_succ];omega⟩
 ·have hge:f=hgt n:=Nat.le_antisymm hf (Nat.not_lt.mp fun z=>hlt (DI z))
  rw[if_neg (by exact_mod_cast hlt),ar]
  subst hge;exact k
noncomputable def nW(y:List Int)(p:Nat):List Int:=y.take p++[1-y.getD p 0]++y.drop (p+1)
noncomputable def rlB(b:Bool)(y:List Int)(p:Nat):Bool:=!b || decide (y.getD p 0=1)
theorem xB:∀n∈List.range 6,∀y∈wl n,∀z∈wl n,∀b:Bool,((List.range n).filter fun p=>decide (nW y p=z) && rlB b y p).length=if jA b y z=true then 1 else 0:=by decide +kernel
noncomputable def edN(b:Bool)(y:List Int)(vs:List (List Int))(j:Nat):Nat:=((List.range j).filter fun p=>decide (nW y p∈vs) && rlB b y p).length
theorem uO{α:Type}{p q r:α->Bool}:∀xs:List α,(∀x,r x=(p x || q x))->(∀x,(p x && q x)=false)->(xs.filter r).length=(xs.filter p).length+(xs.filter q).length
 | [],_,_=>rfl
 |x::xs,h1,h2=>by
  have ih:=uO xs h1 h2;have a:=h1 x;have b:=h2 x;simp only[List.filter_cons,a];cases hp:p x<;>cases hq:q x<;>simp[hp,hq] at b ⊢<;>omega
theorem yP{b:Bool}{n:Nat}{y:List Int}(hn:n<=5)(hy:y∈wl n):∀ {vs:List (List Int)},(∀v∈vs,v∈wl n)->vs.Nodup->edN b y vs n=(vs.filter (jA b y)).length
 | [],_,_=>by simp[edN]
 |z::vs,h,hnd=>by
  obtain⟨hz,hnd⟩:=List.nodup_cons.mp hnd;have ih:=yP hn hy (fun v hv=>h v (List.mem_cons_of_mem _ hv)) hnd (b:=b);have h1:=xB n (List.mem_range.mpr (by omega)) y hy z (h z (List.mem_cons_self ..)) b
  unfold edN at ih ⊢;rw[uO (p:=fun p=>decide (nW y p=z) && rlB b y p) (q:=fun p=>decide (nW y p∈vs) && rlB b y p) _ (fun p=>?_) (fun p=>?_),h1,ih,List.filter_cons]
  ·split<;>simp<;>omega
  ·rw[Bool.eq_iff_iff];simp[or_and_right]
  ·rw[Bool.eq_false_iff]
   intro e;simp only[Bool.and_eq_true,decide_eq_true_eq] at e;obtain⟨⟨e1,_⟩,e2,_⟩:=e;rw[e1] at e2;exact hz e2
theorem wN(b:Bool)(y:List Int)(vs:List (List Int))(j:Nat):edN b y vs (j+1)=edN b y vs j+if nW y j∈vs/\rlB b y j=true then 1 else 0:=by
 unfold edN;rw[List.range_succ,List.filter_append,List.length_append]
 congr 1
 simp only[List.filter_cons,List.filter_nil,Bool.and_eq_true,decide_eq_true_eq];split<;>rfl
theorem oR{α:Type}(xs:List α)(k:Nat):bp xs none (some (k:Int))=xs.take k:=by
 unfold bp;rw[HT.sIx_none,HT.sIx_nat,List.drop_zero,Nat.sub_zero];by_cases h:k<=xs.length
 ·rw[Nat.min_eq_left h]
 ·rw[Nat.min_eq_right (by omega),List.take_length,List.take_of_length_le (by omega)]
theorem tV{α:Type}(xs:List α)(k:Nat):bp xs (some (k:Int)) none=xs.drop k:=by
 unfold bp;rw[HT.sIx_none,HT.sIx_nat];by_cases h:k<=xs.length
 ·rw[Nat.min_eq_left h,List.take_of_length_le (by simp)]
 ·rw[Nat.min_eq_right (by omega),List.drop_length,List.drop_eq_nil_of_le (by omega),List.take_nil]
noncomputable def CK:ASp:=fun xs Z Q=>∃(b:Bool)(n:Nat) (us vs:List (List Int)),xs=[.d (.str (rl b)),.d (.tup (us.map wdD)),.d (.tup (vs.map wdD))]/\n<=5/\us.length<=60/\vs.length<=60/\(∀u∈us,u∈wl n)/\(∀v∈vs,v∈wl n)/\vs.Nodup/\Q (.d (.int (cC b us vs))) Z
theorem Ee(T:Txt K mg t):a7 P w K mg base CX0 1 t.dJ t.jY ["_law_rule","_law_yes","_law_no"] (cL CK):=by
 refine T.vK.okD dF (fun xs Z Q h=>by obtain⟨b,n,us,vs,rfl,_⟩:=h;rfl) (fun cdv A outer s H E hr=>⟨_,_,(aj (aE (i:=3) dF.nd rfl (Or.inl rfl) ah)
   (aj (gn PassesOwn.never rfl (cw K rfl (pv 1)) (aX (i:=4) dF.nd rfl (Or.inl rfl)) (av (gn PassesOwn.never rfl (d9 rfl T.gY (ac (ax (aP K rfl) (by rfl) T.cg (by kernel_rfl) (ac (pv 4) af)) af)) (aX (i:=5) dF.nd rfl (Or.inl rfl)) (aj (aE (i:=6) dF.nd rfl (Or.inl rfl) (aF (am aY (am aM aZ)) (aF (am aY (am aM aZ)) (bL (dq K rfl) (pv 4) cj (cn (pv 5))) (a0 (ac (aF gN ah (aQ (az K rfl) (pv 4) (pv 5) (fun _ _=>rfl))) af))) (bL (dq K rfl) (pv 4) (cn (aF (am aY (am aM aZ)) (pv 5) ah)) cj)))
   (av (cZ (PW.pt (sB (aV (yx hr.Go) (pv 6) (pv 2) (by with_unfolding_all rfl)) (oo (PW.pt (eU (aV (ce hr.Go) (pv 0) bQ (aT _)) (eJ (aV (ce hr.Go) (aQ (az K rfl) (pv 4) (pv 5) (fun _ _=>rfl)) ah (aT _)))))))) (av (aE (i:=3) dF.nd rfl (Or.inl rfl) (aF (am aY (am aM aZ)) (pv 3) ah))) bC))))))
   (av (aO (pv 3))))),(aB (aK ak ap)
   (aB (i0 (dW ae) ap (i0 (jQ (aa (a9 cr (aa ae ag)) ag)) ap (aB (aK (ao bz (ao bz (jG ae c8 (da ae)) (bx (aa (ao ka ak (ao bw ae ae)) ag))) (jG ae (da (ao bz ae ak)) c8)) ap)
   (fC (yM (ba (ao wD ae ae)) (i5 (ba (ao bS ae cO)) (ba (ao bS (ao bw ae ae) ak)))) (aK (ao bz ae ak) ap) bU))))
   (a8 ae))),fun xs Z Q h=>?_⟩)
 obtain⟨b,n,us,vs,rfl,hn,hu,hv,hul,hvl,hnd,k⟩:=h;walk_at "s1";walk_at "s1";refine uP (fun i ρ Z'=>Z'=Z/\∃a c d,ρ=[some (.d (.str (rl b))),some (.d (.tup (us.map wdD))),some (.d (.tup (vs.map wdD))),some (.d (.int (cC b (us.take i) vs))),a,c,d]) ⟨rfl,_,_,_,rfl⟩ ?_ ?_
 ·rintro i d ρ Z' N hdi ⟨rfl,a,c,e,rfl⟩ kN
  obtain⟨y,hyi,rfl⟩:=iS hdi;have hyw:=hul y (List.mem_of_getElem? hyi);obtain⟨yl,yb⟩:=cy hyw;walk_at "a1";refine⟨by omega,by omega,kJ (fun j ρ Z''=>Z''=Z'/\∃c d,ρ=[some (.d (.str (rl b))),some (.d (.tup (us.map wdD))),some (.d (.tup (vs.map wdD))),some (.d (.int (cC b (us.take i) vs+edN b y vs j:Nat))),some (.d (wdD y)),c,d]) ⟨rfl,_,_,rfl⟩ ?_ ?_⟩
  ·rintro j ρ Z'' M hj ⟨rfl,c,e,rfl⟩ kM
   rw[show ((0:Int)+(j:Nat))=(j:Nat) from by omega]
   walk_at "s1";have eat:atI ((y.map D.int).map AV.d) (j:Int)=some (.d (.int (y.getD j 0))):=fX j rfl (by simp[hj])
   have c1:bp y none (some (j:Int))=y.take j:=oR y j;have c2:bp y (some ((j:Int)+1)) none=y.drop (j+1):=tV y (j+1);have l1:=List.length_take_le j y;have l2:(y.drop (j+1)).length<=y.length:=by rw[List.length_drop];omega
   rw[c1,c2];have st:=wN b y vs j
   have yes:∀z:Option AV,(nW y j∈vs/\rlB b y j=true)->M [some (.d (.str (rl b))),some (.d (.tup (us.map wdD))),some (.d (.tup (vs.map wdD))),some (.d (.int ((cC b (us.take i) vs+edN b y vs j:Nat)+1))),some (.d (wdD y)),some (.d (.int j)),z] Z'':=fun z h=>by
    rw[if_pos h] at st;exact kM _ _ ⟨rfl,_,_,by rw[st];simp only[Int.natCast_add,Int.add_assoc];rfl⟩
   have no:∀z:Option AV,¬ (nW y j∈vs/\rlB b y j=true)->M [some (.d (.str (rl b))),some (.d (.tup (us.map wdD))),some (.d (.tup (vs.map wdD))),some (.d (.int (cC b (us.take i) vs+edN b y vs j:Nat))),some (.d (wdD y)),some (.d (.int j)),z] Z'':=fun z h=>by
    have st2:edN b y vs (j+1)=edN b y vs j:=by rw[st,if_neg h];rfl
    exact kM _ _ ⟨rfl,some (.d (.int j)),z,by rw[st2]⟩
   refine⟨_,eat,_,rfl,Nat.le_of_lt (aR (by omega)),Nat.le_of_lt (aR (by omega)),by have:=bZ vs;omega,?_⟩
   rw[show y.take j++[1-y.getD j 0]++y.drop (j+1)=nW y j from rfl,lW]
   by_cases hm:nW y j∈vs
   case neg=>
    rw[if_neg (by simpa using hm)]
    exact no _ fun z=>hm z.1
   rw[if_pos (by simpa using hm)]
   cases b with
   |false=>
    rw[if_pos (by rfl)]
    exact yes _ ⟨hm,rfl⟩
   |true=>
    rw[if_neg (by decide)]
    refine⟨_,eat,_,rfl,by simp[dep],?_⟩
    rw[d7];by_cases h1:y.getD j 0=1
    ·rw[if_pos (by simpa using h1)]
     exact yes _ ⟨hm,by simpa[rlB] using h1⟩
    ·rw[if_neg (by simpa using h1)]
     exact no _ fun z=>h1 (by simpa[rlB] using z.2)
  ·rintro ρ Z'' ⟨rfl,c,e,rfl⟩
   refine kN _ _ ⟨rfl,_,_,_,by rw[jK hyi,yl,yP hn hyw hvl hnd]⟩
 ·rintro ρ Z' ⟨rfl,a,c,e,rfl⟩
  walk_at "a1";rw[List.take_length,ar];exact k
theorem z9{f g c:Nat}(hc:1<=c):f*c<g↔f<(g+c-1) / c:=by
 rw[show f<(g+c-1) / c↔f+1<=(g+c-1) / c from Iff.rfl,Nat.le_div_iff_mul_le hc,Nat.succ_mul]
 omega
noncomputable def DL:ASp:=fun xs Z Q=>∃(b:Bool)(n:Nat) (ys zs:List (List Int)) (d:D),xs=[.d (.str (rl b)),.d (.tup [.tup (ys.map wdD),.tup (zs.map wdD)]),.d d]/\1<=n/\n<=5/\ys≠[]/\zs≠[]/\(∀v∈ys,v∈wl n)/\(∀v∈zs,v∈wl n)/\ys.length<=32/\zs.length<=32/\(∀x ds,d=.tup (x::ds)->dep x<=40/\∀y∈ds,∀es,y=.tup es->dep y<=40/\es.length<=60)/\Q (.d (shE b n ys zs d)) Z
theorem CV(T:Txt K mg t):a7 P w K mg base CX0 3 t.fV t.o6 ["_law_rule","_law_box_here","_law_thing"] (cL DL):=by
 have G_l_are_words:a7 P w K mg base _ _ _ _ _ _:=CZ T;have G_l_edges:a7 P w K mg base _ _ _ _ _ _:=Ee T;have G_l_height:a7 P w K mg base _ _ _ _ _ _:=z5 T
 refine T.Al.okD jp (fun xs Z Q h=>by obtain ⟨b,n,ys,zs,d,rfl,_⟩:=h;rfl) (fun cdv A outer s H E hr=>⟨_,_,(aj (cZ (PW.pt (eU (dg (bf K rfl (ax cz (by rfl) T.bi (by kernel_rfl) (ac (pv 2) (ac (dr (v:=.ty "tuple") (by rfl) T.cf (by kernel_rfl) (by rfl)) af))) (fun _=>rfl))) (eU (aV (fm hr.Go) (ax (aP K rfl) (by rfl) T.cg (by kernel_rfl) (ac (pv 2) af)) ah (aT _)) (eU (dg (bf K rfl (ax cz (by rfl) T.bi (by kernel_rfl) (ac (aQ (az K rfl) (pv 2) ah (fun _ _=>rfl)) (ac (dr (v:=.ty "str") (by rfl) T.BK (by kernel_rfl) (by rfl)) af))) (fun _=>rfl))) (eJ (aV (fm hr.Go) (aQ (az K rfl) (pv 2) ah (fun _ _=>rfl)) bQ (aT _))))))) (av (aO f6)) bC)
   (aj (cZ (PW.pt (eU (dg (bf K rfl (aA G_l_are_words (hr.mono (by omega)) (by rfl) T.iw T.ip T.ik .nil aW (ac (aQ (az K rfl) (pv 1) ah (fun _ _=>rfl)) (ac (aQ (az K rfl) (pv 2) ah (fun _ _=>rfl)) af))) (fun _=>rfl))) (eJ (dg (bf K rfl (aA G_l_are_words (hr.mono (by omega)) (by rfl) T.iw T.ip T.ik .nil aW (ac (aQ (az K rfl) (pv 1) ah (fun _ _=>rfl)) (ac (aQ (az K rfl) (pv 2) ah (fun _ _=>rfl)) af))) (fun _=>rfl)))))) (av (aO f6)) bC)
   (aj (aE (i:=3) jp.nd rfl (Or.inl rfl) (aA G_l_edges (hr.mono (by omega)) (by rfl) T.vz T.wb T.vD .nil aW (ac (pv 0) (ac (aQ (az K rfl) (pv 2) ah (fun _ _=>rfl)) (ac (aQ (az K rfl) (pv 2) ah (fun _ _=>rfl)) af)))))
   (aj (aE (i:=4) jp.nd rfl (Or.inl rfl) ah)
   (aj (kZ PassesOwn.never (aV pX (aF (am dH dB) (aF (am dH dB) (pv 4) (ax (aP K rfl) (by rfl) T.cg (by kernel_rfl) (ac (aQ (az K rfl) (pv 2) ah (fun _ _=>rfl)) af))) (ax (aP K rfl) (by rfl) T.cg (by kernel_rfl) (ac (aQ (az K rfl) (pv 2) ah (fun _ _=>rfl)) af))) (aF (am dH dB) (pv 3) (pv 3)) (aT _)) (av (aE (i:=4) jp.nd rfl (Or.inl rfl) (aF (am aY (am aM aZ)) (pv 4) ah))))
   (av (aO (a0 (ac (pv 4) (ac (aA G_l_height (hr.mono (by omega)) (by rfl) T.rW T.se T.tq .nil aW (ac (pv 4) af)) af)))))))))),(aB (fC (i5 (eS (dX (a9 gH (aa ae (aa gz ag))))) (i5 (ba (ao bS (a9 cr (aa ae ag)) ak)) (i5 (eS (dX (a9 gH (aa (ao bw ae ak) (aa gz ag))))) (ba (ao bS (ao bw ae ak) cO))))) (a8 iZ) bU)
   (aB (fC (i5 (eS (dX (aJ (aa (ao bw ae ak) (aa (ao bw ae ak) ag))))) (eS (dX (aJ (aa (ao bw ae ak) (aa (ao bw ae ak) ag)))))) (a8 iZ) bU)
   (aB (aK (aJ (aa ae (aa (ao bw ae ak) (aa (ao bw ae ak) ag)))) ap)
   (aB (aK ak ap)
   (aB (oW (ba (ao fH (ao fE (ao fE ae (a9 cr (aa (ao bw ae ak) ag))) (a9 cr (aa (ao bw ae ak) ag))) (ao fE ae ae))) (aK (ao bz ae ak) ap))
   (a8 (bx (aa ae (aa (aJ (aa ae ag)) ag))))))))),fun xs Z Q h=>?_⟩)
 obtain⟨b,n,ys,zs,d,rfl,hn1,hn,y0,z0,yl,zl,y32,z32,hes,k⟩:=h;walk_at "s1";refine⟨by decide,?_⟩
 by_cases ht:isD "tuple" d=true
 case neg=>
  rw[if_pos (by simpa using ht),ar]
  rw[show shE b n ys zs d=.non from by cases d<;>first|rfl|(simp[isD,tyD] at ht)] at k
  exact k
 obtain⟨ds,rfl⟩:∃ds,d=.tup ds:=by cases d<;>first|exact⟨_,rfl⟩|(simp[isD,tyD] at ht)
 rw[ht,if_neg (by decide)]
 refine⟨ds.length,lV _ _,?_⟩;by_cases hl:ds.length=3
 case neg=>
  rw[if_pos (by simp;omega),ar]
  rw[show shE b n ys zs (.tup ds)=.non from by
   unfold shE;split
   ·rename_i e
    cases e;exact absurd rfl hl
   ·rfl] at k
  exact k
 rw[if_neg (by rw[hl];decide)]
 obtain⟨x,p,q,rfl⟩:∃x p q,ds=[x,p,q]:=by
  match ds,hl with
  | [x,p,q],_=>exact⟨x,p,q,rfl⟩
 obtain⟨hdx,hes2⟩:=hes x [p,q] rfl;walk_at "a1";refine⟨by decide,?_⟩
 have off:¬ (eqD x (.str (Str.ofString "edges"))=true/\smD n ys p=true/\smD n zs q=true)->Q (.d .non) Z:=fun z=>by
  simp only[shE] at k;rw[if_neg z] at k;exact k
 by_cases hs:isD "str" x=true
 case neg=>
  rw[if_pos (by simpa using hs),ar]
  exact off fun z=>hs (by cases x<;>first|rfl|(simp[eqD] at z))
 rw[hs,if_neg (by decide)]
 refine⟨by omega,?_⟩
 by_cases hx:eqD x (.str (Str.ofString "edges"))=true
 case neg=>
  rw[if_pos (by simpa using hx),ar]
  exact off fun z=>hx z.1
 rw[hx,if_neg (by decide)]
 walk_at "s1";have yn:∀v∈ys,v.length=n:=fun v hv=>(cy (yl v hv)).1;have zn:∀v∈zs,v.length=n:=fun v hv=>(cy (zl v hv)).1;refine⟨n,ys,p,rfl,hn1,hn,y0,yn,y32,fun es e=>⟨by have:=(hes2 p (List.mem_cons_self ..) es e).1;omega,(hes2 p (List.mem_cons_self ..) es e).2⟩,smD n ys p,rfl,?_⟩
 by_cases h1:smD n ys p=true
 case neg=>
  rw[if_pos (by simpa using h1),ar]
  exact off fun z=>h1 z.2.1
 rw[h1,if_neg (by decide)]
 refine⟨n,zs,q,rfl,hn1,hn,z0,zn,z32,fun es e=>⟨by have:=(hes2 q (List.mem_cons_of_mem _ (List.mem_cons_self ..)) es e).1;omega,(hes2 q (List.mem_cons_of_mem _ (List.mem_cons_self ..)) es e).2⟩,smD n zs q,rfl,?_⟩
 by_cases h2:smD n zs q=true
 case neg=>
  rw[if_pos (by simpa using h2),ar]
  exact off fun z=>h2 z.2.2
 rw[h2,if_neg (by decide)]
 simp only[shE,hx,h1,h2,and_self,if_true] at k;clear off;obtain⟨e1,p0,pl,pin,_⟩:=jO h1;obtain⟨e2,q0,ql,qin,qup⟩:=jO h2;have p60:(f7 p).length<=60:=by have:=(hes2 p (List.mem_cons_self ..) _ e1).2;simpa using this
 have q60:(f7 q).length<=60:=by have:=(hes2 q (List.mem_cons_of_mem _ (List.mem_cons_self ..)) _ e2).2;simpa using this
 clear hes2 hes hdx h1 h2;generalize f7 p=us at *;generalize f7 q=vs at *;subst e1 e2;have hle:=kK b us vs;have hmul:us.length*vs.length<=60*60:=Nat.mul_le_mul p60 q60;have hpos:1<=us.length*vs.length:=Nat.mul_pos (List.length_pos_iff.mpr p0) (List.length_pos_iff.mpr q0);have hE:cC b us vs<=3600:=by omega
 have hEE:cC b us vs*cC b us vs<=3600*3600:=Nat.mul_le_mul hE hE;have upw:∀u∈us,u∈wl n:=fun u hu=>yl u (by have:=pin u hu;rw[lW] at this;exact of_decide_eq_true this)
 have vpw:∀v∈vs,v∈wl n:=fun v hv=>zl v (by have:=qin v hv;rw[lW] at this;exact of_decide_eq_true this)
 have vnd:vs.Nodup:=by
  have:=r8 (yC qup);rw[qup] at this;exact of_decide_eq_true this.symm
 walk_at "s1";refine⟨b,n,us,vs,rfl,hn,p60,q60,upw,vpw,vnd,?_⟩;walk_at "s1";unfold Dm at k;generalize cC b us vs=M at *;rw[jd,jX];refine⟨fun m ρ Z'=>Z'=Z/\∃f:Nat,ρ=[some (.d (.str (rl b))),some (.d (.tup [.tup (ys.map wdD),.tup (zs.map wdD)])),some (.d (.tup [x,.tup (us.map wdD),.tup (vs.map wdD)])),some (.d (.int M)),some (.d (.int f))]/\f<=(M*M+us.length*vs.length-1) / (us.length*vs.length)/\m=(M*M+us.length*vs.length-1) / (us.length*vs.length)-f,⟨_,rfl,0,rfl,Nat.zero_le _,rfl⟩,?_⟩
 rintro m ρ Z' ⟨rfl,f,rfl,hf,rfl⟩;walk_at "a1"
 have hF:(M*M+us.length*vs.length-1) / (us.length*vs.length)<=20000000:=by
  refine Nat.le_trans (Nat.div_le_self _ _) (by omega)
 have cl:=z9 (f:=f) (g:=M*M) hpos
 have ef:((f:Int)*us.length*vs.length<M*M)↔f*(us.length*vs.length)<M*M:=by
  rw[Int.mul_assoc];exact_mod_cast Iff.rfl
 refine⟨gD ⟨by omega,by omega⟩,sg ⟨by omega,by omega⟩,gD ⟨by omega,by omega⟩,?_⟩
 generalize (M*M+us.length*vs.length-1) / (us.length*vs.length)=G at *;by_cases hlt:f*(us.length*vs.length)<M*M
 ·rw[if_pos (ef.mpr hlt)]
  have:=cl.mp hlt;refine⟨fun ρ Z1=>Z1=Z'/\ρ=[some (.d (.str (rl b))),some (.d (.tup [.tup (ys.map wdD),.tup (zs.map wdD)])),some (.d (.tup [x,.tup (us.map wdD),.tup (vs.map wdD)])),some (.d (.int M)),some (.d (.int ((f+1:Nat))))],?_,rfl,rfl⟩;rintro ρ Z1 ⟨rfl,rfl⟩;exact⟨_,by omega,rfl,f+1,rfl,by omega,rfl⟩
 ·rw[if_neg fun z=>hlt (ef.mp z)]
  have e:f=G:=Nat.le_antisymm hf (Nat.not_lt.mp fun z=>hlt (cl.mpr z));subst e;refine⟨f,rfl,_,rfl,?_⟩;rw[ar];exact k
noncomputable def CY:ASp:=fun xs Z Q=>∃(p:Addr)(n:Nat),xs=[.r (.ref p),.d (.int n)]/\i7 Z p/\1<=n/\n<=5/\∀(ys zs:List (List Int)) (c:Pl),ys.Sublist (wl n)->zs.Sublist (wl n)->ys≠[]->zs≠[]->Q (.d (.tup [.tup (ys.map wdD),.tup (zs.map wdD)])) (Z.put p (plO c))
theorem Ds(T:Txt K mg t):a7 P w K mg base CX0 4 t.fU t.nX ["_law_pen_here","_law_places"] (cL CY):=by
 have G_l_draw:a7 P w K mg base _ _ _ _ _ _:=gb T;have G_l_sorts:a7 P w K mg base _ _ _ _ _ _:=yT T
 refine T.Bj.okD eD (fun xs Z Q h=>by obtain ⟨p,n,rfl,_⟩:=h;rfl) (fun cdv A outer s H E hr=>⟨_,_,(aj (gQ (aA G_l_sorts (hr.mono (by omega)) (by rfl) T.vJ T.vE T.vT .nil aW (ac (pv 0) (ac (pv 1) af))) (uJ K rfl (n:=2) rfl (eH (aX (i:=2) eD.nd rfl (Or.inl rfl)) (eH (aX (i:=3) eD.nd rfl (Or.inl rfl)) oh))))
   (aj (aE (i:=4) eD.nd rfl (Or.inr rfl) (aA G_l_draw (hr.mono (by omega)) (by rfl) T.bc T.bd T.bg .nil aW (ac (pv 0) (ac (pv 1) af))))
   (aj (aE (i:=5) eD.nd rfl (Or.inr rfl) (aA G_l_draw (hr.mono (by omega)) (by rfl) T.bc T.bd T.bg .nil aW (ac (pv 0) (aq ah af))))
   (aj (cZ (aV (ce hr.Go) (aA G_l_draw (hr.mono (by omega)) (by rfl) T.bc T.bd T.bg .nil aW (ac (pv 0) (aq ah af))) ah (aT _)) (aj (aE (i:=6) eD.nd rfl (Or.inl rfl) (bv (bA K rfl) (by rfl) T.cf (by kernel_rfl) (ac (ck (N:=(["_law_word","_law_place","_law_bit"] : List Str)) (src:=[none,some 4,some 5]) rfl (by show df _ (defScope jc) _ _ (["_law_pen_here","_law_places","_law_yes","_law_no","_law_place","_law_bit","_law_ones","_law_others"] : List Str) = true;decide +kernel) (by intro g' h;cases h) (cw K rfl (pv 2)) (fun _ _ _ _ _ _=>(aX (i:=0) (show (["_law_word","_law_place","_law_bit"] : List Str).Nodup by decide +kernel) rfl (Or.inl rfl))) (fun _ _ _ _ _ _=>(eV (aV (ce hr.Go) (aQ (az K rfl) (pv 0) (pv 1) (fun _ _=>rfl)) (pv 2) (aT _)))) (fun _ _ _ _ _ _=>(cq rfl rfl (pv 0)))) af)))
   (aj (aE (i:=7) eD.nd rfl (Or.inl rfl) (bv (bA K rfl) (by rfl) T.cf (by kernel_rfl) (ac (ck (N:=(["_law_word","_law_place","_law_bit"] : List Str)) (src:=[none,some 4,some 5]) rfl (by show df _ (defScope jc) _ _ (["_law_pen_here","_law_places","_law_yes","_law_no","_law_place","_law_bit","_law_ones","_law_others"] : List Str) = true;decide +kernel) (by intro g' h;cases h) (cw K rfl (pv 3)) (fun _ _ _ _ _ _=>(aX (i:=0) (show (["_law_word","_law_place","_law_bit"] : List Str).Nodup by decide +kernel) rfl (Or.inl rfl))) (fun _ _ _ _ _ _=>(eV (aV (fm hr.Go) (aQ (az K rfl) (pv 0) (pv 1) (fun _ _=>rfl)) (pv 2) (aT _)))) (fun _ _ _ _ _ _=>(cq rfl rfl (pv 0)))) af)))
   (av (cZ (PW.pt (sB (aV (fm hr.Go) (pv 6) (a0 af) (aT _)) (oo (aV (fm hr.Go) (pv 7) (a0 af) (aT _))))) (av (aO (a0 (ac (pv 6) (ac (pv 7) af))))) bC)))) bC)
   (av (aO (a0 (ac (pv 2) (ac (pv 3) af))))))))),(aB (aK (aJ (aa ae (aa ae ag))) (B8 (iA ap (iA ap yZ))))
   (aB (aK (aJ (aa ae (aa ae ag))) ap)
   (aB (aK (aJ (aa ae (aa ak ag))) ap)
   (aB (fC (ba (ao bS (aJ (aa ae (aa ak ag))) ak)) (aB (aK (a9 eW (aa (dC (dW ae) ap (ba (ao bS (ao bw ae ae) ae)) (de ae)) ag)) ap)
   (aB (aK (a9 eW (aa (dC (dW ae) ap (ba (ao bS (ao bw ae ae) ae)) (de ae)) ag)) ap)
   (fC (yM (ba (ao bS ae (bx ag))) (ba (ao bS ae (bx ag)))) (a8 (bx (aa ae (aa ae ag)))) bU))) bU)
   (a8 (bx (aa ae (aa ae ag)))))))),fun xs Z Q h=>?_⟩)
 obtain⟨p,n,rfl,hp,hn1,hn,k⟩:=h;walk_at "s1";refine⟨p,n,rfl,hp,hn1,hn,fun ys zs c sy sz y0 z0 _=>?_⟩;walk_at "s1";refine⟨p,n,rfl,bF,by omega,by omega,fun pl c p0 p1=>?_⟩
 rw[Om.Gp];walk_at "s1";refine⟨p,2,rfl,bF,by decide,by decide,fun bt c b0 b1=>?_⟩
 rw[Om.Gp];walk_at "s1";refine⟨p,2,rfl,bF,by decide,by decide,fun r c r0 r1=>?_⟩
 rw[Om.Gp]
 have kk:∀c,Q (.d (.tup [.tup (ys.map wdD),.tup (zs.map wdD)])) ((Z.put p (plO c)).only Z):=fun c=>by
  rw[eP (Ex.refl _) hp.some];exact k ys zs c sy sz y0 z0
 refine⟨_,rfl,by simp[dep],?_⟩
 rw[d7];by_cases hr:r=0
 case neg=>
  rw[if_neg (by simpa using hr)]
  exact kk c
 rw[if_pos (by simpa using hr)]
 have y32:ys.length<=32:=Nat.le_trans sy.length_le (mT hn);have z32:zs.length<=32:=Nat.le_trans sz.length_le (mT hn);walk_at "s1";refine kH wdD (fun v=>decide (v.getD pl.toNat 0=bt)) wdD (Nat.le_of_lt (aR (by omega))) (fun v hv Q q=>?_) (fun v hv _ Q q=>?_) (fun ρ=>?_)
 ·have hpx:=qc (w:=v) (i:=pl) p0 (by rw[(cy (sy.mem hv)).1];omega)
  walk_at "a1";refine⟨_,hpx,_,rfl,by simp[dep],?_⟩
  rw[d7];exact q
 ·walk_at "a1"
  exact q
 refine⟨_,bK _,?_⟩;walk_at "s1";refine kH wdD (fun v=>!decide (v.getD pl.toNat 0=bt)) wdD (Nat.le_of_lt (aR (by omega))) (fun v hv Q q=>?_) (fun v hv _ Q q=>?_) (fun ρ=>?_)
 ·have hpx:=qc (w:=v) (i:=pl) p0 (by rw[(cy (sz.mem hv)).1];omega)
  walk_at "a1";refine⟨_,hpx,_,rfl,by simp[dep],?_⟩
  rw[d7];exact q
 ·walk_at "a1"
  exact q
 refine⟨_,bK _,?_⟩;have sy2:=(List.filter_sublist (p:=fun v=>decide (v.getD pl.toNat 0=bt))).trans sy;have sz2:=(List.filter_sublist (p:=fun v=>!decide (v.getD pl.toNat 0=bt))).trans sz;generalize ys.filter (fun v=>decide (v.getD pl.toNat 0=bt))=us at *;generalize zs.filter (fun v=>!decide (v.getD pl.toNat 0=bt))=vs at *
 have dp:∀ws:List (List Int),dep (.tup (ws.map wdD))<=100:=fun ws=>by
  have:=bZ ws;simp only[dep];omega
 refine⟨dp us,?_⟩;by_cases u0:us=[]
 ·subst u0
  rw[if_neg (by decide)]
  exact kk c
 rw[if_pos (by cases us<;>first|exact absurd rfl u0|rfl)]
 refine⟨dp vs,?_⟩;by_cases v0:vs=[]
 ·subst v0
  rw[if_neg (by decide)]
  exact kk c
 rw[if_pos (by cases vs<;>first|exact absurd rfl v0|rfl),eP (Ex.refl _) hp.some]
 exact k us vs c sy2 sz2 u0 v0
theorem jI{α β:Type}(f:α->β):∀(xs:List α)(j:Nat),(xs.map f).eraseIdx j=(xs.eraseIdx j).map f
 | [],_=>rfl
 |_::_,0=>rfl
 |x::xs,j+1=>congrArg (f x::·) (jI f xs j)
structure S2(Z0 Z:Om)(p a b:Addr)(xs ys:List (List Int)):Prop where
 ex:∃c,Ex (Z0.put p (plO c)) Z
 ha:Z a=some (.own ((xs.map wdD).map AV.d))
 hb:Z b=some (.own ((ys.map wdD).map AV.d))
 na:Z0 a=none
 nb:Z0 b=none
 pa:a≠p
 pb:b≠p
 ab:a≠b
theorem S2.draw{Z0 Z:Om}{p a b:Addr}{xs ys:List (List Int)}(h:S2 Z0 Z p a b xs ys)(c:Pl):S2 Z0 (Z.put p (plO c)) p a b xs ys:=
 ⟨let ⟨_,e⟩:=h.ex;⟨c,e.put2⟩,by rw[Om.Gn h.pa];exact h.ha,by rw[Om.Gn h.pb];exact h.hb,h.na,h.nb,h.pa,h.pb,h.ab⟩
theorem S2.GI{Z0 Z:Om}{p a b:Addr}{xs ys:List (List Int)}(h:S2 Z0 Z p a b xs ys)(us:List (List Int)):S2 Z0 (Z.put a (.own ((us.map wdD).map AV.d))) p a b us ys:=
 ⟨let ⟨c,e⟩:=h.ex;⟨c,e.over (cQ h.na h.pa)⟩,Om.Gm,by rw[Om.Gn h.ab.symm];exact h.hb,h.na,h.nb,h.pa,h.pb,h.ab⟩
theorem S2.setB{Z0 Z:Om}{p a b:Addr}{xs ys:List (List Int)}(h:S2 Z0 Z p a b xs ys)(us:List (List Int)):S2 Z0 (Z.put b (.own ((us.map wdD).map AV.d))) p a b xs us:=
 ⟨let ⟨c,e⟩:=h.ex;⟨c,e.over (cQ h.nb h.pb)⟩,by rw[Om.Gn h.ab];exact h.ha,Om.Gm,h.na,h.nb,h.pa,h.pb,h.ab⟩
theorem vj{α:Type}:∀ {xs:List α} {j:Nat} {y:α},xs[j]?=some y->(y::xs.eraseIdx j).Perm xs
 |x::xs,0,y,h=>by cases h;exact .refl _
 |x::xs,j+1,y,h=>by
  have ih:=vj (xs:=xs) (j:=j) (y:=y) h;exact(List.Perm.swap x y _).trans (ih.cons x)
noncomputable def DU:ASp:=fun xs Z Q=>∃(p:Addr) (ws:List (List Int)),xs=[.r (.ref p),.d (.tup (ws.map wdD))]/\i7 Z p/\ws.length<=32/\∀(us:List (List Int)) (c:Pl),us.Perm ws->Q (.d (.lst (us.map wdD))) (Z.put p (plO c))
theorem CI(T:Txt K mg t):a7 P w K mg base CX0 2 t.cW t.iK ["_law_pen_here","_law_things"] (cL DU):=by
 have G_l_draw:a7 P w K mg base _ _ _ _ _ _:=gb T
 refine T.rC.okD gU (fun xs Z Q h=>by obtain ⟨p,n,rfl,_⟩:=h;rfl) (fun cdv A outer s H E hr=>⟨_,_,(aj (aE (i:=2) gU.nd rfl (Or.inl rfl) (bv (dP K rfl) (by rfl) T.oZ (by kernel_rfl) (ac (pv 1) af)))
   (aj (aE (i:=3) gU.nd rfl (Or.inl rfl) (bE af))
   (aj (kZ PassesOwn.never (aV (wg K rfl hr.Go) (pv 2) (bE af) (aT _)) (av (og (pV PySem.F.plainAttrs_list PySem.F.slot_list_append PySem.F.type_list_append hU (pv 3) (ac (pV PySem.F.plainAttrs_list PySem.F.slot_list_pop PySem.F.type_list_pop yS (pv 2) (ac (aA G_l_draw (hr.mono (by omega)) (by rfl) T.bc T.bd T.bg .nil aW (ac (pv 0) (ac (ax (aP K rfl) (by rfl) T.cg (by kernel_rfl) (ac (pv 2) af)) af))) af)) af)))))
   (av (aO (pv 3)))))),(aB (aK (a9 uF (aa ae ag)) ap)
   (aB (aK (jL ag) ap)
   (aB (oW (ba (ao yj ae (di ag))) (s9 (lx ae (aa (Ap ae (aa (aJ (aa ae (aa (a9 cr (aa ae ag)) ag))) ag)) ag))))
   (a8 zm)))),fun xs Z Q h=>?_⟩)
 obtain⟨p,ws,rfl,hp,h32,k⟩:=h;walk_at "s1";intro a ha;walk_at "s1";intro b hb
 have hS:S2 Z ((Z.put a (.own ((ws.map wdD).map AV.d))).put b (.own [])) p a b ws []:=by
  have nap:a≠p:=fun z=>by subst z;have:=hp.some;rw[ha] at this;cases this
  obtain⟨nba,hb⟩:=cP hb;have nbp:b≠p:=fun z=>by subst z;have:=hp.some;rw[hb] at this;cases this
  obtain⟨c,ec⟩:=hp
  have e0:Z.put p (plO c)=Z:=by
   funext q
   by_cases z:q=p
   ·subst z;rw[Om.Gm,ec]
   ·rw[Om.Gn z]
  refine⟨⟨c,by rw[e0];exact((Ex.refl _).new ha).new (by rw[Om.Gn nba];exact hb)⟩,by rw[Om.Gn (Ne.symm nba),Om.Gm],by rw[Om.Gm];rfl,ha,hb,nap,nbp,Ne.symm nba⟩
 revert hS;generalize (Z.put a (.own ((ws.map wdD).map AV.d))).put b (.own [])=Z1;intro hS;rw[jd,jX];refine⟨fun m ρ Z'=>∃xs ys,S2 Z Z' p a b xs ys/\(ys++xs).Perm ws/\ρ=[some (.r (.ref p)),some (.d (.tup (ws.map wdD))),some (.r (.ref a)),some (.r (.ref b))]/\m=xs.length,⟨_,ws,[],hS,.refl _,rfl,rfl⟩,?_⟩;rintro m ρ Z2 ⟨xs,ys,hS,hpm,rfl,rfl⟩;walk_at "a1";have hxl:xs.length<=32:=by have:=hpm.length_eq;rw[List.length_append] at this;omega
 have hyl:ys.length<=32:=by have:=hpm.length_eq;rw[List.length_append] at this;omega
 refine⟨(xs.map wdD).map AV.d,by rw[sS,hS.ha],rfl,_,rfl,?_⟩
 cases xs with
 |nil=>
  rw[if_neg (by simp)]
  rw[hS.hb];refine⟨_,bK _,?_⟩;obtain⟨c,ex⟩:=hS.ex;rw[eP (ex.over (cQ hS.nb hS.pb)) hp.some];rw[List.append_nil] at hpm;exact k ys c hpm
 |cons x0 xr=>
  generalize hxs:x0::xr=xs at *;have hx0:1<=xs.length:=by rw[←hxs];simp
  rw[if_pos (by rw[←hxs];rfl)]
  refine⟨fun ρ Z'=>∃us vs,us.length<xs.length/\S2 Z Z' p a b us vs/\(vs++us).Perm ws/\ρ=[some (.r (.ref p)),some (.d (.tup (ws.map wdD))),some (.r (.ref a)),some (.r (.ref b))],?_,⟨_,hS.hb⟩,⟨_,hS.ha⟩,xs.length,by rw[hS.ha];simp,?_⟩
  ·rintro ρ Z' ⟨us,vs,h1,h2,h3,rfl⟩
   exact⟨_,h1,us,vs,h2,h3,rfl,rfl⟩
  refine⟨p,xs.length,rfl,lm hS.ex,by omega,by omega,fun r c r0 r1=>?_⟩
  obtain⟨j,rfl⟩:=Int.eq_ofNat_of_zero_le r0;have hj:j<xs.length:=by omega
  have hS:=hS.draw c
  have eE:((xs.map wdD).map AV.d).eraseIdx j=((xs.eraseIdx j).map wdD).map AV.d:=by
   rw[jI,jI]
  have hS2:=(hS.GI (xs.eraseIdx j)).setB (ys++[xs[j]]);refine⟨(xs.map wdD).map AV.d,j,rfl,hS.ha,by simp;omega,.d (wdD xs[j]),by simp[hj],(ys.map wdD).map AV.d,by rw[eE];exact(hS.GI _).hb,Nat.lt_of_le_of_lt (by simp;omega) (aR (show 32<1000 by decide)),xs.eraseIdx j,ys++[xs[j]],?_,?_,?_,rfl⟩
  ·rw[List.length_eraseIdx_of_lt hj];omega
  ·rw[eE]
   rw[List.map_append,List.map_append] at hS2;exact hS2
  ·refine List.Perm.trans ?_ hpm
   rw[List.append_assoc];exact(vj (List.getElem?_eq_getElem hj)).append_left ys
noncomputable def CP:ASp:=fun xs Z Q=>∃(p:Addr) (ws:List (List Int)),xs=[.r (.ref p),.d (.tup (ws.map wdD))]/\i7 Z p/\ws≠[]/\ws.length<=32/\(∀w∈ws,w≠[])/\∀(us:List (List Int)) (c:Pl),us≠[]->us.length<=32->(∀u∈us,u∈ws)->Q (.d (.tup (us.map wdD))) (Z.put p (plO c))
theorem Dj(T:Txt K mg t):a7 P w K mg base CX0 3 t.eL t.lY ["_law_pen_here","_law_words"] (cL CP):=by
 have G_l_draw:a7 P w K mg base _ _ _ _ _ _:=gb T;have G_l_turned:a7 P w K mg base _ _ _ _ _ _:=CI T;refine T.yy.okD vo (fun xs Z Q h=>by obtain⟨p,n,rfl,_⟩:=h;rfl) (fun cdv A outer s H E hr=>⟨_,_,(av (aO (bv (bA K rfl) (by rfl) T.cf (by kernel_rfl) (ac (ax pf (by rfl) T.l7 (by kernel_rfl) (ac (bL (dq K rfl) (aA G_l_turned (hr.mono (by omega)) (by rfl) T.su T.tz T.tB .nil aW (ac (pv 0) (ac (pv 1) af))) cj (cn (aF (am aY (am aM aZ)) ah (aA G_l_draw (hr.mono (by omega)) (by rfl) T.bc T.bd T.bg .nil aW (ac (pv 0) (ac (ax (aP K rfl) (by rfl) T.cg (by kernel_rfl) (ac (pv 1) af)) af)))))) af)) af)))),(a8 (a9 eW (aa (a9 yH (aa (jG (aJ (aa ae (aa ae ag))) c8 (da (ao bz ak (aJ (aa ae (aa (a9 cr (aa ae ag)) ag)))))) ag)) ag))),fun xs Z Q h=>?_⟩)
 obtain⟨p,ws,rfl,hp,w0,h32,hne,k⟩:=h;walk_at "a1";have hpos:=List.length_pos_iff.mpr w0;refine⟨p,ws,rfl,hp,h32,fun us c pm=>?_⟩;refine⟨p,ws.length,rfl,bF,by omega,by omega,fun r c r0 r1=>⟨r,rfl,?_⟩⟩
 rw[Om.Gp];obtain⟨j,rfl⟩:=Int.eq_ofNat_of_zero_le r0;have ej:(1+(j:Int))=((1+j:Nat):Int):=by omega
 simp only[kR];rw[ej,oR,←List.map_take]
 have sub:(us.take (1+j)).Sublist us:=List.take_sublist _ _;have hul:us.length=ws.length:=pm.length_eq;refine⟨us.take (1+j),rfl,fun y hy=>hne y (pm.mem_iff.mp (sub.mem hy)),Nat.lt_of_le_of_lt sub.length_le (by omega),?_⟩
 rw[eP (Ex.refl _) hp.some];have pm2:=eA (us.take (1+j));refine k _ c (fun z=>?_) ?_ fun u hu=>pm.mem_iff.mp (sub.mem (pm2.mem_iff.mp hu))
 ·have:=pm2.length_eq
  rw[z,List.length_take] at this;simp at this;omega
 ·rw[pm2.length_eq]
  have:=sub.length_le;omega
theorem u8{ds:List D}{r:Int}(h0:0<=r)(h1:r<ds.length):∃d∈ds,atI (ds.map AV.d) r=some (.d d):=by
 obtain⟨d,hm,_,hx⟩:=tS (f:=AV.d) (xs:=ds) h0 h1;exact⟨d,hm,hx⟩
noncomputable def A3:List D:=[.bl true,.bl false,.non,.int 2,.int (-1),.str (Str.ofString "1")]
noncomputable def dgs(v:List Int):List Str:=v.map fun b=>Str.ofString (toString b)
theorem CB:∀n∈List.range 6,∀v∈wl n,JoinOk (Str.ofString "") (dgs v)=true/\wt (.str (Str.join (Str.ofString "") (dgs v)))<=100:=by decide +kernel
theorem AX:∀d∈A3,Sz 0 5 d:=by
 intro d hd;simp only[A3,List.mem_cons,List.not_mem_nil,or_false] at hd;rcases hd with rfl|rfl|rfl|rfl|rfl|rfl<;>exact⟨by decide,by decide,by decide +kernel⟩
noncomputable def Bf:ASp:=fun xs Z Q=>∃(p:Addr)(n:Nat)(v:List Int),xs=[.r (.ref p),.d (wdD v)]/\i7 Z p/\1<=n/\n<=5/\v∈wl n/\∀(d:D)(c:Pl),Sz 2 100 d->dep d<=10->Q (.d d) (Z.put p (plO c))
theorem A0(T:Txt K mg t):a7 P w K mg base CX0 2 t.ga t.oU ["_law_pen_here","_law_word"] (cL Bf):=by
 have G_l_draw:a7 P w K mg base _ _ _ _ _ _:=gb T
 refine T.AH.okD kU (fun xs Z Q h=>by obtain ⟨p,n,v,rfl,_⟩:=h;rfl) (fun cdv A outer s H E hr=>⟨_,_,(aj (aE (i:=2) kU.nd rfl (Or.inl rfl) (bv (dP K rfl) (by rfl) T.oZ (by kernel_rfl) (ac (pv 1) af)))
   (aj (gQ (aQ (az K rfl) (bE (aq iQ (aq iQ (aq f6 (aq ah (ac (ug oB ah) (aq bQ af))))))) (aA G_l_draw (hr.mono (by omega)) (by rfl) T.bc T.bd T.bg .nil aW (ac (pv 0) (aq ah af))) (fun _ _=>rfl)) (jx (pv 2) (aA G_l_draw (hr.mono (by omega)) (by rfl) T.bc T.bd T.bg .nil aW (ac (pv 0) (ac (ax (aP K rfl) (by rfl) T.cg (by kernel_rfl) (ac (pv 2) af)) af))) fD))
   (aj (aE (i:=3) kU.nd rfl (Or.inl rfl) (bE (ac (pv 2) (ac (bv (bA K rfl) (by rfl) T.cf (by kernel_rfl) (ac (pv 2) af)) (ac (bL (dq K rfl) (pv 1) cj (cn (ug oB ah))) (ac (aF (am aY (am aM aZ)) (pv 1) (a0 (aq ah af))) (ac (pV PySem.F.plainAttrs_str PySem.F.slot_str_join PySem.F.type_str_join (wP K rfl) bQ (ac (ck (N:=(["_law_bit"] : List Str)) (src:=[none]) rfl (by show df _ (defScope kL) _ _ (["_law_pen_here","_law_word","_law_bits","_law_some_here"] : List Str) = true;decide +kernel) (by intro g' h;cases h) (cw K rfl (pv 1)) (fun _ _ _ _ _ _=>(aX (i:=0) (show (["_law_bit"] : List Str).Nodup by decide +kernel) rfl (Or.inl rfl))) (fun _ _ _ _ _ _=>fZ) (fun _ _ _ _ _ _=>(cq rfl rfl (bv n9 (by rfl) T.BK (by kernel_rfl) (ac (pv 0) af))))) af)) (aq f6 (bj (a0 (ac (pv 1) af)) (bj (a0 af) af))))))))))
   (av (aO (aQ (az K rfl) (pv 3) (aA G_l_draw (hr.mono (by omega)) (by rfl) T.bc T.bd T.bg .nil aW (ac (pv 0) (aq ah af))) (fun _ _=>rfl))))))),(aB (aK (a9 uF (aa ae ag)) ap)
   (aB (aK (ao bw (di (aa on (aa on (aa iZ (aa ak (aa (Dl u_i ak) (aa cO ag))))))) (aJ (aa ae (aa ak ag)))) (mO ae (aJ (aa ae (aa (a9 cr (aa ae ag)) ag)))))
   (aB (aK (di (aa zm (aa (a9 eW (aa ae ag)) (aa (jG ae c8 (da (Dl u_i ak))) (aa (ao bz ae (bx (aa ak ag))) (aa (C1 cO (aa (dC (dW ae) ap rY (de (a9 Dy (aa ae ag)))) ag)) (aa iZ (aa (bx (aa ae ag)) (aa (bx ag) ag))))))))) ap)
   (a8 (ao bw ae (aJ (aa ae (aa ak ag)))))))),fun xs Z Q h=>?_⟩)
 obtain⟨p,n,v,rfl,hp,hn1,hn,hv,k⟩:=h;walk_at "s1";refine⟨v.map D.int,.inr rfl,fun a ha=>?_⟩;walk_at "s1";obtain⟨c0,e0⟩:=hp;have nap:a≠p:=fun z=>by subst z;rw[ha] at e0;cases e0
 obtain⟨vl,vb⟩:=cy hv;refine⟨p,6,rfl,⟨c0,by rw[Om.Gn (Ne.symm nap)];exact e0⟩,by decide,by decide,fun b c b0 b1=>?_⟩
 obtain⟨d0,hd0,ed0⟩:=u8 (ds:=A3) b0 b1;refine⟨b,rfl,_,ed0,v.length,by rw[Om.Gn nap,Om.Gm];simp,?_⟩
 refine⟨p,v.length,rfl,bF,by omega,by omega,fun r c r0 r1=>?_⟩
 rw[Om.Gp];obtain⟨j,rfl⟩:=Int.eq_ofNat_of_zero_le r0;have hj:j<v.length:=by omega
 refine⟨(j:Int),rfl,(v.map D.int).map AV.d,by rw[Om.Gn nap,Om.Gm],j,?_,?_⟩
 ·unfold ixN
  rw[if_pos (by omega),if_pos (by simp;omega)]
  rfl
 rw[show ((v.map D.int).map AV.d).set j (.d d0)=((v.map D.int).set j d0).map AV.d from by rw[List.map_set]]
 have hes:∀d∈(v.map D.int).set j d0,Sz 0 5 d:=fun d hd=>by
  rcases List.mem_or_eq_of_mem_set hd with h|rfl
  ·obtain⟨x,hx,rfl⟩:=List.mem_map.mp h
   exact(oN (vb x hx)).up (Nat.le_refl _) (by decide)
  ·exact AX _ hd0
 have hed:∀d∈(v.map D.int).set j d0,dep d<=0:=fun d hd=>by
  rcases List.mem_or_eq_of_mem_set hd with h|rfl
  ·obtain⟨x,hx,rfl⟩:=List.mem_map.mp h
   simp[dep]
  ·simp only[A3,List.mem_cons,List.not_mem_nil,or_false] at hd0
   rcases hd0 with rfl|rfl|rfl|rfl|rfl|rfl<;>simp[dep]
 have hel:((v.map D.int).set j d0).length<=5:=by simp;omega
 generalize (v.map D.int).set j d0=es at *;walk_at "s1"
 have ex3:Ex (Z.put p (plO c)) ((((Z.put a (.own ((v.map D.int).map AV.d))).put p (plO c))).put a (.frz es)):=by
  have e1:Ex (Z.put p (plO c0)) (Z.put a (.own ((v.map D.int).map AV.d))):=by
   rw[Om.GE e0];exact(Ex.refl _).new ha
  exact(e1.put2 (e:=plO c)).over (cQ ha nap)
 revert ex3;generalize (((Z.put a (.own ((v.map D.int).map AV.d))).put p (plO c))).put a (.frz es)=Z3;intro ex3;obtain⟨j1,j2⟩:=CB n (List.mem_range.mpr (by omega)) v hv
 refine⟨Nat.le_of_lt (aR (by omega)),?_⟩
 refine ji (rs:=(dgs v).map D.str) (by simp[dgs]) (Nat.le_of_lt (aR (by simp;omega))) (fun i x r h1 h2 Q q=>?_) (fun ρ=>⟨_,bK _,dgs v,rfl,j1,?_⟩)
 ·simp only[dgs,List.map_map,List.getElem?_map,Option.map_eq_some_iff] at h1 h2
  obtain⟨y,hy,rfl⟩:=h1;obtain⟨y',hy',rfl⟩:=h2;rw[hy] at hy';cases hy';simp only[Function.comp_apply] at q ⊢;walk_at "a1";exact⟨by rcases vb y (List.mem_of_getElem? hy) with rfl|rfl<;>decide,q⟩
 generalize (Str.ofString "").join (dgs v)=st at *;have hc:(bp v none (some (-1))).length<=5:=by have:=(dm v none (some (-1))).length_le;omega
 have bits:∀ {u:List Int},(∀x∈u,x=0\/x=1)->∀d∈u.map D.int,Sz 0 3 d:=fun h d hd=>by
  obtain⟨z,hz,rfl⟩:=List.mem_map.mp hd;exact oN (h z hz)
 have all:∀d∈[D.lst es,D.tup es,wdD (bp v none (some (-1))),wdD (v++[0]),D.str st,D.non,D.tup [wdD v],D.tup []],Sz 2 100 d:=by
  intro d hd;simp only[List.mem_cons,List.not_mem_nil,or_false] at hd;rcases hd with rfl|rfl|rfl|rfl|rfl|rfl|rfl|rfl
  ·exact(cJ (m:=0) (B:=5) (L:=5) rfl hel hes).up (by decide) (by decide)
  ·exact(cJ (m:=0) (B:=5) (L:=5) rfl hel hes).up (by decide) (by decide)
  ·exact(cJ (m:=0) (B:=3) (L:=5) (d:=wdD (bp v none (some (-1)))) rfl (by simp;omega) (bits fun z hz=>vb z ((dm v none (some (-1))).mem hz))).up (by decide) (by decide)
  ·refine(cJ (m:=0) (B:=3) (L:=6) (d:=wdD (v++[0])) rfl (by simp;omega) (bits fun z hz=>?_)).up (by decide) (by decide)
   rcases List.mem_append.mp hz with hz|hz
   ·exact vb z hz
   ·rw[List.mem_singleton.mp hz];exact .inl rfl
  ·exact⟨by simp[pyD,PyData.depth],rfl,j2⟩
  ·exact⟨by decide,by decide,by decide⟩
  ·refine(cJ (m:=1) (B:=28) (L:=1) rfl (by simp) fun d hd=>?_).up (by decide) (by decide)
   rw[List.mem_singleton.mp hd];exact rj hn hv
  ·exact⟨by decide,by decide,by decide⟩
 have alld:∀d∈[D.lst es,D.tup es,wdD (bp v none (some (-1))),wdD (v++[0]),D.str st,D.non,D.tup [wdD v],D.tup []],dep d<=10:=by
  intro d hd;have:=gf hed;simp only[List.mem_cons,List.not_mem_nil,or_false] at hd;rcases hd with rfl|rfl|rfl|rfl|rfl|rfl|rfl|rfl<;>simp only[dep,cx,gL]<;>omega
 refine⟨p,8,rfl,lm ⟨_,ex3⟩,by decide,by decide,fun r c r0 r1=>?_⟩
 obtain⟨d,hd,e⟩:=u8 (ds:=[D.lst es,D.tup es,wdD (bp v none (some (-1))),wdD (v++[0]),D.str st,D.non,D.tup [wdD v],D.tup []]) r0 r1;refine⟨r,rfl,_,e,d,rfl,?_⟩;have hps:(Z p).isSome=true:=by rw[e0];rfl
 rw[eP (ex3.put2 (e:=plO c)) hps];exact k d c (all d hd) (alld d hd)
theorem xp:∀n∈List.range 6,∀v∈wl n,(v.map fun x=>1-x)∈wl n:=by decide +kernel
noncomputable def Dh:ASp:=fun xs Z Q=>∃(p:Addr)(n:Nat) (us vs:List (List Int)),xs=[.r (.ref p),.d (.tup (us.map wdD)),.d (.tup (vs.map wdD))]/\i7 Z p/\1<=n/\n<=5/\us≠[]/\vs≠[]/\us.length<=32/\vs.length<=32/\(∀v∈us,v∈wl n)/\(∀v∈vs,v∈wl n)/\∀(d:D)(c:Pl),Sz 5 30000 d->(∀x ds,d=.tup (x::ds)->dep x<=40/\∀y∈ds,∀es,y=.tup es->dep y<=40/\es.length<=60)->Q (.d d) (Z.put p (plO c))
theorem Cv(T:Txt K mg t):a7 P w K mg base CX0 4 t.eO t.lK ["_law_pen_here","_law_yes","_law_no"] (cL Dh):=by
 have G_l_draw:a7 P w K mg base _ _ _ _ _ _:=gb T;have G_l_odd:a7 P w K mg base _ _ _ _ _ _:=A0 T
 refine T.xM.okD cc (fun xs Z Q h=>by obtain ⟨p,n,us,vs,rfl,_⟩:=h;rfl) (fun cdv A outer s H E hr=>⟨_,_,(aj (aE (i:=3) cc.nd rfl (Or.inl rfl) (aQ (az K rfl) (bE (ac (pv 1) (ac (pv 2) af))) (aA G_l_draw (hr.mono (by omega)) (by rfl) T.bc T.bd T.bg .nil aW (ac (pv 0) (aq ah af))) (fun _ _=>rfl)))
   (aj (aE (i:=4) cc.nd rfl (Or.inl rfl) (aA G_l_draw (hr.mono (by omega)) (by rfl) T.bc T.bd T.bg .nil aW (ac (pv 0) (ac (ax (aP K rfl) (by rfl) T.cg (by kernel_rfl) (ac (pv 3) af)) af))))
   (aj (aE (i:=5) cc.nd rfl (Or.inl rfl) (aA G_l_odd (hr.mono (by omega)) (by rfl) T.AB T.Bd T.A7 .nil aW (ac (pv 0) (ac (aQ (az K rfl) (pv 3) (pv 4) (fun _ _=>rfl)) af))))
   (aj (aE (i:=6) cc.nd rfl (Or.inl rfl) (bv (bA K rfl) (by rfl) T.cf (by kernel_rfl) (ac (ck (N:=(["_law_bit"] : List Str)) (src:=[none]) rfl (by show df _ (defScope iR) _ _ (["_law_pen_here","_law_yes","_law_no","_law_some_here","_law_at","_law_strange","_law_flipped","_law_others","_law_thing","_law_papers"] : List Str) = true;decide +kernel) (by intro g' h;cases h) (cw K rfl (aQ (az K rfl) (pv 3) (pv 4) (fun _ _=>rfl))) (fun _ _ _ _ _ _=>(aX (i:=0) (show (["_law_bit"] : List Str).Nodup by decide +kernel) rfl (Or.inl rfl))) (fun _ _ _ _ _ _=>fZ) (fun _ _ _ _ _ _=>(cq rfl rfl (aF gN ah (pv 0))))) af)))
   (aj (aE (i:=7) cc.nd rfl (Or.inl rfl) (bE (bj (a0 af) (ac (bv (dP K rfl) (by rfl) T.oZ (by kernel_rfl) (ac (pv 3) af)) (ac (zW K rfl (pv 3) (ug oB ah)) (ac (aF (am aY (am aM aZ)) (pv 3) (bL (dq K rfl) (pv 3) (cn (ug oB ah)) cj)) (ac (aF (am aY (am aM aZ)) (aF (am aY (am aM aZ)) (bL (dq K rfl) (pv 3) cj (cn (pv 4))) (a0 (ac (pv 5) af))) (bL (dq K rfl) (pv 3) (cn (aF (am aY (am aM aZ)) (pv 4) ah)) cj)) (aq f6 (ac (yh) (ac (aQ (az K rfl) (pv 3) (pv 4) (fun _ _=>rfl)) af))))))))))
   (aj (aE (i:=7) cc.nd rfl (Or.inl rfl) (aF (am aY (am aM aZ)) (pv 7) (bE (ac (aF (am aY (am aM aZ)) (aF (am aY (am aM aZ)) (bL (dq K rfl) (pv 3) cj (cn (pv 4))) (a0 (ac (pv 6) af))) (bL (dq K rfl) (pv 3) (cn (aF (am aY (am aM aZ)) (pv 4) ah)) cj)) (ac (aF (am aY (am aM aZ)) (bL (dq K rfl) (pv 3) cj (cn (pv 4))) (bL (dq K rfl) (pv 3) (cn (aF (am aY (am aM aZ)) (pv 4) ah)) cj)) af)))))
   (aj (og (pV PySem.F.plainAttrs_list PySem.F.slot_list_append PySem.F.type_list_append hU (pv 7) (ac (bv (bA K rfl) (by rfl) T.cf (by kernel_rfl) (ac (ax (oD K rfl hr.Go) (by rfl) T.l7 (by kernel_rfl) (ac (aF (am aY (am aM aZ)) (pv 3) (a0 (ac (pv 6) af))) af)) af)) af)))
   (aj (aE (i:=8) cc.nd rfl (Or.inl rfl) (aQ (az K rfl) (pv 7) (aA G_l_draw (hr.mono (by omega)) (by rfl) T.bc T.bd T.bg .nil aW (ac (pv 0) (ac (ax (aP K rfl) (by rfl) T.cg (by kernel_rfl) (ac (pv 7) af)) af))) (fun _ _=>rfl)))
   (aj (aE (i:=9) cc.nd rfl (Or.inl rfl) (bE (bj (a0 (aq bQ (ac (pv 8) (ac (pv 2) af)))) (bj (a0 (aq bQ (ac (pv 1) (ac (pv 8) af)))) (bj (a0 (aq bQ (ac (pv 2) (ac (pv 1) af)))) (bj (a0 (aq bQ (ac (pv 1) af))) (bj (a0 (aq bQ (ac (pv 1) (ac (pv 2) (aq ah af))))) af)))))))
   (aj (aE (i:=9) cc.nd rfl (Or.inl rfl) (aF (am aY (am aM aZ)) (pv 9) (bE (ly (bE (aq bQ (ac (pv 1) (ac (pv 2) af)))) (bj (a0 (aq bQ (ac (pv 1) (ac (pv 2) af)))) (bj (a0 (aq f6 (ac (pv 1) (ac (pv 2) af)))) (aq f6 (aq bQ (bj (a0 af) (bj (a0 (aq bQ (bj (a0 (ac (pv 1) (ac (pv 2) af))) af))) af))))))))))
   (av (aO (aQ (az K rfl) (pv 9) (aQ (az K rfl) (bE (aq ah (aq ah (aq ah (aq ah (ac (aF (am aY (am aM aZ)) ah (aA G_l_draw (hr.mono (by omega)) (by rfl) T.bc T.bd T.bg .nil aW (ac (pv 0) (aq ah af)))) af)))))) (aA G_l_draw (hr.mono (by omega)) (by rfl) T.bc T.bd T.bg .nil aW (ac (pv 0) (aq ah af))) (fun _ _=>rfl)) (fun _ _=>rfl)))))))))))))),(aB (aK (ao bw (di (aa ae (aa ae ag))) (aJ (aa ae (aa ak ag)))) ap)
   (aB (aK (aJ (aa ae (aa (a9 cr (aa ae ag)) ag))) ap)
   (aB (aK (aJ (aa ae (aa (ao bw ae ae) ag))) ap)
   (aB (aK (a9 eW (aa (dC (dW (ao bw ae ae)) ap rY (de (ao ka ak ae))) ag)) ap)
   (aB (aK (jL (aa (bx ag) (aa (a9 yz (aa ae ag)) (aa (C9 ae) (aa (ao bz ae (jG ae (da (Dl u_i ak)) c8)) (aa (ao bz (ao bz (jG ae c8 (da ae)) (bx (aa ae ag))) (jG ae (da (ao bz ae ak)) c8)) (aa iZ (aa Ez (aa (ao bw ae ae) ag))))))))) ap)
   (aB (aK (ao DJ ae (di (aa (ao bz (ao bz (jG ae c8 (da ae)) (bx (aa ae ag))) (jG ae (da (ao bz ae ak)) c8)) (aa (ao bz (jG ae c8 (da ae)) (jG ae (da (ao bz ae ak)) c8)) ag)))) ap)
   (aB (s9 (lx ae (aa (a9 eW (aa (a9 wW (aa (ao bz ae (bx (aa ae ag))) ag)) ag)) ag)))
   (aB (aK (ao bw ae (aJ (aa ae (aa (a9 cr (aa ae ag)) ag)))) ap)
   (aB (aK (di (aa (bx (aa cO (aa ae (aa ae ag)))) (aa (bx (aa cO (aa ae (aa ae ag)))) (aa (bx (aa cO (aa ae (aa ae ag)))) (aa (bx (aa cO (aa ae ag))) (aa (bx (aa cO (aa ae (aa ae (aa ak ag))))) ag)))))) ap)
   (aB (aK (ao bz ae (di (aa (di (aa cO (aa ae (aa ae ag)))) (aa (bx (aa cO (aa ae (aa ae ag)))) (aa (bx (aa iZ (aa ae (aa ae ag)))) (aa iZ (aa cO (aa (bx ag) (aa (bx (aa cO (aa (bx (aa ae (aa ae ag))) ag))) ag))))))))) ap)
   (a8 (ao bw ae (ao bw (di (aa ak (aa ak (aa ak (aa ak (aa (ao bz ak (aJ (aa ae (aa ak ag)))) ag)))))) (aJ (aa ae (aa ak ag)))))))))))))))),fun xs Z Q h=>?_⟩)
 obtain⟨p,n,us,vs,rfl,hp,hn1,hn,u0,v0,ul,vl,uw,vw,k⟩:=h;walk_at "s1";refine⟨p,2,rfl,hp,by decide,by decide,fun sd c s0 s1=>?_⟩
 obtain⟨gs,eg,g0,gl,gw⟩:∃gs:List (List Int),atI [AV.d (.tup (us.map wdD)),AV.d (.tup (vs.map wdD))] sd=some (.d (.tup (gs.map wdD)))/\gs≠[]/\gs.length<=32/\(∀v∈gs,v∈wl n):=by
  rcases(by omega:sd=0\/sd=1) with rfl|rfl
  ·exact⟨us,rfl,u0,ul,uw⟩
  ·exact⟨vs,rfl,v0,vl,vw⟩
 refine⟨sd,rfl,_,eg,?_⟩;have gpos:=List.length_pos_iff.mpr g0;walk_at "s1";refine⟨p,gs.length,rfl,bF,by omega,by omega,fun r c r0 r1=>?_⟩
 rw[Om.Gp];obtain⟨j,rfl⟩:=Int.eq_ofNat_of_zero_le r0;have hj:j<gs.length:=by omega
 have eat:atI ((gs.map wdD).map AV.d) (j:Int)=some (.d (wdD gs[j])):=fX j rfl (by simp[hj])
 have hgw:=gw gs[j] (List.getElem_mem hj);obtain⟨hgl,hgb⟩:=cy hgw;walk_at "s1";refine⟨_,eat,p,n,gs[j],rfl,bF,hn1,hn,hgw,fun odd c hodd dodd=>?_⟩;rw[Om.Gp];walk_at "s1";refine⟨_,eat,gs[j].map D.int,rfl,?_⟩;refine ji (rs:=(gs[j].map fun x=>1-x).map D.int) (by simp) (Nat.le_of_lt (aR (by simp;omega))) (fun i x r h1 h2 Q q=>?_) (fun ρ=>⟨_,bK _,?_⟩)
 ·simp only[List.map_map,List.getElem?_map,Option.map_eq_some_iff] at h1 h2
  obtain⟨y,hy,rfl⟩:=h1;obtain⟨y',hy',rfl⟩:=h2;rw[hy] at hy';cases hy';simp only[Function.comp_apply] at q ⊢;walk_at "a1";exact q
 have hfl:(gs[j].map fun x=>1-x)∈wl n:=by
  exact xp n (List.mem_range.mpr (by omega)) _ hgw
 generalize (gs[j].map fun x=>1-x)=fl at *;show z6 _ _ _ [_,_,_,_,_,_,some (.d (wdD fl)),_,_,_] _;walk_at "s1";have szn:∀ {m:Nat},m<=100->m<=sizeLine:=fun h=>Nat.le_of_lt (aR (by omega))
 have l1:(bp (gs.map wdD) (some (-1)) none).length<=1:=by
  unfold bp HT.sIx;simp;omega
 have l2:(bp (gs.map wdD) none (some (j:Int))).length<=j:=by
  rw[oR];simp;omega
 have l3:(bp (gs.map wdD) (some ((j:Int)+1)) none).length<=gs.length-(j+1):=by
  rw[show ((j:Int)+1)=((j+1:Nat):Int) from rfl,tV]
  simp
 have in1:∀d∈gs.map wdD,Sz 2 100 d:=fun d hd=>by
  obtain⟨v,hv,rfl⟩:=List.mem_map.mp hd;exact(rj hn (gw v hv)).up (by decide) (by decide)
 have i1:∀d∈bp (gs.map wdD) (some (-1)) none,Sz 2 100 d:=fun d hd=>in1 d ((dm _ _ _).mem hd);have i2:∀d∈bp (gs.map wdD) none (some (j:Int)),Sz 2 100 d:=fun d hd=>in1 d ((dm _ _ _).mem hd);have i3:∀d∈bp (gs.map wdD) (some ((j:Int)+1)) none,Sz 2 100 d:=fun d hd=>in1 d ((dm _ _ _).mem hd)
 have in2:∀d∈gs.map wdD,dep d<=10:=fun d hd=>by
  obtain⟨v,hv,rfl⟩:=List.mem_map.mp hd;rw[gL];decide
 have k1:∀d∈bp (gs.map wdD) (some (-1)) none,dep d<=10:=fun d hd=>in2 d ((dm _ _ _).mem hd);have k2:∀d∈bp (gs.map wdD) none (some (j:Int)),dep d<=10:=fun d hd=>in2 d ((dm _ _ _).mem hd);have k3:∀d∈bp (gs.map wdD) (some ((j:Int)+1)) none,dep d<=10:=fun d hd=>in2 d ((dm _ _ _).mem hd);rw[wM];generalize hc1:bp (gs.map wdD) (some (-1)) none=c1 at *;generalize hc2:bp (gs.map wdD) none (some (j:Int))=c2 at *
 generalize hc3:bp (gs.map wdD) (some ((j:Int)+1)) none=c3 at *;walk_at "a1";refine⟨szn (by omega),szn (by omega),szn (by omega),_,eat,fun a ha=>?_⟩
 obtain⟨nap,ha⟩:=cP ha;have ex0:Ex (Z.put p (plO c)) (Z.put p (plO c)):=Ex.refl _;walk_at "s1";simp only[hc2,hc3];refine⟨szn (by omega),szn (by omega),szn (by omega),fun b hb=>?_⟩
 obtain⟨nba,hb⟩:=cP hb;clear hc1 hc2 hc3;have hfne:fl≠[]:=fun z=>by subst z;have:=(cy hfl).1;simp at this;omega
 walk_at "s1";refine⟨szn (by omega),gs++[fl],by rw[List.map_append];rfl,fun y hy=>?_,by simp;omega,_,.inl rfl,_,Om.Gm,Nat.lt_of_le_of_lt (show _<=20 by simp) (aR (by decide)),?_⟩
 ·rcases List.mem_append.mp hy with h|h
  ·intro z
   have:=(cy (gw y h)).1;rw[z] at this;simp at this;omega
  ·rw[List.mem_singleton.mp h]
   exact hfne
 have srl:(eR (gs++[fl])).length<=33:=by
  rw[(eA _).length_eq];simp;omega
 have srw:∀v∈eR (gs++[fl]),v∈wl n:=fun v hv=>by
  rcases List.mem_append.mp ((eA _).mem_iff.mp hv) with h|h
  ·exact gw v h
  ·rw[List.mem_singleton.mp h]
   exact hfl
 generalize eR (gs++[fl])=sr at *;simp only[List.cons_append,List.nil_append];walk_at "s1";obtain⟨nbp,hb0⟩:=cP hb;have ex1:=(ex0.over (l:=a) (c:=.own [AV.d (D.tup []),AV.d (D.lst (gs.map wdD)),AV.d (D.tup (gs.map wdD).reverse),AV.d (D.tup (gs.map wdD++c1)),AV.d (D.tup (c2++[odd]++c3)),AV.d D.non,AV.d (D.dk []),AV.d (wdD gs[j])]) (cQ ha nap)).over (l:=b) (c:=.own [AV.d (D.tup []),AV.d (D.lst (gs.map wdD)),AV.d (D.tup (gs.map wdD).reverse),AV.d (D.tup (gs.map wdD++c1)),AV.d (D.tup (c2++[odd]++c3)),AV.d D.non,AV.d (D.dk []),AV.d (wdD gs[j]),AV.d (D.tup (c2++[wdD fl]++c3)),AV.d (D.tup (c2++c3)),AV.d (D.tup (sr.map wdD))]) (cQ hb0 nbp)
 have hps:=hp.some;refine⟨p,11,rfl,lm ⟨_,ex1⟩,by decide,by decide,fun r c r0 r1=>?_⟩
 obtain⟨th,hth,eth⟩:=u8 (ds:=[D.tup [],D.lst (gs.map wdD),D.tup (gs.map wdD).reverse,D.tup (gs.map wdD++c1),D.tup (c2++[odd]++c3),D.non,D.dk [],wdD gs[j],D.tup (c2++[wdD fl]++c3),D.tup (c2++c3),D.tup (sr.map wdD)]) r0 r1;refine⟨_,by rw[Om.Gn nbp,Om.Gm];rfl,r,rfl,_,eth,?_⟩
 have ex2:=ex1.put2 (e:=plO c)
 have seqT:∀ {ds:List D},(∀d∈ds,Sz 2 100 d/\dep d<=10)->ds.length<=70->Sz 3 7200 (.tup ds)/\dep (.tup ds)<=40:=fun h hl=>by
  refine⟨(cJ (m:=2) (B:=100) (L:=70) rfl hl fun d hd=>(h d hd).1).up (by decide) (by decide),?_⟩
  have:=gf fun d hd=>(h d hd).2;simp only[dep];omega
 have wsT:∀ {ws:List (List Int)},(∀v∈ws,v∈wl n)->∀d∈ws.map wdD,Sz 2 100 d/\dep d<=10:=fun h d hd=>by
  obtain⟨v,hv,rfl⟩:=List.mem_map.mp hd;exact⟨(rj hn (h v hv)).up (by decide) (by decide),by rw[gL];decide⟩
 have flT:Sz 2 100 (wdD fl)/\dep (wdD fl)<=10:=⟨(rj hn hfl).up (by decide) (by decide),by rw[gL];decide⟩
 have cut3:∀ {y:D},Sz 2 100 y/\dep y<=10->∀d∈c2++[y]++c3,Sz 2 100 d/\dep d<=10:=fun hy d hd=>by
  rcases List.mem_append.mp hd with hd|hd
  ·rcases List.mem_append.mp hd with hd|hd
   ·exact⟨i2 d hd,k2 d hd⟩
   ·rw[List.mem_singleton.mp hd];exact hy
  ·exact⟨i3 d hd,k3 d hd⟩
 have Th:Sz 3 7200 th/\∀es,th=.tup es->dep th<=40/\es.length<=60:=by
  have tup:∀ {ds:List D},(∀d∈ds,Sz 2 100 d/\dep d<=10)->ds.length<=60->th=.tup ds->Sz 3 7200 th/\∀es,th=.tup es->dep th<=40/\es.length<=60:=fun h hl e=>by
   subst e;obtain⟨q1,q2⟩:=seqT h (by omega)
   exact⟨q1,fun es e=>⟨q2,by cases e;exact hl⟩⟩
  clear eth;simp only[List.mem_cons,List.not_mem_nil,or_false] at hth;have gT:=wsT gw;rcases hth with e|e|e|e|e|e|e|e|e|e|e
  ·exact tup (ds:=[]) (fun d hd=>by cases hd) (by simp) e
  ·subst e
   exact⟨(cJ (m:=2) (B:=100) (L:=32) rfl (by simp;omega) fun d hd=>(gT d hd).1).up (by decide) (by decide),fun es e=>by cases e⟩
  ·exact tup (fun d hd=>gT d (List.mem_reverse.mp hd)) (by simp;omega) e
  ·refine tup (fun d hd=>?_) (by simp;omega) e
   rcases List.mem_append.mp hd with hd|hd
   ·exact gT d hd
   ·exact⟨i1 d hd,k1 d hd⟩
  ·exact tup (cut3 ⟨hodd,dodd⟩) (by simp;omega) e
  ·subst e
   exact⟨⟨by decide,by decide,by decide⟩,fun es e=>by cases e⟩
  ·subst e
   exact⟨⟨by decide,by decide,by decide⟩,fun es e=>by cases e⟩
  ·refine tup (ds:=gs[j].map D.int) (fun d hd=>?_) (by simp;omega) e
   obtain⟨x,hx,rfl⟩:=List.mem_map.mp hd;exact⟨(oN (hgb x hx)).up (by decide) (by decide),by simp[dep]⟩
  ·exact tup (cut3 flT) (by simp;omega) e
  ·refine tup (fun d hd=>?_) (by simp;omega) e
   rcases List.mem_append.mp hd with hd|hd
   ·exact⟨i2 d hd,k2 d hd⟩
   ·exact⟨i3 d hd,k3 d hd⟩
  ·exact tup (wsT srw) (by simp;omega) e
 clear ex1 eth;walk_at "s1";walk_at "s1";obtain⟨t1,t2⟩:=Th;have U:Sz 3 7200 (.tup (us.map wdD))/\dep (.tup (us.map wdD))<=40:=seqT (wsT uw) (by simp;omega)
 have V:Sz 3 7200 (.tup (vs.map wdD))/\dep (.tup (vs.map wdD))<=40:=seqT (wsT vw) (by simp;omega)
 refine⟨p,10,rfl,lm ⟨_,ex2⟩,by decide,by decide,fun q c q0 q1=>⟨q,rfl,?_⟩⟩
 have ex3:=ex2.put2 (e:=plO c);refine⟨p,5,rfl,lm ⟨_,ex3⟩,by decide,by decide,fun x5 c x0 x1=>?_⟩
 have ex4:=ex3.put2 (e:=plO c)
 obtain⟨i,ei,h0,h12⟩:∃i:Int,atI [AV.d (.int 0),AV.d (.int 1),AV.d (.int 0),AV.d (.int 1),AV.d (.int (2+q))] x5=some (.d (.int i))/\0<=i/\i<12:=by
  rcases(by omega:x5=0\/x5=1\/x5=2\/x5=3\/x5=4) with rfl|rfl|rfl|rfl|rfl
  ·exact⟨0,rfl,by decide,by decide⟩
  ·exact⟨1,rfl,by decide,by decide⟩
  ·exact⟨0,rfl,by decide,by decide⟩
  ·exact⟨1,rfl,by decide,by decide⟩
  ·exact⟨2+q,rfl,by omega,by omega⟩
 obtain⟨d,hd,ed⟩:=u8 (ds:=[D.tup [D.str (Str.ofString "edges"),th,D.tup (vs.map wdD)],D.tup [D.str (Str.ofString "edges"),D.tup (us.map wdD),th],D.tup [D.str (Str.ofString "edges"),D.tup (vs.map wdD),D.tup (us.map wdD)],D.tup [D.str (Str.ofString "edges"),D.tup (us.map wdD)],D.tup [D.str (Str.ofString "edges"),D.tup (us.map wdD),D.tup (vs.map wdD),D.int 1],D.lst [D.str (Str.ofString "edges"),D.tup (us.map wdD),D.tup (vs.map wdD)],D.tup [D.str (Str.ofString "edge"),D.tup (us.map wdD),D.tup (vs.map wdD)],D.tup [D.non,D.tup (us.map wdD),D.tup (vs.map wdD)],D.non,D.str (Str.ofString "edges"),D.tup [],D.tup [D.str (Str.ofString "edges"),D.tup [D.tup (us.map wdD),D.tup (vs.map wdD)]]]) h0 h12
 refine⟨x5,rfl,_,ei,i,rfl,_,ed,d,rfl,?_⟩;rw[eP ex4 hps];have E1:Sz 3 7200 (.str (Str.ofString "edges")):=⟨by simp[pyD,PyData.depth],rfl,by decide +kernel⟩
 have E2:Sz 3 7200 (.str (Str.ofString "edge")):=⟨by simp[pyD,PyData.depth],rfl,by decide +kernel⟩
 have N1:Sz 3 7200 .non:=⟨by decide,by decide,by decide⟩
 have I1:Sz 3 7200 (.int 1):=⟨by decide,by decide,by decide⟩
 have pap:∀ {o:D} {ds:List D},jC o=some ds->ds.length<=4->(∀d∈ds,Sz 3 7200 d)->Sz 5 30000 o:=fun e hl h=>(cJ (m:=3) (B:=7200) (L:=4) e hl h).up (by decide) (by decide)
 have W2:∀ {ws:List (List Int)},ws.length<=32->(Sz 3 7200 (.tup (ws.map wdD))/\dep (.tup (ws.map wdD))<=40)->∀es,D.tup (ws.map wdD)=.tup es->dep (.tup (ws.map wdD))<=40/\es.length<=60:=fun hl h es e=>⟨h.2,by cases e;simp;omega⟩
 have U2:=W2 ul U;have V2:=W2 vl V;simp only[List.mem_cons,List.not_mem_nil,or_false] at hd;refine k d c ?_ ?_
 ·clear k
  rcases hd with rfl|rfl|rfl|rfl|rfl|rfl|rfl|rfl|rfl|rfl|rfl|rfl
  ·exact pap rfl (by simp) (by simp only[List.mem_cons,List.not_mem_nil,or_false,forall_eq_or_imp,forall_eq];exact⟨E1,t1,V.1⟩)
  ·exact pap rfl (by simp) (by simp only[List.mem_cons,List.not_mem_nil,or_false,forall_eq_or_imp,forall_eq];exact⟨E1,U.1,t1⟩)
  ·exact pap rfl (by simp) (by simp only[List.mem_cons,List.not_mem_nil,or_false,forall_eq_or_imp,forall_eq];exact⟨E1,V.1,U.1⟩)
  ·exact pap rfl (by simp) (by simp only[List.mem_cons,List.not_mem_nil,or_false,forall_eq_or_imp,forall_eq];exact⟨E1,U.1⟩)
  ·exact pap rfl (by simp) (by simp only[List.mem_cons,List.not_mem_nil,or_false,forall_eq_or_imp,forall_eq];exact⟨E1,U.1,V.1,I1⟩)
  ·exact pap rfl (by simp) (by simp only[List.mem_cons,List.not_mem_nil,or_false,forall_eq_or_imp,forall_eq];exact⟨E1,U.1,V.1⟩)
  ·exact pap rfl (by simp) (by simp only[List.mem_cons,List.not_mem_nil,or_false,forall_eq_or_imp,forall_eq];exact⟨E2,U.1,V.1⟩)
  ·exact pap rfl (by simp) (by simp only[List.mem_cons,List.not_mem_nil,or_false,forall_eq_or_imp,forall_eq];exact⟨N1,U.1,V.1⟩)
  ·exact N1.up (by decide) (by decide)
  ·exact E1.up (by decide) (by decide)
  ·exact pap (ds:=[]) rfl (by simp) (fun d hd=>by cases hd)
  ·have P2:Sz 4 14407 (.tup [.tup (us.map wdD),.tup (vs.map wdD)]):=cJ (m:=3) (B:=7200) (L:=2) rfl (by simp) (by simp only[List.mem_cons,List.not_mem_nil,or_false,forall_eq_or_imp,forall_eq];exact⟨U.1,V.1⟩)
   exact(cJ (m:=4) (B:=14407) (L:=2) rfl (by simp) (by simp only[List.mem_cons,List.not_mem_nil,or_false,forall_eq_or_imp,forall_eq];exact⟨E1.up (by decide) (by decide),P2⟩)).up (by decide) (by decide)
 ·clear k
  rcases hd with rfl|rfl|rfl|rfl|rfl|rfl|rfl|rfl|rfl|rfl|rfl|rfl
  all_goals (intro x ds e;cases e)
  all_goals refine⟨by simp[dep],?_⟩
  all_goals simp only[List.mem_cons,List.not_mem_nil,or_false,forall_eq_or_imp,forall_eq]
  ·exact⟨t2,V2⟩
  ·exact⟨U2,t2⟩
  ·exact⟨V2,U2⟩
  ·exact U2
  ·exact⟨U2,V2,fun es e=>by cases e⟩
  ·exact⟨U2,V2⟩
  ·exact⟨U2,V2⟩
  ·intro es e
   cases e;have a1:=bZ us;have a2:=bZ vs;refine⟨?_,by simp⟩
   simp only[dep,cx];omega
theorem FL{n:Nat}(h:n<=20000000):n.log2<=25:=by
 by_cases h0:n=0
 ·subst h0;decide
 ·exact Nat.le_of_lt_succ ((Nat.log2_lt h0).mpr (Nat.lt_of_le_of_lt h (by decide)))
theorem DX{n:Nat}(h:n<=20000000):hgt n<=26:=by
 unfold hgt;split
 ·omega
 ·have:=FL (n:=n-1) (by omega)
  omega
theorem zI{n:Nat}(h:n<=20000000):Sz 0 28 (.int n):=by
 have:=FL h;refine⟨Nat.le_refl _,?_,?_⟩
 ·simp only[fit,Int.natAbs_natCast,decide_eq_true_eq];omega
 ·simp only[wt,Int.natAbs_natCast];omega
noncomputable def Pap(d:D):Prop:=Sz 5 30000 d/\∀x ds,d=.tup (x::ds)->dep x<=40/\∀y∈ds,∀es,y=.tup es->dep y<=40/\es.length<=60
theorem ua{n:Nat}{us:List (List Int)}(hn:n<=5)(hl:us.length<=32)(uw:∀v∈us,v∈wl n):Sz 2 963 (.tup (us.map wdD)):=
 cJ (m:=1) (B:=28) (L:=32) rfl (by simpa using hl) fun d hd=>by
  obtain⟨v,hv,rfl⟩:=List.mem_map.mp hd;exact rj hn (uw v hv)
theorem rJ{n:Nat}{us vs:List (List Int)}(hn:n<=5)(hu:us.length<=32)(hv:vs.length<=32)(uw:∀v∈us,v∈wl n)(vw:∀v∈vs,v∈wl n):Pap (.tup [.str (Str.ofString "edges"),.tup (us.map wdD),.tup (vs.map wdD)]):=by
 have E1:Sz 2 963 (.str (Str.ofString "edges")):=⟨by simp[pyD,PyData.depth],rfl,by decide +kernel⟩
 have dT:∀ {ws:List (List Int)},dep (.tup (ws.map wdD))<=40:=by
  intro ws;have:=bZ ws;simp only[dep];omega
 refine⟨(cJ (m:=2) (B:=963) (L:=3) rfl (by simp) (by simp only[List.mem_cons,List.not_mem_nil,or_false,forall_eq_or_imp,forall_eq];exact⟨E1,ua hn hu uw,ua hn hv vw⟩)).up (by decide) (by decide),?_⟩
 intro x ds e;cases e;refine⟨by simp[dep],?_⟩
 simp only[List.mem_cons,List.not_mem_nil,or_false,forall_eq_or_imp,forall_eq];exact⟨fun es e=>⟨dT,by cases e;simp;omega⟩,fun es e=>⟨dT,by cases e;simp;omega⟩⟩
theorem D2{b:Bool}{n:Nat}{ys zs:List (List Int)}{d:D}(hd:Pap d):wf (shE b n ys zs d)=true/\Sz 2 100 (shE b n ys zs d):=by
 unfold shE;split
 ·rename_i x p q
  split
  ·rename_i h
   obtain⟨_,h1,h2⟩:=h;obtain⟨e1,p0,_⟩:=jO h1;obtain⟨e2,q0,_⟩:=jO h2;obtain⟨_,hd2⟩:=hd.2 x [p,q] rfl;have p60:(f7 p).length<=60:=by have:=(hd2 p (List.mem_cons_self ..) _ e1).2;simpa using this
   have q60:(f7 q).length<=60:=by have:=(hd2 q (List.mem_cons_of_mem _ (List.mem_cons_self ..)) _ e2).2;simpa using this
   clear e1 e2 hd2 h1 h2 hd;generalize f7 p=us at *;generalize f7 q=vs at *;have hle:=kK b us vs;have hmul:us.length*vs.length<=60*60:=Nat.mul_le_mul p60 q60;have hE:cC b us vs<=3600:=by omega
   have hEE:cC b us vs*cC b us vs<=3600*3600:=Nat.mul_le_mul hE hE;have hF:(cC b us vs*cC b us vs+us.length*vs.length-1) / (us.length*vs.length)<=20000000:=Nat.le_trans (Nat.div_le_self _ _) (by omega)
   unfold Dm;generalize (cC b us vs*cC b us vs+us.length*vs.length-1) / (us.length*vs.length)=G at *;refine⟨rfl,(cJ (m:=0) (B:=28) (L:=2) rfl (by simp) (by simp only[List.mem_cons,List.not_mem_nil,or_false,forall_eq_or_imp,forall_eq];exact⟨zI hF,zI (Nat.le_trans (DX hF) (by decide))⟩)).up (by decide) (by decide)⟩
  ·exact⟨rfl,by decide,by decide,by decide⟩
 ·exact⟨rfl,by decide,by decide,by decide⟩
theorem DE(T:Txt K mg t):a7 P w K mg base CX0 40 t.i4 t.tM ["_law_script"] (rD K):=by
 have G_l_pen:a7 P w K mg base _ _ _ _ _ _:=DB T;have G_l_draw:a7 P w K mg base _ _ _ _ _ _:=gb T;have G_l_box:a7 P w K mg base _ _ _ _ _ _:=Ds T;have G_l_some:a7 P w K mg base _ _ _ _ _ _:=Dj T;have G_l_bent:a7 P w K mg base _ _ _ _ _ _:=Cv T;have G_shown_by_edges:a7 P w K mg base _ _ _ _ _ _:=Da T;have G_l_due:a7 P w K mg base _ _ _ _ _ _:=CV T
 refine T.Ek.okA d5 (fun xs Z Q h=>by obtain ⟨a,ns,rfl,_⟩:=h;rfl) (fun cdv A outer s H E hr=>⟨_,_,(aj (aE (i:=1) d5.nd rfl (Or.inr rfl) (aA G_l_pen (hr.mono (by omega)) (by rfl) T.A6 T.Bb T.Ah .nil aW (ac (pv 0) af)))
   (aj (gn PassesOwn.never rfl (d9 rfl T.gY (aq ah af)) (aX (i:=2) d5.nd rfl (Or.inl rfl)) (aj (aE (i:=3) d5.nd rfl (Or.inl rfl) (aA G_l_box (hr.mono (by omega)) (by rfl) T.Ae T.A1 T.Am .nil aW (ac (pv 1) (ac (aF (am aY (am aM aZ)) ah (aA G_l_draw (hr.mono (by omega)) (by rfl) T.bc T.bd T.bg .nil aW (ac (pv 1) (aq ah af)))) af))))
   (av (gn PassesOwn.never rfl (cw K rfl (bE (aq bQ (aq bQ af)))) (aX (i:=4) d5.nd rfl (Or.inl rfl)) (aj (aE (i:=5) d5.nd rfl (Or.inr rfl) (aA G_l_some (hr.mono (by omega)) (by rfl) T.pe T.qB T.pR .nil aW (ac (pv 1) (ac (aQ (az K rfl) (pv 3) ah (fun _ _=>rfl)) af))))
   (aj (aE (i:=6) d5.nd rfl (Or.inr rfl) (aA G_l_some (hr.mono (by omega)) (by rfl) T.pe T.qB T.pR .nil aW (ac (pv 1) (ac (aQ (az K rfl) (pv 3) ah (fun _ _=>rfl)) af))))
   (aj (aE (i:=7) d5.nd rfl (Or.inl rfl) (bE (bj (a0 (aq bQ (ac (aQ (az K rfl) (pv 3) ah (fun _ _=>rfl)) (ac (aQ (az K rfl) (pv 3) ah (fun _ _=>rfl)) af)))) (bj (a0 (aq bQ (ac (pv 5) (ac (pv 6) af)))) (bj (a0 (aq bQ (ac (pv 5) (ac (aQ (az K rfl) (pv 3) ah (fun _ _=>rfl)) af)))) af)))))
   (aj (aE (i:=7) d5.nd rfl (Or.inl rfl) (aF (am aY (am aM aZ)) (pv 7) (ck (N:=(["_law_k","_law_pen_here","_law_yes","_law_no"] : List Str)) (src:=[none,some 1,some 5,some 6]) rfl (by show df _ (defScope mf) _ _ (["_law_script","_law_pen_here","_law_turn","_law_box_here","_law_rule","_law_yes","_law_no","_law_papers","_law_paper","_law_kept","_law_found"] : List Str) = true;decide +kernel) (by intro g' h;cases h) (d9 rfl T.gY (aq ah af)) (fun _ _ _ _ _ _=>(aX (i:=0) (show (["_law_k","_law_pen_here","_law_yes","_law_no"] : List Str).Nodup by decide +kernel) rfl (Or.inl rfl))) (fun _ _ _ _ _ _=>fZ) (fun _ _ _ _ _ _=>(cq rfl rfl (aA G_l_bent (hr.mono (by omega)) (by rfl) T.xy T.zb T.yc .nil aW (ac (pv 1) (ac (pv 2) (ac (pv 3) af)))))))))
   (av (gn PassesOwn.never rfl (cw K rfl (pv 7)) (aX (i:=8) d5.nd rfl (Or.inl rfl)) (aj (aE (i:=9) d5.nd rfl (Or.inl rfl) (ax (fR hr.gd hr.Go T.sm) (by rfl) T.o9 (by kernel_rfl) (bj (a0 (ac (pv 3) (ac (pv 8) af))) af)))
   (aj (aE (i:=10) d5.nd rfl (Or.inl rfl) (aA G_shown_by_edges (hr.mono (by omega)) (by rfl) T.jB T.jF T.jU .nil aW (ac (pv 4) (ac (pv 3) (ac (pv 8) af)))))
   (av (cZ (PW.pt (eU (aV (fm hr.Go) (ax (fR hr.gd hr.Go T.sm) (by rfl) T.o9 (by kernel_rfl) (ac (pv 10) af)) (ax (fR hr.gd hr.Go T.sm) (by rfl) T.o9 (by kernel_rfl) (ac (aA G_l_due (hr.mono (by omega)) (by rfl) T.A8 T.AW T.AD .nil aW (ac (pv 4) (ac (pv 3) (ac (pv 8) af)))) af)) (aT _)) (eJ (aV (fm hr.Go) (ax (fR hr.gd hr.Go T.sm) (by rfl) T.o9 (by kernel_rfl) (bj (a0 (ac (pv 3) (ac (pv 8) af))) af)) (pv 9) (aT _))))) (av (aO iQ)) bC))))))))))))))
   (av (aO iQ)))),(aB (aK (aJ (aa ae ag)) ap)
   (aB (i0 (jQ (aa ak ag)) ap (aB (aK (aJ (aa ae (aa (ao bz ak (aJ (aa ae (aa ak ag)))) ag))) ap)
   (i0 (dW (di (aa cO (aa cO ag)))) ap (aB (aK (aJ (aa ae (aa (ao bw ae ak) ag))) ap)
   (aB (aK (aJ (aa ae (aa (ao bw ae ak) ag))) ap)
   (aB (aK (di (aa (bx (aa cO (aa (ao bw ae ak) (aa (ao bw ae ak) ag)))) (aa (bx (aa cO (aa ae (aa ae ag)))) (aa (bx (aa cO (aa ae (aa (ao bw ae ak) ag)))) ag)))) ap)
   (aB (aK (ao bz ae (dC (jQ (aa ak ag)) ap rY (de (aJ (aa ae (aa ae (aa ae ag))))))) ap)
   (i0 (dW ae) ap (aB (aK (a9 kE (aa (bx (aa ae (aa ae ag))) ag)) ap)
   (aB (aK (aJ (aa ae (aa ae (aa ae ag)))) ap)
   (fC (i5 (ba (ao bS (a9 kE (aa ae ag)) (a9 kE (aa (aJ (aa ae (aa ae (aa ae ag)))) ag)))) (ba (ao bS (a9 kE (aa (bx (aa ae (aa ae ag))) ag)) ae))) (a8 on) bU)))))))))))
   (a8 on))),fun xs Z Q h=>?_⟩)
 obtain⟨a,ns,rfl,hl,rfl,k⟩:=h;walk_at "s1";refine⟨a,ns,rfl,hl,fun p c hp0=>?_⟩;walk_at "s1";refine⟨by decide,by decide,kJ (fun i ρ Z'=>i7 Z' p/\∃v2 v3 v4 v5 v6 v7 v8 v9 v10,ρ=[some (scr K a ns),some (.r (.ref p)),v2,v3,v4,v5,v6,v7,v8,v9,v10]) ⟨bF,_,_,_,_,_,_,_,_,_,rfl⟩ ?_ ?_⟩
 ·rintro i ρ Z N hi ⟨hp,v2,v3,v4,v5,v6,v7,v8,v9,v10,rfl⟩ kN
  walk_at "s1";refine⟨p,5,rfl,hp,by decide,by decide,fun r c r0 r1=>⟨r,rfl,?_⟩⟩
  obtain⟨n,hn⟩:∃n:Nat,1+r=(n:Int):=⟨(1+r).toNat,by omega⟩
  have hn1:1<=n:=by omega
  have hn5:n<=5:=by omega
  rw[hn];clear hn r0 r1;refine⟨p,n,rfl,bF,hn1,hn5,fun ys zs c sy sz y0 z0=>?_⟩;rw[Om.Gp];have y32:ys.length<=32:=Nat.le_trans sy.length_le (mT hn5);have z32:zs.length<=32:=Nat.le_trans sz.length_le (mT hn5);have yw:∀v∈ys,v∈wl n:=fun v hv=>sy.mem hv;have zw:∀v∈zs,v∈wl n:=fun v hv=>sz.mem hv
  have ne:∀ {ws:List (List Int)},(∀v∈ws,v∈wl n)->∀v∈ws,v≠[]:=fun h v hv z=>by
   have:=(cy (h v hv)).1;rw[z] at this;simp at this;omega
  show gr _ _ _ _ _ _;refine tE (fun i' ρ Z'=>i7 Z' p/\∃v4 v5 v6 v7 v8 v9 v10,ρ=[some (scr K a ns),some (.r (.ref p)),some (.d (.int (0+(i:Nat)))),some (.d (.tup [.tup (ys.map wdD),.tup (zs.map wdD)])),v4,v5,v6,v7,v8,v9,v10]) ⟨bF,_,_,_,_,_,_,_,rfl⟩ ?_ ?_
  ·rintro j x ρ Z1 M hj ⟨hp,v4,v5,v6,v7,v8,v9,v10,rfl⟩ kM
   obtain⟨b,rfl⟩:∃b,x=.d (.str (rl b)):=by
    match j,hj with
    |0,hj=>cases hj;exact⟨false,rfl⟩
    |1,hj=>cases hj;exact⟨true,rfl⟩
    |j+2,hj=>cases hj
   clear hj;have hps:=hp.some;walk_at "s1";refine⟨p,ys,rfl,hp,y0,y32,ne yw,fun us c u0 u32 uin=>?_⟩;have uw:∀v∈us,v∈wl n:=fun v hv=>yw v (uin v hv);walk_at "s1";refine⟨p,zs,rfl,bF,z0,z32,ne zw,fun vs c v0 v32 vin=>?_⟩;rw[Om.Gp];have vw:∀v∈vs,v∈wl n:=fun v hv=>zw v (vin v hv);walk_at "s1";walk_at "s1";refine⟨by decide,by decide,?_⟩
   refine AJ (fun Z'=>i7 Z' p) (fun d:D=>d) (fun _ d=>Pap d) bF (Nat.le_of_lt (aR (by simp[jS]))) (fun i a ha Z' hp Q q=>?_) (fun ds ρ Z' hdl hR hp=>?_)
   ·walk_at "a1"
    exact⟨p,n,us,vs,rfl,hp,hn1,hn5,u0,v0,u32,v32,uw,vw,fun d c h1 h2=>q d _ ⟨h1,h2⟩ bF⟩
   have hds:∀d∈ds,Pap d:=fun d hd=>by
    obtain⟨i,hi,rfl⟩:=List.mem_iff_getElem.mp hd;exact hR i _ (List.getElem?_eq_getElem hi)
   have hl6:ds.length=6:=by rw[hdl];simp[jS]
   refine⟨ds,by rw[List.map_id'];exact bK _,Nat.le_of_lt (aR (by omega)),?_⟩
   have all:∀d∈D.tup [D.str (Str.ofString "edges"),D.tup (ys.map wdD),D.tup (zs.map wdD)]::D.tup [D.str (Str.ofString "edges"),D.tup (us.map wdD),D.tup (vs.map wdD)]::D.tup [D.str (Str.ofString "edges"),D.tup (us.map wdD),D.tup (zs.map wdD)]::ds,Pap d:=by
    simp only[List.mem_cons,forall_eq_or_imp];exact⟨rJ hn5 y32 z32 yw zw,rJ hn5 u32 v32 uw vw,rJ hn5 u32 z32 uw zw,hds⟩
   change gr _ _ _ ((D.tup [D.str (Str.ofString "edges"),D.tup (ys.map wdD),D.tup (zs.map wdD)]::D.tup [D.str (Str.ofString "edges"),D.tup (us.map wdD),D.tup (vs.map wdD)]::D.tup [D.str (Str.ofString "edges"),D.tup (us.map wdD),D.tup (zs.map wdD)]::ds).map AV.d) _ _;generalize D.tup [D.str (Str.ofString "edges"),D.tup (ys.map wdD),D.tup (zs.map wdD)]::D.tup [D.str (Str.ofString "edges"),D.tup (us.map wdD),D.tup (vs.map wdD)]::D.tup [D.str (Str.ofString "edges"),D.tup (us.map wdD),D.tup (zs.map wdD)]::ds=ps at *
   clear hds hl6 hdl hR;refine uP (fun _ ρ Z''=>Z''=Z'/\∃v8 v9 v10,ρ=[some (scr K a ns),some (.r (.ref p)),some (.d (.int (0+(i:Nat)))),some (.d (.tup [.tup (ys.map wdD),.tup (zs.map wdD)])),some (.d (.str (rl b))),some (.d (.tup (us.map wdD))),some (.d (.tup (vs.map wdD))),some (.d (.lst ps)),v8,v9,v10]) ⟨rfl,_,_,_,rfl⟩ ?_ ?_
   ·rintro k d ρ Z'' N2 hd ⟨rfl,v8,v9,v10,rfl⟩ kN2
    have hP:=all d (List.mem_of_getElem? hd);have hbx:Sz 3 1933 (.tup [.tup (ys.map wdD),.tup (zs.map wdD)]):=cJ (m:=2) (B:=963) (L:=2) rfl (by simp) (by simp only[List.mem_cons,List.not_mem_nil,or_false,forall_eq_or_imp,forall_eq];exact⟨ua hn5 y32 yw,ua hn5 z32 zw⟩)
    obtain⟨z1,z2,z3⟩:Sz 6 60007 (.tup [.tup [.tup (ys.map wdD),.tup (zs.map wdD)],d]):=cJ (m:=5) (B:=30000) (L:=2) rfl (by simp) (by simp only[List.mem_cons,List.not_mem_nil,or_false,forall_eq_or_imp,forall_eq];exact⟨hbx.up (by decide) (by decide),hP.1⟩)
    walk_at "s1";refine⟨rfl,by omega,z2,by omega,?_⟩
    walk_at "s1";refine⟨b,n,ys,zs,d,rfl,hn1,hn5,y0,z0,fun v hv=>(cy (yw v hv)).1,fun v hv=>(cy (zw v hv)).1,y32,z32,fun x ds e=>⟨Nat.le_trans (hP.2 x ds e).1 (by decide),fun y hy es e2=>((hP.2 x ds e).2 y hy es e2).2⟩,?_⟩
    obtain⟨q1,q2,q3,q4⟩:=D2 (b:=b) (n:=n) (ys:=ys) (zs:=zs) hP;refine⟨_,rfl,q1,by omega,q3,by omega,b,n,ys,zs,d,rfl,hn1,hn5,y0,z0,yw,zw,y32,z32,hP.2,_,rfl,q1,by omega,q3,by omega,?_⟩
    rw[if_neg (by simp)]
    refine⟨rfl,by omega,z2,by omega,?_⟩
    rw[if_neg (by simp)]
    exact kN2 _ _ ⟨rfl,_,_,_,rfl⟩
   ·rintro ρ Z'' ⟨rfl,v8,v9,v10,rfl⟩
    exact kM _ _ ⟨hp,_,_,_,_,_,_,_,rfl⟩
  ·rintro ρ Z1 ⟨hp,v4,v5,v6,v7,v8,v9,v10,rfl⟩
   exact kN _ _ ⟨hp,_,_,_,_,_,_,_,_,_,rfl⟩
 ·rintro ρ Z' ⟨hp,v2,v3,v4,v5,v6,v7,v8,v9,v10,rfl⟩
  walk_at "a1";exact k _
end
theorem Dk{K:W.Frag}{h:Heap}{mg:Str->Option Value}(X:K.In h)(G:h.Ns mainGlobals mg){cY:Addr}{fd_is_whole:FuncData}{eQ:Addr}{fd_is_bit:FuncData}{bY:Addr}{fd_are_places:FuncData}{dA:Addr}{fd_is_word:FuncData}{cu:Addr}{fd_is_one_of:FuncData}{cB:Addr}{fd_is_rising:FuncData}{eN:Addr}{fd_height:FuncData}{bR:Addr}{fd_least_times:FuncData}{bW:Addr}{fd_parts_pair:FuncData}{bJ:Addr}{fd_squares_with:FuncData}{cT:Addr}{fd_is_paper:FuncData}{bN:Addr}{fd_are_some_of:FuncData}{dL:Addr}{fd_is_edge:FuncData}{bu:Addr}{fd_shown_by_edges:FuncData}{fW:Addr}{fd_l_pen:FuncData}{eF:Addr}{fd_l_draw:FuncData}{fQ:Addr}{fd_l_all:FuncData}{dI:Addr}{fd_l_sorts:FuncData}{fU:Addr}{fd_l_box:FuncData}{cW:Addr}{fd_l_turned:FuncData}{cX:Addr}{fd_l_height:FuncData}{ga:Addr}{fd_l_odd:FuncData}{cD:Addr}{fd_l_is_word:FuncData}{bO:Addr}{fd_l_are_words:FuncData}{dJ:Addr}{fd_l_edges:FuncData}{fV:Addr}{fd_l_due:FuncData}{eL:Addr}{fd_l_some:FuncData}{eO:Addr}{fd_l_bent:FuncData}{i4:Addr}{od_law an_law:Option Addr}{sl_law:Array (Option Value)}{oc_law kV_law dc_law pm_law cd_law ct_law:Value}{dR:Tok}(dM:db K "is_whole" ix cY fd_is_whole)(fF:db K "is_bit" lh eQ fd_is_bit)(cG:db K "are_places" gk bY fd_are_places)(ev:db K "is_word" g6 dA fd_is_word)(c7:db K "is_one_of" gW cu fd_is_one_of)(c4:db K "is_rising" eT cB fd_is_rising)(fu:db K "height" k8 eN fd_height)(ca:db K "least_times" fb bR fd_least_times)(cF:db K "parts_pair" f9 bW fd_parts_pair)(bT:db K "squares_with" dn bJ fd_squares_with)(dE:db K "is_paper" iy cT fd_is_paper)(b9:db K "are_some_of" dU bN fd_are_some_of)(eC:db K "is_edge" jT dL fd_is_edge)(bI:db K "shown_by_edges" cE bu fd_shown_by_edges)(hG:db K "_law_pen" oG fW fd_l_pen)(fz:db K "_law_draw" lQ eF fd_l_draw)(hV:db K "_law_all" ou fQ fd_l_all)(eh:db K "_law_sorts" fL dI fd_l_sorts)(gX:db K "_law_box" jc fU fd_l_box)(dN:db K "_law_turned" iE cW fd_l_turned)(dD:db K "_law_height" iN cX fd_l_height)(hX:db K "_law_odd" kL ga fd_l_odd)(c5:db K "_law_is_word" eY cD fd_l_is_word)(cb:db K "_law_are_words" dQ bO fd_l_are_words)(d8:db K "_law_edges" jw dJ fd_l_edges)(g8:db K "_law_due" oV fV fd_l_due)(fO:db K "_law_some" me eL fd_l_some)(fA:db K "_law_bent" iR eO fd_l_bent)(w6:W.nsIn K mainGlobals "law"=some (some (.ref i4)))(zk:K.lookup i4=some ⟨oc_law,od_law,.func (W.fnOf "law" "law" (defArgs mf) (defBody mf) (defScope mf) .none kV_law dc_law pm_law an_law cd_law ct_law),sl_law⟩)(xO:W.codeIn K cd_law "law"=true)(uy:W.keepIn K (.ref i4)=true)(fg:W.nsIn K mainGlobals "MOST_PLACES"=some (some (.int 5 dR)))(sm:(K.lookup sysModules).isSome=true)(xN:W.nsIn K mainGlobals "abs"=some none)(zd:W.nsIn K mainGlobals "all"=some none)(rE:W.nsIn K mainGlobals "bool"=some none)(gG:W.nsIn K mainGlobals "enumerate"=some none)(yf:W.nsIn K mainGlobals "int"=some none)(gh:W.nsIn K mainGlobals "isinstance"=some none)(yt:W.nsIn K mainGlobals "len"=some none)(tH:W.nsIn K mainGlobals "list"=some none)(oK:W.nsIn K mainGlobals "range"=some none)(rO:W.nsIn K mainGlobals "repr"=some none)(zE:W.nsIn K mainGlobals "set"=some none)(lB:W.nsIn K mainGlobals "sorted"=some none)(ym:W.nsIn K mainGlobals "str"=some none)(yo:W.nsIn K mainGlobals "sum"=some none)(oO:W.nsIn K mainGlobals "tuple"=some none):∃t,Txt K mg t:=by
 have F_law:=yD (st:=mf) zk xO uy
 exact⟨⟨cY,_,eQ,_,bY,_,dA,_,cu,_,cB,_,eN,_,bR,_,bW,_,bJ,_,cT,_,bN,_,dL,_,bu,_,fW,_,eF,_,fQ,_,dI,_,fU,_,cW,_,cX,_,ga,_,cD,_,bO,_,dJ,_,fV,_,eL,_,eO,_,i4,_,dR⟩,⟨W.mg_of X G dM.g,dM.f,dM.e,dM.f.Gs fun _ _ _ _ _ _ _=>rfl,
  W.mg_of X G fF.g,fF.f,fF.e,fF.f.Gs fun _ _ _ _ _ _ _=>rfl,
  W.mg_of X G cG.g,cG.f,cG.e,cG.f.Gs fun _ _ _ _ _ _ _=>rfl,
  W.mg_of X G ev.g,ev.f,ev.e,ev.f.Gq fun _ _ _ _ _ _ _ _=>rfl,
  W.mg_of X G c7.g,c7.f,c7.e,c7.f.Gq fun _ _ _ _ _ _ _ _=>rfl,
  W.mg_of X G c4.g,c4.f,c4.e,c4.f.Gs fun _ _ _ _ _ _ _=>rfl,
  W.mg_of X G fu.g,fu.f,fu.e,fu.f.Gs fun _ _ _ _ _ _ _=>rfl,
  W.mg_of X G ca.g,ca.f,ca.e,ca.f.Gq fun _ _ _ _ _ _ _ _=>rfl,
  W.mg_of X G cF.g,cF.f,cF.e,cF.f.GK fun _ _ _ _ _ _ _ _ _ _=>rfl,
  W.mg_of X G bT.g,bT.f,bT.e,bT.f.Gu fun _ _ _ _ _ _ _ _ _=>rfl,
  W.mg_of X G dE.g,dE.f,dE.e,dE.f.Gu fun _ _ _ _ _ _ _ _ _=>rfl,
  W.mg_of X G b9.g,b9.f,b9.e,b9.f.Gq fun _ _ _ _ _ _ _ _=>rfl,
  W.mg_of X G eC.g,eC.f,eC.e,eC.f.Gu fun _ _ _ _ _ _ _ _ _=>rfl,
  W.mg_of X G bI.g,bI.f,bI.e,bI.f.Gu fun _ _ _ _ _ _ _ _ _=>rfl,
  W.mg_of X G hG.g,hG.f,hG.e,hG.f.Gs fun _ _ _ _ _ _ _=>rfl,
  W.mg_of X G fz.g,fz.f,fz.e,fz.f.Gq fun _ _ _ _ _ _ _ _=>rfl,
  W.mg_of X G hV.g,hV.f,hV.e,hV.f.Gs fun _ _ _ _ _ _ _=>rfl,
  W.mg_of X G eh.g,eh.f,eh.e,eh.f.Gq fun _ _ _ _ _ _ _ _=>rfl,
  W.mg_of X G gX.g,gX.f,gX.e,gX.f.Gq fun _ _ _ _ _ _ _ _=>rfl,
  W.mg_of X G dN.g,dN.f,dN.e,dN.f.Gq fun _ _ _ _ _ _ _ _=>rfl,
  W.mg_of X G dD.g,dD.f,dD.e,dD.f.Gs fun _ _ _ _ _ _ _=>rfl,
  W.mg_of X G hX.g,hX.f,hX.e,hX.f.Gq fun _ _ _ _ _ _ _ _=>rfl,
  W.mg_of X G c5.g,c5.f,c5.e,c5.f.Gq fun _ _ _ _ _ _ _ _=>rfl,
  W.mg_of X G cb.g,cb.f,cb.e,cb.f.Gq fun _ _ _ _ _ _ _ _=>rfl,
  W.mg_of X G d8.g,d8.f,d8.e,d8.f.Gu fun _ _ _ _ _ _ _ _ _=>rfl,
  W.mg_of X G g8.g,g8.f,g8.e,g8.f.Gu fun _ _ _ _ _ _ _ _ _=>rfl,
  W.mg_of X G fO.g,fO.f,fO.e,fO.f.Gq fun _ _ _ _ _ _ _ _=>rfl,
  W.mg_of X G fA.g,fA.f,fA.e,fA.f.Gu fun _ _ _ _ _ _ _ _ _=>rfl,
  W.mg_of X G w6,F_law,uy,F_law.Gs (p0:="_law_script") fun _ _ _ _ _ _ _=>rfl,
  fun s v=>.of_eq rfl,
  W.mg_none_of X G xN,
  W.mg_none_of X G zd,
  W.mg_none_of X G rE,
  W.mg_none_of X G gG,
  W.mg_none_of X G yf,
  W.mg_none_of X G gh,
  W.mg_none_of X G yt,
  W.mg_none_of X G tH,
  W.mg_none_of X G oK,
  W.mg_none_of X G rO,
  W.mg_none_of X G zE,
  W.mg_none_of X G lB,
  W.mg_none_of X G ym,
  W.mg_none_of X G yo,
  W.mg_none_of X G oO,
  W.mg_of X G fg,
  sm⟩⟩
noncomputable def inCls(s:PySem.Stmt)(j:Nat):PySem.Stmt:=match s with
 |.ClassDef _ _ _ b _ _ _ _ _ _ _=>b.getD j (.Pass ⟨0,0,0,0⟩)
 |_=>s
noncomputable abbrev oT(x:Array Value):Obj:=⟨.type "tuple",.none,.seq x 0,#[]⟩
noncomputable abbrev oF(n:Str)(i:Nat)(s:Str)(k:Tok)(c:Addr):Obj:=⟨.type "function",.none,.func (W.fnOf n n (defArgs (top i)) (defBody (top i)) (defScope (top i)) .none .none .none (.str s k) .none (.ref c) .none),#[]⟩
noncomputable abbrev oC(n:Str)(a b c:Tok)(l k:Int)(r:Addr)(e:Int)(u:Addr)(v w:Value)(x:Addr)(y:Int)(d:Tok):Obj:=⟨.type "code",.none,.fields #[.str n a,.str n b,.str "/claim/cut.py" c,.int l 0,.int k 0,.int 0 0,.int 0 0,.int 3 0,.ref r,.bool true,.int e 0,.ref u,.none,v,w,.ref x,.int y 0,.int l 0,.str "/claim/cut.py" d],#[]⟩
noncomputable def KK:PySem.Params->PySem.W.Frag:=fun P=>
 (nat_lit 1,⟨.type "dict",.none,.dict #[⟨PyData.keyHash P "builtins",.str "builtins" 162,.ref 4⟩,⟨PyData.keyHash P "__main__",.str "__main__" 163,.ref 5⟩] 2,#[]⟩)::
 (nat_lit 2,⟨.none,.none,.dict #[] 0,#[]⟩)::
 (nat_lit 3,⟨.type "dict",.none,.dict #[⟨PyData.keyHash P "__name__",.str "__name__" 165,.str "law_unlikeplace_k30_papers_of_edges" 301⟩,⟨PyData.keyHash P "__doc__",.str "__doc__" 166,.none⟩,⟨PyData.keyHash P "__package__",.str "__package__" 167,.none⟩,⟨PyData.keyHash P "__loader__",.str "__loader__" 168,.builtin "__main__.__loader__#opaque"⟩,⟨PyData.keyHash P "__spec__",.str "__spec__" 169,.none⟩,⟨PyData.keyHash P "__annotations__",.str "__annotations__" 170,.ref 6⟩,⟨PyData.keyHash P "__builtins__",.str "__builtins__" 171,.ref 4⟩,⟨PyData.keyHash P "__file__",.str "__file__" 173,.str "/claim/cut.py" 172⟩,⟨PyData.keyHash P "__cached__",.str "__cached__" 174,.none⟩,⟨PyData.keyHash P "MOST_PLACES",.str "MOST_PLACES" 190,.int 5 189⟩,⟨PyData.keyHash P "is_whole",.str "is_whole" 197,.ref 21⟩,⟨PyData.keyHash P "is_bit",.str "is_bit" 204,.ref 28⟩,⟨PyData.keyHash P "are_places",.str "are_places" 211,.ref 35⟩,⟨PyData.keyHash P "is_word",.str "is_word" 217,.ref 40⟩,⟨PyData.keyHash P "is_one_of",.str "is_one_of" 225,.ref 47⟩,⟨PyData.keyHash P "is_rising",.str "is_rising" 231,.ref 52⟩,⟨PyData.keyHash P "height",.str "height" 238,.ref 59⟩,⟨PyData.keyHash P "least_times",.str "least_times" 246,.ref 66⟩,⟨PyData.keyHash P "parts_pair",.str "parts_pair" 258,.ref 73⟩,⟨PyData.keyHash P "squares_with",.str "squares_with" 266,.ref 78⟩,⟨PyData.keyHash P "is_paper",.str "is_paper" 277,.ref 85⟩,⟨PyData.keyHash P "are_some_of",.str "are_some_of" 285,.ref 90⟩,⟨PyData.keyHash P "is_edge",.str "is_edge" 294,.ref 97⟩,⟨PyData.keyHash P "shown_by_edges",.str "shown_by_edges" 300,.ref 102⟩,⟨PyData.keyHash P "_law_pen",.str "_law_pen" 309,.ref 109⟩,⟨PyData.keyHash P "_law_draw",.str "_law_draw" 322,.ref 116⟩,⟨PyData.keyHash P "_law_all",.str "_law_all" 333,.ref 123⟩,⟨PyData.keyHash P "_law_sorts",.str "_law_sorts" 339,.ref 128⟩,⟨PyData.keyHash P "_law_box",.str "_law_box" 345,.ref 133⟩,⟨PyData.keyHash P "_law_turned",.str "_law_turned" 355,.ref 140⟩,⟨PyData.keyHash P "_law_height",.str "_law_height" 364,.ref 147⟩,⟨PyData.keyHash P "_law_odd",.str "_law_odd" 370,.ref 152⟩,⟨PyData.keyHash P "_law_is_word",.str "_law_is_word" 376,.ref 157⟩,⟨PyData.keyHash P "_law_are_words",.str "_law_are_words" 382,.ref 162⟩,⟨PyData.keyHash P "_law_edges",.str "_law_edges" 395,.ref 169⟩,⟨PyData.keyHash P "_law_due",.str "_law_due" 406,.ref 176⟩,⟨PyData.keyHash P "_law_some",.str "_law_some" 414,.ref 183⟩,⟨PyData.keyHash P "_law_bent",.str "_law_bent" 420,.ref 188⟩,⟨PyData.keyHash P "law",.str "law" 426,.ref 193⟩] 39,#[]⟩)::
 (nat_lit 15,oT #[])::
 (nat_lit 17,oT #[.str "thing" 194])::
 (nat_lit 18,oT #[])::
 (nat_lit 20,oC "is_whole" 191 192 193 3 1 15 181 16 (.ref 17) (.ref 18) 19 195 196)::
 (nat_lit 21,oF "is_whole" 2 "unlikeplace.words" 187 20)::
 (nat_lit 22,oT #[])::
 (nat_lit 24,oT #[.str "thing" 201])::
 (nat_lit 25,oT #[])::
 (nat_lit 27,oC "is_bit" 198 199 200 5 1 22 181 23 (.ref 24) (.ref 25) 26 202 203)::
 (nat_lit 28,oF "is_bit" 3 "unlikeplace.words" 187 27)::
 (nat_lit 29,oT #[])::
 (nat_lit 31,oT #[.str "thing" 208])::
 (nat_lit 32,oT #[])::
 (nat_lit 34,oC "are_places" 205 206 207 7 1 29 181 30 (.ref 31) (.ref 32) 33 209 210)::
 (nat_lit 35,oF "are_places" 4 "unlikeplace.words" 187 34)::
 (nat_lit 36,oT #[])::
 (nat_lit 39,oC "is_word" 212 213 214 9 2 36 181 37 .none .none 38 215 216)::
 (nat_lit 40,oF "is_word" 5 "unlikeplace.words" 187 39)::
 (nat_lit 41,oT #[])::
 (nat_lit 43,oT #[.str "some" 221,.str "thing" 222])::
 (nat_lit 44,oT #[])::
 (nat_lit 46,oC "is_one_of" 218 219 220 13 2 41 181 42 (.ref 43) (.ref 44) 45 223 224)::
 (nat_lit 47,oF "is_one_of" 6 "unlikeplace.words" 187 46)::
 (nat_lit 48,oT #[])::
 (nat_lit 51,oC "is_rising" 226 227 228 15 1 48 181 49 .none .none 50 229 230)::
 (nat_lit 52,oF "is_rising" 7 "unlikeplace.words" 187 51)::
 (nat_lit 53,oT #[])::
 (nat_lit 55,oT #[.str "number" 235])::
 (nat_lit 56,oT #[])::
 (nat_lit 58,oC "height" 232 233 234 17 1 53 181 54 (.ref 55) (.ref 56) 57 236 237)::
 (nat_lit 59,oF "height" 8 "unlikeplace.words" 187 58)::
 (nat_lit 60,oT #[])::
 (nat_lit 62,oT #[.str "number" 242,.str "goal" 243])::
 (nat_lit 63,oT #[])::
 (nat_lit 65,oC "least_times" 239 240 241 21 2 60 181 61 (.ref 62) (.ref 63) 64 244 245)::
 (nat_lit 66,oF "least_times" 9 "unlikeplace.words" 187 65)::
 (nat_lit 67,oT #[])::
 (nat_lit 69,oT #[.str "rule" 252,.str "place" 253,.str "yes" 254,.str "no" 255])::
 (nat_lit 70,oT #[])::
 (nat_lit 72,oC "parts_pair" 249 250 251 24 4 67 181 68 (.ref 69) (.ref 70) 71 256 257)::
 (nat_lit 73,oF "parts_pair" 11 "unlikeplace.talks" 247 72)::
 (nat_lit 74,oT #[])::
 (nat_lit 77,oC "squares_with" 261 262 263 29 3 74 181 75 .none .none 76 264 265)::
 (nat_lit 78,oF "squares_with" 13 "unlikeplace.squares" 259 77)::
 (nat_lit 79,oT #[])::
 (nat_lit 81,oT #[.str "thing" 272,.str "kind" 273,.str "size" 274])::
 (nat_lit 82,oT #[])::
 (nat_lit 84,oC "is_paper" 269 270 271 32 3 79 181 80 (.ref 81) (.ref 82) 83 275 276)::
 (nat_lit 85,oF "is_paper" 15 "unlikeplace.pairs" 267 84)::
 (nat_lit 86,oT #[])::
 (nat_lit 89,oC "are_some_of" 280 281 282 35 2 86 181 87 .none .none 88 283 284)::
 (nat_lit 90,oF "are_some_of" 17 "unlikeplace.edges" 278 89)::
 (nat_lit 91,oT #[])::
 (nat_lit 93,oT #[.str "rule" 289,.str "yes" 290,.str "no" 291])::
 (nat_lit 94,oT #[])::
 (nat_lit 96,oC "is_edge" 286 287 288 39 3 91 181 92 (.ref 93) (.ref 94) 95 292 293)::
 (nat_lit 97,oF "is_edge" 18 "unlikeplace.edges" 278 96)::
 (nat_lit 98,oT #[])::
 (nat_lit 101,oC "shown_by_edges" 295 296 297 41 3 98 181 99 .none .none 100 298 299)::
 (nat_lit 102,oF "shown_by_edges" 19 "unlikeplace.edges" 278 101)::
 (nat_lit 103,oT #[])::
 (nat_lit 105,oT #[.str "_law_script" 306])::
 (nat_lit 106,oT #[])::
 (nat_lit 108,oC "_law_pen" 303 304 305 50 1 103 181 104 (.ref 105) (.ref 106) 107 307 308)::
 (nat_lit 109,oF "_law_pen" 21 "law_unlikeplace_k30_papers_of_edges" 301 108)::
 (nat_lit 110,oT #[])::
 (nat_lit 112,oT #[.str "_law_pen_here" 313,.str "_law_many" 314,.str "_law_cells" 315,.str "_law_place" 316,.str "_law_left" 317,.str "_law_cell" 318,.str "_law_number" 319])::
 (nat_lit 113,oT #[])::
 (nat_lit 115,oC "_law_draw" 310 311 312 52 2 110 181 111 (.ref 112) (.ref 113) 114 320 321)::
 (nat_lit 116,oF "_law_draw" 22 "law_unlikeplace_k30_papers_of_edges" 301 115)::
 (nat_lit 117,oT #[])::
 (nat_lit 119,oT #[.str "_law_places" 326,.str "_law_found" 327,.str "_law_k" 328,.str "_law_longer" 329,.str "_law_word" 330])::
 (nat_lit 120,oT #[])::
 (nat_lit 122,oC "_law_all" 323 324 325 68 1 117 181 118 (.ref 119) (.ref 120) 121 331 332)::
 (nat_lit 123,oF "_law_all" 23 "law_unlikeplace_k30_papers_of_edges" 301 122)::
 (nat_lit 124,oT #[])::
 (nat_lit 127,oC "_law_sorts" 334 335 336 76 2 124 181 125 .none .none 126 337 338)::
 (nat_lit 128,oF "_law_sorts" 24 "law_unlikeplace_k30_papers_of_edges" 301 127)::
 (nat_lit 129,oT #[])::
 (nat_lit 132,oC "_law_box" 340 341 342 94 2 129 181 130 .none .none 131 343 344)::
 (nat_lit 133,oF "_law_box" 25 "law_unlikeplace_k30_papers_of_edges" 301 132)::
 (nat_lit 134,oT #[])::
 (nat_lit 136,oT #[.str "_law_pen_here" 349,.str "_law_things" 350,.str "_law_left" 351,.str "_law_found" 352])::
 (nat_lit 137,oT #[])::
 (nat_lit 139,oC "_law_turned" 346 347 348 104 2 134 181 135 (.ref 136) (.ref 137) 138 353 354)::
 (nat_lit 140,oF "_law_turned" 26 "law_unlikeplace_k30_papers_of_edges" 301 139)::
 (nat_lit 141,oT #[])::
 (nat_lit 143,oT #[.str "_law_number" 359,.str "_law_found" 360,.str "_law_size" 361])::
 (nat_lit 144,oT #[])::
 (nat_lit 146,oC "_law_height" 356 357 358 110 1 141 181 142 (.ref 143) (.ref 144) 145 362 363)::
 (nat_lit 147,oF "_law_height" 27 "law_unlikeplace_k30_papers_of_edges" 301 146)::
 (nat_lit 148,oT #[])::
 (nat_lit 151,oC "_law_odd" 365 366 367 117 2 148 181 149 .none .none 150 368 369)::
 (nat_lit 152,oF "_law_odd" 28 "law_unlikeplace_k30_papers_of_edges" 301 151)::
 (nat_lit 153,oT #[])::
 (nat_lit 156,oC "_law_is_word" 371 372 373 122 2 153 181 154 .none .none 155 374 375)::
 (nat_lit 157,oF "_law_is_word" 29 "law_unlikeplace_k30_papers_of_edges" 301 156)::
 (nat_lit 158,oT #[])::
 (nat_lit 161,oC "_law_are_words" 377 378 379 126 2 158 181 159 .none .none 160 380 381)::
 (nat_lit 162,oF "_law_are_words" 30 "law_unlikeplace_k30_papers_of_edges" 301 161)::
 (nat_lit 163,oT #[])::
 (nat_lit 165,oT #[.str "_law_rule" 386,.str "_law_yes" 387,.str "_law_no" 388,.str "_law_many" 389,.str "_law_one" 390,.str "_law_place" 391,.str "_law_other" 392])::
 (nat_lit 166,oT #[])::
 (nat_lit 168,oC "_law_edges" 383 384 385 132 3 163 181 164 (.ref 165) (.ref 166) 167 393 394)::
 (nat_lit 169,oF "_law_edges" 31 "law_unlikeplace_k30_papers_of_edges" 301 168)::
 (nat_lit 170,oT #[])::
 (nat_lit 172,oT #[.str "_law_rule" 399,.str "_law_box_here" 400,.str "_law_thing" 401,.str "_law_many" 402,.str "_law_fewest" 403])::
 (nat_lit 173,oT #[])::
 (nat_lit 175,oC "_law_due" 396 397 398 140 3 170 181 171 (.ref 172) (.ref 173) 174 404 405)::
 (nat_lit 176,oF "_law_due" 32 "law_unlikeplace_k30_papers_of_edges" 301 175)::
 (nat_lit 177,oT #[])::
 (nat_lit 179,oT #[.str "_law_pen_here" 410,.str "_law_words" 411])::
 (nat_lit 180,oT #[])::
 (nat_lit 182,oC "_law_some" 407 408 409 150 2 177 181 178 (.ref 179) (.ref 180) 181 412 413)::
 (nat_lit 183,oF "_law_some" 33 "law_unlikeplace_k30_papers_of_edges" 301 182)::
 (nat_lit 184,oT #[])::
 (nat_lit 187,oC "_law_bent" 415 416 417 152 3 184 181 185 .none .none 186 418 419)::
 (nat_lit 188,oF "_law_bent" 34 "law_unlikeplace_k30_papers_of_edges" 301 187)::
 (nat_lit 189,oT #[])::
 (nat_lit 192,oC "law" 421 422 423 164 1 189 181 190 .none .none 191 424 425)::
 (nat_lit 193,oF "law" 35 "law_unlikeplace_k30_papers_of_edges" 301 192)::[]
end My
noncomputable def PySem.W.Fast.tw6894247980046229166:PySem.Params->PySem.W.Frag:=My.KK
theorem PySem.W.Fast.te6894247980046229166:My.KK=PySem.W.Fast.tw6894247980046229166:=rfl
noncomputable def PySem.W.Fast.tw8294203438915336084:PySem.Program:=PySem.Challenge.pw_unlikeplace_k30_papers_of_edges
theorem PySem.W.Fast.te8294203438915336084:PySem.Challenge.pw_unlikeplace_k30_papers_of_edges=PySem.W.Fast.tw8294203438915336084:=rfl
namespace PySem.W.Fast
theorem te12873305568273391616:True:=⟨⟩
noncomputable def My.view_39:PySem.Program:={ PySem.Challenge.pw_unlikeplace_k30_papers_of_edges with main:={ PySem.Challenge.pw_unlikeplace_k30_papers_of_edges.main with body:=[My.top 1,My.top 2,My.top 3,My.top 4,My.top 5,My.top 6,My.top 7,My.top 8,My.top 9,My.top 11,My.top 13,My.top 15,My.top 17,My.top 18,My.top 19,My.top 21,My.top 22,My.top 23,My.top 24,My.top 25,My.top 26,My.top 27,My.top 28,My.top 29,My.top 30,My.top 31,My.top 32,My.top 33,My.top 34,My.top 35] } }
noncomputable def tw7819956271170999712:PySem.Program:=My.view_39
theorem te7819956271170999712:My.view_39=tw7819956271170999712:=rfl
theorem te4335806714347827616:True:=⟨⟩
theorem te9055961550694861408:True:=⟨⟩
theorem te14744160813642685056:True:=⟨⟩
theorem te10459881631982236512:True:=⟨⟩
theorem te12943567389058651297:True:=⟨⟩
theorem te4322055056068315553:True:=⟨⟩
theorem te1842352798946971233:True:=⟨⟩
theorem te1504919976791875201:True:=⟨⟩
theorem te6310424367279441569:True:=⟨⟩
theorem te14368709257183847169:True:=⟨⟩
theorem te13889623039072675745:True:=⟨⟩
theorem te9037447031182073825:True:=⟨⟩
theorem te16262819970303260674:True:=⟨⟩
theorem te6591321042336964898:True:=⟨⟩
theorem te15783420956723534210:True:=⟨⟩
theorem te16380710867841877698:True:=⟨⟩
theorem te14249319778443555875:True:=⟨⟩
theorem te1120316006698891587:True:=⟨⟩
theorem te3922895235053641123:True:=⟨⟩
theorem te6439796802640506307:True:=⟨⟩
theorem te5714998039148851747:True:=⟨⟩
theorem te12061369425501879939:True:=⟨⟩
theorem te4993650871846662819:True:=⟨⟩
theorem te13999650022611511107:True:=⟨⟩
theorem te5456392953056201603:True:=⟨⟩
theorem te4421150154244637667:True:=⟨⟩
theorem te6110748334028775428:True:=⟨⟩
theorem te12015854146765650980:True:=⟨⟩
noncomputable def My.sts_49:List PySem.Stmt:=[My.top 0,My.top 1,My.top 2,My.top 3,My.top 4,My.top 5,My.top 6,My.top 7,My.top 8,My.top 9,My.top 10,My.top 11,My.top 12,My.top 13,My.top 14,My.top 15,My.top 16,My.top 17]
noncomputable def tw2500820599014015140:List PySem.Stmt:=My.sts_49
theorem te2500820599014015140:My.sts_49=tw2500820599014015140:=rfl
theorem te14934220146624124164:True:=⟨⟩
theorem te17795766709568478980:True:=⟨⟩
theorem te11942055274572940100:True:=⟨⟩
theorem te12321877154147105764:True:=⟨⟩
theorem te1316091117640675300:True:=⟨⟩
theorem te10701196791735962757:True:=⟨⟩
theorem te13613766080836384997:True:=⟨⟩
theorem te8382481592546273669:True:=⟨⟩
theorem te4520878566382483045:True:=⟨⟩
theorem te8993847698351019877:True:=⟨⟩
theorem te2779596832946633637:True:=⟨⟩
theorem te2542557193760182310:True:=⟨⟩
theorem te2872454853607209286:True:=⟨⟩
theorem te16648796253514874310:True:=⟨⟩
theorem te5386281344014676518:True:=⟨⟩
theorem te16007108880674751014:True:=⟨⟩
theorem te4127860641019944103:True:=⟨⟩
theorem te8911444632568933767:True:=⟨⟩
theorem te7878515970581344711:True:=⟨⟩
theorem te9842053488033559047:True:=⟨⟩
theorem te2590834275239832295:True:=⟨⟩
theorem te10713249447382433543:True:=⟨⟩
theorem te13267749430906126344:True:=⟨⟩
theorem te13877193195998134280:True:=⟨⟩
theorem te880997161021031528:True:=⟨⟩
theorem te1780908430139566248:True:=⟨⟩
theorem te9207779298997207240:True:=⟨⟩
theorem te7758959014191116680:True:=⟨⟩
theorem te2623322736776345416:True:=⟨⟩
theorem te15266800632054278056:True:=⟨⟩
theorem te13738505119657286632:True:=⟨⟩
theorem te11009824976757154921:True:=⟨⟩
theorem te18037552037378099337:True:=⟨⟩
theorem te15854381273714512233:True:=⟨⟩
theorem te15302935428311966569:True:=⟨⟩
theorem te4808903325196416330:True:=⟨⟩
theorem te2255182409473453450:True:=⟨⟩
theorem te17540805278807484906:True:=⟨⟩
theorem te13564144889821529642:True:=⟨⟩
noncomputable def My.sts_127:List PySem.Stmt:=[My.top 18,My.top 19,My.top 20,My.top 21,My.top 22,My.top 23,My.top 24,My.top 25,My.top 26,My.top 27,My.top 28,My.top 29,My.top 30,My.top 31]
noncomputable def tw15619779296548308618:List PySem.Stmt:=My.sts_127
theorem te15619779296548308618:My.sts_127=tw15619779296548308618:=rfl
theorem te8902493385059943402:True:=⟨⟩
theorem te13699364468586820586:True:=⟨⟩
theorem te939884362649936907:True:=⟨⟩
theorem te16293482953229793355:True:=⟨⟩
theorem te6228826786689767531:True:=⟨⟩
theorem te10344429382759787019:True:=⟨⟩
theorem te4704903308713413451:True:=⟨⟩
theorem te16478041231094312843:True:=⟨⟩
theorem te7394799960972991435:True:=⟨⟩
theorem te5859135431347202380:True:=⟨⟩
theorem te17943705371741614604:True:=⟨⟩
theorem te14173453309816840908:True:=⟨⟩
theorem te1469463661645597741:True:=⟨⟩
theorem te3499270429392374861:True:=⟨⟩
theorem te13520444638094557645:True:=⟨⟩
theorem te10611180048072019501:True:=⟨⟩
theorem te13597403818802803309:True:=⟨⟩
theorem te1458478317400931981:True:=⟨⟩
theorem te14233539361764698797:True:=⟨⟩
theorem te16558423750204011469:True:=⟨⟩
theorem te3246708071463359566:True:=⟨⟩
theorem te10313604943506386030:True:=⟨⟩
theorem te8913345265629900910:True:=⟨⟩
theorem te3770899691800266926:True:=⟨⟩
theorem te2814935106218281294:True:=⟨⟩
theorem te666005637335893422:True:=⟨⟩
theorem te16781496995428383502:True:=⟨⟩
theorem te13648506487589006190:True:=⟨⟩
theorem te9926531577937431534:True:=⟨⟩
theorem te14242830740387441359:True:=⟨⟩
theorem te8758246169161858863:True:=⟨⟩
theorem te8512496802968673231:True:=⟨⟩
theorem te8955973897991059504:True:=⟨⟩
theorem te4185266349093982320:True:=⟨⟩
theorem te11548451344589151632:True:=⟨⟩
theorem te9301477702350431728:True:=⟨⟩
theorem te10317842059128500816:True:=⟨⟩
theorem te900534185454595888:True:=⟨⟩
theorem te10696121838710671280:True:=⟨⟩
theorem te90672333684902929:True:=⟨⟩
theorem te7039192878833554641:True:=⟨⟩
theorem te156935401041867057:True:=⟨⟩
theorem te3119603992101115537:True:=⟨⟩
theorem te4998149186868552625:True:=⟨⟩
theorem te186462462880725074:True:=⟨⟩
theorem te11410303016500758770:True:=⟨⟩
theorem te735499630592724210:True:=⟨⟩
theorem te1405520995355282738:True:=⟨⟩
theorem te2893635109299317170:True:=⟨⟩
theorem te10012417918939307538:True:=⟨⟩
theorem te15670877815406112274:True:=⟨⟩
theorem te9096406364824994514:True:=⟨⟩
theorem te14321954245876950131:True:=⟨⟩
theorem te18321441830287957139:True:=⟨⟩
theorem te9356339422599936211:True:=⟨⟩
theorem te17741818315173898707:True:=⟨⟩
theorem te6703261856791318387:True:=⟨⟩
theorem te16003935839541853268:True:=⟨⟩
theorem te3461801401320110420:True:=⟨⟩
theorem te2177448222953456276:True:=⟨⟩
theorem te3183242560400477940:True:=⟨⟩
theorem te8805706697797808277:True:=⟨⟩
theorem te15768552658769569973:True:=⟨⟩
theorem te8833208125496509653:True:=⟨⟩
theorem te13512156163067456789:True:=⟨⟩
theorem te11085178322931806517:True:=⟨⟩
theorem te16960836263718194805:True:=⟨⟩
theorem te17282694318098352821:True:=⟨⟩
theorem te18179888294766939829:True:=⟨⟩
theorem te14340876313967835829:True:=⟨⟩
theorem te12850695229156716758:True:=⟨⟩
theorem te16497023405796684150:True:=⟨⟩
theorem te1428561143366878774:True:=⟨⟩
theorem te5806823534401049270:True:=⟨⟩
theorem te13155950528597652406:True:=⟨⟩
theorem te16331574003710792951:True:=⟨⟩
theorem te11533253811596602007:True:=⟨⟩
theorem te5735694870616173207:True:=⟨⟩
theorem te7772410288704625399:True:=⟨⟩
theorem te6983883795557053335:True:=⟨⟩
theorem te7585579226534747192:True:=⟨⟩
theorem te10976422869035606200:True:=⟨⟩
theorem te6090661048298729656:True:=⟨⟩
theorem te8505854734150234488:True:=⟨⟩
theorem te6624813206343935352:True:=⟨⟩
theorem te13141204368383687064:True:=⟨⟩
theorem te13149802343214991832:True:=⟨⟩
theorem te3906143086719355480:True:=⟨⟩
theorem te16398167174415365976:True:=⟨⟩
theorem te4396274418598671385:True:=⟨⟩
theorem te17213059822005067929:True:=⟨⟩
theorem te8039157060438130073:True:=⟨⟩
theorem te264199329650650809:True:=⟨⟩
theorem te15776950126055583481:True:=⟨⟩
theorem te14581686163089392409:True:=⟨⟩
theorem te18029812084915928889:True:=⟨⟩
theorem te2068274857477330042:True:=⟨⟩
theorem te643026622190564698:True:=⟨⟩
theorem te15935533347162242555:True:=⟨⟩
noncomputable def My.sts_208:List PySem.Stmt:=[My.top 32,My.top 33,My.top 34,My.top 35]
noncomputable def tw238686186996554267:List PySem.Stmt:=My.sts_208
theorem te238686186996554267:My.sts_208=tw238686186996554267:=rfl
theorem te5607939831137200508:True:=⟨⟩
theorem te14857531488736411324:True:=⟨⟩
theorem te15713871411462303484:True:=⟨⟩
theorem te15093612810887989052:True:=⟨⟩
theorem te9891678101617014877:True:=⟨⟩
theorem te5865306495177877757:True:=⟨⟩
theorem te17901773531396726109:True:=⟨⟩
theorem te1725718812480755133:True:=⟨⟩
theorem te5262285616265435901:True:=⟨⟩
theorem te18421588946741193790:True:=⟨⟩
theorem te2209832353132716222:True:=⟨⟩
theorem te6718592872231803262:True:=⟨⟩
theorem te17872939648547718718:True:=⟨⟩
theorem te113133837374388926:True:=⟨⟩
theorem te12518402242243039966:True:=⟨⟩
theorem te14286179548115115774:True:=⟨⟩
theorem te5598780674307172286:True:=⟨⟩
theorem te7494246022737360894:True:=⟨⟩
theorem te9388983988385545439:True:=⟨⟩
theorem te8159381993152689503:True:=⟨⟩
theorem te12501432782679935615:True:=⟨⟩
theorem te16297563997970021055:True:=⟨⟩
end PySem.W.Fast
open PySem PySem.W PyProof.Rows
local macro_rules | `(tactic| walk_at "q")=>`(tactic| (refine' L2.FE ?d1 ?d2 ?d3 ?d4;(case d1=>k_is);(case d2=>k_is);(case d3=>k_is);(case d4=>k_is)))
set_option maxRecDepth 100000 in
set_option maxHeartbeats 0 in
theorem PySem.Challenge.cw_unlikeplace_k30_papers_of_edges_holds : PySem.Challenge.rw_unlikeplace_k30_papers_of_edges.Holds := by
 w_on;o_law
 o_head (PySem.W.kHook My.KK [nat_lit 1,nat_lit 2,nat_lit 3,nat_lit 15,nat_lit 17,nat_lit 18,nat_lit 20,nat_lit 21,nat_lit 22,nat_lit 24,nat_lit 25,nat_lit 27,nat_lit 28,nat_lit 29,nat_lit 31,nat_lit 32,nat_lit 34,nat_lit 35,nat_lit 36,nat_lit 39,nat_lit 40,nat_lit 41,nat_lit 43,nat_lit 44,nat_lit 46,nat_lit 47,nat_lit 48,nat_lit 51,nat_lit 52,nat_lit 53,nat_lit 55,nat_lit 56,nat_lit 58,nat_lit 59,nat_lit 60,nat_lit 62,nat_lit 63,nat_lit 65,nat_lit 66,nat_lit 67,nat_lit 69,nat_lit 70,nat_lit 72,nat_lit 73,nat_lit 74,nat_lit 77,nat_lit 78,nat_lit 79,nat_lit 81,nat_lit 82,nat_lit 84,nat_lit 85,nat_lit 86,nat_lit 89,nat_lit 90,nat_lit 91,nat_lit 93,nat_lit 94,nat_lit 96,nat_lit 97,nat_lit 98,nat_lit 101,nat_lit 102,nat_lit 103,nat_lit 105,nat_lit 106,nat_lit 108,nat_lit 109,nat_lit 110,nat_lit 112,nat_lit 113,nat_lit 115,nat_lit 116,nat_lit 117,nat_lit 119,nat_lit 120,nat_lit 122,nat_lit 123,nat_lit 124,nat_lit 127,nat_lit 128,nat_lit 129,nat_lit 132,nat_lit 133,nat_lit 134,nat_lit 136,nat_lit 137,nat_lit 139,nat_lit 140,nat_lit 141,nat_lit 143,nat_lit 144,nat_lit 146,nat_lit 147,nat_lit 148,nat_lit 151,nat_lit 152,nat_lit 153,nat_lit 156,nat_lit 157,nat_lit 158,nat_lit 161,nat_lit 162,nat_lit 163,nat_lit 165,nat_lit 166,nat_lit 168,nat_lit 169,nat_lit 170,nat_lit 172,nat_lit 173,nat_lit 175,nat_lit 176,nat_lit 177,nat_lit 179,nat_lit 180,nat_lit 182,nat_lit 183,nat_lit 184,nat_lit 187,nat_lit 188,nat_lit 189,nat_lit 192,nat_lit 193] (fun _=>by kernel_rfl))
 (case hw=>w_witness2)
 k_fill
 refine L2.xJ (l:=PySem.Challenge.rw_unlikeplace_k30_papers_of_edges) (n:=63) (k:=40) (x:="_law_script") (CX:=L2.CX0) (sp:=My.rD) rfl (by decide) rfl ⟨rfl,by decide,by decide,rfl⟩ (fun w h Y=>by first | exact PySem.W.kIn_of Y | exact PySem.W.km_in_of Y) (fun w=>by kernel_rfl) ?F ?S ?C
 case F =>
  intro w mg fa h KX G hmg
  have T : ∃ t,My.Txt (L2.KOf KX) mg t:=by
   dsimp only [L2.KOf]
   refine' My.Dk KX G ?dM ?fF ?cG ?ev ?c7 ?c4 ?fu ?ca ?cF ?bT ?dE ?b9 ?eC ?bI ?hG ?fz ?hV ?eh ?gX ?dN ?dD ?hX ?c5 ?cb ?d8 ?g8 ?fO ?fA ?w6 ?zk ?xO ?uy ?fg ?sm ?xN ?zd ?rE ?gG ?yf ?gh ?yt ?tH ?oK ?rO ?zE ?lB ?ym ?yo ?oO
   (case dM=>walk_at "q")
   (case fF=>walk_at "q")
   (case cG=>walk_at "q")
   (case ev=>walk_at "q")
   (case c7=>walk_at "q")
   (case c4=>walk_at "q")
   (case fu=>walk_at "q")
   (case ca=>walk_at "q")
   (case cF=>walk_at "q")
   (case bT=>walk_at "q")
   (case dE=>walk_at "q")
   (case b9=>walk_at "q")
   (case eC=>walk_at "q")
   (case bI=>walk_at "q")
   (case hG=>walk_at "q")
   (case fz=>walk_at "q")
   (case hV=>walk_at "q")
   (case eh=>walk_at "q")
   (case gX=>walk_at "q")
   (case dN=>walk_at "q")
   (case dD=>walk_at "q")
   (case hX=>walk_at "q")
   (case c5=>walk_at "q")
   (case cb=>walk_at "q")
   (case d8=>walk_at "q")
   (case g8=>walk_at "q")
   (case fO=>walk_at "q")
   (case fA=>walk_at "q")
   (case w6=>k_is)
   (case zk=>k_is)
   (case xO=>k_is)
   (case uy=>k_is)
   (case fg=>k_is)
   (case sm=>kernel_rfl)
   (case xN=>k_is)
   (case zd=>k_is)
   (case rE=>k_is)
   (case gG=>k_is)
   (case yf=>k_is)
   (case gh=>k_is)
   (case yt=>k_is)
   (case tH=>k_is)
   (case oK=>k_is)
   (case rO=>k_is)
   (case zE=>k_is)
   (case lB=>k_is)
   (case ym=>k_is)
   (case yo=>k_is)
   (case oO=>k_is)
  obtain ⟨t,T⟩:=T
  have e0:=hmg.symm.trans T.EA
  cases e0
  exact ⟨_,T.CM,fun base=>My.DE T⟩
 case S=>exact fun K H a ns hl hO hS=>My.vG hl hO hS
 case C=>exact fun _ _ _ _ h=>h
