import PyProof.Rows.All
import Wide.All
import OpenK.AllK
import Wide.FinOn
import Lean
import PyProof.EqAt
import PyProof.EqKinds
import PyProof.TupleCall
import PyProof.NeKinds
import PyProof.Rows.StrLen
import PyProof.AutoIntG2
import PyProof.FactsAll.int_6
import PyProof.Rows.BootFacts.P1
import PyProof.ReprRoads
import PyProof.ListRange
import PyProof.TupleOfSeq
import PyProof.EnumMake
import PyProof.StrWalks
import PyProof.Rows.Range3
import PyProof.Rows.SetFrom
import KE.KIntText
import PyProof.FString
import PyProof.StrCalls2
import PyProof.StrOps2
import PyProof.SliceStr2
import PyProof.StrBlockI
import PyProof.StrBlockL
import PyProof.StrLaws
import OpenK.KOwn
import KE.KTryMore
import PyProof.ExcAttrAll.ValueError
import PyProof.NsDelKeeps
import KE.KRevIter
import PyProof.DictRoadsH
import PyProof.ListMulRoad
import PyProof.ExcInit
import PyProof.InstStoreFacts
import PyProof.AssignAttr
import PySem.SetOps
import PyProof.SetScanFacts
import PyProof.TupleKey
import PyProof.SetKind
import PyProof.IsRules
import PyProof.FactsAll.set
import PyProof.CollectIter
import PyProof.CollectWalk
import PyProof.WalksMore
import PyProof.Rows.FactsT3
import PySem.Challenge.RW_unlikeplace_k37_boxes_told
noncomputable section
set_option Elab.async false
set_option linter.all false
set_option maxRecDepth 100000
namespace L2
open PySem PySem.Spec PyProof.Rows
noncomputable abbrev Key:=Sum Int Str
noncomputable def ve:Key->Value->Bool
 |.inl k,v=>Value.isInt k v
 |.inr x,v=>Value.isStrOf x v
noncomputable def zJ(w:World):Key->Int
 |.inl k=>hashInt k
 |.inr x=>hashStr w x
theorem aW:∀ {k:Key} {v:Value},ve k v=true->(∃i t,k=Sum.inl i/\v=Value.int i t)\/(∃x t,k=Sum.inr x/\v=Value.str x t)
 |.inl i,v,h=>by
  obtain⟨t,e⟩:=Value.isInt_shape (k:=i) (v:=v) h;exact .inl ⟨i,t,rfl,e⟩
 |.inr x,v,h=>by
  obtain⟨t,e⟩:=Value.isStrOf_shape (x:=x) (v:=v) h;exact .inr ⟨x,t,rfl,e⟩
theorem we(a b:Int):decide ((Sum.inl a:Key)=Sum.inl b)=(a == b):=by
 by_cases e:a=b
 ·subst e;simp
 ·have h:¬ (Sum.inl a:Key)=Sum.inl b:=fun q=>e (Sum.inl.inj q)
  rw[decide_eq_false h];exact(beq_eq_false_iff_ne.mpr e).symm
theorem wu(a b:Str):decide ((Sum.inr a:Key)=Sum.inr b)=decide (a=b):=by
 by_cases e:a=b
 ·subst e;simp
 ·have h:¬ (Sum.inr a:Key)=Sum.inr b:=fun q=>e (Sum.inr.inj q)
  rw[decide_eq_false h,decide_eq_false e]
theorem wf(a:Int)(b:Str):decide ((Sum.inl a:Key)=Sum.inr b)=false:=decide_eq_false (fun q=>nomatch q)
theorem xx(a:Str)(b:Int):decide ((Sum.inr a:Key)=Sum.inl b)=false:=decide_eq_false (fun q=>nomatch q)
noncomputable def kv(prog:Program)(w:World):PySem.KeyKind prog w Key where
 is:=ve
 hash:=zJ w
 inj:=fun v a b ha hb=>by
  rcases aW ha with⟨i,t,rfl,rfl⟩|⟨x,t,rfl,rfl⟩
  ·rcases aW hb with⟨j,u,rfl,e⟩|⟨y,u,rfl,e⟩
   ·injection e with e1 _;rw[e1]
   ·exact nomatch e
  ·rcases aW hb with⟨j,u,rfl,e⟩|⟨y,u,rfl,e⟩
   ·exact nomatch e
   ·injection e with e1 _;rw[e1]
 byValue:=fun k v h=>by
  rcases aW h with⟨i,t,rfl,rfl⟩|⟨x,t,rfl,rfl⟩<;>rfl
 pyHash:=fun hv h=>by
  rcases aW hv with⟨i,t,rfl,rfl⟩|⟨x,t,rfl,rfl⟩
  ·exact wpAny_pyHash_int h
  ·exact wpAny_pyHash_str h
 eqBool:=fun hu hv h=>by
  rcases aW hu with⟨i,t,rfl,rfl⟩|⟨x,t,rfl,rfl⟩
  ·rcases aW hv with⟨j,u,rfl,rfl⟩|⟨y,u,rfl,rfl⟩
   ·rw[we] at h;exact wpAny_eqBool_int h
   ·rw[wf] at h;exact SeqAt.EqAt.int_str i t y u _ _ _ _ h
  ·rcases aW hv with⟨j,u,rfl,rfl⟩|⟨y,u,rfl,rfl⟩
   ·rw[xx] at h;exact SeqAt.EqAt.str_int x t j u _ _ _ _ h
   ·rw[wu] at h;exact wpAny_eqBool_str h
 «strs»:=fun k x t v h=>by
  rcases aW h with⟨i,u,rfl,e⟩|⟨y,u,rfl,e⟩
  ·exact nomatch e
  ·injection e with e1 _
   subst e1;cases v<;>rfl
inductive V where
 |non|bl (b:Bool)|int (i:Int)|str (x:Str)|byt (b:Array UInt8)|flt (b:UInt64)|ref (a:Addr)|ty (n:String)
 deriving DecidableEq
noncomputable def aF:V->Value->Prop
 |.non,u=>u=Value.none
 |.bl b,u=>u=Value.bool b
 |.int i,u=>∃t,u=Value.int i t
 |.str x,u=>∃t,u=Value.str x t
 |.byt b,u=>∃t,u=Value.bytes b t
 |.flt b,u=>∃t,u=Value.float b t
 |.ref a,u=>u=Value.ref a
 |.ty n,u=>u=Value.type n
noncomputable abbrev ar:List V->List Value->Prop:=Paired aF
theorem ar.length{xs:List V}{us:List Value}(r:ar xs us):xs.length=us.length:=Paired.length r
theorem ar.get:∀ {xs:List V} {us:List Value} {i:Nat} {x:V},ar xs us->xs[i]?=some x->∃u,us[i]?=some u/\aF x u
 |_,_,_,_,.nil,e=>by simp at e
 |_,_,0,_,.cons r _,e=>by simp at e;subst e;exact⟨_,rfl,r⟩
 |_,_,i+1,x,.cons _ t,e=>by
  obtain⟨u,h1,h2⟩:=ar.get (i:=i) (x:=x) t (by simpa using e)
  exact⟨u,by simpa using h1,h2⟩
theorem ar.set{x:V}{u:Value}(r:aF x u):∀ {xs:List V} {us:List Value} (i:Nat),ar xs us->ar (xs.set i x) (us.set i u)
 |_,_,_,.nil=>.nil
 |_,_,0,.cons _ t=>.cons r t
 |_,_,i+1,.cons q t=>.cons q (ar.set r i t)
theorem ar.append:∀ {xs ys:List V} {us ws:List Value},ar xs us->ar ys ws->ar (xs++ys) (us++ws)
 |_,_,_,_,.nil,s=>s
 |_,_,_,_,.cons r t,s=>.cons r (ar.append t s)
theorem ar.take:∀ {xs:List V} {us:List Value} (n:Nat),ar xs us->ar (xs.take n) (us.take n)
 |_,_,0,_=>.nil
 |_,_,_+1,.nil=>.nil
 |_,_,n+1,.cons r t=>.cons r (ar.take n t)
theorem ar.drop:∀ {xs:List V} {us:List Value} (n:Nat),ar xs us->ar (xs.drop n) (us.drop n)
 |_,_,0,r=>r
 |_,_,_+1,.nil=>.nil
 |_,_,n+1,.cons _ t=>ar.drop n t
noncomputable def wB:Option V->Option Value->Prop
 |some v,some u=>aF v u
 |none,none=>True
 |_,_=>False
noncomputable def KV{κ:Type}:List (κ×V)->List (κ×Value)->Prop:=Paired fun(p:κ×V) (q:κ×Value)=>p.1=q.1/\aF p.2 q.2
noncomputable def kV:Key->V
 |.inl i=>.int i
 |.inr x=>.str x
inductive HO where
 |lst (xs:List V)
 |tup (xs:List V)
 |dK (kvs:List (Key×V))|dT (kvs:List (List Key×V))
 |set (S:Int->Bool) (n:Nat)
 |ins (C dx:Addr) (fs:List (Str×V))
 |own (x:Addr)
 |xd (fs:List (Str×V))
 |met (f x:Addr)
 |rng (lo hi:Int)
 |frz (o:Obj) (u:HO)
 |tbl (ps:Array Value)
 |ext (φ:Heap->Prop)
noncomputable abbrev Hp:=Addr->Option HO
noncomputable def upd(H:Hp)(a:Addr)(o:HO):Hp:=fun b=>if b=a then some o else H b
theorem bu{H:Hp}{a:Addr}{o:HO}:upd H a o a=some o:=by unfold upd;rw[if_pos rfl]
theorem aq{H:Hp}{a b:Addr}{o:HO}(h:b≠a):upd H a o b=H b:=by unfold upd;rw[if_neg h]
theorem aH{H:Hp}{a b:Addr}{o:HO}(h:H a=some o)(h':H b=none):a≠b:=by
 intro e;subst e;rw[h] at h';cases h'
noncomputable def l9(h:Heap)(a:Addr)(items:Array Value):Prop:=IsTup h a items/\∃o,h.get? a=some o/\o.dict=none
theorem l9.lt{h:Heap}{a:Addr}{items:Array Value}(x:l9 h a items):a<h.objs.size:=x.1.lt
theorem l9.new(h:Heap)(items:Array Value):l9 (h.push { cls:=.type "tuple",data:=.seq items }) h.objs.size items:=⟨IsTup.new h items,_,Heap.get?_push_size _ rfl,rfl⟩
noncomputable def oa(H:Hp)(a:Addr)(ps qs:Array Value):Prop:=TriplesOk qs.toList/\∀(pos:Pos)(cv:Value),codeAmong pos qs.toList=some cv ->
 ∃(c:Addr)(o:Obj)(vs:Array Value)(t:Tok)(q:Str),cv=.ref c/\H c=some (.frz o (.own a))/\o.data=.fields vs/\vs[1]?=some (.str q t)/\ps[0]?=some (.str q 0)
theorem oa.mono{H H':Hp}{a:Addr}{ps qs:Array Value}(x:oa H a ps qs)(k:∀b o u,H b=some (.frz o u)->H' b=some (.frz o u)):oa H' a ps qs:=
 ⟨x.1,fun pos cv e=>let ⟨c,o,vs,t,q,e1,e2,r⟩:=x.2 pos cv e;⟨c,o,vs,t,q,e1,k _ _ _ e2,r⟩⟩
section
variable(P:Program)(w:World)
noncomputable def bj(H:Hp)(h:Heap)(a:Addr):HO->Prop
 |.lst xs=>xs.length<=sizeLine/\∃(its:List Value)(n:Nat),ar xs its/\h.get? a=some { cls:=.type "list",data:=.seq its.toArray n }
 |.tup xs=>xs.length<=sizeLine/\∃its:List Value,ar xs its/\l9 h a its.toArray
 |.dK kvs=>kvs.length<=sizeLine/\(a == sysModules)=false/\∃vs,KV kvs vs/\h.DictOf (kv P w) a vs
 |.dT kvs=>kvs.length<=sizeLine/\(a == sysModules)=false/\∃xs:List (List Key×Addr×Value),
   Paired (fun(p:List Key×V) (q:List Key×Addr×Value)=>p.1=q.1/\H q.2.1=some (.tup (p.1.map kV))/\aF p.2 q.2.2) kvs xs /\
   ∃o es ep,h.get? a=some o/\o.ExactDict/\o.data=.dict es ep/\es.toList=xs.map (entryOfKey (tupleKind (kv P w)))/\(xs.map (·.1)).Nodup
 |.set S n=>h.SetOf (intKind P w) a S n
 |.ins C dx fs=>H dx=some (.own a)/\fs.length<=1000/\dx≠a/\h.get? a=some (W.instObj C dx) /\
   ∃mA,h.Ns1 dx mA/\(∀f,wB (fs.lookup f) (mA f))/\PySem.Within mA (fs.map (·.1))
 |.own _=>∃o,h.get? a=some o
 |.xd fs=>∃mA,h.Ns1 a mA/\∀f,wB (fs.lookup f) (mA f)
 |.rng lo hi=>∃t u v,h.get? a=some { cls:=.type "range",data:=.fields #[.int lo t,.int hi u,.int 1 v] }
 |.frz o u=>h.get? a=some o/\bj H h a u
 |.tbl ps=>∃qs:Array Value,h.get? a=some { cls:=.none,data:=.fields qs }/\oa H a ps qs
 |.met f x=>h.get? a=some (W.methodObj (.ref f) (.ref x))
 |.ext φ=>φ h/\(∃o,h.get? a=some o)/\∀h1 h2:Heap,φ h1->(∀o,h1.get? a=some o->h2.get? a=some o)->φ h2
noncomputable def HOk(H:Hp)(h:Heap):Prop:=∀a o,H a=some o->bj P w H h a o
end
section
variable{P:Program}{w:World}{H H':Hp}{h h':Heap}{a:Addr}{o:HO}
theorem bj.lt(x:bj P w H h a o):a<h.objs.size:=by
 cases o with
 |lst xs=>obtain⟨_,_,_,_,e⟩:=x;exact Heap.lt_size e
 |tup xs=>obtain⟨_,_,_,p⟩:=x;exact p.lt
 |dK kvs=>obtain⟨_,_,_,_,o,_,_,e,_⟩:=x;exact Heap.lt_size e
 |dT kvs=>obtain⟨_,_,_,_,o,_,_,e,_⟩:=x;exact Heap.lt_size e
 |set S n=>obtain⟨o,_,_,_,e,_⟩:=x;exact Heap.lt_size e
 |ins C dx fs=>obtain⟨_,_,_,e,_⟩:=x;exact Heap.lt_size e
 |own y=>obtain⟨_,e⟩:=x;exact Heap.lt_size e
 |xd fs=>obtain⟨_,⟨_,_,_,e,_⟩,_⟩:=x;exact Heap.lt_size e
 |rng lo hi=>obtain⟨_,_,_,e⟩:=x;exact Heap.lt_size e
 |frz ob u=>obtain⟨e,_⟩:=x;exact Heap.lt_size e
 |tbl ps=>obtain⟨qs,e,_⟩:=x;exact Heap.lt_size e
 |met f y=>exact Heap.lt_size (show h.get? a=some _ from x)
 |ext φ=>obtain⟨_,⟨_,e⟩,_⟩:=x;exact Heap.lt_size e
theorem Paired.Ax{α β:Type}{F G:α->β->Prop}:∀ {l₁:List α} {l₂:List β},Paired F l₁ l₂->(∀a b,F a b->G a b)->Paired G l₁ l₂
 |_,_,.nil,_=>.nil
 |_,_,.cons r t,f=>.cons (f _ _ r) (Paired.Ax t f)
theorem bj.stay(x:bj P w H h a o)(k:∀b u,(b=a\/H b=some (.own a))->h.get? b=some u->h'.get? b=some u)(ho:∀b,H b=some (.own a)->H' b=some (.own a))(ht:∀b xs,H b=some (.tup xs)->H' b=some (.tup xs))(hf:∀b o u,H b=some (.frz o u)->H' b=some (.frz o u)):bj P w H' h' a o:=by
 induction o with
 |lst xs=>obtain⟨z,its,n,r,e⟩:=x;exact⟨z,its,n,r,k _ _ (.inl rfl) e⟩
 |tup xs=>obtain⟨z,its,r,⟨ob,e,c⟩,ob',e',c'⟩:=x;exact⟨z,its,r,⟨ob,k _ _ (.inl rfl) e,c⟩,ob',k _ _ (.inl rfl) e',c'⟩
 |dK kvs=>obtain⟨z,y,vs,r,ob,es,ep,e,c⟩:=x;exact⟨z,y,vs,r,ob,es,ep,k _ _ (.inl rfl) e,c⟩
 |dT kvs=>
  obtain⟨z,y,xs,r,ob,es,ep,e,c⟩:=x;exact⟨z,y,xs,Paired.Ax r fun p q z=>⟨z.1,ht _ _ z.2.1,z.2.2⟩,ob,es,ep,k _ _ (.inl rfl) e,c⟩
 |set S n=>obtain⟨ob,es,ep,t,e,c⟩:=x;exact⟨ob,es,ep,t,k _ _ (.inl rfl) e,c⟩
 |ins C dx fs=>
  obtain⟨d,z,ne,e,mA,⟨od,es,ep,e2,c⟩,r⟩:=x;exact⟨ho _ d,z,ne,k _ _ (.inl rfl) e,mA,⟨od,es,ep,k _ _ (.inr d) e2,c⟩,r⟩
 |own y=>obtain⟨ob,e⟩:=x;exact⟨ob,k _ _ (.inl rfl) e⟩
 |xd fs=>obtain⟨mA,⟨od,es,ep,e,c⟩,r⟩:=x;exact⟨mA,⟨od,es,ep,k _ _ (.inl rfl) e,c⟩,r⟩
 |rng lo hi=>obtain⟨t,u,v,e⟩:=x;exact⟨t,u,v,k _ _ (.inl rfl) e⟩
 |frz ob u ih=>obtain⟨e,q⟩:=x;exact⟨k _ _ (.inl rfl) e,ih q⟩
 |tbl ps=>obtain⟨qs,e,z⟩:=x;exact⟨qs,k a _ (.inl rfl) e,z.mono hf⟩
 |met f y=>
  have e:h.get? a=some (W.methodObj (.ref f) (.ref y)):=x;show h'.get? a=some (W.methodObj (.ref f) (.ref y));exact k a _ (.inl rfl) e
 |ext φ=>obtain⟨p,⟨o,e⟩,st⟩:=x;exact⟨st _ _ p fun o q=>k _ _ (.inl rfl) q,⟨o,k _ _ (.inl rfl) e⟩,st⟩
theorem HOk.lt(x:HOk P w H h)(e:H a=some o):a<h.objs.size:=(x a o e).lt
theorem HOk.fresh(x:HOk P w H h)(e:h.objs.size<=a):H a=none:=by
 cases q:H a with
 |none=>rfl
 |some u=>exact absurd (Nat.lt_of_lt_of_le (x.lt q) e) (Nat.lt_irrefl _)
theorem HOk.kept(x:HOk P w H h)(k:∀b u,h.get? b=some u->h'.get? b=some u):HOk P w H h':=fun a o e=>
 (x a o e).stay (fun b u _ q=>k b u q) (fun _ q=>q) (fun _ _ q=>q) fun _ _ _ q=>q
theorem HOk.laid(x:HOk P w H h)(k:∀b u,h.get? b=some u->h'.get? b=some u)(hp:h.objs.size<=a)(new:bj P w (upd H a o) h' a o):HOk P w (upd H a o) h':=fun b u e=>by
 have hn:=x.fresh hp;by_cases hb:b=a
 ·subst hb;rw[bu] at e;cases e;exact new
 ·rw[aq hb] at e
  exact(x b u e).stay (fun c v _ q=>k c v q) (fun c q=>by rw[aq (aH q hn)];exact q) (fun c xs q=>by rw[aq (aH q hn)];exact q) fun c o' u' q=>by rw[aq (aH q hn)];exact q
end
noncomputable def Rd(H:Hp)(a:Addr)(u:HO):Prop:=H a=some u\/∃o,H a=some (.frz o u)
theorem Rd.ok{P:Program}{w:World}{H:Hp}{h:Heap}{a:Addr}{u:HO}(r:Rd H a u)(x:HOk P w H h):bj P w H h a u:=by
 rcases r with r|⟨o,r⟩
 ·exact x a u r
 ·obtain⟨_,q⟩:=x a _ r
  exact q
noncomputable def Mut:Option HO->Prop
 |some (.lst _)=>True
 |some (.dK _)=>True
 |some (.dT _)=>True
 |some (.set _ _)=>True
 |some (.ins _ _ _)=>True
 |some (.ext _)=>True
 |_=>False
section
variable{P:Program}{w:World}{H:Hp}{h h':Heap}{x e:Addr}{o':HO}
theorem HOk.write(ok:HOk P w H h)(mu:Mut (H x))(he:e=x\/H e=some (.own x))(k:∀b u,b≠e->h.get? b=some u->h'.get? b=some u)(heo:∃u,h'.get? e=some u)(new:bj P w (upd H x o') h' x o'):HOk P w (upd H x o') h':=fun b u q=>by
 have nown:∀c y,H c=some (.own y)->c≠x:=fun c y r z=>by subst z;rw[r] at mu;exact mu
 have ntup:∀c xs,H c=some (.tup xs)->c≠x:=fun c xs r z=>by subst z;rw[r] at mu;exact mu
 by_cases hb:b=x
 ·subst hb;rw[bu] at q;cases q;exact new
 ·rw[aq hb] at q
  by_cases hbe:b=e
  ·have q':H b=some (.own x):=by
    rcases he with z|z
    ·exact absurd (hbe.trans z) hb
    ·rw[hbe];exact z
   rw[q] at q';cases q';obtain⟨v,hv⟩:=heo;exact⟨v,by rw[hbe];exact hv⟩
  ·refine(ok b u q).stay (fun c v hc r=>k c v ?_ r) (fun c r=>by rw[aq (nown c b r)];exact r) (fun c xs r=>by rw[aq (ntup c xs r)];exact r) fun c o' u' r=>by rw[aq (fun z=>by subst z;rw[r] at mu;exact mu)];exact r
   rcases hc with rfl|hc
   ·exact hbe
   ·rintro rfl
    rcases he with z|z
    ·exact nown c b hc z
    ·rw[hc] at z;cases z;exact hb rfl
end
structure Un(fs ex:List Addr)(H H':Hp)(h h':Heap):Prop where
 keep:∀b o,h.get? b=some o->H b=none->b ∉ fs->b ∉ ex->h'.get? b=some o
 slot:∀b o,h.get? b=some o->H b=none->b∈fs->b ∉ ex->∃sl,h'.get? b=some { o with slots:=sl }
 free:∀b o,h.get? b=some o->H b=none->b ∉ ex->H' b=none
 there:∀b o,h.get? b=some o->b ∉ ex->∃o',h'.get? b=some o'
 tups:∀b xs,H b=some (.tup xs)->H' b=some (.tup xs)
 frzs:∀b o u,H b=some (.frz o u)->H' b=some (.frz o u)
 tbls:∀b ps,H b=some (.tbl ps)->∃more,H' b=some (.tbl (ps++more))
section
variable{fs fs' ex ex':List Addr}{H H1 H2:Hp}{h h1 h2 h':Heap}{a x e:Addr}{o:HO}
theorem Un.any(u:Un fs ex H H1 h h1){b:Addr}{ob:Obj}(q:h.get? b=some ob)(n:H b=none)(hx:b ∉ ex):∃sl,h1.get? b=some { ob with slots:=sl }:=by
 by_cases hb:b∈fs
 ·exact u.slot b ob q n hb hx
 ·exact⟨ob.slots,u.keep b ob q n hb hx⟩
theorem Un.kept(k:∀b u,h.get? b=some u->h'.get? b=some u):Un fs ex H H h h':=
 ⟨fun b ob q _ _ _=>k b ob q,fun b ob q _ _ _=>⟨ob.slots,k b ob q⟩,fun _ _ _ n _=>n,fun b ob q _=>⟨ob,k b ob q⟩,fun _ _ q=>q,fun _ _ _ q=>q,fun _ ps q=>⟨#[],by rw[q];simp⟩⟩
theorem Un.refl:Un fs ex H H h h:=Un.kept fun _ _ q=>q
theorem Un.laid(k:∀b u,h.get? b=some u->h'.get? b=some u)(hp:h.objs.size<=a)(hn:H a=none):Un fs ex H (upd H a o) h h' where
 keep:=fun b u q _ _ _=>k b u q
 slot:=fun b u q _ _ _=>⟨u.slots,k b u q⟩
 free:=fun b u q n _=>by rw[aq (Nat.ne_of_lt (Nat.lt_of_lt_of_le (Heap.lt_size q) hp))];exact n
 there:=fun b u q _=>⟨u,k b u q⟩
 tups:=fun b xs q=>by rw[aq (aH q hn)];exact q
 frzs:=fun b u xs q=>by rw[aq (aH q hn)];exact q
 tbls:=fun b ps q=>⟨#[],by rw[aq (aH q hn),q];simp⟩
theorem Un.write(mu:Mut (H x))(he:e=x\/H e=some (.own x))(k:∀b u,b≠e->h.get? b=some u->h'.get? b=some u)(heo:∃u,h'.get? e=some u):Un fs ex H (upd H x o) h h':=by
 have hx:∀b,H b=none->b≠x:=fun b n z=>by subst z;rw[n] at mu;exact mu
 have hb:∀b,H b=none->b≠e:=fun b n z=>by
  subst z;rcases he with r|r
  ·exact hx b n r
  ·rw[n] at r;cases r
 have hm:∀b u,H b=some u->¬ Mut (some u)->b≠x:=fun b u q nm z=>by subst z;rw[q] at mu;exact nm mu
 refine⟨fun b u q n _ _=>k b u (hb b n) q,fun b u q n _ _=>⟨u.slots,k b u (hb b n) q⟩,fun b u q n _=>by rw[aq (hx b n)];exact n,fun b u q _=>?_,
  fun b xs q=>by rw[aq (hm b _ q fun z=>z)];exact q,fun b u xs q=>by rw[aq (hm b _ q fun z=>z)];exact q,fun b ps q=>⟨#[],by rw[aq (hm b _ q fun z=>z),q];simp⟩⟩
 by_cases hbe:b=e
 ·subst hbe;exact heo
 ·exact⟨u,k b u hbe q⟩
end
noncomputable def trk(h:Heap)(H:Hp):List Addr:=(List.range h.objs.size).filter fun a=>(H a).isSome
noncomputable def jV(h:Heap)(H:Hp):Heap:=W.hideAll h (trk h H)
theorem pZ(h:Heap)(H:Hp):(jV h H).objs.size=h.objs.size:=W.hideAll_size _ _
theorem q0{h:Heap}{H:Hp}{b:Addr}{o:Obj}(e:h.get? b=some o)(n:H b=none):(jV h H).get? b=some o:=
 W.hideAll_get _ e fun hm=>by
  have q:(H b).isSome=true:=(List.mem_filter.mp hm).2;rw[n] at q;simp at q
theorem uW{h:Heap}{H:Hp}{b:Addr}{o:Obj}(e:(jV h H).get? b=some o):h.get? b=some o/\H b=none:=by
 have e':h.get? b=some o:=W.of_hideAll (trk h H) e;refine⟨e',?_⟩
 cases q:H b with
 |none=>rfl
 |some x=>
  have hm:b∈trk h H:=List.mem_filter.mpr ⟨List.mem_range.mpr (Heap.lt_size e'),by simp[q]⟩
  have z:(jV h H).get? b=none:=W.hideAll_none (trk h H) hm;rw[z] at e;cases e
noncomputable def uL(g h:Heap)(L:Addr):List (Addr×Obj):=(List.range h.objs.size).filterMap fun a=>if a=L\/(g.get? a).isSome=true then none else (h.get? a).map fun o=>(a,o)
noncomputable def aL(g h:Heap)(L d:Addr):List (Addr×Obj):=(uL g h L).filter fun p=>decide (p.1≠d)
noncomputable def gK(K:W.Frag):List (Str×Addr×Addr):=match K.lookup mainGlobals with
 |some ⟨_,_,.dict es _,_⟩=>es.toList.filterMap fun e=>match e.key with
  |.str x _=>(W.tabIn K x).map fun q=>(x,q)
  |_=>none
 |_=>[]
noncomputable def pL(K:W.Frag)(H:Hp):Prop:=∀q∈gK K,∃ps,H q.2.2=some (.tbl ps)/\ps[0]?=some (.str (q.1 ++ ".<locals>." ++ "<lambda>") 0)
theorem pL.mono{K:W.Frag}{H H':Hp}(x:pL K H)(k:∀b ps,H b=some (.tbl ps)->∃more,H' b=some (.tbl (ps++more))):pL K H':=fun q hq=>by
 obtain⟨ps,e,z⟩:=x q hq;obtain⟨more,e'⟩:=k _ _ e;refine⟨_,e',?_⟩
 have hz:0<ps.size:=by
  rcases Nat.eq_zero_or_pos ps.size with h|h
  ·rw[Array.getElem?_eq_none (by omega)] at z;cases z
  ·exact h
 rw[Array.getElem?_append_left hz];exact z
structure Mod(K:W.Frag)(mg:Str->Option Value)(base:Heap):Prop where
 kin:K.In base
 glob:base.Ns mainGlobals mg
 blt:∃mb,base.Ns builtinsNs mb/\∀x:Str,x≠"__name__"->mb x=bootBuiltins x
 nolimit:base.NoLimit
 bm:∃bm ob,mg "__builtins__"=some (.ref bm)/\bm≠builtinsNs/\base.get? bm=some ob/\ob.cls=.type "module"/\ob.dict=some builtinsNs/\ob.data=.plain
structure Cx where
 prog:Program
 w:World
 K:W.Frag
 mg:Str->Option Value
 base:Heap
 A:Around
 N:List Str
 s₀:Shared
 H₀:Hp
 env:Env
 outer:List Env
 stack:List Env
 ex:List Addr
 fn:Str->Bool
 calm:Bool
 pn:List (Addr×Obj)
 xe:Value->Shared->Prop
noncomputable def frs(l:List Env):List Addr:=l.filterMap (·.frame)
noncomputable abbrev Cx.fs(X:Cx):List Addr:=frs X.outer
noncomputable def Vis(sc:Scope)(x:Str):Prop:=sc.names.lookup x=some .local\/sc.names.lookup x=some .cell\/sc.names.lookup x=some .free
noncomputable def Loc(sc:Scope)(x:Str):Prop:=sc.names.lookup x=some .local\/sc.names.lookup x=some .cell
noncomputable def zH(env:Env)(h:Heap)(m:Str->Option Value)(x:Str)(u:Value):Prop:=
 (env.kindOf x=some .local/\m x=some u)\/((env.kindOf x=some .cell\/env.kindOf x=some .free)/\∃c,env.cells.lookup x=some c/\h.IsCell c (some u))
structure Cx.Ok(X:Cx):Prop where
 mod:Mod X.K X.mg X.base
 kind:X.env.scope.kind=.function
 glob:X.env.globals=mainGlobals
 blt:X.env.builtins=builtinsNs
 above:X.s₀.heap.objs.size<=X.env.locals
 inj:∀x y c,X.env.cells.lookup x=some c->X.env.cells.lookup y=some c->x=y
 has:∀x,(X.env.kindOf x=some .cell\/X.env.kindOf x=some .free)->∃c,X.env.cells.lookup x=some c
 cab:∀x c,X.fn x=true->X.env.cells.lookup x=some c->X.s₀.heap.objs.size<=c
 hd:X.calm=true->X.A.handled=none
 frames:X.A.frames=some X.stack
 stk:X.stack=X.outer\/(X.stack=X.env::X.outer/\X.env.frame=some X.env.locals)
 exf:∀b∈X.ex,b≠X.env.locals/\∀x c,X.env.cells.lookup x=some c->c≠b
 bs:∀b o,X.base.get? b=some o->X.s₀.heap.get? b=some o/\X.H₀ b=none
 bsz:X.base.objs.size<=X.s₀.heap.objs.size
 noex:∀b o,X.base.get? b=some o->b ∉ X.ex
 exfs:∀b∈X.ex,b ∉ X.fs
 funs:X.s₀.heap.FunFrames X.base X.outer
 frf:∀b∈X.fs,X.H₀ b=none
 tt:pL X.K X.H₀
structure Inv(X:Cx)(pins:List (Addr×Obj))(σ:List (Option V))(H:Hp)(s:Shared):Prop where
 ok:X.Ok
 os:s.os=X.s₀.os
 bare:AllBare s.gens
 base:Un X.fs X.ex X.H₀ H X.s₀.heap s.heap
 loc:∃m,s.heap.Ns X.env.locals m/\∀(i:Nat)(x:Str)(v:V),X.N[i]?=some x->σ[i]?=some (some v)->Vis X.env.scope x->∃u,aF v u/\zH X.env s.heap m x u
 cell:∀x c,X.env.cells.lookup x=some c->∃v,s.heap.IsCell c v
 free:H X.env.locals=none
 freeC:∀x c,X.env.cells.lookup x=some c->H c=none
 pin:∀p∈X.pn++pins,s.heap.get? p.1=some p.2/\H p.1=none/\p.1≠X.env.locals/\p.1 ∉ X.fs/\∀v,p.2.data≠.cell v
 hok:HOk X.prog X.w H s.heap
 len:σ.length=X.N.length
section
variable{X:Cx}{pins:List (Addr×Obj)}{σ:List (Option V)}{H H':Hp}{s:Shared}{h':Heap}
theorem Cx.Ok.nofr(ok:X.Ok){b:Addr}{o:Obj}(e:X.base.get? b=some o):b ∉ X.fs:=fun hb=>by
 have:=(ok.funs.mem hb).1;rw[e] at this;cases this
theorem Inv.bs(I:Inv X pins σ H s):∀b o,X.base.get? b=some o->s.heap.get? b=some o/\H b=none:=fun b o e=>
 ⟨I.base.keep b o (I.ok.bs b o e).1 (I.ok.bs b o e).2 (I.ok.nofr e) (I.ok.noex b o e),I.base.free b o (I.ok.bs b o e).1 (I.ok.bs b o e).2 (I.ok.noex b o e)⟩
theorem Inv.bk(I:Inv X pins σ H s):∀b o,X.base.get? b=some o->s.heap.get? b=some o:=fun b o e=>(I.bs b o e).1
theorem Inv.mod(I:Inv X pins σ H s):Mod X.K X.mg X.base:=I.ok.mod
theorem Inv.kIn(I:Inv X pins σ H s):X.K.In s.heap:=I.ok.mod.kin.keeps I.bk
theorem Inv.lt(I:Inv X pins σ H s):X.env.locals<s.heap.objs.size:=let ⟨_,hn,_⟩:=I.loc;hn.lt
theorem Inv.sz(I:Inv X pins σ H s):X.s₀.heap.objs.size<=s.heap.objs.size:=Nat.le_trans I.ok.above (Nat.le_of_lt I.lt)
theorem Inv.nofs(I:Inv X pins σ H s){a:Addr}(h:s.heap.objs.size<=a):a ∉ X.fs:=fun hb=>by
 obtain⟨_,o,ho,_⟩:=I.ok.funs.mem hb;exact absurd (Nat.lt_of_lt_of_le (Heap.lt_size ho) (Nat.le_trans I.sz h)) (Nat.lt_irrefl _)
theorem Inv.cne(I:Inv X pins σ H s):∀x c,X.env.cells.lookup x=some c->c≠X.env.locals:=fun x c e z=>by
 obtain⟨v,o,ho,hd⟩:=I.cell x c e;obtain⟨m,⟨o',es,ep,ho',hd',_⟩,_⟩:=I.loc;rw[z,ho'] at ho;cases ho;rw[hd'] at hd;cases hd
theorem Inv.funs(I:Inv X pins σ H s):s.heap.FunFrames X.base X.outer:=by
 have all:∀(l:List Env),(∀b∈frs l,b∈X.fs)->X.s₀.heap.FunFrames X.base l->s.heap.FunFrames X.base l:=by
  intro l
  induction l with
  |nil=>intro _ _;trivial
  |cons env r ih=>
   intro hs hl;obtain⟨hk,⟨L,o,hf,hn,ho,hd⟩,hr⟩:=hl;have hL:L∈X.fs:=hs L (by unfold frs;rw[List.filterMap_cons,hf];exact List.mem_cons_self)
   obtain⟨sl,e⟩:=I.base.slot L o ho (I.ok.frf L hL) hL fun z=>I.ok.exfs L z hL;exact⟨hk,⟨L,_,hf,hn,e,hd⟩,ih (fun b hb=>hs b (by unfold frs;rw[List.filterMap_cons,hf];exact List.mem_cons_of_mem _ hb)) hr⟩
 exact all X.outer (fun _ hb=>hb) I.ok.funs
theorem Inv.stack(I:Inv X pins σ H s):s.heap.FunFrames X.base X.stack:=by
 rcases I.ok.stk with e|⟨e,hf⟩
 ·rw[e];exact I.funs
 ·rw[e]
  obtain⟨m,hn,_⟩:=I.loc;refine .cons (by rw[I.ok.kind];decide) hf hn ?_ I.funs
  exact Heap.get?_none_of_le (Nat.le_trans I.ok.bsz I.ok.above)
theorem Inv.Ai(I:Inv X pins σ H s):∀b∈frs X.stack,b∈X.env.locals::X.fs:=fun b hb=>by
 rcases I.ok.stk with e|⟨e,hf⟩
 ·rw[e] at hb;exact List.mem_cons_of_mem _ hb
 ·rw[e] at hb
  unfold frs at hb;rw[List.filterMap_cons,hf] at hb;exact hb
theorem Inv.Ah(I:Inv X pins σ H s):∀b∈frs X.stack,H b=none:=fun b hb=>by
 rcases List.mem_cons.mp (I.Ai b hb) with e|hb
 ·rw[e];exact I.free
 ·obtain⟨_,o,ho,_⟩:=I.ok.funs.mem hb
  exact I.base.free b o ho (I.ok.frf b hb) fun z=>I.ok.exfs b z hb
theorem Inv.step{g':Array GenState}{t':Nat}{d':Drawn}{ch:List Addr}(I:Inv X pins σ H s)(hch:∀b∈ch,(b∈X.ex\/X.s₀.heap.objs.size<=b)/\b≠X.env.locals/\(∀x c,X.env.cells.lookup x=some c->c≠b)/\∀p∈X.pn++pins,p.1≠b)(keep:∀b o,b≠X.env.locals->b ∉ X.fs->b ∉ ch->s.heap.get? b=some o->H b=none->h'.get? b=some o)(slot:∀b o,b≠X.env.locals->b∈X.fs->b ∉ ch->s.heap.get? b=some o->H b=none->∃sl,h'.get? b=some { o with slots:=sl })(free:∀b o,b ∉ ch->s.heap.get? b=some o->H b=none->H' b=none)(there:∀b o,b ∉ ch->s.heap.get? b=some o->∃o',h'.get? b=some o')(tups:∀b xs,H b=some (.tup xs)->H' b=some (.tup xs))(frzs:∀b o u,H b=some (.frz o u)->H' b=some (.frz o u))(tbls:∀b ps,H b=some (.tbl ps)->∃more,H' b=some (.tbl (ps++more)))(ns:∀m,s.heap.Ns X.env.locals m->h'.Ns X.env.locals m)(hok:HOk X.prog X.w H' h')(hg:AllBare g'):
  Inv X pins σ H' { s with heap:=h',gens:=g',drawn:=d',toks:=t' }:=by
 have neL:∀b o,X.s₀.heap.get? b=some o->b≠X.env.locals:=fun b o e=>Nat.ne_of_lt (Nat.lt_of_lt_of_le (Heap.lt_size e) I.ok.above)
 have neC:∀b o,X.s₀.heap.get? b=some o->b ∉ X.ex->b ∉ ch:=fun b o e hx hb=>by
  rcases(hch b hb).1 with z|z
  ·exact hx z
  ·exact absurd (Nat.lt_of_lt_of_le (Heap.lt_size e) z) (Nat.lt_irrefl _)
 have cellK:∀x c,X.env.cells.lookup x=some c->∀v,s.heap.IsCell c v->h'.IsCell c v:=fun x c e v ⟨o,ho,hd⟩=>by
  have nch:c ∉ ch:=fun z=>(hch c z).2.2.1 x c e rfl;by_cases hc:c∈X.fs
  ·obtain⟨sl,q⟩:=slot c o (I.cne x c e) hc nch ho (I.freeC x c e)
   exact⟨_,q,hd⟩
  ·exact⟨o,keep c o (I.cne x c e) hc nch ho (I.freeC x c e),hd⟩
 refine⟨I.ok,I.os,hg,⟨fun b o e n hb hx=>?_,fun b o e n hb hx=>?_,fun b o e n hx=>?_,fun b o e hx=>?_,fun b xs e=>tups b xs (I.base.tups b xs e),fun b o xs e=>frzs b o xs (I.base.frzs b o xs e),fun b ps e=>?_⟩,?_,fun x c e=>?_,?_,fun x c e=>?_,fun p hp=>?_,hok,I.len⟩
 ·exact keep b o (neL b o e) hb (neC b o e hx) (I.base.keep b o e n hb hx) (I.base.free b o e n hx)
 ·obtain⟨sl,e1⟩:=I.base.slot b o e n hb hx
  obtain⟨sl',e2⟩:=slot b _ (neL b o e) hb (neC b o e hx) e1 (I.base.free b o e n hx);exact⟨sl',e2⟩
 ·obtain⟨o',e1⟩:=I.base.there b o e hx
  exact free b o' (neC b o e hx) e1 (I.base.free b o e n hx)
 ·obtain⟨o',e1⟩:=I.base.there b o e hx
  exact there b o' (neC b o e hx) e1
 ·obtain⟨m1,e1⟩:=I.base.tbls b ps e
  obtain⟨m2,e2⟩:=tbls b _ e1;exact⟨m1++m2,by rw[e2,Array.append_assoc]⟩
 ·obtain⟨m,hn,hl⟩:=I.loc
  refine⟨m,ns m hn,fun i x v e1 e2 e3=>?_⟩;obtain⟨u,r,l⟩:=hl i x v e1 e2 e3;refine⟨u,r,?_⟩;rcases l with l|⟨k,c,e,z⟩
  ·exact .inl l
  ·exact .inr ⟨k,c,e,cellK x c e _ z⟩
 ·obtain⟨v,z⟩:=I.cell x c e
  exact⟨v,cellK x c e v z⟩
 ·obtain⟨m,⟨o,_,_,ho,_⟩,_⟩:=I.loc
  exact free _ o (fun z=>(hch _ z).2.1 rfl) ho I.free
 ·obtain⟨v,o,ho,hd⟩:=I.cell x c e
  exact free c o (fun z=>(hch c z).2.2.1 x c e rfl) ho (I.freeC x c e)
 ·obtain⟨e,n,ne,nf,d⟩:=I.pin p hp
  have nch:p.1 ∉ ch:=fun z=>(hch p.1 z).2.2.2 p hp rfl;exact⟨keep p.1 p.2 ne nf nch e n,free p.1 p.2 nch e n,ne,nf,d⟩
theorem Inv.un{t':Nat}(I:Inv X pins σ H s)(u:Un X.fs [] H H' s.heap h')(hok:HOk X.prog X.w H' h'):Inv X pins σ H' { s with heap:=h',toks:=t' }:=by
 obtain⟨m,⟨o,es,ep,ho,r⟩,_⟩:=id I.loc;obtain⟨sl,hL⟩:=u.any ho I.free (by simp)
 exact I.step (g':=s.gens) (d':=s.drawn) (ch:=[]) (fun _ z=>nomatch z) (fun b o _ hb _ e n=>u.keep b o e n hb (by simp)) (fun b o _ hb _ e n=>u.slot b o e n hb (by simp)) (fun b o _ e n=>u.free b o e n (by simp)) (fun b o _ e=>u.there b o e (by simp)) u.tups u.frzs u.tbls (fun m' hm=>by
  obtain⟨o',es',ep',ho',r'⟩:=hm;rw[ho] at ho';cases ho'
  exact⟨_,es',ep',hL,r'⟩) hok I.bare
theorem Inv.call{g':Array GenState}{t':Nat}{d':Drawn}{ch:List Addr}(I:Inv X pins σ H s)(u:Un (frs X.stack) ch H H' s.heap h')(hok:HOk X.prog X.w H' h')(hg:AllBare g')(hch:∀b∈ch,(b∈X.ex\/X.s₀.heap.objs.size<=b)/\b≠X.env.locals/\(∀x c,X.env.cells.lookup x=some c->c≠b)/\∀p∈X.pn++pins,p.1≠b):
  Inv X pins σ H' { s with heap:=h',gens:=g',drawn:=d',toks:=t' }:=by
 obtain⟨m,⟨o,es,ep,ho,r⟩,_⟩:=id I.loc;obtain⟨sl,hL⟩:=u.any ho I.free fun z=>(hch _ z).2.1 rfl
 exact I.step (ch:=ch) hch (fun b o hL hb hc e n=>u.keep b o e n (fun z=>(List.mem_cons.mp (I.Ai b z)).elim hL hb) hc) (fun b o _ _ hc e n=>u.any e n hc) (fun b o hc e n=>u.free b o e n hc) (fun b o hc e=>u.there b o e hc) u.tups u.frzs u.tbls (fun m' hm=>by
  obtain⟨o',es',ep',ho',r'⟩:=hm;rw[ho] at ho';cases ho'
  exact⟨_,es',ep',hL,r'⟩) hok hg
theorem Inv.turned{t':Nat}{it:Addr}(I:Inv X pins σ H s)(k:∀b o,b≠it->s.heap.get? b=some o->h'.get? b=some o)(hn:H it=none)(hL:it≠X.env.locals)(h1:it∈X.ex\/X.s₀.heap.objs.size<=it)(h2:∀x c,X.env.cells.lookup x=some c->c≠it)(h3:∀p∈X.pn++pins,p.1≠it):Inv X pins σ H { s with heap:=h',toks:=t' }:=by
 have nit:∀b u,H b=some u->b≠it:=fun b u e z=>by rw[z,hn] at e;cases e
 refine I.step (g':=s.gens) (d':=s.drawn) (ch:=[it]) (fun b hb=>?_) (fun b o _ _ hc e _=>k b o (fun z=>hc (by simp[z])) e) (fun b o _ _ hc e _=>⟨o.slots,k b o (fun z=>hc (by simp[z])) e⟩) (fun _ _ _ _ n=>n)
  (fun b o hc e=>⟨o,k b o (fun z=>hc (by simp[z])) e⟩) (fun _ _ e=>e) (fun _ _ _ e=>e) (fun b ps e=>⟨#[],by rw[e];simp⟩) (fun m hm=>?_) (fun b u e=>?_) I.bare
 ·have e:b=it:=by simpa using hb
  subst e;exact⟨h1,hL,h2,h3⟩
 ·obtain⟨o,es,ep,ho,r⟩:=hm
  exact⟨o,es,ep,k _ o (Ne.symm hL) ho,r⟩
 ·refine(I.hok b u e).stay (fun c v hc q=>k c v ?_ q) (fun _ q=>q) (fun _ _ q=>q) fun _ _ _ q=>q
  rcases hc with z|z
  ·rw[z];exact nit b u e
  ·exact nit c _ z
theorem Inv.tok(I:Inv X pins σ H s)(t:Nat):Inv X pins σ H { s with toks:=t }:=I.un (h':=s.heap) (t':=t) Un.refl I.hok
theorem Inv.kept{t':Nat}(I:Inv X pins σ H s)(k:∀b u,s.heap.get? b=some u->h'.get? b=some u):Inv X pins σ H { s with heap:=h',toks:=t' }:=I.un (Un.kept k) (I.hok.kept k)
theorem Inv.laid{a:Addr}{o:HO}{t':Nat}(I:Inv X pins σ H s)(k:∀b u,s.heap.get? b=some u->h'.get? b=some u)(hp:s.heap.objs.size<=a)(new:bj X.prog X.w (upd H a o) h' a o):
  Inv X pins σ (upd H a o) { s with heap:=h',toks:=t' }:=I.un (Un.laid k hp (I.hok.fresh hp)) (I.hok.laid k hp new)
theorem Inv.write{x e:Addr}{o:HO}{t':Nat}(I:Inv X pins σ H s)(mu:Mut (H x))(he:e=x\/H e=some (.own x))(k:∀b u,b≠e->s.heap.get? b=some u->h'.get? b=some u)(heo:∃u,h'.get? e=some u)(new:bj X.prog X.w (upd H x o) h' x o):Inv X pins σ (upd H x o) { s with heap:=h',toks:=t' }:=I.un (Un.write mu he k heo) (I.hok.write mu he k heo new)
theorem Inv.Ao{pins':List (Addr×Obj)}(I:Inv X pins σ H s)(h:∀p∈pins',s.heap.get? p.1=some p.2/\H p.1=none/\p.1≠X.env.locals/\p.1 ∉ X.fs/\∀v,p.2.data≠.cell v):Inv X pins' σ H s:=
 ⟨I.ok,I.os,I.bare,I.base,I.loc,I.cell,I.free,I.freeC,fun p hp=>(List.mem_append.mp hp).elim (fun z=>I.pin p (List.mem_append_left _ z)) (h p),I.hok,I.len⟩
theorem l5{N:List Str}(hN:N.Nodup){i j:Nat}{x:Str}(a:N[i]?=some x)(b:N[j]?=some x):i=j:=by
 obtain⟨h1,e1⟩:=List.getElem?_eq_some_iff.mp a;obtain⟨h2,e2⟩:=List.getElem?_eq_some_iff.mp b;exact(List.getElem_inj hN).mp (e1.trans e2.symm)
theorem jL{M:Model}{A:Around}{E:Value->Shared->Prop}{i:Nat}{x:Str}{v:V}{u:Value}{Q:Unit->Shared->Prop}(I:Inv X pins σ H s)(hN:X.N.Nodup)(hi:X.N[i]?=some x)(hx:Loc X.env.scope x)(r:aF v u)(h:∀s',Inv X pins (σ.set i (some v)) H s'->(∃a,Heap.SameBut a s.heap s'.heap/\(a=X.env.locals\/X.env.cells.lookup x=some a))->Q () s')(hf:X.fn x=true\/X.env.scope.names.lookup x=some .local:=by first|exact .inl rfl|exact .inr rfl|assumption):wpAny M A (storeName X.env x u) Q E s:=by
 obtain⟨m,hn,hl⟩:=id I.loc;have hcls:(X.env.scope.kind == .class || (X.env.scope.kind == .module && X.env.locals != X.env.globals))=false:=by rw[I.ok.kind];rfl
 have hiσ:i<σ.length:=by rw[I.len];exact(List.getElem?_eq_some_iff.mp hi).1
 have cne:=I.cne
 have tracked:∀ {a:Addr} {h':Heap},(∃o,s.heap.get? a=some o/\H a=none)->Heap.SameBut a s.heap h'->HOk X.prog X.w H h':=fun {a h'} ha hs b ob e=>by
  obtain⟨_,_,hfree⟩:=ha;refine(I.hok b ob e).stay (fun c w' hc q=>(hs.2 c ?_).trans q) (fun _ q=>q) (fun _ _ q=>q) fun _ _ _ q=>q;rintro rfl;rcases hc with rfl|hc
  ·rw[hfree] at e;cases e
  ·rw[hfree] at hc;cases hc
 rcases hx with hk|hk
 ·refine wpAny_storeName_local hk hn (fun h' hn' hs=>?_) hcls
  obtain⟨oL,_,_,hoL,_⟩:=id hn;refine h _ ⟨I.ok,I.os,I.bare,⟨fun b o e n hb hx=>?_,fun b o e n hb hx=>?_,I.base.free,fun b o e hx=>?_,I.base.tups,I.base.frzs,I.base.tbls⟩,⟨_,hn',fun j y v' e1 e2 e3=>?_⟩,fun y c e=>?_,I.free,I.freeC,fun p hp=>?_,tracked ⟨oL,hoL,I.free⟩ hs,by simpa using I.len⟩ ⟨_,hs,.inl rfl⟩
  ·exact(hs.2 b (Nat.ne_of_lt (Nat.lt_of_lt_of_le (Heap.lt_size e) I.ok.above))).trans (I.base.keep b o e n hb hx)
  ·obtain⟨sl,e1⟩:=I.base.slot b o e n hb hx
   exact⟨sl,(hs.2 b (Nat.ne_of_lt (Nat.lt_of_lt_of_le (Heap.lt_size e) I.ok.above))).trans e1⟩
  ·obtain⟨o',e1⟩:=I.base.there b o e hx
   exact⟨o',(hs.2 b (Nat.ne_of_lt (Nat.lt_of_lt_of_le (Heap.lt_size e) I.ok.above))).trans e1⟩
  ·by_cases hj:j=i
   ·subst hj
    rw[hi] at e1;cases e1;rw[List.getElem?_set_self hiσ] at e2;cases e2;exact⟨u,r,.inl ⟨hk,by simp⟩⟩
   ·rw[List.getElem?_set_ne (Ne.symm hj)] at e2
    obtain⟨u',r',q⟩:=hl j y v' e1 e2 e3;refine⟨u',r',?_⟩;rcases q with⟨k,e⟩|⟨k,c,e,z⟩
    ·refine .inl ⟨k,?_⟩
     have:y≠x:=fun e=>hj (l5 hN e1 (e ▸ hi));simp[this,e]
    ·exact .inr ⟨k,c,e,z.sameBut hs (cne y c e)⟩
  ·obtain⟨w',z⟩:=I.cell y c e
   exact⟨w',z.sameBut hs (cne y c e)⟩
  ·obtain⟨e,n,ne,nf,d⟩:=I.pin p hp
   exact⟨(hs.2 p.1 ne).trans e,n,ne,nf,d⟩
 ·have hfn:X.fn x=true:=by
   rcases hf with z|z
   ·exact z
   ·rw[z] at hk;cases hk
  obtain⟨c,hc⟩:=I.ok.has x (.inl hk);obtain⟨w',z⟩:=I.cell x c hc;refine wpAny_storeName_cell I.ok.kind hk hc z (fun h' hc' hs=>?_);obtain⟨oc,hoc,hocd⟩:=id z;refine h { s with heap:=h' } ⟨I.ok,I.os,I.bare,⟨fun b o e n hb hx=>?_,fun b o e n hb hx=>?_,I.base.free,fun b o e hx=>?_,I.base.tups,I.base.frzs,I.base.tbls⟩,⟨m,hn.sameBut hs (Ne.symm (cne x c hc)),fun j y v' e1 e2 e3=>?_⟩,fun y c' e=>?_,I.free,I.freeC,fun p hp=>?_,tracked ⟨oc,hoc,I.freeC x c hc⟩ hs,by simpa using I.len⟩ ⟨c,hs,.inr hc⟩
  ·exact(hs.2 b (Nat.ne_of_lt (Nat.lt_of_lt_of_le (Heap.lt_size e) (I.ok.cab x c hfn hc)))).trans (I.base.keep b o e n hb hx)
  ·obtain⟨sl,e1⟩:=I.base.slot b o e n hb hx
   exact⟨sl,(hs.2 b (Nat.ne_of_lt (Nat.lt_of_lt_of_le (Heap.lt_size e) (I.ok.cab x c hfn hc)))).trans e1⟩
  ·obtain⟨o',e1⟩:=I.base.there b o e hx
   exact⟨o',(hs.2 b (Nat.ne_of_lt (Nat.lt_of_lt_of_le (Heap.lt_size e) (I.ok.cab x c hfn hc)))).trans e1⟩
  ·by_cases hj:j=i
   ·subst hj
    rw[hi] at e1;cases e1;rw[List.getElem?_set_self hiσ] at e2;cases e2;exact⟨u,r,.inr ⟨.inl hk,c,hc,hc'⟩⟩
   ·rw[List.getElem?_set_ne (Ne.symm hj)] at e2
    obtain⟨u',r',q⟩:=hl j y v' e1 e2 e3;refine⟨u',r',?_⟩;rcases q with q|⟨k,c',e,z'⟩
    ·exact .inl q
    ·refine .inr ⟨k,c',e,z'.sameBut hs ?_⟩
     rintro rfl;exact hj (l5 hN e1 (I.ok.inj _ _ _ e hc ▸ hi))
  ·by_cases hcc:c'=c
   ·subst hcc;exact⟨_,hc'⟩
   ·obtain⟨w2,z2⟩:=I.cell y c' e
    exact⟨w2,z2.sameBut hs hcc⟩
  ·obtain⟨e,n,ne,nf,d⟩:=I.pin p hp
   refine⟨(hs.2 p.1 ?_).trans e,n,ne,nf,d⟩;intro q;rw[q,hoc] at e;have q':oc=p.2:=Option.some.inj e;exact d w' (by rw[←q'];exact hocd)
theorem ic{M:Model}{A:Around}{E:Value->Shared->Prop}{i:Nat}{x:Str}{v:V}{u:Value}{Q:Unit->Shared->Prop}(I:Inv X pins σ H s)(hN:X.N.Nodup)(hi:X.N[i]?=some x)(hx:Loc X.env.scope x)(r:aF v u)(h:∀s',Inv X pins (σ.set i (some v)) H s'->Q () s')(hf:X.fn x=true\/X.env.scope.names.lookup x=some .local:=by first|exact .inl rfl|exact .inr rfl|assumption):wpAny M A (storeName X.env x u) Q E s:=
 jL I hN hi hx r (fun s' I' _=>h s' I') hf
theorem Inv.call'{s':Shared}{ch:List Addr}(I:Inv X pins σ H s)(ho:s'.os=s.os)(u:Un (frs X.stack) ch H H' s.heap s'.heap)(hok:HOk X.prog X.w H' s'.heap)(hg:AllBare s'.gens)(hch:∀b∈ch,(b∈X.ex\/X.s₀.heap.objs.size<=b)/\b≠X.env.locals/\(∀x c,X.env.cells.lookup x=some c->c≠b)/\∀p∈X.pn++pins,p.1≠b):Inv X pins σ H' s':=by
 obtain⟨h',g',d',t',o'⟩:=s';have e:o'=s.os:=ho;subst e;exact I.call (g':=g') (t':=t') (d':=d') u hok hg hch
end
noncomputable abbrev XK:=Value->Option Addr->Hp->Prop
noncomputable abbrev St:=List (Option V)
noncomputable abbrev VK:=V->Hp->Prop
noncomputable abbrev TE:=St->Hp->VK->Prop
noncomputable abbrev TT:=St->Hp->(Bool->Hp->Prop)->Prop
noncomputable abbrev TA:=St->Hp->(List V->Hp->Prop)->Prop
structure ee where
 nx:St->Hp->Prop
 rt:VK
 bk:St->Hp->Prop:=fun _ _=>False
 ct:St->Hp->Prop:=fun _ _=>False
noncomputable abbrev TS:=ee->St->Hp->Prop
noncomputable def EP(X:Cx)(pins:List (Addr×Obj))(σ:St)(Q:VK)(u:Value)(s':Shared):Prop:=∃v H',Inv X pins σ H' s'/\aF v u/\Q v H'
noncomputable def TP(X:Cx)(pins:List (Addr×Obj))(σ:St)(Q:Bool->Hp->Prop)(b:Bool)(s':Shared):Prop:=∃H',Inv X pins σ H' s'/\Q b H'
noncomputable def AP(X:Cx)(pins:List (Addr×Obj))(σ:St)(Q:List V->Hp->Prop)(us:List Value)(s':Shared):Prop:=∃vs H',Inv X pins σ H' s'/\ar vs us/\Q vs H'
noncomputable def SP(X:Cx)(pins:List (Addr×Obj))(D:ee)(f:Flow)(s':Shared):Prop:=
 match f with
 |.next=>∃σ' H',Inv X pins σ' H' s'/\D.nx σ' H'
 |.brk=>∃σ' H',Inv X pins σ' H' s'/\D.bk σ' H'
 |.cont=>∃σ' H',Inv X pins σ' H' s'/\D.ct σ' H'
 |.ret u=>∃v σ' H',Inv X pins σ' H' s'/\aF v u/\D.rt v H'
noncomputable def PEd(X:Cx)(e:Expr)(t:TE):Prop:=
 ∀(pins:List (Addr×Obj)) (s:Shared) (σ:St) (H:Hp) (Q:VK),Inv X pins σ H s->t σ H Q->wpAny (model X.prog X.w) X.A (eval e X.env) (EP X pins σ Q) X.xe s
structure PE(X:Cx)(e:Expr)(t:TE):Prop where
 run:PEd X e t
noncomputable instance {X:Cx} {e:Expr} {t:TE}:CoeFun (PE X e t) (fun _=>PEd X e t):=⟨PE.run⟩
noncomputable instance {X:Cx} {e:Expr} {t:TE}:Coe (PE X e t) (PEd X e t):=⟨PE.run⟩
noncomputable def PT(X:Cx)(e:Expr)(t:TT):Prop:=
 ∀(pins:List (Addr×Obj)) (s:Shared) (σ:St) (H:Hp) (Q:Bool->Hp->Prop),Inv X pins σ H s->t σ H Q->wpAny (model X.prog X.w) X.A (isTrue e X.env (eval e X.env)) (TP X pins σ Q) X.xe s
noncomputable def PW(X:Cx)(e:Expr)(t:TT):Prop:=
 ∀(whole:Sem Value) (pins:List (Addr×Obj)) (s:Shared) (σ:St) (H:Hp) (Q:Bool->Hp->Prop),Inv X pins σ H s->t σ H Q->wpAny (model X.prog X.w) X.A (isTrue e X.env whole) (TP X pins σ Q) X.xe s
theorem PW.pt{X:Cx}{e:Expr}{t:TT}(h:PW X e t):PT X e t:=h _
noncomputable def PAd(X:Cx)(es:List Expr)(t:TA):Prop:=
 ∀(pos:Pos) (pins:List (Addr×Obj)) (s:Shared) (σ:St) (H:Hp) (Q:List V->Hp->Prop),Inv X pins σ H s->t σ H Q->wpAny (model X.prog X.w) X.A (spliced (backTo pos (starEach es X.env))) (AP X pins σ Q) X.xe s
structure PA(X:Cx)(es:List Expr)(t:TA):Prop where
 run:PAd X es t
noncomputable instance {X:Cx} {es:List Expr} {t:TA}:CoeFun (PA X es t) (fun _=>PAd X es t):=⟨PA.run⟩
noncomputable instance {X:Cx} {es:List Expr} {t:TA}:Coe (PA X es t) (PAd X es t):=⟨PA.run⟩
noncomputable def PSd(X:Cx)(st:Stmt)(t:TS):Prop:=
 ∀(pins:List (Addr×Obj)) (s:Shared) (σ:St) (H:Hp) (D:ee),Inv X pins σ H s->t D σ H->wpAny (model X.prog X.w) X.A (exec st X.env) (SP X pins D) X.xe s
structure PS(X:Cx)(st:Stmt)(t:TS):Prop where
 run:PSd X st t
noncomputable instance {X:Cx} {st:Stmt} {t:TS}:CoeFun (PS X st t) (fun _=>PSd X st t):=⟨PS.run⟩
noncomputable instance {X:Cx} {st:Stmt} {t:TS}:Coe (PS X st t) (PSd X st t):=⟨PS.run⟩
noncomputable def xD(X:Cx)(st:List Stmt)(t:TS):Prop:=
 ∀(pins:List (Addr×Obj)) (s:Shared) (σ:St) (H:Hp) (D:ee),Inv X pins σ H s->t D σ H->wpAny (model X.prog X.w) X.A (execs st X.env) (SP X pins D) X.xe s
structure PSs(X:Cx)(st:List Stmt)(t:TS):Prop where
 run:xD X st t
noncomputable instance {X:Cx} {st:List Stmt} {t:TS}:CoeFun (PSs X st t) (fun _=>xD X st t):=⟨PSs.run⟩
noncomputable instance {X:Cx} {st:List Stmt} {t:TS}:Coe (PSs X st t) (xD X st t):=⟨PSs.run⟩
theorem thn{α:Type}{t:Sem α}{Q Q':α->Shared->Prop}{M:Model}{A:Around}{E:Value->Shared->Prop}{s:Shared}(h:wpAny M A t Q E s)(hQ:∀a s,Q a s->Q' a s):wpAny M A t Q' E s:=wpAny_mono h hQ fun _ _ x=>x
section
variable{X:Cx}
noncomputable def tU(i:Nat):TE:=fun σ H Q=>∃v,σ[i]?=some (some v)/\Q v H
noncomputable def tC(v:V):TE:=fun _ H Q=>Q v H
theorem sI{i:Nat}{x:Str}{pos:Pos}(hN:X.N[i]?=some x)(hv:Vis X.env.scope x)(hd:(x == ("__debug__":Str))=false:=by decide)(hcd:(x == ("__classdict__":Str))=false:=by decide):PE X (.Name x pos) (tU i):=.mk <| by
 intro pins s σ H Q I h;obtain⟨v,e,h⟩:=h;obtain⟨m,hn,hl⟩:=I.loc;obtain⟨u,r,l⟩:=hl i x v hN e hv;have fin:EP X pins σ Q u s:=⟨v,H,I,r,h⟩;rcases l with⟨hk,hm⟩|⟨hk,c,hc,hcell⟩
 ·exact wpAny_Name (wpAny_loadName_local I.ok.kind hk hn hm fin) hd
 ·rcases hk with hk|hk
  ·exact wpAny_Name (wpAny_loadName_cell I.ok.kind hk hc hcell fin) hd
  ·exact wpAny_Name (wpAny_loadName_free I.ok.kind hk hc hcell fin hcd) hd
theorem ah{i j pos}:PE X (.Constant (.int i) j pos) (tC (.int i)):=.mk <| fun _ _ _ H _ I h=>wpAny_Constant_int ⟨.int i,H,I.tok _,⟨_,rfl⟩,h⟩
theorem iH{b j pos}:PE X (.Constant (.bool b) j pos) (tC (.bl b)):=.mk <| fun _ _ _ H _ I h=>Constant_bool ⟨.bl b,H,I,rfl,h⟩
theorem xG{j pos}:PE X (.Constant .none j pos) (tC .non):=.mk <| fun _ _ _ H _ I h=>Constant_none ⟨.non,H,I,rfl,h⟩
theorem wE{x j pos}:PE X (.Constant (.str x) j pos) (tC (.str x)):=.mk <| fun _ _ _ H _ I h=>Calls.Constant_str ⟨.str x,H,I.tok _,⟨_,rfl⟩,h⟩
noncomputable def Gl(X:Cx)(x:Str):Prop:=X.env.kindOf x=some .globalImplicit
theorem fD{E:Value->Shared->Prop}{pins:List (Addr×Obj)}{s:Shared}{σ:St}{H:Hp}{x:Str}{u:Value}{pos:Pos}{Q:Value->Shared->Prop}(I:Inv X pins σ H s)(hg:Gl X x)(hm:X.mg x=some u)(h:Q u s)(hd:(x == ("__debug__":Str))=false:=by decide):wpAny (model X.prog X.w) X.A (eval (.Name x pos) X.env) Q E s:=
 Calls.Name_function_global I.ok.kind hg (Calls.loadGlobal_global (by rw[I.ok.glob];exact I.mod.glob.keeps I.bk) hm h) hd
theorem km{E:Value->Shared->Prop}{pins:List (Addr×Obj)}{s:Shared}{σ:St}{H:Hp}{x:Str}{u:Value}{pos:Pos}{Q:Value->Shared->Prop}(I:Inv X pins σ H s)(hg:Gl X x)(hm:X.mg x=none)(hv:bootBuiltins x=some u)(h:Q u s)(hn:x≠"__name__":=by decide)(hd:(x == ("__debug__":Str))=false:=by decide):wpAny (model X.prog X.w) X.A (eval (.Name x pos) X.env) Q E s:=by
 obtain⟨mb,h1,h2⟩:=I.mod.blt;exact Calls.Name_function_global I.ok.kind hg (Calls.loadGlobal_builtin (by rw[I.ok.glob];exact I.mod.glob.keeps I.bk) hm (by rw[I.ok.blt];exact h1.keeps I.bk) ((h2 x hn).trans hv) h) hd
theorem cD{x:Str}{v:V}{u:Value}{pos:Pos}(hg:Gl X x)(hm:X.mg x=some u)(r:aF v u)(hd:(x == ("__debug__":Str))=false:=by decide):PE X (.Name x pos) (tC v):=.mk <|
 fun _ _ _ H _ I h=>fD I hg hm ⟨v,H,I,r,h⟩ hd
theorem g9{x:Str}{v:V}{u:Value}{pos:Pos}(hg:Gl X x)(hm:X.mg x=none)(hv:bootBuiltins x=some u)(r:aF v u)(hn:x≠"__name__":=by decide)(hd:(x == ("__debug__":Str))=false:=by decide):PE X (.Name x pos) (tC v):=.mk <|
 fun _ _ _ H _ I h=>km I hg hm hv ⟨v,H,I,r,h⟩ hn hd
variable{a b:Expr}{ta tb:TE}{pos:Pos}
variable{tA tB':TT}{aL:List Expr}
noncomputable def yQ(t u:TT):TT:=fun σ H Q=>t σ H fun c H1=>if c=true then u σ H1 Q else Q false H1
noncomputable def tOr(t u:TT):TT:=fun σ H Q=>t σ H fun c H1=>if c=true then Q true H1 else u σ H1 Q
noncomputable def xX(t:TT):TT:=fun σ H Q=>t σ H fun c H1=>Q (!c) H1
theorem uQ(ha:PT X a tA):PW X (.BoolOp .And [a] pos) tA:=by
 intro wh pins s σ H Q I h;refine isTrue_and (thn (ha pins s σ H Q I h) fun c s1 e=>?_)
 cases c with
 |true=>exact isTrue_and_nil e
 |false=>exact e
theorem kH(ha:PT X a tA):PW X (.BoolOp .Or [a] pos) tA:=by
 intro wh pins s σ H Q I h;refine isTrue_or (thn (ha pins s σ H Q I h) fun c s1 e=>?_)
 cases c with
 |false=>exact isTrue_or_nil e
 |true=>exact e
theorem wV(ha:PT X a tA)(hb:PW X (.BoolOp .And (b::aL) pos) tB'):PW X (.BoolOp .And (a::b::aL) pos) (yQ tA tB'):=by
 intro wh pins s σ H Q I h;refine isTrue_and (thn (ha pins s σ H _ I h) fun c s1 ⟨H1,I1,q1⟩=>?_)
 cases c with
 |true=>exact hb wh pins s1 σ H1 Q I1 q1
 |false=>exact⟨H1,I1,q1⟩
theorem lA(ha:PT X a tA)(hb:PW X (.BoolOp .Or (b::aL) pos) tB'):PW X (.BoolOp .Or (a::b::aL) pos) (tOr tA tB'):=by
 intro wh pins s σ H Q I h;refine isTrue_or (thn (ha pins s σ H _ I h) fun c s1 ⟨H1,I1,q1⟩=>?_)
 cases c with
 |true=>exact⟨H1,I1,q1⟩
 |false=>exact hb wh pins s1 σ H1 Q I1 q1
theorem dO(ha:PT X a tA):PT X (.UnaryOp .Not a pos) (xX tA):=by
 intro pins s σ H Q I h;exact isTrue_not (ha pins s σ H (fun c H1=>Q (!c) H1) I h)
theorem wm{op}{t:TE}(h:PE X a t):PE X (.BoolOp op [a] pos) t:=.mk <| fun pins s σ H Q I hw=>BoolOp_one (h pins s σ H Q I hw)
end
noncomputable def SqL(K:W.Frag)(H:Hp)(a:Addr)(xs:List V):Prop:=
 Rd H a (.lst xs) \/
  ∃(o:Obj)(its:Array Value)(n:Nat),K.lookup a=some o/\o.cls=.type "list"/\o.dict=none/\o.data=.seq its n/\its.size<=sizeLine/\ar xs its.toList
noncomputable def SqT(K:W.Frag)(H:Hp)(a:Addr)(xs:List V):Prop:=
 Rd H a (.tup xs) \/
  ∃(o:Obj)(its:Array Value)(n:Nat),K.lookup a=some o/\o.cls=.type "tuple"/\o.data=.seq its n/\its.size<=sizeLine/\ar xs its.toList
noncomputable def zN:Value->Option V
 |.none=>some .non
 |.bool b=>some (.bl b)
 |.int i _=>some (.int i)
 |.str x _=>some (.str x)
 |.bytes b _=>some (.byt b)
 |.float b _=>some (.flt b)
 |.ref a=>some (.ref a)
 |.type n=>some (.ty n)
 |_=>none
theorem aF.abs{x:V}{u:Value}(r:aF x u):zN u=some x:=by
 cases x with
 |non=>cases r;rfl
 |bl _=>cases r;rfl
 |int _=>obtain⟨t,rfl⟩:=r;rfl
 |str _=>obtain⟨t,rfl⟩:=r;rfl
 |byt _=>obtain⟨t,rfl⟩:=r;rfl
 |flt _=>obtain⟨t,rfl⟩:=r;rfl
 |ref _=>cases r;rfl
 |ty _=>cases r;rfl
theorem aF.inj{x y:V}{u:Value}(r:aF x u)(q:aF y u):x=y:=Option.some.inj (r.abs.symm.trans q.abs)
theorem ar.inj:∀ {xs ys:List V} {us:List Value},ar xs us->ar ys us->xs=ys
 |_,_,_,.nil,.nil=>rfl
 |_,_,_,.cons r t,.cons r' t'=>by rw[r.inj r',ar.inj t t']
section
variable{X:Cx}{pins:List (Addr×Obj)}{σ:St}{H:Hp}{s:Shared}{a:Addr}{xs ys:List V}
theorem SqL.of{K:W.Frag}(h:H a=some (.lst xs)):SqL K H a xs:=.inl (.inl h)
theorem SqT.of{K:W.Frag}(h:H a=some (.tup xs)):SqT K H a xs:=.inl (.inl h)
theorem Inv.list(I:Inv X pins σ H s)(h:SqL X.K H a xs):∃its:List Value,ar xs its/\PlainL s.heap a its.toArray/\xs.length<=sizeLine:=by
 rcases h with h|⟨o,its,n,hk,hc,hd,hs,hz,r⟩
 ·obtain⟨z,its,n,r,e⟩:=h.ok I.hok
  exact⟨its,r,⟨_,n,e,rfl,rfl,rfl⟩,z⟩
 ·refine⟨its.toList,r,⟨o,n,I.kIn a o hk,hc,hd,by simpa using hs⟩,?_⟩
  have e:=r.length;simp only[Array.length_toList] at e;omega
theorem Inv.tuple(I:Inv X pins σ H s)(h:SqT X.K H a xs):∃its:List Value,ar xs its/\IsTup s.heap a its.toArray/\xs.length<=sizeLine:=by
 rcases h with h|⟨o,its,n,hk,hc,hs,hz,r⟩
 ·obtain⟨z,its,r,p⟩:=h.ok I.hok
  exact⟨its,r,p.1,z⟩
 ·refine⟨its.toList,r,⟨o,I.kIn a o hk,hc,n,by simpa using hs⟩,?_⟩
  have e:=r.length;simp only[Array.length_toList] at e;omega
theorem Inv.Ar(I:Inv X pins σ H s)(h:SqL X.K H a xs)(h':SqL X.K H a ys):xs=ys:=by
 obtain⟨its,r,⟨o,n,e,_,_,d⟩,_⟩:=I.list h;obtain⟨its',r',⟨o',n',e',_,_,d'⟩,_⟩:=I.list h';rw[e] at e';cases e';rw[d] at d';injection d' with d1 _;have:its=its':=by simpa using congrArg Array.toList d1
 subst this;exact r.inj r'
theorem Inv.Ap(I:Inv X pins σ H s)(h:SqT X.K H a xs)(h':SqT X.K H a ys):xs=ys:=by
 obtain⟨its,r,⟨o,e,_,n,d⟩,_⟩:=I.tuple h;obtain⟨its',r',⟨o',e',_,n',d'⟩,_⟩:=I.tuple h';rw[e] at e';cases e';rw[d] at d';injection d' with d1 _;have:its=its':=by simpa using congrArg Array.toList d1
 subst this;exact r.inj r'
end
noncomputable abbrev Cx.wish(X:Cx)(E:Value->Shared->Prop):Cx:={ X with xe:=E }
noncomputable abbrev Cx.nox(X:Cx):Cx:=X.wish fun _ _=>False
theorem Cx.Ok.wish{X:Cx}(ok:X.Ok)(E:Value->Shared->Prop):(X.wish E).Ok:=
 ⟨ok.mod,ok.kind,ok.glob,ok.blt,ok.above,ok.inj,ok.has,ok.cab,ok.hd,ok.frames,ok.stk,ok.exf,ok.bs,ok.bsz,ok.noex,ok.exfs,ok.funs,ok.frf,ok.tt⟩
theorem Cx.Ok.unwish{X:Cx}{E:Value->Shared->Prop}(ok:(X.wish E).Ok):X.Ok:=
 ⟨ok.mod,ok.kind,ok.glob,ok.blt,ok.above,ok.inj,ok.has,ok.cab,ok.hd,ok.frames,ok.stk,ok.exf,ok.bs,ok.bsz,ok.noex,ok.exfs,ok.funs,ok.frf,ok.tt⟩
section
variable{X:Cx}{pins:List (Addr×Obj)}{σ:St}{H:Hp}{s:Shared}{E:Value->Shared->Prop}
theorem Inv.wish(I:Inv X pins σ H s)(E:Value->Shared->Prop):Inv (X.wish E) pins σ H s:=⟨I.ok.wish E,I.os,I.bare,I.base,I.loc,I.cell,I.free,I.freeC,I.pin,I.hok,I.len⟩
theorem Inv.unwish(I:Inv (X.wish E) pins σ H s):Inv X pins σ H s:=⟨I.ok.unwish,I.os,I.bare,I.base,I.loc,I.cell,I.free,I.freeC,I.pin,I.hok,I.len⟩
theorem SP.unwish{D:ee}{f:Flow}{s':Shared}(h:SP (X.wish E) pins D f s'):SP X pins D f s':=by
 cases f with
 |next=>obtain⟨σ',H',I,q⟩:=h;exact⟨σ',H',I.unwish,q⟩
 |brk=>obtain⟨σ',H',I,q⟩:=h;exact⟨σ',H',I.unwish,q⟩
 |cont=>obtain⟨σ',H',I,q⟩:=h;exact⟨σ',H',I.unwish,q⟩
 |ret u=>obtain⟨v,σ',H',I,r,q⟩:=h;exact⟨v,σ',H',I.unwish,r,q⟩
theorem PT.nox{e:Expr}{t:TT}(h:PT X.nox e t):PT X e t:=fun pins s σ H Q I hw=>
 wpAny_mono (h pins s σ H Q (I.wish _) hw) (fun _ _ ⟨H',I',q⟩=>⟨H',I'.unwish,q⟩) fun _ _ z=>False.elim z
theorem PSs.nox{st:List Stmt}{t:TS}(h:PSs X.nox st t):PSs X st t:=.mk <| fun pins s σ H D I hw=>
 wpAny_mono (h pins s σ H D (I.wish _) hw) (fun _ _ q=>q.unwish) fun _ _ z=>False.elim z
end
section
variable{X:Cx}{st:Stmt}{aL:List Stmt}{t u:TS}{e:Expr}{te:TE}{pos:Pos}
noncomputable def vk:TS:=fun D σ H=>D.nx σ H
noncomputable def wQ(t u:TS):TS:=fun D σ H=>t { D with nx:=u D } σ H
theorem cw:PSs X [] vk:=.mk <| fun _ _ σ H _ I h=>wpAny_execs_nil ⟨σ,H,I,h⟩
theorem am(h1:PS X st t)(h2:PSs X aL u):PSs X (st::aL) (wQ t u):=.mk <| by
 intro pins s σ H D I h;refine wpAny_execs_cons (thn (h1 pins s σ H { D with nx:=u D } I h) fun f s1 q=>?_)
 cases f with
 |next=>
  obtain⟨σ',H',I',q⟩:=q;exact h2 pins s1 σ' H' D I' q
 |ret v=>exact q
 |brk=>exact q
 |cont=>exact q
theorem aB(h1:PS X st t):PSs X [st] t:=.mk <| by
 intro pins s σ H D I h;refine wpAny_execs_cons (thn (h1 pins s σ H D I h) fun f s1 q=>?_)
 cases f with
 |next=>exact wpAny_execs_nil q
 |ret v=>exact q
 |brk=>exact q
 |cont=>exact q
theorem Inv.quiet{pins:List (Addr×Obj)}{σ:St}{H:Hp}{s:Shared}(I:Inv X pins σ H s):interactive X.env=false:=by simp[interactive,I.ok.kind]
noncomputable def pd(te:TE):TS:=fun D σ H=>te σ H fun _ H1=>D.nx σ H1
theorem oH(he:PE X e te)(hs:swapsWith e none pos.line X.env=pure false:=by rfl):PS X (.Expr e pos) (pd te):=.mk <| by
 intro pins s σ H D I h;exact wpAny_Expr_any (thn (he pins s σ H _ I h) fun v s1 ⟨x,H1,I1,r1,q1⟩=>⟨σ,H1,I1,q1⟩) I.quiet hs
noncomputable def ym(te:TE):TS:=fun D σ H=>te σ H D.rt
theorem bB(he:PE X e te):PS X (.Return (some e) pos) (ym te):=.mk <| by
 intro pins s σ H D I h;exact wpAny_Return_some (thn (he pins s σ H _ I h) fun v s1 ⟨x,H1,I1,r1,q1⟩=>⟨x,σ,H1,I1,r1,q1⟩)
noncomputable def v7(c:TT)(t u:TS):TS:=fun D σ H=>c σ H fun b H1=>if b=true then t D σ H1 else u D σ H1
theorem ff{c:Expr}{a b:List Stmt}{tc:TT}(hc:PT X c tc)(ha:PSs X a t)(hb:PSs X b u):PS X (.If c a b pos) (v7 tc t u):=.mk <| by
 intro pins s σ H D I h;refine wpAny_If (thn (hc pins s σ H _ I h) fun d s1 ⟨H1,I1,q1⟩=>?_)
 cases d with
 |true=>exact ha pins s1 σ H1 D I1 q1
 |false=>exact hb pins s1 σ H1 D I1 q1
end
noncomputable abbrev TG:=V->St->Hp->(St->Hp->Prop)->Prop
noncomputable abbrev TGs:=List V->St->Hp->(St->Hp->Prop)->Prop
noncomputable def PG(X:Cx)(target:Expr)(t:TG):Prop:=
 ∀(pins:List (Addr×Obj)) (s:Shared) (σ:St) (H:Hp) (v:V) (u:Value) (Q:St->Hp->Prop),Inv X pins σ H s->aF v u->t v σ H Q ->
  wpAny (model X.prog X.w) X.A (assign target X.env u) (fun _ s'=>∃σ' H',Inv X pins σ' H' s'/\Q σ' H') X.xe s
noncomputable abbrev wg:=V->V->V->Hp->(Hp->Prop)->Prop
noncomputable def yB(X:Cx)(t:wg):Prop:=
 ∀(pins:List (Addr×Obj)) (s:Shared) (σ:St) (H:Hp) (o i v:V) (ov iv u:Value) (Q:Hp->Prop),Inv X pins σ H s->aF o ov->aF i iv->aF v u->t o i v H Q ->
  wpAny (model X.prog X.w) X.A (setItem ov iv u) (fun _ s'=>∃H',Inv X pins σ H' s'/\Q H') X.xe s
section
variable{X:Cx}{pos:Pos}
noncomputable def kI(i:Nat):TG:=fun v σ H Q=>Q (σ.set i (some v)) H
theorem bE{i:Nat}{x:Str}(hN:X.N.Nodup)(hi:X.N[i]?=some x)(hx:Loc X.env.scope x)(hf:X.fn x=true\/X.env.scope.names.lookup x=some .local:=by first|exact .inl rfl|exact .inr rfl|assumption):PG X (.Name x pos) (kI i):=by
 intro pins s σ H v u Q I r h;exact wpAny_assign_Name (ic I hN hi hx r (fun s' I'=>⟨_,H,I',h⟩) hf)
noncomputable def xW(to ti:TE)(t:wg):TG:=fun v σ H Q=>to σ H fun o H1=>ti σ H1 fun i H2=>t o i v H2 fun H3=>Q σ H3
theorem qT{o i:Expr}{to ti:TE}{t:wg}(ho:PE X o to)(hi:PE X i ti)(hs:yB X t)
  (ha:∀v,assign (.Subscript o i pos) X.env v=(do
   let ov ← holding [v] (eval o X.env)
   let iv ← holding [v,ov] (eval i X.env)
   standAt pos
   holding [v,ov,iv] (setItem ov iv v)
   release [v,ov,iv] []):=by intro _;rfl):PG X (.Subscript o i pos) (xW to ti t):=by
 intro pins s σ H v u Q I r h;rw[ha];refine wpAny_bind (wpAny_holding (thn (ho pins s σ H _ I h) fun ov s1 ⟨x,H1,I1,r1,q1⟩=>?_));refine wpAny_bind (wpAny_holding (thn (hi pins s1 σ H1 _ I1 q1) fun iv s2 ⟨y,H2,I2,r2,q2⟩=>?_));refine wpAny_bind (wpAny_standAt (wpAny_bind (wpAny_holding (thn (hs pins s2 σ H2 x y v ov iv u _ I2 r1 r2 r q2) fun _ s3 ⟨H3,I3,q3⟩=>?_))));exact wpAny_release ⟨σ,H3,I3,q3⟩
noncomputable def qz(te:TE)(g:TG):TS:=fun D σ H=>te σ H fun x H1=>g x σ H1 D.nx
theorem tE{tg e:Expr}{te:TE}{g:TG}(he:PE X e te)(hg:PG X tg g)(hs:swapsWithSole [tg] e pos.line X.env=pure false:=by rfl)(hw:swappedStores [tg] e X.env=pure none:=by rfl)(h1:(assignEach [tg] X.env).map (·.2)=[assign tg X.env]:=by rfl):PS X (.Assign [tg] e pos) (qz te g):=.mk <| by
 intro pins s σ H D I h;refine wpAny_Assign_stores (thn (he pins s σ H _ I h) fun v s1 ⟨x,H1,I1,r1,q1⟩=>?_) hs hw;rw[h1];exact thn (hg pins s1 σ H1 x v _ I1 r1 q1) fun _ s2 q=>q
theorem aU{i:Nat}{x:Str}{e:Expr}{te:TE}{pos':Pos}(hN:X.N.Nodup)(hi:X.N[i]?=some x)(hx:Loc X.env.scope x)(he:PE X e te)(hs:swapsWith e (some (.Name x pos')) pos.line X.env=pure false:=by rfl)(hf:X.fn x=true\/X.env.scope.names.lookup x=some .local:=by first|exact .inl rfl|exact .inr rfl|assumption):
  PS X (.Assign [.Name x pos'] e pos) (qz te (kI i)):=.mk <| by
 intro pins s σ H D I h;refine wpAny_Assign_Name (thn (he pins s σ H _ I h) fun v s1 ⟨y,H1,I1,r1,q1⟩=>?_) hs;exact ic I1 hN hi hx r1 (fun s2 I2=>⟨_,H1,I2,q1⟩) hf
end
structure It where
 go:Nat->Hp->Prop
 yld:Nat->Hp->V->Hp->Prop
 stop:Nat->Hp->Prop
noncomputable def f7(X:Cx)(pins:List (Addr×Obj))(H:Hp)(b:Addr):Prop:=
 H b=none/\b≠X.env.locals/\b ∉ X.fs/\(b∈X.ex\/X.s₀.heap.objs.size<=b)/\(∀x c,X.env.cells.lookup x=some c->c≠b)/\∀p∈X.pn++pins,p.1≠b
theorem Inv.Av{X:Cx}{pins:List (Addr×Obj)}{σ:St}{H H':Hp}{s:Shared}{b:Addr}(I:Inv X pins σ H s)(hb:s.heap.objs.size<=b)(hn:H' b=none):f7 X pins H' b:=by
 refine⟨hn,Nat.ne_of_gt (Nat.lt_of_lt_of_le I.lt hb),I.nofs hb,.inr (Nat.le_trans I.sz hb),fun x c e z=>?_,fun p hp z=>?_⟩
 ·obtain⟨v,q⟩:=I.cell x c e
  exact absurd (Nat.lt_of_lt_of_le q.lt (by rw[z];exact hb)) (Nat.lt_irrefl _)
 ·exact absurd (Nat.lt_of_lt_of_le (Heap.lt_size (I.pin p hp).1) (by rw[z];exact hb)) (Nat.lt_irrefl _)
structure tP(P:Program)(w:World)(K:W.Frag)(tg:Expr)(J:It)(fp:List Addr)(it:Addr)(tn:Nat->Heap->Prop):Prop where
 mem:it∈fp
 obj:∀i h,tn i h->∀b∈fp,∃o,h.get? b=some o/\∀v,o.data≠.cell v
 keep:∀i h h',tn i h->(∀b∈fp,∀o,h.get? b=some o->h'.get? b=some o)->tn i h'
 item:∀(X:Cx),X.prog=P->X.w=w->X.K=K->X.calm=true->∀(i:Nat) (pins:List (Addr×Obj)) (s:Shared) (σ:St) (H:Hp) (E:Value->Shared->Prop),Inv X pins σ H s->(∀b∈fp,f7 X pins H b)->tn i s.heap->J.go i H ->
  wpAny (model P w) X.A (pyNext (.ref it)) (fun r s1=>∃u,r=some u /\
   wpAny (model P w) X.A (letOwnedTupleGo tg (.ref it) u) (fun _ s2=>∃x H',Inv X pins σ H' s2/\aF x u/\J.yld i H x H'/\tn (i+1) s2.heap/\∀b∈fp,H' b=none) E s1) E s
 done:∀(X:Cx),X.prog=P->X.w=w->X.K=K->X.calm=true->∀(i:Nat) (pins:List (Addr×Obj)) (s:Shared) (σ:St) (H:Hp) (E:Value->Shared->Prop),Inv X pins σ H s->(∀b∈fp,f7 X pins H b)->tn i s.heap->J.stop i H ->
  wpAny (model P w) X.A (pyNext (.ref it)) (fun r s1=>r=none/\Inv X pins σ H s1) E s
 self:∀(A:Around)(i:Nat)(s:Shared)(Q:Value->Shared->Prop)(E:Value->Shared->Prop),tn i s.heap->Q (.ref it) s->wpAny (model P w) A (pyIter (.ref it)) Q E s
noncomputable abbrev TI:=St->Hp->(It->Hp->Prop)->Prop
noncomputable def PIE(X:Cx)(pins:List (Addr×Obj))(σ:St)(tg:Expr)(R:It->Hp->Prop)(itv:Value)(s2:Shared):Prop:=
 ∃(it:Addr)(fp:List Addr)(tn:Nat->Heap->Prop)(J:It)(H':Hp),itv=.ref it/\Inv X pins σ H' s2/\tP X.prog X.w X.K tg J fp it tn/\tn 0 s2.heap/\(∀b∈fp,f7 X pins H' b)/\R J H'
noncomputable def PI(X:Cx)(tg iter:Expr)(wi:TI):Prop:=
 ∀(pins:List (Addr×Obj)) (s:Shared) (σ:St) (H:Hp) (R:It->Hp->Prop),Inv X pins σ H s->wi σ H R ->
  wpAny (model X.prog X.w) X.A (eval iter X.env) (fun v s1=>wpAny (model X.prog X.w) X.A (pyIter v) (PIE X pins σ tg R) X.xe s1) X.xe s
theorem sY{M:Model}{A:Around}{E:Value->Shared->Prop}{s:Shared}{tg:Expr}{it:Addr}{u:Value}{o:Obj}{n:String}{vs:Array Value}{Q:Unit->Shared->Prop}(ho:s.heap.get? it=some o)(hc:o.cls=.type n)(hd:o.data=.fields vs)(hn:["enumerate","zip","dict_itemiterator","dict_reverseitemiterator","odict_iterator","itertools.zip_longest","itertools.pairwise"].contains n=false)(hQ:Q () s):wpAny M A (letOwnedTupleGo tg (.ref it) u) Q E s:=by
  unfold letOwnedTupleGo
  cases tg<;>first
    |exact wpAny_pure hQ
    | (cases u<;>first
        |exact wpAny_pure hQ
        | (refine wpAny_bind (wpAny_load ho ?_)
           rw[hc,hd];show wpAny M A (if (["enumerate","zip","dict_itemiterator","dict_reverseitemiterator","odict_iterator","itertools.zip_longest","itertools.pairwise"].contains n && vs[0]? == some (rawInt _))=true then _ else _) Q E s
           rw[if_neg (by intro h;rw[hn,Bool.false_and] at h;cases h)]
           exact wpAny_pure hQ))
noncomputable def Itl(K:W.Frag)(a:Addr):It:=
 ⟨fun i H=>∃xs x,SqL K H a xs/\xs[i]?=some x,fun i H x H'=>H'=H/\∀xs,SqL K H a xs->xs[i]?=some x,fun i H=>∃xs,SqL K H a xs/\xs.length<=i⟩
noncomputable def Itt(K:W.Frag)(a:Addr):It:=
 ⟨fun i H=>∃xs x,SqT K H a xs/\xs[i]?=some x,fun i H x H'=>H'=H/\∀xs,SqT K H a xs->xs[i]?=some x,fun i H=>∃xs,SqT K H a xs/\xs.length<=i⟩
noncomputable def Itr(lo:Int)(n:Nat):It:=⟨fun i _=>i<n,fun i H x H'=>H'=H/\x=.int (lo+i),fun i _=>n<=i⟩
theorem pR{P:Program}{w:World}{K:W.Frag}{tg:Expr}(a it:Addr):tP P w K tg (Itl K a) [it] it (fun i h=>h.IsListIter it a i) where
 mem:=by simp
 obj:=fun i h st b hb=>by
  have e:b=it:=by simpa using hb
  subst e;obtain⟨o,e,c,d⟩:=st;exact⟨o,e,fun v z=>by rw[d] at z;cases z⟩
 keep:=fun i h h' st k=>st.at fun o e=>k it (by simp) o e
 item:=by
  intro X hP hw hK hc i pins s σ H E I hf st hg;subst hP hw hK;obtain⟨xs,x,hq,hx⟩:=hg;obtain⟨its,rv,p,hz⟩:=I.list hq;obtain⟨u,hu,ru⟩:=rv.get hx;obtain⟨f0,f1,f2,f3,f4,f5⟩:=hf it (by simp)
  refine wpAny_pyNext_list_item st p.isList (x:=u) (by simpa using hu) fun h' st' sb=>?_
  have I1:Inv X pins σ H { s with heap:=h' }:=I.turned (t':=s.toks) (fun b o hb e=>(sb.2 b hb).trans e) f0 f1 f3 f4 f5;obtain⟨o,e,c,d⟩:=id st';exact⟨u,rfl,sY (s:={ s with heap:=h' }) e c d (by decide) ⟨x,H,I1,ru,⟨rfl,fun ys hy=>by rw[I.Ar hy hq];exact hx⟩,st',fun b hb=>(hf b hb).1⟩⟩
 done:=by
  intro X hP hw hK hc i pins s σ H E I hf st hg;subst hP hw hK;obtain⟨xs,hq,hx⟩:=hg;obtain⟨its,rv,p,hz⟩:=I.list hq;obtain⟨f0,f1,f2,f3,f4,f5⟩:=hf it (by simp)
  have hl:=rv.length;exact wpAny_pyNext_list_end (I.ok.hd hc) st p.isList (by simp;omega) fun h' eb=>⟨rfl,I.turned (t':=s.toks) (fun b o hb e=>eb b o hb e) f0 f1 f3 f4 f5⟩
 self:=fun _ _ _ _ _ st h=>wpAny_pyIter_listiter st h
theorem m5{P:Program}{w:World}{K:W.Frag}{tg:Expr}(a it:Addr):tP P w K tg (Itt K a) [it] it (fun i h=>h.IsTupleIter it a i) where
 mem:=by simp
 obj:=fun i h st b hb=>by
  have e:b=it:=by simpa using hb
  subst e;obtain⟨o,e,c,d⟩:=st;exact⟨o,e,fun v z=>by rw[d] at z;cases z⟩
 keep:=fun i h h' st k=>st.at fun o e=>k it (by simp) o e
 item:=by
  intro X hP hw hK hc i pins s σ H E I hf st hg;subst hP hw hK;obtain⟨xs,x,hq,hx⟩:=hg;obtain⟨its,rv,p,hz⟩:=I.tuple hq;obtain⟨u,hu,ru⟩:=rv.get hx;obtain⟨f0,f1,f2,f3,f4,f5⟩:=hf it (by simp)
  refine wpAny_pyNext_tuple_item st (show s.heap.IsTuple a its.toArray from p) (x:=u) (by simpa using hu) fun h' st' sb=>?_
  have I1:Inv X pins σ H { s with heap:=h' }:=I.turned (t':=s.toks) (fun b o hb e=>(sb.2 b hb).trans e) f0 f1 f3 f4 f5;obtain⟨o,e,c,d⟩:=id st';exact⟨u,rfl,sY (s:={ s with heap:=h' }) e c d (by decide) ⟨x,H,I1,ru,⟨rfl,fun ys hy=>by rw[I.Ap hy hq];exact hx⟩,st',fun b hb=>(hf b hb).1⟩⟩
 done:=by
  intro X hP hw hK hc i pins s σ H E I hf st hg;subst hP hw hK;obtain⟨xs,hq,hx⟩:=hg;obtain⟨its,rv,p,hz⟩:=I.tuple hq;obtain⟨f0,f1,f2,f3,f4,f5⟩:=hf it (by simp)
  have hl:=rv.length;exact wpAny_pyNext_tuple_end (I.ok.hd hc) st (show s.heap.IsTuple a its.toArray from p) (by simp;omega) fun h' eb=>⟨rfl,I.turned (t':=s.toks) (fun b o hb e=>eb b o hb e) f0 f1 f3 f4 f5⟩
 self:=fun _ _ _ _ _ st h=>wpAny_pyIter_tupleiter st h
theorem nz{P:Program}{w:World}{K:PySem.W.Frag}{tg:Expr}(it:Addr)(lo:Int)(n:Nat):tP P w K tg (Itr lo n) [it] it (fun i h=>IsRangeIter h it (lo+(i:Nat)*1) ((n:Int)-(i:Nat)) 1) where
 mem:=by simp
 obj:=fun i h st b hb=>by
  have e:b=it:=by simpa using hb
  subst e
  exact⟨_,st,fun v z=>by
   have z':Data.fields _=Data.cell v:=z
   cases z'⟩
 keep:=fun i h h' st k=>k it (by simp) _ st
 item:=by
  intro X hP hw hK hc i pins s σ H E I hf st hg;subst hP hw hK;obtain⟨f0,f1,f2,f3,f4,f5⟩:=hf it (by simp)
  have W:=Walks.range (prog:=X.prog) (w:=X.w) (I.ok.hd hc) it lo 1 n;refine W.item i s _ _ hg st fun v h' tk hv st' kk=>?_;obtain⟨t,rfl⟩:=hv;have I1:Inv X pins σ H { s with heap:=h',toks:=tk }:=I.turned (fun b o hb e=>kk b o (by simpa using hb) e) f0 f1 f3 f4 f5
  refine⟨_,rfl,sY (s:={ s with heap:=h',toks:=tk }) (n:="range_iterator") st' rfl rfl (by decide) ⟨.int (lo+i),H,I1,⟨t,?_⟩,⟨rfl,rfl⟩,st',fun b hb=>(hf b hb).1⟩⟩
  rw[Int.mul_one]
 done:=by
  intro X hP hw hK hc i pins s σ H E I hf st hg;subst hP hw hK;obtain⟨f0,f1,f2,f3,f4,f5⟩:=hf it (by simp)
  exact wpAny_pyNext_range_end (I.ok.hd hc) st (by have:n<=i:=hg;omega) fun h' eb=>⟨rfl,I.turned (t':=s.toks) (fun b o hb e=>eb b o hb e) f0 f1 f3 f4 f5⟩
 self:=fun _ _ _ _ _ st h=>wpAny_pyIter_rangeiter st h
section
variable{X:Cx}{tg:Expr}
theorem sP{pins:List (Addr×Obj)}{σ:St}{H:Hp}{s:Shared}{R:It->Hp->Prop}{E:Value->Shared->Prop}{lo hi:Int}{t u v:Tok}{tk:Nat}(I:Inv X pins σ H s)(h1:-(2^62)<=lo)(h2:lo<2^62)(h3:-(2^62)<=hi)(h4:hi<2^62)(q:R (Itr lo (hi-lo).toNat) H):wpAny (model X.prog X.w) X.A (pyIter (.ref s.heap.objs.size)) (PIE X pins σ tg R) E { s with heap:=s.heap.push { cls:=.type "range",data:=.fields #[.int lo t,.int hi u,.int 1 v] },toks:=tk }:=by
 refine wpAny_pyIter_range (IsRange.new ..) (small_one h1 h2 h3 h4) ?_;have I1:Inv X pins σ H { s with heap:=s.heap.push { cls:=.type "range",data:=.fields #[.int lo t,.int hi u,.int 1 v] },toks:=tk }:=I.kept fun b o e=>Heap.get?_push_of_some _ e
 refine⟨(s.heap.push { cls:=.type "range",data:=.fields #[.int lo t,.int hi u,.int 1 v] }).objs.size,[(s.heap.push { cls:=.type "range",data:=.fields #[.int lo t,.int hi u,.int 1 v] }).objs.size],_,_,H,rfl,
  I1.kept (t':=tk) fun b o e=>Heap.get?_push_of_some _ e,nz _ lo (hi-lo).toNat,?_,fun b hb=>?_,q⟩
 ·have e1:lo+((0:Nat):Int)*1=lo:=by simp
  have e2:(((hi-lo).toNat:Nat):Int)-((0:Nat):Int)=Builtin.Range.rangeSize lo hi 1:=by rw[rangeSize_one];split<;>omega
  show IsRangeIter _ _ (lo+((0:Nat):Int)*1) ((((hi-lo).toNat:Nat):Int)-((0:Nat):Int)) 1;rw[e1,e2];exact Heap.get?_push_size _ rfl
 ·have e:b=(s.heap.push { cls:=.type "range",data:=.fields #[.int lo t,.int hi u,.int 1 v] }).objs.size:=by simpa using hb
  subst e;exact I1.Av (Nat.le_refl _) (I1.hok.fresh (Nat.le_refl _))
noncomputable def vV(ta:TA):TI:=fun σ H R=>ta σ H fun vs H1=>∃j:Int,vs=[.int j]/\-(2^62)<=j/\j<2^62/\R (Itr 0 j.toNat) H1
theorem ci{a:Expr}{ta:TA}{p pos:Pos}(hg:Gl X "range")(hm:X.mg "range"=none)(ha:PA X [a] ta)(hs:starEach [a] X.env=[(false,eval a X.env)]:=by rfl):PI X tg (.Call (.Name "range" p) [a] [] pos) (vV ta):=by
 intro pins s σ H R I h;refine Call_ (km I hg hm boot_range (PyProof.Rows.callWith_type1 (thn (ha pos pins s σ H _ I h) fun us s1 ⟨vs,H1,I1,r1,q1⟩=>?_) hs rfl));obtain⟨j,e,q1,q2,q⟩:=q1;subst e
 cases r1 with
 |cons r rr=>
  cases rr;obtain⟨t,rfl⟩:=r;exact call_range_1 (sP I1 (by omega) (by omega) q1 q2 (by simpa using q))
noncomputable def xB(wi:TI)(g:TG)(tb:TS):TS:=fun D σ H=>wi σ H fun J H1=>∃W:Nat->Nat->St->Hp->Prop,(∃m,W 0 m σ H1)/\∀i m σ H,W i m σ H ->
 (J.stop i H/\D.nx σ H)\/(J.go i H/\∃N:St->Hp->Prop,(∀σ' H',N σ' H'->∃m',m'<m/\W (i+1) m' σ' H')/\∀x H',J.yld i H x H'->g x σ H' fun σ2 H2=>tb { D with nx:=N,ct:=N,bk:=D.nx } σ2 H2)
noncomputable def iU(fp:List Addr)(h:Heap):List (Addr×Obj):=fp.filterMap fun b=>(h.get? b).map fun o=>(b,o)
theorem dS{fp:List Addr}{h:Heap}{b:Addr}{o:Obj}(hb:b∈fp)(e:h.get? b=some o):(b,o)∈iU fp h:=List.mem_filterMap.mpr ⟨b,hb,by rw[e];rfl⟩
theorem qr{fp:List Addr}{h:Heap}{p:Addr×Obj}(hp:p∈iU fp h):p.1∈fp/\h.get? p.1=some p.2:=by
 obtain⟨b,hb,e⟩:=List.mem_filterMap.mp hp
 cases q:h.get? b with
 |none=>rw[q] at e;cases e
 |some o=>
  rw[q] at e;have e':(b,o)=p:=Option.some.inj e;subst e';exact⟨hb,q⟩
theorem Inv.pinned{pins:List (Addr×Obj)}{σ:St}{H:Hp}{s:Shared}{fp:List Addr}(I:Inv X pins σ H s)(hf:∀b∈fp,f7 X pins H b)(ho:∀b∈fp,∃o,s.heap.get? b=some o/\∀v,o.data≠.cell v):Inv X (pins++iU fp s.heap) σ H s:=
 I.Ao fun p hp=>(List.mem_append.mp hp).elim (fun z=>I.pin p (List.mem_append_right _ z)) fun z=>by
  obtain⟨hb,e⟩:=qr z;obtain⟨f0,f1,f2,_⟩:=hf p.1 hb;obtain⟨o,e',d⟩:=ho p.1 hb;rw[e] at e';cases e';exact⟨e,f0,f1,f2,d⟩
theorem Inv.unpinned{pins pl:List (Addr×Obj)}{σ:St}{H:Hp}{s:Shared}(I:Inv X (pins++pl) σ H s):Inv X pins σ H s:=I.Ao fun p hp=>I.pin p (List.mem_append_right _ (List.mem_append_left _ hp))
theorem kF{iter:Expr}{body:List Stmt}{wi:TI}{g:TG}{tb:TS}{pos:Pos}(hp:PassesOwn (model X.prog X.w) X.A X.env X.xe)(hc:X.calm=true)(hi:PI X tg iter wi)(hg:PG X tg g)(hb:PSs X body tb)(hs:∀x,foldedSetIterable iter X.env x=pure x:=by intro _;rfl):PS X (.For tg iter body [] pos) (xB wi g tb):=.mk <| by
 intro pins s σ H D I h;refine wpAny_For (thn (hi pins s σ H _ I h) fun v s1 h1=>thn h1 fun itv s2 h2=>?_) hs;obtain⟨it,fp,tn,J,H2,e,I2,T,st2,f2,W,⟨m0,w0⟩,turn⟩:=h2;subst e;have stat:∀ {H':Hp},(∀b∈fp,H' b=none)->∀b∈fp,f7 X pins H' b:=fun hn b hb=>⟨hn b hb,(f2 b hb).2⟩;refine codeAny_forLoop_any (fun n s'=>∃i σ' H',Inv X pins σ' H' s'/\tn i s'.heap/\(∀b∈fp,H' b=none)/\W i n σ' H') ?_ m0 ⟨0,σ,H2,I2,st2,fun b hb=>(f2 b hb).1,w0⟩
 rintro n s3 ⟨i,σ3,H3,I3,st3,fr3,w3⟩;rcases turn i n σ3 H3 w3 with⟨stop,qn⟩|⟨go,N,hN,step⟩
 ·refine wpAny_passesOwn hp (thn (T.done X rfl rfl rfl hc i pins s3 σ3 H3 X.xe I3 (stat fr3) st3 stop) fun r s4 ⟨hr,I4⟩=>?_)
  subst hr;exact wpAny_execs_nil ⟨σ3,H3,I4,qn⟩
 ·refine wpAny_passesOwn hp (thn (T.item X rfl rfl rfl hc i pins s3 σ3 H3 X.xe I3 (stat fr3) st3 go) fun r s4 ⟨u,hr,h4⟩=>?_)
  subst hr;refine wpAny_passesOwn hp (thn h4 fun _ s5 ⟨x,H5,I5,r5,y5,st5,fr5⟩=>?_);have I5':=I5.pinned (stat fr5) (T.obj _ _ st5);refine wpAny_passesOwn hp (thn (hg _ s5 σ3 H5 x u _ I5' r5 (step x H5 y5)) fun _ s6 ⟨σ6,H6,I6,q6⟩=>?_);refine wpAny_passesOwn hp (thn (hb _ s6 σ6 H6 _ I6 q6) fun f s7 q7=>?_)
  have again:∀ {σ7:St} {H7:Hp},Inv X (pins++iU fp s5.heap) σ7 H7 s7->N σ7 H7->∃m,m<n/\∃i σ' H',Inv X pins σ' H' s7/\tn i s7.heap/\(∀b∈fp,H' b=none)/\W i m σ' H':=fun {σ7 H7} I7 n7=>by
   obtain⟨m',hm,w7⟩:=hN σ7 H7 n7;refine⟨m',hm,i+1,σ7,H7,I7.unpinned,T.keep _ _ _ st5 fun b hb o e=>(I7.pin (b,o) (List.mem_append_right _ (List.mem_append_right _ (dS hb e)))).1,fun b hb=>?_,w7⟩;obtain⟨o,e,d⟩:=T.obj _ _ st5 b hb;exact(I7.pin (b,o) (List.mem_append_right _ (List.mem_append_right _ (dS hb e)))).2.1
  cases f with
  |next=>obtain⟨σ7,H7,I7,n7⟩:=q7;exact again I7 n7
  |cont=>obtain⟨σ7,H7,I7,n7⟩:=q7;exact again I7 n7
  |brk=>obtain⟨σ7,H7,I7,q7⟩:=q7;exact⟨σ7,H7,I7.unpinned,q7⟩
  |ret v=>obtain⟨x7,σ7,H7,I7,r7,q7⟩:=q7;exact⟨x7,σ7,H7,I7.unpinned,r7,q7⟩
end
noncomputable abbrev R2:=V->V->Hp->VK->Prop
noncomputable def OpR(X:Cx)(f:Value->Value->Sem Value)(r:R2):Prop:=
 ∀(pins:List (Addr×Obj)) (s:Shared) (σ:St) (H:Hp) (x y:V) (v u:Value) (Q:VK),Inv X pins σ H s->aF x v->aF y u->r x y H Q ->
  wpAny (model X.prog X.w) X.A (f v u) (EP X pins σ Q) X.xe s
noncomputable def cy(X:Cx)(f:Value)(r:List V->Hp->VK->Prop):Prop:=
 ∀(pins:List (Addr×Obj)) (s:Shared) (σ:St) (H:Hp) (xs:List V) (us:List Value) (Q:VK),Inv X pins σ H s->ar xs us->r xs H Q ->
  wpAny (model X.prog X.w) X.A (call f us) (EP X pins σ Q) X.xe s
noncomputable def zw(X:Cx)(r:V->Hp->(Bool->Hp->Prop)->Prop):Prop:=
 ∀(pins:List (Addr×Obj)) (s:Shared) (σ:St) (H:Hp) (x:V) (v:Value) (Q:Bool->Hp->Prop),Inv X pins σ H s->aF x v->r x H Q ->
  wpAny (model X.prog X.w) X.A (truthy v) (TP X pins σ Q) X.xe s
noncomputable def tOp(r:R2)(ta tb:TE):TE:=fun σ H Q=>ta σ H fun x H1=>tb σ H1 fun y H2=>r x y H2 Q
noncomputable def rI(C:Int->Int->Prop)(g:Int->Int->V):R2:=fun x y H Q=>∃i j,x=.int i/\y=.int j/\C i j/\Q (g i j) H
noncomputable def rI0(g:Int->Int->V):R2:=fun x y H Q=>∃i j,x=.int i/\y=.int j/\Q (g i j) H
section
variable{X:Cx}{a b c:Expr}{ta tb tc:TE}{pos:Pos}
theorem wj(ha:PE X a ta)(hb:PE X b tb){pins:List (Addr×Obj)}{s:Shared}{σ:St}{H:Hp}{R:V->V->Hp->Prop}(I:Inv X pins σ H s)(h:ta σ H fun x H1=>tb σ H1 fun y H2=>R x y H2){Q:Value->Shared->Prop}{f:Value->Value->Sem Value}(hf:∀v u s2 x y H2,Inv X pins σ H2 s2->aF x v->aF y u->R x y H2->wpAny (model X.prog X.w) X.A (f v u) Q X.xe s2):
  wpAny (model X.prog X.w) X.A (eval a X.env) (fun v s₁=>wpAny (model X.prog X.w) X.A (eval b X.env) (fun u s₂=>wpAny (model X.prog X.w) X.A (f v u) Q X.xe s₂) X.xe s₁) X.xe s:=by
 refine thn (ha pins s σ H _ I h) fun v s1 ⟨x,H1,I1,r1,q1⟩=>?_;refine thn (hb pins s1 σ H1 _ I1 q1) fun u s2 ⟨y,H2,I2,r2,q2⟩=>?_;exact hf v u s2 x y H2 I2 r1 r2 q2
theorem ax{op:Operator}{r:R2}(ho:OpR X (binaryOp op) r)(ha:PE X a ta)(hb:PE X b tb):PE X (.BinOp a op b pos) (tOp r ta tb):=.mk <| by
 intro pins s σ H Q I h;exact wpAny_BinOp (wj ha hb I h fun v u s2 x y H2 I2 rx ry q=>ho pins s2 σ H2 x y v u Q I2 rx ry q)
theorem opI{f:Value->Value->Sem Value}{C:Int->Int->Prop}{g:Int->Int->Int}(rule:∀(i j:Int)(t u:Tok)(s:Shared)(Q:Value->Shared->Prop)(E:Value->Shared->Prop),C i j->Q (.int (g i j) s.toks) { s with toks:=s.toks+1 }->wpAny (model X.prog X.w) X.A (f (.int i t) (.int j u)) Q E s):
  OpR X f (rI C fun i j=>.int (g i j)):=by
 intro pins s σ H x y v u Q I rx ry h;obtain⟨i,j,rfl,rfl,hc,q⟩:=h;obtain⟨t,rfl⟩:=rx;obtain⟨t',rfl⟩:=ry;exact rule i j t t' s _ _ hc ⟨.int (g i j),H,I.tok _,⟨_,rfl⟩,q⟩
theorem xg{f:Value->Value->Sem Value}{g:Int->Int->Int}(rule:∀(i j:Int)(t u:Tok)(s:Shared)(Q:Value->Shared->Prop)(E:Value->Shared->Prop),Q (.int (g i j) s.toks) { s with toks:=s.toks+1 }->wpAny (model X.prog X.w) X.A (f (.int i t) (.int j u)) Q E s):
  OpR X f (rI0 fun i j=>.int (g i j)):=by
 intro pins s σ H x y v u Q I rx ry h;obtain⟨i,j,rfl,rfl,q⟩:=h;obtain⟨t,rfl⟩:=rx;obtain⟨t',rfl⟩:=ry;exact rule i j t t' s _ _ ⟨.int (g i j),H,I.tok _,⟨_,rfl⟩,q⟩
theorem xm{f:Value->Value->Sem Value}{g:Int->Int->Bool}(rule:∀(i j:Int)(t u:Tok)(s:Shared)(Q:Value->Shared->Prop)(E:Value->Shared->Prop),Q (.bool (g i j)) s->wpAny (model X.prog X.w) X.A (f (.int i t) (.int j u)) Q E s):
  OpR X f (rI0 fun i j=>.bl (g i j)):=by
 intro pins s σ H x y v u Q I rx ry h;obtain⟨i,j,rfl,rfl,q⟩:=h;obtain⟨t,rfl⟩:=rx;obtain⟨t',rfl⟩:=ry;exact rule i j t t' s _ _ ⟨.bl (g i j),H,I,rfl,q⟩
noncomputable def zM(i j:Int):Prop:=0<j/\j<1073741824
noncomputable def yy(i j:Int):Prop:=0<=j/\j<=1000000/\i.natAbs<2^64
noncomputable def iZ(i j:Int):Prop:=(-(2^64)<i/\i<2^64)\/(-(2^64)<j/\j<2^64)
theorem iZ.ok{i j:Int}(h:iZ i j):IntMulOk i j:=by
 rcases h with⟨h1,h2⟩|⟨h1,h2⟩
 ·exact .of_left (intBits_le_64 h1 h2)
 ·exact .of_right (intBits_le_64 h1 h2)
theorem mV(k:Nat):(0:Int)<=2^k:=by
 rw[two_pow_cast];exact Int.natCast_nonneg _
theorem b7:OpR X (binaryOp .Add) (rI0 fun i j=>.int (i+j)):=xg fun _ _ _ _ _ _ _ q=>add_int q
theorem de:OpR X (binaryOp .Sub) (rI0 fun i j=>.int (i-j)):=xg fun _ _ _ _ _ _ _ q=>sub_int q
theorem di:OpR X (binaryOp .Mult) (rI iZ fun i j=>.int (i*j)):=opI fun _ _ _ _ _ _ _ hc q=>mul_int q hc.ok
theorem o5:OpR X (binaryOp .FloorDiv) (rI zM fun i j=>.int (i / j)):=opI fun i j _ _ _ _ _ hc q=>by
 have h1:(0:Int)<j:=hc.1;have h2:j<1073741824:=hc.2;exact floordiv_int (by omega) (by rw[Int.fdiv_eq_ediv_of_nonneg i (by omega)];exact q) (.inl (PyProof.noPylong_small (by omega)))
theorem ft:OpR X (binaryOp .Mod) (rI (fun _ j=>0<j) fun i j=>.int (i%j)):=opI fun i j _ _ _ _ _ hc q=>by
 have h1:(0:Int)<j:=hc;exact mod_int' (by omega) (by rw[Int.fmod_eq_emod_of_nonneg i (by omega)];exact q)
theorem wI:OpR X (binaryOp .Pow) (rI yy fun i j=>.int (i^j.toNat)):=opI fun _ _ _ _ _ _ _ hc q=>pow_int_small hc.1 hc.2.1 hc.2.2 q
theorem jP:OpR X (binaryOp .LShift) (rI yy fun i j=>.int (i*2^j.toNat)):=opI fun _ _ _ _ _ _ _ hc q=>lshift_int_small hc.1 hc.2.1 hc.2.2 q
theorem ss:OpR X (binaryOp .RShift) (rI (fun _ j=>0<=j) fun i j=>.int (i / 2^j.toNat)):=opI fun i j _ _ _ _ _ hc q=>
 rshift_int hc (by rw[Int.fdiv_eq_ediv_of_nonneg i (mV _)];exact q)
theorem tI:OpR X (binaryOp .BitAnd) (rI0 fun i j=>.int (Builtin.bitAnd i j)):=xg fun _ _ _ _ _ _ _ q=>and_int q
end
section
variable{X:Cx}{a b c:Expr}{ta tb tc:TE}{pos:Pos}
theorem vo:OpR X (compareOp .Lt) (rI0 fun i j=>.bl (decide (i<j))):=xm fun _ _ _ _ _ _ _ q=>lt_int q
theorem y6:OpR X (compareOp .LtE) (rI0 fun i j=>.bl (decide (i<=j))):=xm fun _ _ _ _ _ _ _ q=>le_int q
theorem qC:OpR X (compareOp .Gt) (rI0 fun i j=>.bl (decide (j<i))):=xm fun _ _ _ _ _ _ _ q=>gt_int q
theorem cQ(b:Expr){op:CmpOp}(h:op≠.In:=by decide)(h2:op≠.NotIn:=by decide):behindInMarks op b=false:=by
 have e1:(op == CmpOp.In)=false:=by cases op<;>first|rfl|exact absurd rfl h
 have e2:(op == CmpOp.NotIn)=false:=by cases op<;>first|rfl|exact absurd rfl h2
 cases b<;>simp[behindInMarks,e1,e2]
theorem j3{op:CmpOp}{r:R2}(ho:OpR X (compareOp op) r)(ha:PE X a ta)(hb:PE X b tb)(hm:behindInMarks op b=false):PE X (.Compare a [op] [b] pos) (tOp r ta tb):=.mk <| by
 intro pins s σ H Q I h;exact wpAny_Compare1 (wj ha hb I h fun v u s2 x y H2 I2 rx ry q=>ho pins s2 σ H2 x y v u Q I2 rx ry q) hm
noncomputable def u9(t:TE):TT:=fun σ H Q=>t σ H fun x H'=>∃k,x=.bl k/\Q k H'
theorem cC{op:CmpOp}{r:R2}(ho:OpR X (compareOp op) r)(ha:PE X a ta)(hb:PE X b tb)(hm:behindInMarks op b=false):PT X (.Compare a [op] [b] pos) (u9 (tOp r ta tb)):=by
 intro pins s σ H Q I h
 refine wpAny_isTrue_Compare1 (thn (ha pins s σ H _ I h) fun v s1 ⟨x,H1,I1,r1,q1⟩=>thn (hb pins s1 σ H1 _ I1 q1) fun u s2 ⟨y,H2,I2,r2,q2⟩=>
  thn (ho pins s2 σ H2 x y v u _ I2 r1 r2 q2) fun c s3 ⟨z,H3,I3,r3,k,e,q3⟩=>?_) hm
 subst e;cases r3;exact wpAny_truthy_bool ⟨H3,I3,q3⟩
noncomputable def lH(K:W.Frag)(x:V)(H:Hp)(k:Bool):Prop:=
 match x with
 |.non=>k=false
 |.bl b=>k=b
 |.int i=>k=(i != 0)
 |.str y=>y.length<=sizeLine/\k=((y.length:Int) != 0)
 |.byt y=>y.size<=sizeLine/\k=((y.size:Int) != 0)
 |.ref p=>(∃xs,SqL K H p xs/\k=!xs.isEmpty)\/(∃xs,SqT K H p xs/\k=!xs.isEmpty)\/∃kvs,H p=some (.dK kvs)/\k=!kvs.isEmpty
 |_=>False
theorem nB{κ:Type}{kvs:List (κ×V)}{vs:List (κ×Value)}(r:KV kvs vs):(!vs.isEmpty)=!kvs.isEmpty:=by
 cases r<;>rfl
theorem hU{xs:List V}{its:List Value}(r:ar xs its):(!its.toArray.isEmpty)=!xs.isEmpty:=by
 cases r<;>simp
theorem f9:(sizeLine:Nat)<2^63:=by rw[sizeLine_eq];decide
theorem nn:zw X (fun x H Q=>∃k,lH X.K x H k/\Q k H):=by
 intro pins s σ H x v Q I rx h;obtain⟨k,e,q⟩:=h;have hl:=f9;have hs:sizeLine=16777216:=sizeLine_eq
 cases x with
 |non=>
  cases rx;have e':k=false:=e;subst e';exact truthy_none ⟨H,I,q⟩
 |bl b=>
  cases rx;have e':k=b:=e;subst e';exact wpAny_truthy_bool ⟨H,I,q⟩
 |int i=>
  obtain⟨t,rfl⟩:=rx;have e':k=(i != 0):=e;subst e';exact PySem.P.truthy_int ⟨H,I,q⟩
 |str y=>
  obtain⟨t,rfl⟩:=rx;obtain⟨hy,e'⟩:y.length<=sizeLine/\k=((y.length:Int) != 0):=e;subst e';exact PySem.P.truthy_str (by omega) ⟨H,I.tok _,q⟩
 |byt y=>
  obtain⟨t,rfl⟩:=rx;obtain⟨hy,e'⟩:y.size<=sizeLine/\k=((y.size:Int) != 0):=e;subst e';exact W.truthy_bytes (by omega) ⟨H,I.tok _,q⟩
 |ref p=>
  cases rx;have e':(∃xs,SqL X.K H p xs/\k=!xs.isEmpty)\/(∃xs,SqT X.K H p xs/\k=!xs.isEmpty)\/∃kvs,H p=some (.dK kvs)/\k=!kvs.isEmpty:=e;rcases e' with⟨xs,hx,e'⟩|⟨xs,hx,e'⟩|⟨kvs,hx,e'⟩
  ·subst e'
   obtain⟨its,r,pl,hz⟩:=I.list hx;have hlen:=r.length;exact wpAny_truthy_list pl.isList (by simp only[List.size_toArray];omega) ⟨H,I.tok _,by rw[hU r];exact q⟩
  ·subst e'
   obtain⟨its,r,pl,hz⟩:=I.tuple hx;have hlen:=r.length;exact truthy_tuple pl (by simp only[List.size_toArray];omega) ⟨H,I.tok _,by rw[hU r];exact q⟩
  ·subst e'
   obtain⟨hz,hS,vs,r,m⟩:kvs.length<=sizeLine/\(p == sysModules)=false/\∃vs,KV kvs vs/\s.heap.DictOf (kv X.prog X.w) p vs:=I.hok p _ hx;have hlen:kvs.length=vs.length:=Paired.length r;exact wpAny_truthy_dict hS m (by omega) ⟨H,I.tok _,by rw[nB r];exact q⟩
 |_=>exact(show False from e).elim
theorem rq(ha:PE X a ta)(he:∀whole,isTrue a X.env whole=(do let v ← whole;standAt a.pos;holding [v] (truthy v))):
  PT X a (fun σ H Q=>ta σ H fun x H'=>∃k,lH X.K x H' k/\Q k H'):=by
 intro pins s σ H Q I h;exact isTrue_plain (thn (ha pins s σ H _ I h) fun v s1 ⟨x,H1,I1,r1,q1⟩=>nn pins s1 σ H1 x v Q I1 r1 q1) (he _)
theorem jF{x:V}{us:List Value}(r:ar [x] us):∃u,us=[u]/\aF x u:=by
 cases r with
 |cons r1 r2=>cases r2;exact⟨_,rfl,r1⟩
theorem rm{x y:V}{us:List Value}(r:ar [x,y] us):∃u w',us=[u,w']/\aF x u/\aF y w':=by
 cases r with
 |cons r1 r2=>
  cases r2 with
  |cons r3 r4=>cases r4;exact⟨_,_,rfl,r1,r3⟩
theorem tB:cy X (.builtin "abs") (fun xs H Q=>∃i,xs=[.int i]/\Q (.int (if i<0 then -i else i)) H):=by
 intro pins s σ H xs us Q I r h;obtain⟨i,rfl,q⟩:=h;obtain⟨u,rfl,t,rfl⟩:=jF r;exact call_abs_int fun u tk=>⟨.int (if i<0 then -i else i),H,I.tok _,⟨_,rfl⟩,q⟩
theorem qh(hc:X.calm=true):cy X (.builtin "max") (fun xs H Q=>∃i j,xs=[.int i,.int j]/\Q (.int (if j>i then j else i)) H):=by
 intro pins s σ H xs us Q I r h;obtain⟨i,j,rfl,q⟩:=h;obtain⟨u,w',rfl,⟨t,rfl⟩,⟨t',rfl⟩⟩:=rm r;refine max_two_ints (I.ok.hd hc) fun h' tk k=>⟨_,H,I.kept k,?_,q⟩;by_cases hj:j>i
 ·rw[if_pos hj,if_pos hj];exact⟨_,rfl⟩
 ·rw[if_neg hj,if_neg hj];exact⟨_,rfl⟩
theorem js(hc:X.calm=true):cy X (.builtin "min") (fun xs H Q=>∃i j,xs=[.int i,.int j]/\Q (.int (if j<i then j else i)) H):=by
 intro pins s σ H xs us Q I r h;obtain⟨i,j,rfl,q⟩:=h;obtain⟨u,w',rfl,⟨t,rfl⟩,⟨t',rfl⟩⟩:=rm r;refine min_two_ints (I.ok.hd hc) fun h' tk k=>⟨_,H,I.kept k,?_,q⟩;by_cases hj:j<i
 ·rw[if_pos hj,if_pos hj];exact⟨_,rfl⟩
 ·rw[if_neg hj,if_neg hj];exact⟨_,rfl⟩
noncomputable def uZ(K:W.Frag)(x:V)(H:Hp)(n:Nat):Prop:=
 match x with
 |.str y=>y.length<=sizeLine/\n=y.length
 |.byt y=>y.size<=sizeLine/\n=y.size
 |.ref p=>(∃xs,SqL K H p xs/\n=xs.length)\/∃xs,SqT K H p xs/\n=xs.length
 |_=>False
theorem tJ:cy X (.builtin "len") (fun xs H Q=>∃x n,xs=[x]/\uZ X.K x H n/\Q (.int n) H):=by
 intro pins s σ H xs us Q I r h;obtain⟨x,n,rfl,e,q⟩:=h;obtain⟨u,rfl,rx⟩:=jF r;have hl:=f9;have hs:sizeLine=16777216:=sizeLine_eq
 cases x with
 |str y=>
  obtain⟨t,rfl⟩:=rx;obtain⟨hy,e'⟩:y.length<=sizeLine/\n=y.length:=e;subst e';exact len_str (by omega) ⟨.int _,H,I.tok _,⟨_,rfl⟩,q⟩
 |byt y=>
  obtain⟨t,rfl⟩:=rx;obtain⟨hy,e'⟩:y.size<=sizeLine/\n=y.size:=e;subst e';exact W.len_bytes (by omega) ⟨.int _,H,I.tok _,⟨_,rfl⟩,q⟩
 |ref p=>
  cases rx;have e':(∃xs,SqL X.K H p xs/\n=xs.length)\/∃xs,SqT X.K H p xs/\n=xs.length:=e;rcases e' with⟨xs,hx,e'⟩|⟨xs,hx,e'⟩
  ·subst e'
   obtain⟨its,r',pl,hz⟩:=I.list hx;have hlen:=r'.length;exact Calls.call_len_list pl.isList (by simp only[List.size_toArray];omega) ⟨.int xs.length,H,I.tok _,⟨_,by simp only[List.size_toArray];rw[hlen]⟩,q⟩
  ·subst e'
   obtain⟨its,r',pl,hz⟩:=I.tuple hx;have hlen:=r'.length;exact len_tuple pl (by simp only[List.size_toArray];omega) ⟨.int xs.length,H,I.tok _,⟨_,by simp only[List.size_toArray];rw[hlen]⟩,q⟩
 |_=>exact(show False from e).elim
end
structure wq(h:Heap)(x dx C:Addr)(mA:Str->Option Value):Prop where
 obj:h.get? x=some (W.instObj C dx)
 ns:h.Ns1 dx mA
 ne:dx≠x
theorem qj{h:Heap}{dx:Addr}{mA:Str->Option Value}(n:h.Ns1 dx mA):∃od,h.get? dx=some od/\∀name,W.lookIn name od=some (mA name):=by
 obtain⟨o,es,ep,ho,hd,hk,_,hm⟩:=n;refine⟨o,ho,fun name=>?_⟩;have e:=hm name;unfold nsFind findBy at e;rw[←Array.find?_toList] at e
 unfold W.lookIn;rw[hd];dsimp only;split
 ·rename_i y q
  rw[q] at e;exact congrArg some e
 ·rename_i q
  rw[q] at e
  have a:es.toList.any (·.refKey)=false:=by
   rw[List.any_eq_false];intro y hy;obtain⟨z,t,hkey⟩:=hk y (Array.mem_toList_iff.mp hy);simp[DictEntry.refKey,hkey]
  have a':¬ es.toList.any (·.refKey)=true:=by rw[a];exact Bool.false_ne_true
  rw[if_neg a'];exact congrArg some e
theorem wq.look{h:Heap}{x dx C:Addr}{mA:Str->Option Value}(I:wq h x dx C mA):∃od,W.InstAt h x (W.instObj C dx) C (some od)/\∀name,W.lookIn name od=some (mA name):=
 let ⟨od,ho,hl⟩:=qj I.ns
 ⟨od,⟨I.obj,rfl,rfl,ho⟩,hl⟩
section
variable{P:Program}{w:World}{H H':Hp}{h h':Heap}{a C dx:Addr}{fs fs':List (Str×V)}
theorem tW(hok:HOk P w H h)(e:H a=some (.ins C dx fs)):∃mA,wq h a dx C mA/\(∀f,wB (fs.lookup f) (mA f))/\PySem.Within mA (fs.map (·.1))/\fs.length<=1000/\H dx=some (.own a):=by
 obtain⟨d,z,ne,ob,mA,n,r,q⟩:=(show bj P w H h a (.ins C dx fs) from hok a _ e)
 exact⟨mA,⟨ob,n,ne⟩,r,q,z,d⟩
end
structure Cls(K:W.Frag)(C:Addr):Prop where
 pg:W.plainGet K C Str.empty=true
 hd:W.hasDictIn K C=true
 po:W.plainOver K C=true
 sa:W.findIn K (.ref C) "__setattr__"=some (some (.builtin "object.__setattr__"))
theorem Cls.get{K:W.Frag}{C:Addr}(c:Cls K C)(f:Str):W.plainGet K C f=true:=c.pg
structure Con(K:W.Frag)(C:Addr)(f:Str)(v:V)(u:Value):Prop where
 at_:W.findIn K (.ref C) f=some (some u)
 rel:aF v u
 get:W.specialIn K u "__get__"=some none
 cp:W.copiedNames.contains f=false
structure zZ(K:W.Frag)(C:Addr)(m:Str)(f:Addr):Prop where
 at_:W.findIn K (.ref C) m=some (some (.ref f))
 fn:W.isFn K (.ref f)=true
 kp:W.keepIn K (.ref f)=true
section
variable{X:Cx}{pins:List (Addr×Obj)}{σ:St}{H:Hp}{s:Shared}{A:Around}{E:Value->Shared->Prop}{Q:Value->Shared->Prop}{c:Value}{b:Bool}
inductive gi (K:PySem.W.Frag) (H:Hp):V->Value->Prop where
 |non:gi K H .non (.type "NoneType")
 |bl (x:Bool):gi K H (.bl x) (.type "bool")
 |int (i:Int):gi K H (.int i) (.type "int")
 |str (x:Str):gi K H (.str x) (.type "str")
 |flt (x:UInt64):gi K H (.flt x) (.type "float")
 |lst {a:Addr} {xs:List V} (e:H a=some (.lst xs)):gi K H (.ref a) (.type "list")
 |frz {a:Addr} {o:Obj} {xs:List V} (e:H a=some (.frz o (.lst xs))):gi K H (.ref a) (.type "list")
 |tup {a:Addr} {xs:List V} (e:H a=some (.tup xs)):gi K H (.ref a) (.type "tuple")
 |dK {a:Addr} {kvs:List (Key×V)} (e:H a=some (.dK kvs)):gi K H (.ref a) (.type "dict")
 |dT {a:Addr} {kvs:List (List Key×V)} (e:H a=some (.dT kvs)):gi K H (.ref a) (.type "dict")
 |ins {a C dx:Addr} {fs:List (Str×V)} (e:H a=some (.ins C dx fs)) (cl:Cls K C) (ha:PySem.W.findIn K (.ref C) "__class__"=some (some (.builtin "object.__class__")))
   (hn:PySem.W.specialIn K (.builtin "object.__class__") "__get__"=some (some (.builtin "getset_descriptor.__get__"))) (htk:PySem.W.takesIn K (.builtin "object.__class__")=some true)
   (hm:PySem.W.mroIn K C (.type "object")=some true):gi K H (.ref a) (.ref C)
theorem pV{x:V}{u t:Value}(I:Inv X pins σ H s)(rx:aF x u)(ty:gi X.K H x t)(e:W.kitOne X.K t c=some b)(h:∀tk,Q (.bool b) { s with toks:=tk }):
  wpAny (model X.prog X.w) A (call (.builtin "isinstance") [u,c]) Q E s:=by
 cases ty with
 |non=>cases (show u=Value.none from rx);exact W.kia_one W.kitx_none I.kIn True.intro e (fun z=>nomatch z) h
 |bl y=>cases (show u=Value.bool y from rx);exact W.kia_one W.kitx_bool I.kIn True.intro e (fun z=>nomatch z) h
 |int i=>obtain⟨t,q⟩:=(show ∃t,u=Value.int i t from rx);cases q;exact W.kia_one W.kitx_int I.kIn True.intro e (fun z=>nomatch z) h
 |str y=>obtain⟨t,q⟩:=(show ∃t,u=Value.str y t from rx);cases q;exact W.kia_one W.kitx_str I.kIn True.intro e (fun z=>nomatch z) h
 |flt y=>obtain⟨t,q⟩:=(show ∃t,u=Value.float y t from rx);cases q;exact W.kia_one W.kitx_float I.kIn True.intro e (fun z=>nomatch z) h
 | @lst a xs ea=>
  cases (show u=Value.ref a from rx)
  obtain⟨_,_,n,_,h1⟩:=(show bj X.prog X.w H s.heap a (.lst xs) from I.hok a _ ea)
  exact W.kia_one W.kitx_list I.kIn ⟨_,h1,rfl⟩ e (fun z=>nomatch z) h
 | @frz a ob xs ea=>
  cases (show u=Value.ref a from rx)
  obtain⟨_,_,_,n,_,h1⟩:=(show bj X.prog X.w H s.heap a (.frz ob (.lst xs)) from I.hok a _ ea)
  exact W.kia_one W.kitx_list I.kIn ⟨_,h1,rfl⟩ e (fun z=>nomatch z) h
 | @tup a xs ea=>
  cases (show u=Value.ref a from rx)
  obtain⟨_,_,_,p⟩:=(show bj X.prog X.w H s.heap a (.tup xs) from I.hok a _ ea)
  obtain⟨o,h1,h2,_⟩:=p.1;exact W.kia_one W.kitx_tuple I.kIn ⟨o,h1,h2⟩ e (fun z=>nomatch z) h
 | @dK a kvs ea=>
  cases (show u=Value.ref a from rx)
  obtain⟨_,_,vs,_,p⟩:=(show bj X.prog X.w H s.heap a (.dK kvs) from I.hok a _ ea)
  obtain⟨o,es,ep,h1,h2,_⟩:=p;exact W.kia_one W.kitx_dict I.kIn ⟨o,h1,h2.1⟩ e (fun z=>nomatch z) h
 | @dT a kvs ea=>
  cases (show u=Value.ref a from rx)
  obtain⟨_,_,xs,_,o,es,ep,h1,h2,_⟩:=(show bj X.prog X.w H s.heap a (.dT kvs) from I.hok a _ ea)
  exact W.kia_one W.kitx_dict I.kIn ⟨o,h1,h2.1⟩ e (fun z=>nomatch z) h
 | @ins a C dx fs ea cl ha hn htk hm=>
  cases (show u=Value.ref a from rx)
  obtain⟨mA,O,_⟩:=tW I.hok ea;obtain⟨od,J,_⟩:=O.look;exact W.kia_one (W.kitx_own (cl.get _) cl.hd ha hn htk hm) I.kIn J e (fun z=>nomatch z) h
end
structure cG(k:Nat)(A:Around):Prop where
 hd:A.handled=none
 dp:A.depth+3*k+5<recursionLimit
 un:A.units+16*k+200<cLine
 gd:A.guards=some []
theorem cG.mono{j k:Nat}{A:Around}(r:cG k A)(h:j<=k):cG j A:=⟨r.hd,by have:=r.dp;omega,by have:=r.un;omega,r.gd⟩
theorem cG.deeper{k:Nat}{A:Around}(r:cG (k+1) A)(env:Env):cG k (A.deeper env):=
 ⟨r.hd,by have:=r.dp;show A.depth+1+3*k+5<_;omega,by have:=r.un;show A.units+3+16*k+200<_;omega,r.gd⟩
theorem cG.depth{k:Nat}{A:Around}(r:cG k A):A.depth<recursionLimit:=by have:=r.dp;omega
noncomputable def xw:TA:=fun _ H Q=>Q [] H
noncomputable def jD(ta:TE)(tr:TA):TA:=fun σ H Q=>ta σ H fun x H1=>tr σ H1 fun xs H2=>Q (x::xs) H2
section
variable{X:Cx}{e:Expr}{es:List Expr}{te:TE}{t:TA}{pos:Pos}
theorem ag:PA X [] xw:=.mk <| fun _ _ _ _ H Q I h=>Calls.spliced_nil ⟨[],H,I,.nil,h⟩
theorem aa(ha:PE X e te)(hr:PA X es t)(hs:starEach (e::es) X.env=(false,eval e X.env)::starEach es X.env:=by rfl):PA X (e::es) (jD te t):=.mk <| by
 intro pos pins s σ H Q I h;rw[hs];show wpAny _ _ (spliced ((false,eval e X.env)::backTo pos (starEach es X.env))) _ _ s;refine Calls.spliced_cons (thn (ha pins s σ H _ I h) fun u s1 ⟨x,H1,I1,r1,q1⟩=>?_);exact thn (hr pos pins s1 σ H1 _ I1 q1) fun us s2 ⟨xs,H2,I2,r2,q2⟩=>⟨x::xs,H2,I2,.cons r1 r2,q2⟩
noncomputable def xn(t:TA):TE:=fun σ H Q=>t σ H fun xs H1=>xs.length<=sizeLine/\∀p,H1 p=none->Q (.ref p) (upd H1 p (.tup xs))
noncomputable def wS(t:TA):TE:=fun σ H Q=>t σ H fun xs H1=>xs.length<=sizeLine/\∀p,H1 p=none->Q (.ref p) (upd H1 p (.lst xs))
theorem f8{x1}(h:PA X es t):PE X (.Tuple es x1 pos) (xn t):=.mk <| by
 intro pins s σ H Q I hq;refine wpAny_Tuple_spliced (thn (h pos pins s σ H _ I hq) fun us s1 ⟨xs,H1,I1,r,z,q⟩=>⟨by rw[←r.length];exact z,?_⟩)
 have hf:H1 s1.heap.objs.size=none:=I1.hok.fresh (Nat.le_refl _);refine⟨.ref s1.heap.objs.size,upd H1 s1.heap.objs.size (.tup xs),I1.laid (t':=s1.toks) (fun b u e=>Heap.get?_push_of_some _ e) (Nat.le_refl _) ?_,rfl,q _ hf⟩;exact⟨z,us,r,⟨_,Heap.get?_push_size _ rfl,rfl,_,rfl⟩,_,Heap.get?_push_size _ rfl,rfl⟩
theorem gh(h:PA X es t):PE X (.List es pos) (wS t):=.mk <| by
 intro pins s σ H Q I hq;refine wpAny_List_spliced (thn (h pos pins s σ H _ I hq) fun us s1 ⟨xs,H1,I1,r,z,q⟩=>⟨by rw[←r.length];exact z,?_⟩)
 have hf:H1 s1.heap.objs.size=none:=I1.hok.fresh (Nat.le_refl _);refine⟨.ref s1.heap.objs.size,upd H1 s1.heap.objs.size (.lst xs),I1.laid (t':=s1.toks) (fun b u e=>Heap.get?_push_of_some _ e) (Nat.le_refl _) ?_,rfl,q _ hf⟩;exact⟨z,us,0,r,Heap.get?_push_size _ rfl⟩
end
noncomputable abbrev Sp:=List V->Hp->VK->XK->Prop
noncomputable abbrev CXT:=List Env->Hp->Shared->XK->Value->Shared->Prop
structure mY(P:Program)(w:World)(K:W.Frag)(mg:Str->Option Value)(base:Heap)(A:Around)(outer:List Env)(s:Shared)(H:Hp):Prop where
 frames:A.frames=some outer
 mod:Mod K mg base
 bs:∀b o,base.get? b=some o->s.heap.get? b=some o/\H b=none
 bsz:base.objs.size<=s.heap.objs.size
 funs:s.heap.FunFrames base outer
 frf:∀b∈frs outer,H b=none
 tt:pL K H
 hok:HOk P w H s.heap
 bare:AllBare s.gens
noncomputable def CE(outer:List Env)(P:Program)(w:World)(H:Hp)(s:Shared)(Q:VK)(u:Value)(s':Shared):Prop:=
 ∃v H',s'.os=s.os/\AllBare s'.gens/\Un (frs outer) [] H H' s.heap s'.heap/\HOk P w H' s'.heap/\aF v u/\Q v H'
noncomputable def CR(CX:CXT)(outer:List Env)(P:Program)(w:World)(H:Hp)(s:Shared)(Q:VK)(E:XK)(r:Result)(s':Shared):Prop:=
 match r with
 |.ok (.ret u)=>CE outer P w H s Q u s'
 |.ok _=>False
 |.error e=>CX outer H s E e s'
structure bD(P:Program)(w:World)(K:W.Frag)(mg:Str->Option Value)(base:Heap)(CX:CXT)(k:Nat)(f:Addr)(fd:FuncData)(ps:List Str)(sp:Sp):Prop where
 len:∀vs H Q E,sp vs H Q E->vs.length=ps.length
 run:∀(A:Around)(outer:List Env)(s:Shared)(H:Hp)(args:Args)(us:List Value)(vs:List V)(Q:VK)(E:XK),cG k A->mY P w K mg base A outer s H->BindsTo s fd args (ps.zip us)->ar vs us->sp vs H Q E ->
  codeAny (model P w) A (.call (.ref f) args) (CR CX outer P w H s Q E) s
section
variable{X:Cx}{pins:List (Addr×Obj)}{σ:St}{H:Hp}{s s':Shared}
theorem Inv.env0(I:Inv X pins σ H s):mY X.prog X.w X.K X.mg X.base X.A X.stack s H:=
 ⟨I.ok.frames,I.ok.mod,I.bs,Nat.le_trans I.ok.bsz I.sz,I.stack,I.Ah,I.ok.tt.mono I.base.tbls,I.hok,I.bare⟩
theorem Inv.after{Q:VK}{u:Value}(I:Inv X pins σ H s)(h:CE X.stack X.prog X.w H s Q u s'):EP X pins σ Q u s':=by
 obtain⟨v,H',os,bare,un,hok,r,q⟩:=h;obtain⟨hh,g,d,t,os'⟩:=s';obtain rfl:os'=s.os:=os;exact⟨v,H',I.call (h':=hh) (g':=g) (d':=d) (t':=t) (ch:=[]) un hok bare (fun b z=>absurd z (by simp)),r,q⟩
end
noncomputable def nU(sp:Sp)(dvs:List V)(E:XK)(t:TA):TE:=fun σ H Q=>t σ H fun vs H1=>sp (vs++dvs) H1 Q E
noncomputable def cn(K:W.Frag)(fd:FuncData)(ps:List Str)(ds:List Value):Prop:=
 ∀(s:Shared)(us:List Value),K.In s.heap->(us++ds).length=ps.length->BindsTo s fd ⟨us,[]⟩ (ps.zip (us++ds))
theorem cn.all{K:W.Frag}{fd:FuncData}{ps:List Str}(h:∀us:List Value,us.length=ps.length->bindArgs fd ⟨us,[]⟩=pure (ps.zip us)):cn K fd ps []:=fun s us _ hl=>by
 rw[List.append_nil] at hl ⊢;exact .of_eq (h us hl)
noncomputable def m8(CX:CXT)(X:Cx)(E:XK):Prop:=∀(pins:List (Addr×Obj)) (σ:St) (H:Hp) (s:Shared) (e:Value) (s':Shared),Inv X pins σ H s->CX X.stack H s E e s'->X.xe e s'
section
variable{X:Cx}{CX:CXT}{k:Nat}{f C:Addr}{fd:FuncData}{ps:List Str}{sp:Sp}{dvs:List V}{ds:List Value}{E:XK}{x m:Str}{p pos apos:Pos}{e o:Expr}{es:List Expr}{ta:TE}{t:TA}
theorem wO{pins:List (Addr×Obj)}{σ:St}{H:Hp}{s:Shared}{Q:VK}{us:List Value}{vs:List V}(F:bD X.prog X.w X.K X.mg X.base CX k f fd ps sp)(hr:cG k X.A)(hb:cn X.K fd ps ds)(hd:ar dvs ds)(hx:m8 CX X E)(I:Inv X pins σ H s)(r:ar vs us)(h:sp (vs++dvs) H Q E):wpAny (model X.prog X.w) X.A (call (.ref f) us) (EP X pins σ Q) X.xe s:=by
 have r2:ar (vs++dvs) (us++ds):=r.append hd;have hl:(us++ds).length=ps.length:=by rw[←r2.length];exact F.len _ _ _ _ h
 refine wpAny_call (codeAny_mono (F.run X.A X.stack s H ⟨us,[]⟩ (us++ds) (vs++dvs) Q E hr I.env0 (hb s us I.kIn hl) r2 h) fun r s' hq=>?_)
 cases r with
 |error e=>exact hx pins σ H s e s' I hq
 |ok fl=>
  cases fl with
  |ret u=>exact I.after hq
  |next=>exact False.elim hq
  |brk=>exact False.elim hq
  |cont=>exact False.elim hq
theorem aN(F:bD X.prog X.w X.K X.mg X.base CX k f fd ps sp)(hr:cG k X.A)(hg:Gl X x)(hm:X.mg x=some (.ref f))(hk:W.keepIn X.K (.ref f)=true)(hb:cn X.K fd ps ds)(hd:ar dvs ds)(hx:m8 CX X E)(ha:PA X (e::es) t)(hdb:(x == ("__debug__":Str))=false:=by decide)(he:starEach (e::es) X.env=(false,eval e X.env)::starEach es X.env:=by rfl)(hpl:(backTo pos (starEach es X.env)).any (·.1)=false:=by rfl):
  PE X (.Call (.Name x p) (e::es) [] pos) (nU sp dvs E t):=.mk <| by
 intro pins s σ H Q I h;refine wpAny_Call_Name_kw (fD I hg hm ?_ hdb);refine W.callWith_K (h₀:=X.base) I.ok.mod.kin hk (thn (ha pos pins s σ H _ I h) fun us s1 ⟨vs,H1,I1,r,q⟩=>⟨I1.kIn,?_⟩) he hpl;exact wO F hr hb hd hx I1 r q
structure Mk(K:W.Frag)(C f:Addr):Prop where
 makes:W.makesIn K C=true
 init:W.findIn K (.ref C) "__init__"=some (some (.ref f))
 fn:W.isFn K (.ref f)=true
 kp:W.keepIn K (.ref C)=true
end
section
variable{X:Cx}{CX:CXT}{k:Nat}{f C:Addr}{fd:FuncData}{ps ks:List Str}{sp:Sp}{E:XK}{x m:Str}{p pos apos kpos:Pos}{e o:Expr}{es:List Expr}{kws:List Keyword}{te ta:TE}{t tk:TA}{nm:Option Str}
structure zq(K:W.Frag)(fd:FuncData)(ps ks:List Str)(g:List Value->List Value->List Value)(gV:List V->List V->List V):Prop where
 to:∀(s:Shared)(us ws:List Value),K.In s.heap->(g us ws).length=ps.length->BindsTo s fd ⟨us,ks.zip ws⟩ (ps.zip (g us ws))
 rel:∀ {vs:List V} {us:List Value} {zs:List V} {ws:List Value},ar vs us->ar zs ws->ar (gV vs zs) (g us ws)
variable{g:List Value->List Value->List Value}{gV:List V->List V->List V}
end
structure aX(N P:List Str)(sc:Scope):Prop where
 kind:sc.kind=.function
 co:sc.isCoroutine=false
 gen:sc.isGenerator=false
 nd:N.Nodup
 pre:N.take P.length=P
 par:∀x∈P,sc.names.lookup x=some .local\/sc.names.lookup x=some .cell
 nofree:∀y∈sc.names,y.2≠.free
theorem jE{kindOf:Str->Option NameKind}{x:Str}:∀ {binds:List (Str×Value)} {m:Str->Option Value},(∀v,(x,v) ∉ binds)->bindL kindOf binds m x=m x
 | [],_,_=>rfl
 |(n,v)::r,m,h=>by
  unfold bindL;rw[jE fun w hw=>h w (List.mem_cons_of_mem _ hw)];split
  ·have:x≠n:=by rintro rfl;exact h v List.mem_cons_self
   simp[this]
  ·rfl
theorem jJ{kindOf:Str->Option NameKind}{x:Str}:∀ {binds:List (Str×Value)} {m:Str->Option Value},(∀v,(x,v) ∉ binds)->bindC kindOf binds m x=m x
 | [],_,_=>rfl
 |(n,v)::r,m,h=>by
  unfold bindC;rw[jJ fun w hw=>h w (List.mem_cons_of_mem _ hw)];split
  ·rfl
  ·have:x≠n:=by rintro rfl;exact h v List.mem_cons_self
   simp[this]
theorem jG{kindOf:Str->Option NameKind}{x:Str}{v:Value}:∀ {P:List Str} {vs:List Value} {i:Nat} {m:Str->Option Value},P.Nodup->P[i]?=some x->vs[i]?=some v->kindOf x=some .local ->
  bindL kindOf (P.zip vs) m x=some v
 | [],_,_,_,_,h,_,_=>by simp at h
 |_::_,[],_,_,_,_,h,_=>by simp at h
 |p::P,w::vs,0,m,nd,h1,h2,hk=>by
  simp at h1 h2;subst h1;subst h2;show bindL kindOf ((p,w)::P.zip vs) m p=_;unfold bindL;rw[jE fun v hv=>(List.nodup_cons.mp nd).1 (List.of_mem_zip hv).1,if_pos hk];simp
 |p::P,w::vs,i+1,m,nd,h1,h2,hk=>by
  show bindL kindOf ((p,w)::P.zip vs) m x=_;unfold bindL;exact jG (i:=i) (List.nodup_cons.mp nd).2 (by simpa using h1) (by simpa using h2) hk
theorem jh{kindOf:Str->Option NameKind}{x:Str}{v:Value}:∀ {P:List Str} {vs:List Value} {i:Nat} {m:Str->Option Value},P.Nodup->P[i]?=some x->vs[i]?=some v->kindOf x≠some .local ->
  bindC kindOf (P.zip vs) m x=some v
 | [],_,_,_,_,h,_,_=>by simp at h
 |_::_,[],_,_,_,_,h,_=>by simp at h
 |p::P,w::vs,0,m,nd,h1,h2,hk=>by
  simp at h1 h2;subst h1;subst h2;show bindC kindOf ((p,w)::P.zip vs) m p=_;unfold bindC;rw[jJ fun v hv=>(List.nodup_cons.mp nd).1 (List.of_mem_zip hv).1,if_neg hk];simp
 |p::P,w::vs,i+1,m,nd,h1,h2,hk=>by
  show bindC kindOf ((p,w)::P.zip vs) m x=_;unfold bindC;exact jh (i:=i) (List.nodup_cons.mp nd).2 (by simpa using h1) (by simpa using h2) hk
noncomputable def start(N:List Str)(vs:List V):St:=vs.map some++List.replicate (N.length-vs.length) none
noncomputable def fk(CX:CXT)(P:Program)(w:World)(K:W.Frag)(mg:Str->Option Value)(base:Heap)(N:List Str)(qual:Str)(scope:Scope)(f:Addr)(cd:Value)(A:Around)(outer:List Env)(s:Shared)(H:Hp)(E:XK):Cx where
 prog:=P
 w:=w
 K:=K
 mg:=mg
 base:=base
 A:=A.deeper (envOfC qual scope s.heap.objs.size f cd)
 N:=N
 s₀:=s
 H₀:=H
 env:=envOfC qual scope s.heap.objs.size f cd
 outer:=outer
 stack:=envOfC qual scope s.heap.objs.size f cd::outer
 ex:=[]
 calm:=true
 fn:=fun _=>true
 pn:=[]
 xe:=fun e s'=>wpAny (model P w) (A.deeper (envOfC qual scope s.heap.objs.size f cd)) (leaving (envOfC qual scope s.heap.objs.size f cd) e) (fun _ s''=>CX outer H s E e s'') (fun e' s''=>CX outer H s E e' s'') s'
theorem lP{sc:Scope}{n:Nat}{x:Str}(h:sc.names.lookup x=some .cell):∃c,(cellsFrom n sc.names []).lookup x=some c:=by
 have q:=W.cellsFrom_some sc.names n [] (.inl h);exact Option.isSome_iff_exists.mp q
theorem qm{CX:CXT}{P:Program}{w:World}{K:W.Frag}{mg:Str->Option Value}{base:Heap}{N ps:List Str}{qual:Str}{scope:Scope}{f:Addr}{cd:Value}{A:Around}{outer:List Env}{s s1:Shared}{H:Hp}{E:XK}{us:List Value}{vs:List V}(S:aX N ps scope)(hd:A.handled=none)(e0:mY P w K mg base A outer s H)(hl:vs.length=ps.length)(r:ar vs us)(x:InCallC s s.heap.objs.size (bindL (envOfC qual scope s.heap.objs.size f cd).kindOf (ps.zip us) fun _=>none) (cellsFrom (s.heap.objs.size+1) scope.names []) (bindC (envOfC qual scope s.heap.objs.size f cd).kindOf (ps.zip us) fun _=>none) s1):
  Inv (fk CX P w K mg base N qual scope f cd A outer s H E) [] (start N vs) H s1:=by
 have hpl:ps.length<=N.length:=by have:=congrArg List.length S.pre;rw[List.length_take] at this;omega
 obtain⟨h1,tk,rfl,hk⟩:=x.done;have noA:∀b:Addr,b ∉ (fk CX P w K mg base N qual scope f cd A outer s H E).ex:=fun b z=>absurd (show b∈([]:List Addr) from z) (by simp)
 refine⟨⟨e0.mod,S.kind,rfl,rfl,Nat.le_refl _,fun y z c h1 h2=>?_,fun y hy=>?_,fun y c _ h=>?_,fun _=>hd,Around.frames_deeper e0.frames,.inr ⟨rfl,rfl⟩,fun b z=>absurd z (noA b),e0.bs,e0.bsz,fun b _ _=>noA b,fun b z=>absurd z (noA b),e0.funs,e0.frf,e0.tt⟩,
  rfl,e0.bare,Un.kept hk,⟨_,x.toInCall.ns,fun i y v h1 h2 h3=>?_⟩,fun y c h=>⟨_,x.cell y c h⟩,e0.hok.fresh (Nat.le_refl _),fun y c h=>?_,fun p hp=>absurd (show p∈([]:List (Addr×Obj)) from hp) (by simp),e0.hok.kept hk,?_⟩
 ·exact name_of_addr x.apart (PySem.mem_of_lookup h1) (PySem.mem_of_lookup h2)
 ·have hy:scope.names.lookup y=some .cell\/scope.names.lookup y=some .free:=hy
  rcases hy with hy|hy
  ·exact lP hy
  ·exact absurd rfl (S.nofree _ (PySem.mem_of_lookup hy))
 ·exact Nat.le_of_lt (x.above y c (PySem.mem_of_lookup h))
 ·have hi:i<vs.length:=by
   unfold start at h2;by_cases hi:i<vs.length
   ·exact hi
   ·rw[List.getElem?_append_right (by simpa using hi)] at h2
    rw[List.getElem?_replicate] at h2;split at h2<;>cases h2
  have ha:vs[i]?=some v:=by
   unfold start at h2;rw[List.getElem?_append_left (by simpa using hi),List.getElem?_map] at h2
   cases e:vs[i]? with
   |none=>rw[e] at h2;cases h2
   |some a=>rw[e] at h2;cases h2;rfl
  obtain⟨u,hu,rv⟩:=r.get ha
  have hp:ps[i]?=some y:=by
   rw[←S.pre,List.getElem?_take_of_lt (by omega)];exact h1
  have ndP:ps.Nodup:=by rw[←S.pre];exact S.nd.sublist (List.take_sublist _ _)
  refine⟨u,rv,?_⟩;rcases S.par y (List.mem_of_getElem? hp) with k|k
  ·exact .inl ⟨k,jG ndP hp hu k⟩
  ·obtain⟨c,e⟩:=lP (n:=s.heap.objs.size+1) k
   refine .inr ⟨.inl k,c,e,?_⟩;have q:=x.cell y c e;rw[jh ndP hp hu (by show scope.names.lookup y≠_;rw[k];decide)] at q
   exact q
 ·exact e0.hok.fresh (Nat.le_of_lt (x.above y c (PySem.mem_of_lookup h)))
 ·unfold start
  show _=N.length;rw[List.length_append,List.length_map,List.length_replicate];omega
theorem vA{CX:CXT}{P:Program}{w:World}{K:W.Frag}{mg:Str->Option Value}{base:Heap}{k:Nat}{f:Addr}{name qual:Str}{params:Arguments}{body:List Stmt}{scope:Scope}{dV kV doc pm cdv ct oc:Value}{an od:Option Addr}{osl:Array (Option Value)}{N ps:List Str}{sp:Sp}(lk:K.lookup f=some ⟨oc,od,.func (W.fnOf name qual params body scope dV kV doc pm an cdv ct),osl⟩)(hcd:W.codeIn K cdv qual=true)(S:aX N ps scope)(len:∀vs H Q E,sp vs H Q E->vs.length=ps.length)
  (hbody:∀(A:Around)(outer:List Env)(s:Shared)(H:Hp)(vs:List V)(Q:VK)(E:XK),cG k (A.deeper (envOfC qual scope s.heap.objs.size f cdv))->sp vs H Q E ->
   ∃t,PSs (fk CX P w K mg base N qual scope f cdv A outer s H E) body t/\t { nx:=fun _ H'=>Q .non H',rt:=Q } (start N vs) H) :
  bD P w K mg base CX (k+1) f (W.fnOf name qual params body scope dV kV doc pm an cdv ct) ps sp:=by
 refine⟨len,fun A outer s H args us vs Q E hr e0 hb r hsp=>?_⟩;have hl:=len _ _ _ _ hsp;have KX:K.In s.heap:=e0.mod.kin.keeps fun b o e=>(e0.bs b o e).1;have lim:s.heap.NoLimit:=e0.mod.nolimit.keeps fun b o e=>(e0.bs b o e).1
 have hkind:∀y∈ps.zip us,scope.names.lookup y.1=some .local\/(scope.names.lookup y.1=some .cell/\((cellsFrom (s.heap.objs.size+1) scope.names []).lookup y.1).isSome=true):=fun⟨n,v⟩ hy=>by
  rcases S.par n (List.of_mem_zip hy).1 with q|q
  ·exact .inl q
  ·exact .inr ⟨q,W.cellsFrom_some _ _ _ (.inl q)⟩
 refine codeAny_call_function hr.depth (KX _ _ lk) rfl S.co S.gen rfl (W.codeRec_of KX hcd) (hb _ _ _ _ ?_);refine wpAny_newFunctionEnv_cells S.kind hkind fun env he s1 x=>?_;subst he;refine⟨lim.keeps x.toInCall.keep,codeAny_func ?_⟩;obtain⟨t,ht,hq⟩:=hbody A outer s H vs Q E (hr.deeper _) hsp;have I:Inv (fk CX P w K mg base N qual scope f cdv A outer s H E) [] (start N vs) H s1:=qm S hr.hd e0 hl r x
 refine wpAny_mono (ht [] s1 (start N vs) H _ I hq) (fun fl s' hs=>?_) fun e s' hs=>hs
 have fin:∀ {σ':St} {H':Hp} {v:V} {u:Value},Inv (fk CX P w K mg base N qual scope f cdv A outer s H E) [] σ' H' s'->aF v u->Q v H'->CE outer P w H s Q u s':=
  fun {σ' H' v u} J rv q=>⟨v,H',J.os,J.bare,J.base,J.hok,rv,q⟩
 cases fl with
 |ret u=>
  obtain⟨v,σ',H',J,rv,q⟩:=hs;exact fin J rv q
 |next=>
  obtain⟨σ',H',J,q⟩:=hs;exact fin (v:=V.non) (u:=Value.none) J rfl q
 |brk=>
  obtain⟨_,_,_,q⟩:=hs;exact False.elim q
 |cont=>
  obtain⟨_,_,_,q⟩:=hs;exact False.elim q
section
variable{X:Cx}{x:Str}{p pos:Pos}{e:Expr}{es:List Expr}{t:TA}{id T:String}{r:List V->Hp->VK->Prop}
noncomputable def tCB(r:List V->Hp->VK->Prop)(t:TA):TE:=fun σ H Q=>t σ H fun vs H1=>r vs H1 Q
theorem au(hc:cy X (.builtin id) r)(hg:Gl X x)(hm:X.mg x=none)(hv:bootBuiltins x=some (.builtin id))(ha:PA X (e::es) t)(hn:x≠"__name__":=by decide)(hdb:(x == ("__debug__":Str))=false:=by decide)(he:starEach (e::es) X.env=(false,eval e X.env)::starEach es X.env:=by rfl)(hpl:(backTo pos (starEach es X.env)).any (·.1)=false:=by rfl):PE X (.Call (.Name x p) (e::es) [] pos) (tCB r t):=.mk <| by
 intro pins s σ H Q I h;refine wpAny_Call_Name_kw (km I hg hm hv ?_ hn hdb);exact PyProof.Rows.callWith_builtin1 (thn (ha pos pins s σ H _ I h) fun us s1 ⟨vs,H1,I1,r1,q1⟩=>hc pins s1 σ H1 vs us Q I1 r1 q1) he hpl
theorem b9(hc:cy X (.type T) r)(hg:Gl X x)(hm:X.mg x=none)(hv:bootBuiltins x=some (.type T))(ha:PA X (e::es) t)(hn:x≠"__name__":=by decide)(hdb:(x == ("__debug__":Str))=false:=by decide)(he:starEach (e::es) X.env=(false,eval e X.env)::starEach es X.env:=by rfl)(hpl:(backTo pos (starEach es X.env)).any (·.1)=false:=by rfl):PE X (.Call (.Name x p) (e::es) [] pos) (tCB r t):=.mk <| by
 intro pins s σ H Q I h;refine wpAny_Call_Name_kw (km I hg hm hv ?_ hn hdb);exact PyProof.Rows.callWith_type1 (thn (ha pos pins s σ H _ I h) fun us s1 ⟨vs,H1,I1,r1,q1⟩=>hc pins s1 σ H1 vs us Q I1 r1 q1) he hpl
end
end L2
namespace HT
open PySem PyProof.Rows
section
open PySem.SeqAt
open PySem.AutoSeq1 (wpAny_loadPart')
open PySem.MeetsSeq PySem.MeetsSeq2 PySem.MeetsSeq3
end
section
variable{prog:Program}{w:World}{A:Around}{E:Value->Shared->Prop}{s:Shared}
theorem cat_tup{t b:Addr}{vs ws:List Value}{Q:Value->Shared->Prop}(ht:IsTup s.heap t vs.toArray)(hb:IsTup s.heap b ws.toArray)(hv:vs≠[])(h1:ws=[]->Q (.ref t) s)(h2:ws≠[]->Q (.ref s.heap.objs.size) { s with heap:=s.heap.push { cls:=.type "tuple",data:=.seq (vs++ws).toArray } })(hsz:vs.length+ws.length<=sizeLine):wpAny (model prog w) A (binaryOp .Add (.ref t) (.ref b)) Q E s:=by
 obtain⟨⟨cls,dd,data,sl⟩,ho,hc,n,hd⟩:=id ht;obtain⟨⟨cls2,dd2,data2,sl2⟩,ho2,hc2,n2,hd2⟩:=id hb;simp only at hc hd hc2 hd2;subst hc hd hc2 hd2;have e:vs.toArray++ws.toArray=(vs++ws).toArray:=by simp
 by_cases hw:ws=[]
 ·exact concat_meets ⟨_,ho,rfl⟩ ⟨_,ho2,rfl⟩ noFill_tuple_add seq_tuple_add PySem.F.slot_tuple_add PySem.F.entry_tuple_add (PySem.F.args_tuple_add_2 _ _)
   (tuple_addW1 t b vs.toArray ws.toArray n n2 dd dd2 sl sl2 (by simpa using hv) (by simp[hw])) ⟨ho,ho2,h1 hw⟩
 ·refine concat_meets ⟨_,ho,rfl⟩ ⟨_,ho2,rfl⟩ noFill_tuple_add seq_tuple_add PySem.F.slot_tuple_add PySem.F.entry_tuple_add (PySem.F.args_tuple_add_2 _ _)
   (tuple_addW2 t b vs.toArray ws.toArray n n2 dd dd2 sl sl2 (by simpa using hv) (by simpa using hw) (by rw[List.size_toArray,List.size_toArray];exact hsz)) ⟨ho,ho2,?_⟩
  rw[e];exact h2 hw
noncomputable def sIx(n d:Nat):Option Int->Nat
 |none=>d
 |some v=>if v<0 then (v+(n:Int)).toNat else min v.toNat n
theorem sIx_none(n d:Nat):sIx n d none=d:=rfl
theorem sIx_nat(n d k:Nat):sIx n d (some (k:Int))=min k n:=by
 show (if (k:Int)<0 then ((k:Int)+(n:Int)).toNat else min (k:Int).toNat n)=min k n
 rw[if_neg (by omega),Int.toNat_natCast]
theorem w9(n d:Nat)(hd:d<=n)(o:Option Int):sIx n d o<=n:=by
 cases o with
 |none=>exact hd
 |some v=>
  show (if v<0 then (v+(n:Int)).toNat else min v.toNat n)<=n
  by_cases hv:v<0
  ·rw[if_pos hv];omega
  ·rw[if_neg hv];exact Nat.min_le_right _ _
theorem oG(v:Int)(n d:Nat):(if v<0 then max (v+(n:Int)) 0 else min v (n:Int))=((sIx n d (some v):Nat):Int):=by
 show (if v<0 then max (v+(n:Int)) 0 else min v (n:Int))=(((if v<0 then (v+(n:Int)).toNat else min v.toNat n):Nat):Int)
 by_cases hv:v<0
 ·simp only[if_pos hv];omega
 ·simp only[if_neg hv];omega
theorem nF(lo hi:Option Int)(n:Nat):Builtin.Slice.sliceAdjust lo hi 1 (n:Int)=(((sIx n 0 lo:Nat):Int),((sIx n n hi:Nat):Int)):=by
 have h1:¬ ((1:Int)<0):=by omega
 unfold Builtin.Slice.sliceAdjust;simp only[h1,if_false];refine Prod.ext ?_ ?_
 ·cases lo with
  |none=>rfl
  |some v=>exact oG v n 0
 ·cases hi with
  |none=>rfl
  |some v=>exact oG v n n
theorem m7(i j:Nat):Builtin.Slice.slicePlaces (i:Int) (j:Int) 1=j-i:=by
 unfold Builtin.Slice.slicePlaces;have h1:(1:Int)>0:=by omega
 simp only[h1,if_true,Int.ediv_one];split<;>omega
theorem iW{v:Value}{o:Option Int}{Q:Option Int->Shared->Prop}(p:IsPart v o)(h:Q o s):wpAny (model prog w) A (Builtin.Slice.slicePartIndex v) Q E s:=by
 cases p with
 |none=>exact slicePart_none h
 |int i t=>exact slicePart_int h
theorem sliceApplied_gen{sl:Addr}{vl vu:Value}{lo hi:Option Int}{n:Nat}{Q:Int×Int×Nat->Shared->Prop}(hs:s.heap.IsSliceOf sl vl vu .none)(pl:IsPart vl lo)(pu:IsPart vu hi)(h:Q (((sIx n 0 lo:Nat):Int),1,sIx n n hi-sIx n 0 lo) s):wpAny (model prog w) A (Builtin.Slice.sliceApplied (.ref sl) (pure (n:Int))) Q E s:=by
 obtain⟨os,hos,hcs,hds⟩:=id hs;unfold Builtin.Slice.sliceApplied Builtin.Slice.sliceFields;refine wpAny_bind (wpAny_bind (wpAny_field hos hds (x:=vl) rfl (wpAny_bind (wpAny_field hos hds (x:=vu) rfl (wpAny_bind (wpAny_field hos hds (x:=.none) rfl (wpAny_pure ?_)))))));refine wpAny_bind (slicePart_none ?_);show wpAny _ _ (if ((1:Int) == 0)=true then _ else _) _ _ s
 rw[if_neg (by decide)]
 refine wpAny_bind (iW pl (wpAny_bind (iW pu (wpAny_bind (wpAny_pure ?_)))));show wpAny _ _ (match Builtin.Slice.sliceAdjust lo hi 1 (n:Int) with|(lo,hi)=>pure (lo,(1:Int),Builtin.Slice.slicePlaces lo hi 1)) _ _ s
 rw[nF lo hi n];show wpAny _ _ (pure (((sIx n 0 lo:Nat):Int),(1:Int),Builtin.Slice.slicePlaces ((sIx n 0 lo:Nat):Int) ((sIx n n hi:Nat):Int) 1)) _ _ s;rw[m7];exact wpAny_pure h
theorem rj(xs:Array Value)(i k:Nat):((List.range k).filterMap fun(m:Nat)=>xs[((i:Int)+(m:Int)*1).toNat]?).toArray=((xs.toList.drop i).take k).toArray:=by
 have e:(fun(m:Nat)=>xs[((i:Int)+(m:Int)*1).toNat]?)=fun m=>xs[i+m]?:=by
  funext m
  have:((i:Int)+(m:Int)*1).toNat=i+m:=by omega
  rw[this]
 rw[e];have:=pick_run xs i k;rw[List.filterMap_map] at this;have e2:((fun x=>xs[x]?) ∘ fun x=>i+x)=fun m=>xs[i+m]?:=rfl;rw[e2] at this;rw[this]
theorem getItem_tuple_cut{t sl:Addr}{items:Array Value}{vl vu:Value}{lo hi:Option Int}{Q:Value->Shared->Prop}(ht:IsTup s.heap t items)(hs:s.heap.IsSliceOf sl vl vu .none)(pl:IsPart vl lo)(pu:IsPart vu hi)(hw:¬ (sIx items.size 0 lo=0/\sIx items.size items.size hi=items.size))(h:Q (.ref s.heap.objs.size) { s with heap:=s.heap.push { cls:=.type "tuple",data:=.seq ((items.toList.drop (sIx items.size 0 lo)).take (sIx items.size items.size hi-sIx items.size 0 lo)).toArray } })(hsz:items.size<=sizeLine):wpAny (model prog w) A (getItem (.ref t) (.ref sl)) Q E s:=by
 have htake:sizeOk (.seq ((items.toList.drop (sIx items.size 0 lo)).take (sIx items.size items.size hi-sIx items.size 0 lo)).toArray):=by
  show ((items.toList.drop (sIx items.size 0 lo)).take (sIx items.size items.size hi-sIx items.size 0 lo)).toArray.size<=sizeLine;rw[List.size_toArray,List.length_take,List.length_drop,Array.length_toList];omega
 have hj:sIx items.size items.size hi<=items.size:=w9 _ _ (Nat.le_refl _) hi;obtain⟨os,hos,hcs,hds⟩:=id hs;have hTs:s.TypeIs (.ref sl) "slice":=⟨os,hos,hcs⟩;unfold getItem
 try with_reducible refine wpAny_holding ?_
 first|refine wpAny_bind (wpAny_pure ?_)|skip
 refine wpAny_bind (wpAny_sequenceKey ht.typeIs (by decide) ?_)
 refine wpAny_bind (wpAny_callSpecial?_slot (name:=Str.ofString "__getitem__") ht.typeIs PyProof.Rows.slot_tuple_getitem
  (wpAny_call_entry PyProof.Rows.slot_tuple_getitem ht.typeIs entry_tuple_getitem ?_ (args_tuple_getitem _ _)))
 show wpAny _ _ (Builtin.Tuple.tupleItemsOf (.ref t) >>= _) _ _ s;refine wpAny_bind (tupleItemsOf_ ht ?_);refine wpAny_bind (wpAny_typeOf hTs ?_);rw[if_pos (by decide)]
 refine wpAny_bind (sliceApplied_gen hs pl pu ?_)
 have hno:¬ ((((sIx items.size 0 lo:Nat):Int) == 0 && (1:Int) == 1 && (sIx items.size items.size hi-sIx items.size 0 lo) == items.size)=true):=by
  intro q;rw[Bool.and_eq_true,Bool.and_eq_true] at q;have q1:((sIx items.size 0 lo:Nat):Int)=0:=eq_of_beq q.1.1;have q2:sIx items.size items.size hi-sIx items.size 0 lo=items.size:=eq_of_beq q.2;exact hw ⟨by omega,by omega⟩
 show wpAny _ _ (if (((sIx items.size 0 lo:Nat):Int) == 0 && (1:Int) == 1 && (sIx items.size items.size hi-sIx items.size 0 lo) == items.size)=true then _ else _) _ _ s
 rw[if_neg hno,rj]
 first
  |exact wpAny_bind (m:=Builtin.Tuple.tupleExact _) (wpAny_newObj_type (wpAny_pure ⟨_,rfl,wpAny_pure h⟩) htake)
  |exact wpAny_bind (m:=Builtin.Tuple.tupleExact _) (wpAny_newObj_type (wpAny_bind (wpAny_pure (wpAny_pure ⟨_,rfl,wpAny_pure h⟩))) htake)
  |exact wpAny_bind (wpAny_bind (m:=Builtin.Tuple.tupleExact _) (wpAny_newObj_type (wpAny_pure (wpAny_pure ⟨_,rfl,wpAny_pure h⟩)) htake))
  |exact wpAny_bind (wpAny_bind (m:=Builtin.Tuple.tupleExact _) (wpAny_newObj_type (wpAny_pure ⟨_,rfl,wpAny_pure h⟩) htake))
end
end HT
namespace L2
open PySem PySem.Spec PyProof.Rows
noncomputable abbrev TO:=St->Hp->(Option Int->Hp->Prop)->Prop
noncomputable def PO(X:Cx)(e:Option Expr)(t:TO):Prop:=
 ∀(pins:List (Addr×Obj)) (s:Shared) (σ:St) (H:Hp) (Q:Option Int->Hp->Prop),Inv X pins σ H s->t σ H Q ->
  wpAny (model X.prog X.w) X.A (evalPart e X.env) (fun u s'=>∃o H',Inv X pins σ H' s'/\IsPart u o/\Q o H') X.xe s
noncomputable def oK:TO:=fun _ H Q=>Q none H
noncomputable def vL(t:TE):TO:=fun σ H Q=>t σ H fun x H1=>∃i,x=.int i/\Q (some i) H1
section
variable{X:Cx}{e:Expr}{te:TE}{lo hi:Option Expr}{tl th:TO}{pos p2:Pos}
theorem gR:PO X none oK:=by
 intro pins s σ H Q I h;rw[evalPart_none];exact wpAny_pure ⟨none,H,I,.none,h⟩
theorem g8(h:PE X e te):PO X (some e) (vL te):=by
 intro pins s σ H Q I hw;rw[evalPart_some];refine thn (h pins s σ H _ I hw) fun u s1 ⟨x,H1,I1,r1,q1⟩=>?_;obtain⟨i,rfl,q⟩:=q1;obtain⟨t,rfl⟩:=r1;exact⟨some i,H1,I1,.int i t,q⟩
noncomputable def SlR(X:Cx)(r:V->Option Int->Option Int->Hp->VK->Prop):Prop:=
 ∀(pins:List (Addr×Obj)) (s:Shared) (σ:St) (H:Hp) (x:V) (v vl vu:Value) (lo hi:Option Int) (sl:Addr) (Q:VK),Inv X pins σ H s->aF x v->s.heap.IsSliceOf sl vl vu .none->IsPart vl lo->IsPart vu hi->r x lo hi H Q ->
  ∃T id,typeLookup (.type T) "__getitem__"=pure (some (.builtin id))/\s.TypeIs v T/\wpAny (model X.prog X.w) X.A (getItem v (.ref sl)) (EP X pins σ Q) X.xe s
noncomputable def tSl(r:V->Option Int->Option Int->Hp->VK->Prop)(te:TE)(tl th:TO):TE:=fun σ H Q=>te σ H fun x H1=>tl σ H1 fun l H2=>th σ H2 fun u H3=>r x l u H3 Q
theorem fK{r:V->Option Int->Option Int->Hp->VK->Prop}(hr:SlR X r)(he:PE X e te)(hl:PO X lo tl)(hu:PO X hi th):PE X (.Subscript e (.Slice lo hi none p2) pos) (tSl r te tl th):=.mk <| by
 intro pins s σ H Q I h;refine Subscript_ (thn (he pins s σ H _ I h) fun v s1 ⟨x,H1,I1,r1,q1⟩=>?_);refine wpAny_Slice (thn (hl pins s1 σ H1 _ I1 q1) fun vl s2 ⟨l,H2,I2,pl,q2⟩=>thn (hu pins s2 σ H2 _ I2 q2) fun vu s3 ⟨u,H3,I3,pu,q3⟩=>?_);rw[evalPart_none];refine wpAny_pure ?_;have I4:Inv X pins σ H3 { s3 with heap:=s3.heap.push { cls:=.type "slice",data:=.fields #[vl,vu,.none] } }:=I3.kept (t':=s3.toks) fun b ob q=>Heap.get?_push_of_some _ q
 obtain⟨T,id,hT,ht,hg⟩:=hr pins { s3 with heap:=s3.heap.push { cls:=.type "slice",data:=.fields #[vl,vu,.none] } } σ H3 x v vl vu l u s3.heap.objs.size Q I4 r1 (Heap.IsSliceOf.new ..) pl pu q3;show wpAny (model X.prog X.w) X.A (subscriptTail e (.Slice lo hi none p2) v (.ref s3.heap.objs.size)) (EP X pins σ Q) X.xe { s3 with heap:=s3.heap.push { cls:=.type "slice",data:=.fields #[vl,vu,.none] } };exact tail_any (ops:=[.ref s3.heap.objs.size,v]) ht hT hg (by with_unfolding_all rfl)
noncomputable def kc(xs:List V)(lo hi:Option Int):List V:=(xs.drop (HT.sIx xs.length 0 lo)).take (HT.sIx xs.length xs.length hi-HT.sIx xs.length 0 lo)
theorem gx(xs:List V)(lo hi:Option Int):(kc xs lo hi).length<=xs.length:=by
 unfold kc;rw[List.length_take,List.length_drop];omega
noncomputable def zG(K:W.Frag):V->Option Int->Option Int->Hp->VK->Prop:=fun x lo hi H Q=>∃a xs,x=.ref a/\SqT K H a xs /\
 ¬ (HT.sIx xs.length 0 lo=0/\HT.sIx xs.length xs.length hi=xs.length)/\∀p,H p=none->Q (.ref p) (upd H p (.tup (kc xs lo hi)))
theorem wJ:SlR X (zG X.K):=by
 intro pins s σ H x v vl vu lo hi sl Q I rx hs pl pu h;obtain⟨a,xs,rfl,hx,hw,q⟩:=h;cases rx;obtain⟨its,r,ht,hz⟩:=I.tuple hx;have hlen:its.toArray.size=xs.length:=by rw[List.size_toArray];exact r.length.symm
 refine⟨"tuple",_,PyProof.Rows.slot_tuple_getitem.lookup,ht.typeIs,?_⟩;refine HT.getItem_tuple_cut ht hs pl pu (by rw[hlen];exact hw) ?_ (by rw[hlen];exact hz)
 rw[hlen];refine⟨.ref s.heap.objs.size,_,I.laid (t':=s.toks) (o:=.tup (kc xs lo hi)) (fun b ob q=>Heap.get?_push_of_some _ q) (Nat.le_refl _) ?_,rfl,q _ (I.hok.fresh (Nat.le_refl _))⟩;exact⟨Nat.le_trans (gx xs lo hi) hz,_,(r.drop (HT.sIx xs.length 0 lo)).take (HT.sIx xs.length xs.length hi-HT.sIx xs.length 0 lo),l9.new _ _⟩
noncomputable def za(K:W.Frag):R2:=fun x y H Q=>∃a b xs ys,x=.ref a/\y=.ref b/\SqT K H a xs/\SqT K H b ys/\xs≠[]/\xs.length+ys.length<=sizeLine /\
 (ys=[]->Q (.ref a) H)/\(ys≠[]->∀p,H p=none->Q (.ref p) (upd H p (.tup (xs++ys))))
theorem ar.Aj{xs:List V}{us:List Value}(r:ar xs us):us=[]↔xs=[]:=by
 cases r with
 |nil=>simp
 |cons _ _=>simp
theorem uN:OpR X (binaryOp .Add) (za X.K):=by
 intro pins s σ H x y v u Q I rx ry h;obtain⟨a,b,xs,ys,rfl,rfl,ha,hb,hx,hz,q1,q2⟩:=h;cases rx;cases ry;obtain⟨its,r1,p1,_⟩:=I.tuple ha;obtain⟨its2,r2,p2,_⟩:=I.tuple hb;refine HT.cat_tup p1 p2 (fun z=>hx (r1.Aj.mp z)) (fun z=>⟨.ref a,H,I,rfl,q1 (r2.Aj.mp z)⟩) (fun z=>?_) (by rw[←r1.length,←r2.length];exact hz)
 refine⟨.ref s.heap.objs.size,_,I.laid (t':=s.toks) (o:=.tup (xs++ys)) (fun b ob q=>Heap.get?_push_of_some _ q) (Nat.le_refl _) ?_,rfl,q2 (fun w=>z (r2.Aj.mpr w)) _ (I.hok.fresh (Nat.le_refl _))⟩;exact⟨by rw[List.length_append];exact hz,_,r1.append r2,l9.new _ _⟩
end
noncomputable def ixN(n:Nat)(i:Int):Option Nat:=if 0<=i then (if i<n then some i.toNat else none) else if -(n:Int)<=i then some (i+n).toNat else none
noncomputable def atI{α:Type}(xs:List α)(i:Int):Option α:=(ixN xs.length i).bind fun j=>xs[j]?
theorem pc{n:Nat}{i:Int}{j:Nat}(h:ixN n i=some j):seqIndex? i n=some j/\j<n/\-(n:Int)<=i/\i<n:=by
 unfold ixN at h;by_cases h0:0<=i
 ·rw[if_pos h0] at h
  by_cases h1:i<n
  ·rw[if_pos h1] at h
   have e:i.toNat=j:=Option.some.inj h;exact⟨by rw[seqIndex_of h0 h1,e],by omega,by omega,h1⟩
  ·rw[if_neg h1] at h;cases h
 ·rw[if_neg h0] at h
  by_cases h1:-(n:Int)<=i
  ·rw[if_pos h1] at h
   have e:(i+n).toNat=j:=Option.some.inj h;exact⟨by rw[seqIndex_neg (by omega) h1,e],by omega,h1,by omega⟩
  ·rw[if_neg h1] at h;cases h
theorem j8{α:Type}{xs:List α}{i:Int}{v:α}(h:atI xs i=some v):∃j,seqIndex? i xs.length=some j/\xs[j]?=some v/\j<xs.length/\-(xs.length:Int)<=i/\i<xs.length:=by
 unfold atI at h
 cases e:ixN xs.length i with
 |none=>rw[e] at h;cases h
 |some j=>
  rw[e] at h;obtain⟨h1,h2,h3,h4⟩:=pc e;exact⟨j,h1,h,h2,h3,h4⟩
noncomputable def um(b:Expr):Prop:=∀o i,subscripted b false o i=operate [o,i] (getItem o i)
noncomputable def IxR(X:Cx)(r:R2):Prop:=
 ∀(value slice:Expr) (pins:List (Addr×Obj)) (s:Shared) (σ:St) (H:Hp) (x y:V) (v u:Value) (Q:VK),Inv X pins σ H s->aF x v->aF y u->r x y H Q ->
  subscripted slice false v u=operate [v,u] (getItem v u)->wpAny (model X.prog X.w) X.A (subscriptTail value slice v u) (EP X pins σ Q) X.xe s
noncomputable def MtR(X:Cx)(id:String)(r:V->List V->Hp->VK->Prop):Prop:=
 ∀(pins:List (Addr×Obj)) (s:Shared) (σ:St) (H:Hp) (x:V) (xs:List V) (v:Value) (us:List Value) (Q:VK),Inv X pins σ H s->aF x v->ar xs us->r x xs H Q ->
  wpAny (model X.prog X.w) X.A (call (.builtin id) (v::us)) (EP X pins σ Q) X.xe s
section
variable{X:Cx}{a b:Expr}{ta tb:TE}{pos:Pos}
theorem IxR.or{r r':R2}(h:IxR X r)(h':IxR X r'):IxR X (fun x y H Q=>r x y H Q\/r' x y H Q):=by
 intro value slice pins s σ H x y v u Q I rx ry q hs;rcases q with q|q
 ·exact h value slice pins s σ H x y v u Q I rx ry q hs
 ·exact h' value slice pins s σ H x y v u Q I rx ry q hs
theorem bw{r:R2}(hr:IxR X r)(ha:PE X a ta)(hb:PE X b tb)(hs:um b):PE X (.Subscript a b pos) (tOp r ta tb):=.mk <| by
 intro pins s σ H Q I h;exact Subscript_ (wj ha hb I h fun v u s2 x y H2 I2 rx ry q=>hr a b pins s2 σ H2 x y v u Q I2 rx ry q (hs _ _))
noncomputable def wG(K:W.Frag):R2:=fun x y H Q=>∃p xs i v,x=.ref p/\y=.int i/\SqL K H p xs/\atI xs i=some v/\Q v H
noncomputable def xt(K:W.Frag):R2:=fun x y H Q=>∃p xs i v,x=.ref p/\y=.int i/\SqT K H p xs/\atI xs i=some v/\Q v H
noncomputable def xV:R2:=fun x y H Q=>∃z i c,x=.str z/\y=.int i/\z.length<=sizeLine/\atI z.cps.toList i=some c/\Q (.str ⟨#[c]⟩) H
theorem ut:IxR X (wG X.K):=by
 intro value slice pins s σ H x y v u Q I rx ry h hs;obtain⟨p,xs,i,z,rfl,rfl,hq,he,q⟩:=h;cases rx;obtain⟨t,rfl⟩:=ry;obtain⟨its,r,pl,hz⟩:=I.list hq;obtain⟨j,h1,h2,h3,h4,h5⟩:=j8 he;obtain⟨w,ew,rw'⟩:=r.get h2;have hl:=r.length;have hn:=f9;have fin:EP X pins σ Q w s:=⟨z,H,I,rw',q⟩;by_cases h0:0<=i
 ·have hj:i.toNat=j:=by
   rw[seqIndex_of h0 h5] at h1;exact Option.some.inj h1
  exact item_listR pl.isList h0 (by omega) (by rw[hj];simpa using ew) fin hs
 ·have hj:(i+(its.toArray.size:Int)).toNat=j:=by
   rw[seqIndex_neg (by omega) h4] at h1
   rw[List.size_toArray,←hl]
   exact Option.some.inj h1
  exact subscriptTail_builtinR (x:=w) pl.isList.typeIs slot_list_getitem.lookup
   (wpAny_getItem_list_neg (Q:=fun r s'=>r=w/\EP X pins σ Q r s') pl.isList (by omega) (by rw[List.size_toArray]<;>omega) (by omega) (by rw[hj];simpa using ew) ⟨rfl,fin⟩) hs
theorem wL:IxR X (xt X.K):=by
 intro value slice pins s σ H x y v u Q I rx ry h hs;obtain⟨p,xs,i,z,rfl,rfl,hq,he,q⟩:=h;cases rx;obtain⟨t,rfl⟩:=ry;obtain⟨its,r,pl,hz⟩:=I.tuple hq;obtain⟨j,h1,h2,h3,h4,h5⟩:=j8 he;obtain⟨w,ew,rw'⟩:=r.get h2;have hl:=r.length;have hn:=f9;have fin:EP X pins σ Q w s:=⟨z,H,I,rw',q⟩
 exact subscriptTail_builtinR (x:=w) pl.typeIs slot_tuple_getitem.lookup
  (getItem_tuple (j:=j) (Q:=fun r s'=>r=w/\EP X pins σ Q r s') pl (by omega) (by omega) (by rw[List.size_toArray,←hl];exact h1) (by simpa using ew) ⟨rfl,fin⟩) hs
theorem wN:IxR X xV:=by
 intro value slice pins s σ H x y v u Q I rx ry h hs;obtain⟨z,i,c,rfl,rfl,hz,he,q⟩:=h;obtain⟨t,rfl⟩:=rx;obtain⟨t',rfl⟩:=ry;obtain⟨j,h1,h2,h3,h4,h5⟩:=j8 he;have hl:z.cps.toList.length=z.length:=by simp[Str.length]
 rw[hl] at h1 h4 h5;have hn:=f9
 exact tail_any (typeIs_str s z t) slot_str_getitem.lookup (getItem_str (c:=c) (by
  have e1:decide (i < -(2^63:Int))=false:=decide_eq_false (by omega)
  have e2:decide (i ≥ 2^63)=false:=decide_eq_false (by omega)
  rw[e1,e2,Bool.or_false]) (by rw[h1];simpa using h2) ⟨.str ⟨#[c]⟩,H,I.tok _,⟨_,rfl⟩,q⟩) hs
noncomputable def rIx(K:W.Frag):R2:=fun x y H Q=>wG K x y H Q\/xt K x y H Q\/xV x y H Q
theorem xA:IxR X (rIx X.K):=ut.or (wL.or wN)
theorem nD(its:List Value)(n j:Nat)(u:Value):Obj.mapSeq (·.setIfInBounds j u) { cls:=.type "list",data:=.seq its.toArray n }={ cls:=.type "list",data:=.seq (its.set j u).toArray n }:=by
 simp[Obj.mapSeq]
theorem Inv.lst{pins:List (Addr×Obj)}{σ:St}{H:Hp}{s:Shared}{p:Addr}{xs:List V}(I:Inv X pins σ H s)(h:H p=some (.lst xs)):
  ∃(its:List Value)(n:Nat),ar xs its/\s.heap.get? p=some { cls:=.type "list",data:=.seq its.toArray n }/\xs.length<=sizeLine:=by
 obtain⟨z,its,n,r,e⟩:=I.hok p _ h;exact⟨its,n,r,e,z⟩
theorem Inv.Aw{pins:List (Addr×Obj)}{σ:St}{H:Hp}{s:Shared}{p:Addr}{xs ys:List V}{its its':List Value}{n n':Nat}{f:Obj->Obj}(I:Inv X pins σ H s)(h:H p=some (.lst xs))(ho:s.heap.get? p=some { cls:=.type "list",data:=.seq its.toArray n })(hf:f { cls:=.type "list",data:=.seq its.toArray n }={ cls:=.type "list",data:=.seq its'.toArray n' })(r:ar ys its')(hz:ys.length<=sizeLine)(t:Nat):
  Inv X pins σ (upd H p (.lst ys)) { s with heap:=s.heap.update p f,toks:=t }:=by
 have e:(s.heap.update p f).get? p=some { cls:=.type "list",data:=.seq its'.toArray n' }:=by
  rw[Heap.get?_update_self f ho (by rw[hf]<;>rfl),hf]
 refine I.write (x:=p) (e:=p) (by rw[h];trivial) (.inl rfl) (fun b u hb q=>(Heap.get?_update_other _ _ (Ne.symm hb)).trans q) ⟨_,e⟩ ?_
 exact⟨hz,its',n',r,e⟩
noncomputable def vm:V->V->V->Hp->(Hp->Prop)->Prop:=fun o i v H Q=>∃p xs k j,o=.ref p/\i=.int k/\H p=some (.lst xs)/\ixN xs.length k=some j/\Q (upd H p (.lst (xs.set j v)))
theorem lV:yB X vm:=by
 intro pins s σ H o i v ov iv u Q I ro ri rv h;obtain⟨p,xs,k,j,rfl,rfl,hp,hj,q⟩:=h;cases ro;obtain⟨t,rfl⟩:=ri;obtain⟨its,n,r,ho,hz⟩:=I.lst hp;obtain⟨h1,h2,h3,h4⟩:=pc hj;have hl:=r.length;have hn:=f9
 have I':Inv X pins σ (upd H p (.lst (xs.set j v))) { s with heap:=s.heap.update p (Obj.mapSeq (·.setIfInBounds j u)) }:=
  I.Aw hp ho (nD its n j u) (r.set rv j) (by rw[List.length_set];exact hz) s.toks
 by_cases h0:0<=k
 ·have hk:k.toNat=j:=by
   rw[seqIndex_of h0 h4] at h1;exact Option.some.inj h1
  exact W.ki_setAt ho h0 (by omega) (by rw[List.size_toArray,←hl];exact h4) (by rw[hk];exact⟨_,I',q⟩)
 ·have hk:(k+(its.toArray.size:Int)).toNat=j:=by
   rw[seqIndex_neg (by omega) h3] at h1
   rw[List.size_toArray,←hl]
   exact Option.some.inj h1
  exact W.ki_setBack ho (by omega) (by rw[List.size_toArray,←hl];exact h3) (by omega) (by rw[hk];exact⟨_,I',q⟩)
theorem kg(lo hi:Option Int)(n:Nat):(sliceBounds lo hi none n).1=((HT.sIx n 0 lo:Nat):Int)/\(sliceBounds lo hi none n).2.1=((HT.sIx n n hi:Nat):Int)/\(sliceBounds lo hi none n).2.2=1:=by
 refine⟨?_,?_,rfl⟩
 ·cases lo with
  |none=>simp[sliceBounds,HT.sIx]
  |some i=>
   simp only[sliceBounds,HT.sIx,Option.getD_none,show (1:Int)>0 by decide,if_true]
   by_cases h:i<0
   ·simp only[h,if_true]<;>omega
   ·simp only[h,if_false]<;>omega
 ·cases hi with
  |none=>simp[sliceBounds,HT.sIx]
  |some i=>
   simp only[sliceBounds,HT.sIx,Option.getD_none,show (1:Int)>0 by decide,if_true]
   by_cases h:i<0
   ·simp only[h,if_true]<;>omega
   ·simp only[h,if_false]<;>omega
theorem i6(its:List Value)(lo hi:Option Int):slicePick its.toArray lo hi none=((its.drop (HT.sIx its.length 0 lo)).take (HT.sIx its.length its.length hi-HT.sIx its.length 0 lo)).toArray:=by
 obtain⟨h1,h2,h3⟩:=kg lo hi its.toArray.size;unfold slicePick;rw[h1,h2,h3];simp only[sliceRange_one,pick_run,List.size_toArray]<;>rfl
noncomputable def yS(K:W.Frag):V->Option Int->Option Int->Hp->VK->Prop:=fun x lo hi H Q=>∃a xs,x=.ref a/\SqL K H a xs/\∀p,H p=none->Q (.ref p) (upd H p (.lst (kc xs lo hi)))
theorem uI:SlR X (yS X.K):=by
 intro pins s σ H x v vl vu lo hi sl Q I rx hs pl pu h;obtain⟨a,xs,rfl,hx,q⟩:=h;cases rx;obtain⟨its,r,ht,hz⟩:=I.list hx;have hlen:=r.length;refine⟨"list",_,slot_list_getitem.lookup,ht.isList.typeIs,?_⟩;refine wpAny_getItem_list_slice ht.isList hs pl pu .none (by simp) ?_ (by rw[List.size_toArray]<;>omega)
 rw[i6,←hlen]
 refine⟨.ref s.heap.objs.size,_,I.laid (t':=s.toks) (o:=.lst (kc xs lo hi)) (fun b ob q=>Heap.get?_push_of_some _ q) (Nat.le_refl _) ?_,rfl,q _ (I.hok.fresh (Nat.le_refl _))⟩;exact⟨Nat.le_trans (gx xs lo hi) hz,_,0,(r.drop (HT.sIx xs.length 0 lo)).take (HT.sIx xs.length xs.length hi-HT.sIx xs.length 0 lo),Heap.get?_push_size _ rfl⟩
theorem jX:cy X (.type "list") (fun xs H Q=>∃p ys,xs=[.ref p]/\(SqL X.K H p ys\/SqT X.K H p ys)/\∀l,H l=none->Q (.ref l) (upd H l (.lst ys))):=by
 intro pins s σ H xs us Q I r h;obtain⟨p,ys,rfl,hq,q⟩:=h;obtain⟨u,rfl,rx⟩:=jF r;cases rx
 have fin:∀(its:List Value),ar ys its->ys.length<=sizeLine->∀(h':Heap)(c':Nat),(∀b o',s.heap.get? b=some o'->h'.get? b=some o') ->
   h'.get? s.heap.objs.size=some { cls:=.type "list",dict:=none,data:=.seq its.toArray c',slots:=#[] }->EP X pins σ Q (.ref s.heap.objs.size) { s with heap:=h' }:=fun its r' hz h' c' kp e=>
  ⟨.ref s.heap.objs.size,_,I.laid (t':=s.toks) kp (Nat.le_refl _) (show bj X.prog X.w _ h' _ (.lst ys) from ⟨hz,its,c',r',e⟩),rfl,q _ (I.hok.fresh (Nat.le_refl _))⟩
 rcases hq with hq|hq
 ·obtain⟨its,r',pl,hz⟩:=I.list hq
  have hlen:=r'.length;obtain⟨o,ho,hc,n,hd⟩:=pl.isList;exact call_list_seq p (.inl rfl) ho hc hd (fun h' c' kp e=>fin its r' hz h' c' kp e) (by simp only[List.size_toArray]<;>omega)
 ·obtain⟨its,r',pl,hz⟩:=I.tuple hq
  have hlen:=r'.length;obtain⟨o,ho,hc,n,hd⟩:=pl;exact call_list_seq p (.inr rfl) ho hc hd (fun h' c' kp e=>fin its r' hz h' c' kp e) (by simp only[List.size_toArray]<;>omega)
theorem i5:cy X (.type "tuple") (fun xs H Q=>∃p ys,xs=[.ref p]/\((SqL X.K H p ys/\∀l,H l=none->Q (.ref l) (upd H l (.tup ys)))\/(SqT X.K H p ys/\Q (.ref p) H))):=by
 intro pins s σ H xs us Q I r h;obtain⟨p,ys,rfl,h⟩:=h;obtain⟨u,rfl,rx⟩:=jF r;cases rx;rcases h with⟨hq,q⟩|⟨hq,q⟩
 ·obtain⟨its,r',pl,hz⟩:=I.list hq
  have hlen:=r'.length;refine call_tuple_list pl.isList (fun h' kp=>?_) (by simp only[List.size_toArray]<;>omega)
  have I1:Inv X pins σ H { s with heap:=h' }:=I.kept (t':=s.toks) kp
  have I2:Inv X pins σ (upd H h'.objs.size (.tup ys)) { s with heap:=h'.push { cls:=.type "tuple",data:=.seq its.toArray } }:=
   I1.laid (t':=s.toks) (fun b o e=>Heap.get?_push_of_some _ e) (Nat.le_refl _) (show bj X.prog X.w _ _ _ (.tup ys) from ⟨hz,its,r',l9.new _ _⟩)
  exact⟨.ref h'.objs.size,_,I2,rfl,q _ (I1.hok.fresh (Nat.le_refl _))⟩
 ·obtain⟨its,r',pl,hz⟩:=I.tuple hq
  exact call_tuple_same pl ⟨.ref p,H,I,rfl,q⟩
noncomputable def tyV(K:W.Frag)(T:String)(x:V)(H:Hp):Prop:=match x with
 |.str _=>T="str"
 |.int _=>T="int"
 |.ref p=>(T="list"/\∃xs,SqL K H p xs)\/(T="tuple"/\∃o,K.lookup p=some o/\o.cls=.type "tuple"/\o.dict=none) \/
   (T="dict"/\((∃kvs,H p=some (.dK kvs))\/∃kvs,H p=some (.dT kvs)))\/(T="set"/\∃S n,H p=some (.set S n))
 |_=>False
theorem qH{pins:List (Addr×Obj)}{σ:St}{H:Hp}{s:Shared}{T:String}{x:V}{v:Value}(I:Inv X pins σ H s)(r:aF x v)(ty:tyV X.K T x H):
  s.TypeIs v T/\∀a,v=.ref a->∃ob,s.heap.get? a=some ob/\ob.dict=none:=by
 cases x with
 |str z=>
  obtain⟨t,rfl⟩:=r;cases (show T="str" from ty)
  exact⟨typeIs_str s z t,fun _ e=>nomatch e⟩
 |int i=>
  obtain⟨t,rfl⟩:=r;cases (show T="int" from ty)
  exact⟨typeIs_int s i t,fun _ e=>nomatch e⟩
 |ref p=>
  cases r;rcases ty with⟨rfl,xs,hq⟩|⟨rfl,o,hk,hc,hd⟩|⟨rfl,hk⟩|⟨rfl,S,n,hk⟩
  ·obtain⟨its,_,pl,_⟩:=I.list hq
   refine⟨pl.isList.typeIs,fun a e=>?_⟩;cases e;obtain⟨o,n,e,c,hd,_⟩:=pl;exact⟨o,e,hd⟩
  ·refine⟨⟨o,I.kIn p o hk,hc⟩,fun a e=>?_⟩
   cases e;exact⟨o,I.kIn _ o hk,hd⟩
  ·have z:∃o,s.heap.get? p=some o/\o.ExactDict:=by
    rcases hk with⟨kvs,hk⟩|⟨kvs,hk⟩
    ·obtain⟨_,_,_,_,o,_,_,e,ex,_⟩:=I.hok p _ hk
     exact⟨o,e,ex⟩
    ·obtain⟨_,_,_,_,o,_,_,e,ex,_⟩:=I.hok p _ hk
     exact⟨o,e,ex⟩
   obtain⟨o,e,ex⟩:=z;refine⟨⟨o,e,ex.1⟩,fun a e2=>?_⟩;cases e2;exact⟨o,e,ex.2.1⟩
  ·obtain⟨o,_,_,_,e,ex,_⟩:=I.hok p _ hk
   refine⟨⟨o,e,ex.1⟩,fun a e2=>?_⟩;cases e2;exact⟨o,e,ex.2.1⟩
 |_=>exact False.elim ty
noncomputable def yX(K:W.Frag)(T:String)(r:V->List V->Hp->VK->Prop)(to:TE):TE:=fun σ H Q=>to σ H fun x H1=>tyV K T x H1/\r x [] H1 Q
noncomputable def tBM(K:W.Frag)(T:String)(r:V->List V->Hp->VK->Prop)(to:TE)(t:TA):TE:=fun σ H Q=>to σ H fun x H1=>tyV K T x H1/\t σ H1 fun xs H2=>r x xs H2 Q
variable{o e:Expr}{es:List Expr}{to:TE}{t:TA}{name:Str}{apos cpos:Pos}{T id:String}{r:V->List V->Hp->VK->Prop}
theorem ww(pa:PlainAttrs T)(slot:Slot T name id)(hty:typeOf (.builtin id)=pure (.type "method_descriptor"))(hm:MtR X id r)(ho:PE X o to)(hbase:attributeBase o name X.env (eval o X.env)=eval o X.env:=by rfl)(hline:(apos.endLine == cpos.line)=true:=by rfl):PE X (.Call (.Attribute o name apos) [] [] cpos) (yX X.K T r to):=.mk <| by
 intro pins s σ H Q I h;refine wpAny_Call_method0_late hbase hline (thn (ho pins s σ H _ I h) fun v s1 ⟨x,H1,I1,r1,ty,q1⟩=>?_);obtain⟨h1,h2⟩:=qH I1 r1 ty;exact⟨T,id,pa,slot,hty,h1,h2,Calls.callWith_builtin rfl (PySem.evalArgs_none (hm pins s1 σ H1 x [] v [] Q I1 r1 .nil q1))⟩
theorem md(pa:PlainAttrs T)(slot:Slot T name id)(hty:typeOf (.builtin id)=pure (.type "method_descriptor"))(hm:MtR X id r)(ho:PE X o to)(ha:PA X (e::es) t)(hbase:attributeBase o name X.env (eval o X.env)=eval o X.env:=by rfl)
  (hfew:((backTo cpos (starEach (e::es) X.env)).all (fun x=>!x.1) && (backToKw cpos (keywordEach [] X.env)).all (fun x=>x.1.isSome)
   && decide ((e::es).length+([]:List Keyword).length+(if ([]:List Keyword).isEmpty then 0 else 1)<30))=true:=by rfl)
  (hline:(apos.endLine == cpos.line)=true:=by rfl) (hs:starEach (e::es) X.env=(false,eval e X.env)::starEach es X.env:=by rfl) (hplain:(backTo cpos (starEach es X.env)).any (·.1)=false:=by rfl) :
  PE X (.Call (.Attribute o name apos) (e::es) [] cpos) (tBM X.K T r to t):=.mk <| by
 intro pins s σ H Q I h;refine wpAny_Call_method_late hbase hfew hline rfl (thn (ho pins s σ H _ I h) fun v s1 ⟨x,H1,I1,r1,ty,q1⟩=>?_);obtain⟨h1,h2⟩:=qH I1 r1 ty;refine⟨T,id,pa,slot,hty,h1,h2,?_⟩;have hA:=ha cpos pins s1 σ H1 _ I1 q1;rw[hs] at hA ⊢;refine Calls.callWith_builtin (by show (false || (backTo cpos (starEach es X.env)).any (·.1))=false;rw[hplain]<;>rfl) (Calls.evalArgs_plain ?_)
 exact thn hA fun us s2 ⟨vs,H2,I2,r2,q2⟩=>hm pins s2 σ H2 x vs v us Q I2 r1 r2 q2
end
noncomputable def MtM(X:Cx)(id:String)(r:V->List V->Hp->VK->Prop):Prop:=
 ∀(pins:List (Addr×Obj)) (s:Shared) (σ:St) (H:Hp) (x:V) (xs:List V) (v:Value) (us:List Value) (Q:VK),Inv X pins σ H s->aF x v->ar xs us->r x xs H Q ->
  wpAny (model X.prog X.w) X.A (call (.builtin id) (v::us)) (EP X pins σ Q) X.xe s
theorem ar.one:∀ {x:V} {us:List Value},ar [x] us->∃u,us=[u]/\aF x u
 |_,_,.cons r .nil=>⟨_,rfl,r⟩
theorem ar.two:∀ {x y:V} {us:List Value},ar [x,y] us->∃u v,us=[u,v]/\aF x u/\aF y v
 |_,_,_,.cons r (.cons q .nil)=>⟨_,_,rfl,r,q⟩
theorem ar.zero:∀ {us:List Value},ar [] us->us=[]
 |_,.nil=>rfl
theorem ar.eraseIdx:∀ {xs:List V} {us:List Value} (i:Nat),ar xs us->ar (xs.eraseIdx i) (us.eraseIdx i)
 |_,_,_,.nil=>.nil
 |_,_,0,.cons _ t=>t
 |_,_,i+1,.cons r t=>.cons r (ar.eraseIdx i t)
theorem ar.rep{xs:List V}{us:List Value}(h:ar xs us):∀k:Nat,ar (List.replicate k xs).flatten (List.replicate k us).flatten
 |0=>.nil
 |k+1=>by
  rw[List.replicate_succ,List.replicate_succ,List.flatten_cons,List.flatten_cons];exact ar.append h (ar.rep h k)
theorem jC{α:Type}:∀(l:List α)(i:Nat),(l.eraseIdx i).length<=l.length
 | [],_=>Nat.le_refl _
 |_::_,0=>Nat.le_succ _
 |_::r,i+1=>Nat.succ_le_succ (jC r i)
theorem jI(its:List Value):∀(k:Nat)(acc:List Value),
  List.foldl (fun x1 x2=>x1++x2) acc.toArray (List.replicate k its.toArray)=(acc++(List.replicate k its).flatten).toArray
 |0,acc=>by simp
 |k+1,acc=>by
  have e:acc.toArray++its.toArray=(acc++its).toArray:=by simp
  have e2:(acc++its)++(List.replicate k its).flatten=acc++(List.replicate (k+1) its).flatten:=by
   rw[List.replicate_succ,List.flatten_cons,List.append_assoc]
  rw[←e2,←jI its k (acc++its),←e,List.replicate_succ,List.foldl_cons]
section
variable{X:Cx}{pins:List (Addr×Obj)}{σ:St}{H:Hp}{s:Shared}{l b:Addr}{xs ys zs:List V}
theorem Inv.lset{its its':List Value}{n:Nat}{f:Array Value->Array Value}{t':Nat}(I:Inv X pins σ H s)(hH:H l=some (.lst xs))(e:s.heap.get? l=some { cls:=.type "list",data:=.seq its.toArray n })(hf:f its.toArray=its'.toArray)(hv:ar ys its')(hz:ys.length<=sizeLine):
  Inv X pins σ (upd H l (.lst ys)) { s with heap:=s.heap.update l (Obj.mapSeq f),toks:=t' }:=by
 have q:=PySem.IsL.update e f;rw[hf] at q;refine I.write (x:=l) (e:=l) (by rw[hH];exact trivial) (.inl rfl) (fun b' u hb hu=>(Heap.get?_update_other s.heap (Obj.mapSeq f) (Ne.symm hb)).trans hu) ⟨_,q⟩ ?_
 exact⟨hz,its',_,hv,q⟩
theorem Inv.lnew{its:List Value}{t':Nat}(I:Inv X pins σ H s)(hv:ar ys its)(hz:ys.length<=sizeLine):
  Inv X pins σ (upd H s.heap.objs.size (.lst ys)) { s with heap:=s.heap.push { cls:=.type "list",data:=.seq its.toArray },toks:=t' }:=
 I.laid (fun _ _ q=>Heap.get?_push_of_some _ q) (Nat.le_refl _) ⟨hz,its,0,hv,Heap.get?_push_size _ rfl⟩
theorem Inv.fresh(I:Inv X pins σ H s):H s.heap.objs.size=none:=I.hok.fresh (Nat.le_refl _)
theorem Inv.Aq(I:Inv X pins σ H s)(hH:H l=some (.lst xs)):xs.length<=sizeLine/\∃(its:List Value)(n:Nat),ar xs its/\xs.length=its.length/\s.heap.get? l=some { cls:=.type "list",data:=.seq its.toArray n }:=by
 obtain⟨z,its,n,r,e⟩:=I.hok l _ hH;exact⟨z,its,n,r,r.length,e⟩
theorem qQ{n:Nat}(h:n<=sizeLine):Builtin.List.listTooLong n=false:=by
 unfold Builtin.List.listTooLong;exact decide_eq_false (by omega)
end
section
variable{X:Cx}
noncomputable def nT:V->List V->Hp->VK->Prop:=fun x vs H Q=>∃l xs y,x=.ref l/\vs=[y]/\H l=some (.lst xs)/\xs.length<sizeLine/\Q .non (upd H l (.lst (xs++[y])))
theorem jm:MtM X "list.append" nT:=by
 intro pins s σ H x vs v us Q I rx rv h;obtain⟨l,xs,y,rfl,rfl,hH,hz,q⟩:=h;cases rx;obtain⟨u,rfl,ru⟩:=rv.one;obtain⟨z,its,n,r,hl,e⟩:=I.Aq hH;refine call_meets F.slot_list_append ⟨_,e,rfl⟩ F.entry_list_append (F.args_list_append_2 _ _) (PySem.list_append l its.toArray n u (by rw[List.size_toArray];omega)) ⟨e,?_⟩
 refine⟨.non,_,I.lset (its':=its++[u]) hH e (by simp) (r.append (.cons ru .nil)) ?_,rfl,q⟩
 rw[List.length_append,List.length_singleton];omega
noncomputable def qx:V->List V->Hp->VK->Prop:=fun x vs H Q=>∃l xs i k y,x=.ref l/\vs=[.int i]/\H l=some (.lst xs)/\-(2^63)<=i/\i<2^63/\seqIndex? i xs.length=some k/\xs[k]?=some y/\Q y (upd H l (.lst (xs.eraseIdx k)))
theorem fC:MtM X "list.pop" qx:=by
 intro pins s σ H x vs v us Q I rx rv h;obtain⟨l,xs,i,k,y,rfl,rfl,hH,h1,h2,hk,hy,q⟩:=h;cases rx;obtain⟨u,rfl,ru⟩:=rv.one;obtain⟨t,rfl⟩:=ru;obtain⟨z,its,n,r,hl,e⟩:=I.Aq hH;obtain⟨w,hw,rw'⟩:=r.get hy
 refine call_meets F.slot_list_pop ⟨_,e,rfl⟩ F.entry_list_pop (F.args_list_pop_2 _ _)
  (MeetsSeq.list_pop_at l its.toArray n i t k w (fitsIndex_both h1 h2) (by rw[List.size_toArray,←hl];exact hk) (by rw[←Array.getElem?_toList];exact hw) (by rw[List.size_toArray];omega)) ⟨e,?_⟩
 refine⟨y,_,I.lset (its':=its.eraseIdx k) hH e ?_ (r.eraseIdx k) ?_,rw',q⟩
 ·show its.toArray.eraseIdxIfInBounds k=(its.eraseIdx k).toArray
  rw[List.eraseIdxIfInBounds_toArray]
 ·have:=jC xs k
  omega
noncomputable def se:V->List V->Hp->VK->Prop:=fun x vs H Q=>∃l xs,x=.ref l/\vs=[]/\H l=some (.lst xs)/\Q .non (upd H l (.lst []))
theorem sd:MtM X "list.clear" se:=by
 intro pins s σ H x vs v us Q I rx rv h;obtain⟨l,xs,rfl,rfl,hH,q⟩:=h;cases rx;have hus:=rv.zero;subst hus;obtain⟨z,its,n,r,hl,e⟩:=I.Aq hH;refine call_meets F.slot_list_clear ⟨_,e,rfl⟩ F.entry_list_clear (F.args_list_clear_1 _) (AutoSeq1.list_clear_list_0 l its.toArray n (by rw[List.size_toArray];omega)) ⟨e,?_⟩
 exact⟨.non,_,I.lset (its':=[]) (ys:=[]) hH e rfl .nil (Nat.zero_le _),rfl,q⟩
noncomputable def u6:R2:=fun x y H Q=>∃l b xs zs,x=.ref l/\y=.ref b/\H l=some (.lst xs)/\H b=some (.lst zs)/\xs.length+zs.length<=sizeLine/\∀p,H p=none->Q (.ref p) (upd H p (.lst (xs++zs)))
theorem b0:OpR X (binaryOp .Add) u6:=by
 intro pins s σ H x y v u Q I rx ry h;obtain⟨l,b,xs,zs,rfl,rfl,hH,hB,hz,q⟩:=h;cases rx;cases ry;obtain⟨z,its,n,r,hl,e⟩:=I.Aq hH;obtain⟨z2,its2,n2,r2,hl2,e2⟩:=I.Aq hB;refine PySem.P.add_list e e2 ?_ (by rw[List.size_toArray,List.size_toArray];omega)
 have ea:its.toArray++its2.toArray=(its++its2).toArray:=by simp
 rw[ea];exact⟨.ref _,_,I.lnew (t':=s.toks) (r.append r2) (by rw[List.length_append];omega),rfl,q _ I.fresh⟩
noncomputable def uS:R2:=fun x y H Q=>∃l k xs,x=.ref l/\y=.int k/\H l=some (.lst xs)/\-(2^63)<=k/\k<2^63/\xs.length*k.toNat<=sizeLine /\
 ∀p,H p=none->Q (.ref p) (upd H p (.lst (List.replicate k.toNat xs).flatten))
theorem tZ{α:Type}(xs:List α)(k:Nat):(List.replicate k xs).flatten.length=k*xs.length:=by
 induction k with
 |zero=>simp
 |succ k ih=>rw[List.replicate_succ,List.flatten_cons,List.length_append,ih,Nat.succ_mul,Nat.add_comm]
theorem dg:OpR X (binaryOp .Mult) uS:=by
 intro pins s σ H x y v u Q I rx ry h;obtain⟨l,k,xs,rfl,rfl,hH,h1,h2,hz,q⟩:=h;cases rx;obtain⟨t,rfl⟩:=ry;obtain⟨z,its,n,r,hl,e⟩:=I.Aq hH;have hlen:its.toArray.size*k.toNat<=sizeLine:=by rw[List.size_toArray,←hl];exact hz
 have hcap:¬ its.toArray.size*k.toNat>(2^63-1) / 8:=by
  have:(sizeLine:Nat)<=(2^63-1) / 8:=by decide
  omega
 have hfit:¬ (!Builtin.List.listFitsIndex k)=true:=by
  rw[fitsIndex_both h1 h2];exact Bool.false_ne_true
 have hlong:¬ Builtin.List.listTooLong (its.toArray.size*k.toNat)=true:=by
  rw[qQ hlen];exact Bool.false_ne_true
 have hnew:List.foldl (fun x1 x2=>x1++x2) #[] (List.replicate (if its.toArray.isEmpty=true then 0 else k.toNat) its.toArray)=(List.replicate k.toNat its).flatten.toArray:=by
  have f0:∀m:Nat,List.foldl (fun x1 x2=>x1++x2) #[] (List.replicate m its.toArray)=(List.replicate m its).flatten.toArray:=fun m=>by
   have:=jI its m [];rw[List.nil_append] at this;exact this
  rw[f0]
  cases its with
  |nil=>simp
  |cons a r'=>rw[if_neg (by simp)]
 refine wpAny_binaryOp_repeat_ref (T:="list") (U:="int") (by decide) ⟨_,e,rfl⟩ (fun s'=>typeIs_int s' k t) noFill_list_mul F.fills_int_mul F.slot_int_rmul repeat_list F.slot_int_index.lookup
  (call_meets F.slot_int_rmul (typeIs_int s k t) F.entry_int_rmul (F.args_int_rmul_2 _ _) (int___rmul___int_list k t l its.toArray n)
   ⟨e,rfl,⟨_,e,rfl⟩,call_meets F.slot_list_mul ⟨_,e,rfl⟩ F.entry_list_mul (F.args_list_mul_2 _ _) (AutoListH.list___mul___list_int_3 l its.toArray n k t hfit hcap hlong) ⟨e,?_⟩⟩)
 rw[hnew];exact⟨.ref _,_,I.lnew (t':=s.toks) (r.rep k.toNat) (by rw[tZ,Nat.mul_comm];exact hz),rfl,q _ I.fresh⟩
end
section
variable{prog:Program}{w:World}{A:Around}{E:Value->Shared->Prop}{s:Shared}
set_option maxRecDepth 100000 in
end
structure M1(X:Cx)(o:Expr)(m:Str)(apos:Pos)(e:Expr)(cpos:Pos):Prop where
 base:attributeBase o m X.env (eval o X.env)=eval o X.env
 few:((backTo cpos (starEach [e] X.env)).all (fun x=>!x.1) && (backToKw cpos (keywordEach [] X.env)).all (fun x=>x.1.isSome)
  && decide (([e]:List Expr).length+([]:List Keyword).length+(if ([]:List Keyword).isEmpty then 0 else 1)<30))=true
 line:(apos.endLine == cpos.line)=true
 trees:backTo cpos (starEach [e] X.env)=[(false,eval e X.env)]
structure M2(X:Cx)(o:Expr)(m:Str)(apos:Pos)(e f:Expr)(cpos:Pos):Prop where
 base:attributeBase o m X.env (eval o X.env)=eval o X.env
 few:((backTo cpos (starEach [e,f] X.env)).all (fun x=>!x.1) && (backToKw cpos (keywordEach [] X.env)).all (fun x=>x.1.isSome)
  && decide (([e,f]:List Expr).length+([]:List Keyword).length+(if ([]:List Keyword).isEmpty then 0 else 1)<30))=true
 line:(apos.endLine == cpos.line)=true
 trees:backTo cpos (starEach [e,f] X.env)=[(false,eval e X.env),(false,eval f X.env)]
end L2
namespace Att
open PySem PySem.W PySem.Calls PyProof.Rows
theorem gL{P:Params}{h:Heap}:∀(ns:List Int)(vs:List Value),WellAll P h vs (ns.map WData.int)->IntsAre vs ns:=by
 intro ns
 induction ns with
 |nil=>
  intro vs w;rw[List.map_nil] at w;cases w;exact .nil
 |cons n ns ih=>
  intro vs w;rw[List.map_cons] at w
  cases w with
  |cons a b=>
   cases a;exact .cons _ _ (ih _ b)
theorem pH{l:OpenLaw}{n:Nat}(hn:l.most=some n){P:Params}{h:Heap}{args:List WData}{vals:List Value}(hpre:l.row.toRowW.claim.pre args=true)(hwl:WellAll P h vals args):
  ∃a vs ns,vals=[Value.ref a]/\args=[WData.list (ns.map WData.int)]/\h.get? a=some { cls:=.type "list",data:=.seq vs.toArray }/\IntsAre vs ns/\ns.length<=n:=by
 have hsh:WShape.hasAll [] args [.list .int]=true:=(pre_splitW hpre).1;have hc:l.pre.holds [] { args:=args }=true:=(pre_splitW hpre).2;obtain⟨d,r,rfl,h1,h2⟩:=hasAllW_cons hsh;obtain rfl:=hasAllW_nil h2;obtain⟨xs,rfl,h3⟩:=hasW_list h1;obtain⟨ns,rfl⟩:=items_int h3
 have hlen:ns.length<=n:=by
  unfold OpenLaw.pre at hc
  have h4:(WTm.not (.lt (.lit (.int (n:Int))) (.len (.arg 0)))).holds [] { args:=[.list (ns.map .int)] }=true:=by
   have h4:=(holds_andW hc).1;rw[hn] at h4;exact h4
  have h5:=condW_of h4 (w_not (w_lt w_lit (w_len_list (w_arg rfl))));rw[List.length_map] at h5;refine Nat.le_of_not_lt fun q=>?_;have q':(n:Int)<((ns.length:Nat):Int):=by omega
  first
   |(rw[decide_eq_true q'] at h5;exact absurd h5 (by decide))
   |(simp at h5;omega)
 cases hwl with
 |cons w1 w2=>
  cases w2
  cases w1 with
  |list ho hall=>exact⟨_,_,ns,rfl,rfl,ho,gL ns _ hall,hlen⟩
theorem p7(l:OpenLaw)(args:List WData):l.row.toRowW.claim.post args (.bool true) args=true:=
 postW_of (r:=l.row.toRowW) (X:=(true == true))
  (show WShape.has [] (.bool true) .bool=true by first|rfl|decide|simp[WShape.has,WShape.arms,WShape.armsAll])
  (show (WTm.eq .res (.lit (.bool true))).value [] { args:=args,res:=some (.bool true),after:=args }=some (.bool (true == true)) from w_eq_bool (w_res rfl) w_lit) rfl
theorem me{l:OpenLaw}{n:Nat}{q:Program}{loose:List Str}{XP:(Str->Option Value)->Heap->Prop}{YP:World->Heap->Prop}{d:DefRec}(hn:l.most=some n)(hdf:d.params.defaults=[])
  (call:∀(w:World)(s₀ s₁:Shared)(mg mb:Str->Option Value)(fa:Addr)(o:Obj)(pm cd doc:Value)(a:Addr)(vs:List Value)(ns:List Int),
   Ground q loose [] XP w s₀ mg mb s₁.heap->YP w s₁.heap ->
   s₁.heap.get? fa=some o->o.data=.func (docDef d.name d.params d.body d.scope pm cd doc)->s₁.heap.CodeRec cd d.name->mg d.name=some (.ref fa) ->
   s₁.heap.get? a=some { cls:=.type "list",data:=.seq vs.toArray }->IntsAre vs ns->ns.length<=n->s₁.gens=#[] ->
   codeAny (model l.prog w) callerA (.call (.ref fa) ⟨[.ref a],[]⟩) (fun r s'=>r=.ok (.ret (.bool true))/\OldK s₁.heap s'.heap/\s'.os=s₁.os/\AllBare s'.gens) s₁) :
  WalkO q loose XP YP l.row.toRowW d [] (fun f vs=>PySem.call f vs):=by
 intro w s₀ s₁ mg mb G Y fa o pm cd doc dV kV ho hd hcd hD hmg hg args vals as hpre hlay hrd hwl hlo;obtain rfl:dV=.none:=Dflts.none hD hdf;obtain rfl:kV=.none:=Dflts.noKw hD;obtain⟨a,vs,ns,rfl,rfl,hobj,hints,hlen⟩:=pH hn hpre hwl;refine enter_call (codeAny_mono (call w s₀ s₁ mg mb fa o pm cd doc a vs ns G Y ho (fd_plain hd) hcd hmg hobj hints hlen hg) fun r s' hq=>?_);obtain⟨rfl,h2,h3,h4⟩:=hq
 exact⟨.inl ⟨.bool true,.bool true,[],rfl,fun _=>rfl,.bool true,p7 l _,fun _=>⟨List.Pairwise.nil,fun _ hm=>(nomatch hm)⟩⟩,h2,h3,h4⟩
end Att
namespace L2
open PySem PySem.Spec PyProof.Rows
theorem jw:∀ {vs:List Value} {ns:List Int},IntsAre vs ns->ar (ns.map V.int) vs
 |_,_,.nil=>.nil
 |_,_,.cons n t h=>.cons ⟨t,rfl⟩ (jw h)
noncomputable def yK(_:Hp):Prop:=True
noncomputable abbrev KOf{K:W.Frag}{h:Heap}(_:K.In h):W.Frag:=K
noncomputable def defArgs(s:Stmt):Arguments:=match s with
 |.FunctionDef _ a _ _ _ _ _ _ _ _=>a
 |_=>{ posonlyargs:=[],args:=[],vararg:=none,kwonlyargs:=[],kw_defaults:=[],kwarg:=none,defaults:=[] }
noncomputable def defBody(s:Stmt):List Stmt:=match s with
 |.FunctionDef _ _ b _ _ _ _ _ _ _=>b
 |_=>[]
noncomputable def defScope(s:Stmt):Scope:=match s with
 |.FunctionDef _ _ _ _ _ _ sc _ _ _=>sc
 |_=>{ kind:=.function,names:=[],isGenerator:=false,isCoroutine:=false }
noncomputable abbrev CX0:CXT:=fun _ _ _ _ _ _=>False
noncomputable abbrev E0:XK:=fun _ _ _=>False
theorem bM{X:Cx}:m8 CX0 X E0:=fun _ _ _ _ _ _ _ h=>h.elim
structure Fun(K:W.Frag)(x qual:Str)(st:Stmt)(f:Addr)(fd:FuncData):Prop where
 ex:∃(oc:Value)(od:Option Addr)(kV doc pm:Value)(an:Option Addr)(cdv ct:Value) (osl:Array (Option Value)),
  fd=W.fnOf x qual (defArgs st) (defBody st) (defScope st) .none kV doc pm an cdv ct/\K.lookup f=some ⟨oc,od,.func fd,osl⟩/\W.codeIn K cdv qual=true
 kp:W.keepIn K (.ref f)=true
section
variable{P:Program}{w:World}{K:W.Frag}{mg:Str->Option Value}{base:Heap}
theorem Fun.ok{x qual:Str}{st:Stmt}{f:Addr}{fd:FuncData}{N ps:List Str}{k:Nat}{sp:Sp}(F:Fun K x qual st f fd)(S:aX N ps (defScope st))(len:∀vs H Q E,sp vs H Q E->vs.length=ps.length)
  (hbody:∀(cdv:Value)(A:Around)(outer:List Env)(s:Shared)(H:Hp)(vs:List V)(Q:VK)(E:XK),cG k (A.deeper (envOfC qual (defScope st) s.heap.objs.size f cdv))->sp vs H Q E ->
   ∃t,PSs (fk CX0 P w K mg base N qual (defScope st) f cdv A outer s H E).nox (defBody st) t/\t { nx:=fun _ H'=>Q .non H',rt:=Q } (start N vs) H):bD P w K mg base CX0 (k+1) f fd ps sp:=by
 obtain⟨oc,od,kV,doc,pm,an,cdv,ct,osl,rfl,lk,hcd⟩:=F.ex;refine vA lk hcd S len fun A outer s H vs Q E hr hsp=>?_;obtain⟨t,h,q⟩:=hbody cdv A outer s H vs Q E hr hsp;exact⟨t,h.nox,q⟩
theorem Fun.binds{x qual:Str}{st:Stmt}{f:Addr}{fd:FuncData}{ps:List Str}(F:Fun K x qual st f fd)(h:∀(kV doc pm:Value)(an:Option Addr)(cdv ct:Value)(us:List Value),us.length=ps.length->bindArgs (W.fnOf x qual (defArgs st) (defBody st) (defScope st) .none kV doc pm an cdv ct) ⟨us,[]⟩=pure (ps.zip us)):cn K fd ps []:=by
 obtain⟨oc,od,kV,doc,pm,an,cdv,ct,osl,rfl,lk,hcd⟩:=F.ex;exact .all (h kV doc pm an cdv ct)
theorem rJ{x qual:Str}{st:Stmt}{f:Addr}{oc:Value}{od an:Option Addr}{osl:Array (Option Value)}{kV doc pm cdv ct:Value}(l:K.lookup f=some ⟨oc,od,.func (W.fnOf x qual (defArgs st) (defBody st) (defScope st) .none kV doc pm an cdv ct),osl⟩)(c:W.codeIn K cdv qual=true)(k:W.keepIn K (.ref f)=true):Fun K x qual st f (W.fnOf x qual (defArgs st) (defBody st) (defScope st) .none kV doc pm an cdv ct):=⟨⟨oc,od,kV,doc,pm,an,cdv,ct,osl,rfl,l,c⟩,k⟩
end
theorem aR{n:Nat}(h:n<=1000):n<sizeLine:=Nat.lt_of_le_of_lt h (by decide)
section
variable{X:Cx}
theorem pv(i:Nat){x:Str}{pos:Pos}(hN:X.N[i]?=some x:=by rfl)(hv:Vis X.env.scope x:=by first|exact Or.inl rfl|exact Or.inr (Or.inl rfl)|exact Or.inr (Or.inr rfl))(hd:(x == ("__debug__":Str))=false:=by decide)(hcd:(x == ("__classdict__":Str))=false:=by decide):PE X (.Name x pos) (tU i):=sI hN hv hd hcd
end
theorem uY{c A B:Prop}[Decidable c](h1:c->A)(h2:¬ c->B):if c then A else B:=by
 by_cases h:c
 ·rw[if_pos h]
  exact h1 h
 ·rw[if_neg h]
  exact h2 h
noncomputable def bK(H H':Hp):Prop:=∀b o,H b=some o->H' b=some o
theorem bK.refl(H:Hp):bK H H:=fun _ _ h=>h
theorem bK.trans{H H1 H2:Hp}(a:bK H H1)(b:bK H1 H2):bK H H2:=fun c o h=>b c o (a c o h)
end L2
set_option maxHeartbeats 1000000
namespace L2
open PySem PySem.Spec PyProof.Rows
section
variable{prog:Program}{w:World}{A:Around}{E:Value->Shared->Prop}{R:Result->Shared->Prop}{s:Shared}
noncomputable def dm(elt:Expr)(gens:List Comprehension)(scope:Scope)(pos:Pos)(d:Nat)(acc:Value)(env:Env):Sem Unit:=
 match gens[d+1]? with
 |some g'=>do
  let x ← eval g'.iter env
  standAt g'.iter.pos
  let x ← if g'.is_async != 0 then foldedIterable g'.iter x else foldedSetIterable g'.iter env x
  let _ ← runOwn (.compStart (.ListComp elt gens scope pos) (d+1) (← holding [x] (if g'.is_async != 0 then asyncIter x else pyIter x)) acc env) env
 |none=>do let _ ← call (.builtin "list.append") [acc,←eval elt env]
theorem ku{elt target iter:Expr}{gens:List Comprehension}{ifs:List Expr}{scope:Scope}{pos:Pos}{d:Nat}{it acc:Value}{env:Env}(I:Nat->Shared->Prop)(hg:gens[d]?=some ⟨target,iter,ifs,0⟩)(ha:∀g',gens[d+1]?=some g'->g'.is_async=0)
  (turn:∀n s,I n s->wpAny (model prog w) A (pyNext it) (fun r s₁=>match r with
   |none=>R (.ok .next) s₁
   | some v=>wpAny (model prog w) A (letOwnedTupleGo target it v) (fun _ s₁'=>wpAny (model prog w) A (assign target env v) (fun _ s₂ =>
     wpAny (model prog w) A (forIn ifs true fun c r=>if r=true then do let ok ← isTrue c env (eval c env);pure (ForInStep.yield ok) else pure (ForInStep.yield r)) (fun ok s₃=>
      if ok=true then wpAny (model prog w) A (dm elt gens scope pos d acc env) (fun _ s₅=>∃m,m<n/\I m s₅) (fun _ _=>False) s₃
      else ∃m,m<n/\I m s₃) (fun _ _=>False) s₂) (fun _ _=>False) s₁') (fun _ _=>False) s₁) (fun _ _=>False) s)
  (n:Nat) (h:I n s) :
  codeAny (model prog w) A (.compLoop (.ListComp elt gens scope pos) d it acc env) R s:=by
 refine codeAny_loop rfl I (fun n s hI=>?_) n h;show wpAny _ A ((compTurn (.ListComp elt gens scope pos) d it acc env).onRaise (fun x=>do noteFrame x env;theTreesLotGoes x)) _ _ s
 refine wpAny_noted ?_;unfold compTurn;simp only[hg];refine wpAny_bind (wpAny_standAt (wpAny_bind (wpAny_mono (turn n s hI) (fun r s₁ h₁=>?_) fun _ _ x=>x.elim)))
 cases r with
 |none=>exact wpAny_pure h₁
 |some v=>
  refine wpAny_bind (wpAny_mono h₁ (fun _ s₁' h₁'=>?_) fun _ _ x=>x.elim);refine wpAny_bind (wpAny_mono h₁' (fun _ s₂ h₂=>wpAny_bind (wpAny_mono h₂ (fun ok s₃ h₃=>?_) fun _ _ x=>x.elim)) fun _ _ x=>x.elim)
  cases ok with
  |false=>exact wpAny_pure ⟨rfl,h₃⟩
  |true=>
   have h₃':wpAny (model prog w) A (dm elt gens scope pos d acc env) (fun _ s₅=>∃m,m<n/\I m s₅) (fun _ _=>False) s₃:=h₃;unfold dm at h₃';rw[if_pos rfl]
   cases hd:gens[d+1]? with
   |none=>
    rw[hd] at h₃';exact wpAny_bind (wpAny_mono h₃' (fun _ s₅ h₅=>wpAny_pure ⟨rfl,h₅⟩) fun _ _ x=>x.elim)
   |some g'=>
    rw[hd] at h₃';have h0:=ha g' hd;have e0:(g'.is_async != 0)=false:=by rw[h0];rfl
    dsimp only at h₃' ⊢;simp only[e0,Bool.false_eq_true,if_false] at h₃' ⊢;intro Γ p hΓ;have q:=h₃' Γ p hΓ;simp only[Sem.wp_bind'] at q ⊢;refine Sem.wp_mono _ Γ _ (fun x p₁ s₄ q₁=>?_) (fun _ _ _ z=>z.elim) _ _ q;refine Sem.wp_mono _ Γ _ (fun _ p₂ s₄ q₂=>?_) (fun _ _ _ z=>z.elim) _ _ q₁;refine Sem.wp_mono _ Γ _ (fun x p₂ s₄ q₂=>?_) (fun _ _ _ z=>z.elim) _ _ q₂;refine Sem.wp_mono _ Γ _ (fun x p₂ s₄ q₂=>?_) (fun _ _ _ z=>z.elim) _ _ q₂
    refine Sem.wp_mono _ Γ _ (fun x p₂ s₄ q₂=>?_) (fun _ _ _ z=>z.elim) _ _ q₂;exact⟨rfl,q₂⟩
end
section
variable{prog:Program}{w:World}{A:Around}{E:Value->Shared->Prop}{R:Result->Shared->Prop}{s:Shared}
theorem fg{elt target iter:Expr}{gens:List Comprehension}{ifs:List Expr}{scope:Scope}{pos:Pos}{d:Nat}{it acc:Value}{env:Env}(hg:gens[d]?=some ⟨target,iter,ifs,0⟩)(h0:codeAny (model prog w) A (.compLoop (.ListComp elt gens scope pos) d it acc env) R s)(h:wpAny (model prog w) A (pyIter it) (fun it' s'=>codeAny (model prog w) A (.compLoop (.ListComp elt gens scope pos) d it' acc env) R s') (fun _ _=>False) s):
  codeAny (model prog w) A (.compStart (.ListComp elt gens scope pos) d it acc env) R s:=by
 refine codeAny_of_tree ?_;show wpAny _ _ ((compStart (.ListComp elt gens scope pos) d it acc env).onRaise (fun x=>do noteFrame x env;standAt theWindowsPlace)) _ _ s
 refine wpAny_notedAt ?_;unfold compStart;have hcl:clausesOf (.ListComp elt gens scope pos)=gens:=rfl;simp only[hcl,hg,Option.elim];refine wpAny_ite ?_;rw[if_neg (by decide)]
 refine wpAny_bind (wpAny_askSetting (wpAny_ite ?_));split
 ·first
   |exact wpAny_bind (wpAny_pure (wpAny_pure (And.intro rfl h0)))
   |exact wpAny_pure (And.intro rfl h0)
 ·exact wpAny_bind (wpAny_rule (wpAny_bind (wpAny_standAt (wpAny_bind (wpAny_mono h (fun it' s' h'=>wpAny_pure (And.intro rfl h')) fun _ _ x=>x.elim)))))
end
noncomputable abbrev TL:=Addr->St->Hp->(St->Hp->Prop)->Prop
noncomputable def PL(X:Cx)(elt:Expr)(gens:List Comprehension)(scope:Scope)(pos:Pos)(d:Nat)(t:TL):Prop:=
 ∀(pins:List (Addr×Obj)) (s:Shared) (σ:St) (H:Hp) (acc:Addr) (K:St->Hp->Prop),Inv X pins σ H s->t acc σ H K ->
  wpAny (model X.prog X.w) X.A (dm elt gens scope pos d (.ref acc) X.env) (fun _ s'=>∃σ' H',Inv X pins σ' H' s'/\K σ' H') (fun _ _=>False) s
noncomputable def PTs(X:Cx)(ifs:List Expr)(t:TT):Prop:=
 ∀(pins:List (Addr×Obj)) (s:Shared) (σ:St) (H:Hp) (Q:Bool->Hp->Prop),Inv X pins σ H s->t σ H Q ->
  wpAny (model X.prog X.w) X.A (forIn ifs true fun c r=>if r=true then do let ok ← isTrue c X.env (eval c X.env);pure (ForInStep.yield ok) else pure (ForInStep.yield r)) (TP X pins σ Q) X.xe s
noncomputable def pr:TT:=fun _ H Q=>Q true H
noncomputable def vP(te:TE):TL:=fun acc σ H K=>te σ H fun y H1=>∃xs,H1 acc=some (.lst xs)/\xs.length<sizeLine/\K σ (upd H1 acc (.lst (xs++[y])))
noncomputable def pk(J:It)(g:TG)(tc:TT)(l:TL):TL:=fun acc σ H K=>∃W:Nat->Nat->St->Hp->Prop,(∃m,W 0 m σ H)/\∀i m σ H,W i m σ H ->
 (J.stop i H/\K σ H)\/(J.go i H/\∀x H',J.yld i H x H'->g x σ H' fun σ2 H2=>tc σ2 H2 fun b H3=>
  if b=true then l acc σ2 H3 (fun σ3 H4=>∃m',m'<m/\W (i+1) m' σ3 H4) else ∃m',m'<m/\W (i+1) m' σ2 H3)
noncomputable def y7(wi:TI)(g:TG)(tc:TT)(l:TL):TL:=fun acc σ H K=>wi σ H fun J H1=>pk J g tc l acc σ H1 K
section
variable{X:Cx}{elt:Expr}{gens:List Comprehension}{scope:Scope}{pos:Pos}{d:Nat}{te:TE}{l:TL}{tg iter:Expr}{ifs:List Expr}{wi:TI}{g:TG}{tc:TT}
theorem da:PTs X [] pr:=fun pins s σ H Q I h=>wpAny_tests_nil ⟨H,I,h⟩
theorem ur{c:Expr}(hc:PT X c tc):PTs X [c] tc:=fun pins s σ H Q I h=>wpAny_tests_one (hc pins s σ H Q I h)
theorem cY(hx:X.xe=fun _ _=>False)(hd:gens[d+1]?=none)(he:PE X elt te):PL X elt gens scope pos d (vP te):=by
 intro pins s σ H acc K I h;unfold dm;rw[hd];have he':=he pins s σ H _ I h;rw[hx] at he';refine wpAny_bind (thn he' fun u s1 ⟨y,H1,I1,r1,xs,e1,z1,k1⟩=>?_);have ha:=jm pins s1 σ H1 (.ref acc) [y] (.ref acc) [u] (fun v H2=>v=.non/\H2=upd H1 acc (.lst (xs++[y]))) I1 rfl (.cons r1 .nil) ⟨acc,xs,y,rfl,rfl,e1,z1,rfl,rfl⟩;rw[hx] at ha;refine wpAny_bind (thn ha fun v s2 ⟨v',H2,I2,r2,e2,e3⟩=>wpAny_pure ⟨σ,H2,I2,by rw[e3];exact k1⟩)
theorem jK(hx:X.xe=fun _ _=>False)(hc:X.calm=true)(hd:gens[d]?=some ⟨tg,iter,ifs,0⟩)(ha:∀g',gens[d+1]?=some g'->g'.is_async=0)(hg:PG X tg g)(ht:PTs X ifs tc)(hl:PL X elt gens scope pos d l){pins:List (Addr×Obj)}{s:Shared}{σ:St}{H:Hp}{acc it:Addr}{fp:List Addr}{tn:Nat->Heap->Prop}{J:It}{K:St->Hp->Prop}{R:Result->Shared->Prop}(I:Inv X pins σ H s)(T:tP X.prog X.w X.K tg J fp it tn)(st:tn 0 s.heap)(f2:∀b∈fp,f7 X pins H b)(h:pk J g tc l acc σ H K)(hR:∀σ' H' s',Inv X pins σ' H' s'->K σ' H'->R (.ok .next) s'):
  codeAny (model X.prog X.w) X.A (.compLoop (.ListComp elt gens scope pos) d (.ref it) (.ref acc) X.env) R s:=by
 obtain⟨W,⟨m0,w0⟩,turn⟩:=h;have stat:∀ {H':Hp},(∀b∈fp,H' b=none)->∀b∈fp,f7 X pins H' b:=fun hn b hb=>⟨hn b hb,(f2 b hb).2⟩;refine ku (fun n s'=>∃i σ' H',Inv X pins σ' H' s'/\tn i s'.heap/\(∀b∈fp,H' b=none)/\W i n σ' H') hd ha ?_ m0 ⟨0,σ,H,I,st,fun b hb=>(f2 b hb).1,w0⟩;rintro n s3 ⟨i,σ3,H3,I3,st3,fr3,w3⟩;rcases turn i n σ3 H3 w3 with⟨stop,qn⟩|⟨go,step⟩
 ·refine thn (T.done X rfl rfl rfl hc i pins s3 σ3 H3 _ I3 (stat fr3) st3 stop) fun r s4 ⟨hr,I4⟩=>?_
  subst hr;exact hR σ3 H3 s4 I4 qn
 ·refine thn (T.item X rfl rfl rfl hc i pins s3 σ3 H3 _ I3 (stat fr3) st3 go) fun r s4 ⟨u,hr,h4⟩=>?_
  subst hr;refine thn h4 fun _ s5 ⟨x,H5,I5,r5,y5,st5,fr5⟩=>?_;have I5':=I5.pinned (stat fr5) (T.obj _ _ st5)
  have again:∀ {σ7:St} {H7:Hp} {s7:Shared} {m':Nat},Inv X (pins++iU fp s5.heap) σ7 H7 s7->m'<n->W (i+1) m' σ7 H7->∃m,m<n/\∃i σ' H',Inv X pins σ' H' s7/\tn i s7.heap/\(∀b∈fp,H' b=none)/\W i m σ' H':=fun {σ7 H7 s7 m'} I7 hm w7=>by
   refine⟨m',hm,i+1,σ7,H7,I7.unpinned,T.keep _ _ _ st5 fun b hb o e=>(I7.pin (b,o) (List.mem_append_right _ (List.mem_append_right _ (dS hb e)))).1,fun b hb=>?_,w7⟩;obtain⟨o,e,d⟩:=T.obj _ _ st5 b hb;exact(I7.pin (b,o) (List.mem_append_right _ (List.mem_append_right _ (dS hb e)))).2.1
  have hg':=hg _ s5 σ3 H5 x u _ I5' r5 (step x H5 y5);rw[hx] at hg';refine thn hg' fun _ s6 ⟨σ6,H6,I6,q6⟩=>?_;have ht':=ht _ s6 σ6 H6 _ I6 q6;rw[hx] at ht';refine thn ht' fun ok s7 ⟨H7,I7,q7⟩=>?_
  cases ok with
  |false=>
   rw[if_neg Bool.false_ne_true] at q7 ⊢;obtain⟨m',hm,w7⟩:=q7;exact again I7 hm w7
  |true=>
   rw[if_pos rfl] at q7 ⊢;refine thn (hl _ s7 σ6 H7 acc _ I7 q7) fun _ s8 ⟨σ8,H8,I8,m',hm,w8⟩=>?_;exact again I8 hm w8
theorem xk(hx:X.xe=fun _ _=>False)(hc:X.calm=true)(hd:gens[d+1]?=some ⟨tg,iter,ifs,0⟩)(ha:∀g',gens[d+2]?=some g'->g'.is_async=0)(hi:PI X tg iter wi)(hg:PG X tg g)(ht:PTs X ifs tc)(hl:PL X elt gens scope pos (d+1) l)(hs:∀x,foldedSetIterable iter X.env x=pure x:=by intro _;rfl):PL X elt gens scope pos d (y7 wi g tc l):=by
 intro pins s σ H acc K I h;unfold dm;rw[hd];dsimp only;have e0:((0:Int) != 0)=false:=by decide
 simp only[show (((⟨tg,iter,ifs,0⟩:Comprehension).is_async != 0)=false) from rfl,Bool.false_eq_true,if_false]
 have hi':=hi pins s σ H _ I h;rw[hx] at hi';refine wpAny_bind (thn hi' fun v s1 h1=>wpAny_bind (wpAny_standAt (wpAny_bind (wpAny_of_eq (hs v) ?_))));refine wpAny_bind (wpAny_holding (thn h1 fun itv s2 h2=>?_));obtain⟨it,fp,tn,J,H2,e,I2,T,st2,f2,q⟩:=h2;subst e
 have loop:codeAny (model X.prog X.w) X.A (.compLoop (.ListComp elt gens scope pos) (d+1) (.ref it) (.ref acc) X.env) (fun r s'=>match r with|.ok f=>wpAny (model X.prog X.w) X.A (pure ():Sem Unit) (fun _ s'=>∃σ' H',Inv X pins σ' H' s'/\K σ' H') (fun _ _=>False) s'|.error e=>cameBackBy (model X.prog X.w) X.A X.env (fun _ _=>False) e s') s2:=
  jK hx hc hd ha hg ht hl I2 T st2 f2 q fun σ' H' s' I' k'=>wpAny_pure ⟨σ',H',I',k'⟩
 exact wpAny_bind (wpAny_runOwn (fg hd loop (T.self X.A 0 s2 _ _ st2 loop)))
end
noncomputable def ef(env:Env):List (Str×NameKind)->List (Str×Addr)->List (Str×Addr)
 | [],acc=>acc
 |(n,k)::r,acc=>if k == .free then ef env r ((n,(env.cells.lookup n).getD 0)::acc) else ef env r acc
theorem nC{scope:Scope}{env:Env}(h:∀y∈scope.names,y.2=.free->∃c,env.cells.lookup y.1=some c):closureFor scope env=pure (ef env scope.names []):=by
 have gen:∀(names:List (Str×NameKind)) (acc:List (Str×Addr)),(∀y∈names,y.2=.free->∃c,env.cells.lookup y.1=some c) ->
   (forIn names acc fun(x:Str×NameKind) (r:List (Str×Addr))=>(if (x.2 == NameKind.free)=true then do let a ← cellOf env x.1;pure (ForInStep.yield ((x.1,a)::r)) else pure (ForInStep.yield r):Sem _))=pure (ef env names acc):=by
  intro names
  induction names with
  |nil=>intro acc _;rfl
  |cons y r ih=>
   intro acc hy;obtain⟨n,k⟩:=y;rw[List.forIn_cons];unfold ef
   cases hk:k == NameKind.free with
   |true=>
    obtain⟨c,hc⟩:=hy (n,k) (List.mem_cons_self ..) (by simpa using hk)
    simp only[hk,if_true,cellOf,hc,Option.getD_some];exact ih _ fun y hy'=>hy y (List.mem_cons_of_mem _ hy')
   |false=>
    simp only[hk,Bool.false_eq_true,if_false];exact ih _ fun y hy'=>hy y (List.mem_cons_of_mem _ hy')
 have:=gen scope.names [] h;unfold closureFor;show ((forIn scope.names ([]:List (Str×Addr)) fun(x:Str×NameKind) (r:List (Str×Addr))=>(if (x.2 == NameKind.free)=true then do let a ← cellOf env x.1;pure (ForInStep.yield ((x.1,a)::r)) else pure (ForInStep.yield r):Sem _)) >>= fun z=>pure z)=_
 rw[this];rfl
theorem dH{env:Env}:∀ {names:List (Str×NameKind)} {acc:List (Str×Addr)} {n:Str} {c:Addr},(n,c)∈ef env names acc->(n,c)∈acc\/((n,NameKind.free)∈names/\c=(env.cells.lookup n).getD 0)
 | [],_,_,_,h=>.inl h
 |(m,k)::r,acc,n,c,h=>by
  unfold ef at h;split at h
  ·rename_i hk
   rcases dH h with h|⟨h1,h2⟩
   ·rcases List.mem_cons.mp h with e|e
    ·cases e
     have:k=.free:=by simpa using hk
     subst this;exact .inr ⟨List.mem_cons_self ..,rfl⟩
    ·exact .inl e
   ·exact .inr ⟨List.mem_cons_of_mem _ h1,h2⟩
  ·rcases dH h with h|⟨h1,h2⟩
   ·exact .inl h
   ·exact .inr ⟨List.mem_cons_of_mem _ h1,h2⟩
theorem fF{env:Env}:∀ {names:List (Str×NameKind)} {acc:List (Str×Addr)} {n:Str},((n,NameKind.free)∈names\/∃c,(n,c)∈acc)->∃c,(n,c)∈ef env names acc
 | [],_,_,h=>by
  rcases h with h|h
  ·cases h
  ·exact h
 |(m,k)::r,acc,n,h=>by
  unfold ef;split
  ·rename_i hk
   apply fF;rcases h with h|⟨c,h⟩
   ·rcases List.mem_cons.mp h with e|e
    ·cases e;exact .inr ⟨_,List.mem_cons_self ..⟩
    ·exact .inl e
   ·exact .inr ⟨c,List.mem_cons_of_mem _ h⟩
  ·rename_i hk
   apply fF;rcases h with h|h
   ·rcases List.mem_cons.mp h with e|e
    ·cases e;simp at hk
    ·exact .inl e
   ·exact .inr h
theorem dj:∀ {names:List (Str×NameKind)} {h:Heap} {acc:List (Str×Addr)} {n:Str} {c:Addr},(n,c)∈cellsFrom h.objs.size names acc ->
  (n,c)∈acc\/((n,NameKind.cell)∈names/\h.objs.size<=c/\(pushCells h names).IsCell c none)
 | [],_,_,_,_,m=>.inl m
 |(x,k)::r,h,acc,n,c,m=>by
  unfold cellsFrom at m;unfold pushCells;split at m
  ·rename_i hk
   rw[if_pos hk];have sz:(h.push { cls:=.type "cell",data:=.cell none }).objs.size=h.objs.size+1:=Heap.size_push ..;rw[←sz] at m
   rcases dj m with m|⟨m1,m2,m3⟩
   ·rcases List.mem_cons.mp m with e|e
    ·cases e
     have:k=.cell:=by simpa using hk
     subst this;exact .inr ⟨List.mem_cons_self ..,Nat.le_refl _,⟨_,pushCells_keeps _ _ _ _ (Heap.get?_push_size _ rfl),rfl⟩⟩
    ·exact .inl e
   ·exact .inr ⟨List.mem_cons_of_mem _ m1,by omega,m3⟩
  ·rename_i hk
   rw[if_neg hk];rcases dj m with m|⟨m1,m2,m3⟩
   ·exact .inl m
   ·exact .inr ⟨List.mem_cons_of_mem _ m1,m2,m3⟩
theorem bS:∀ {names:List (Str×NameKind)} {k:Nat} {acc:List (Str×Addr)} {n:Str},((n,NameKind.cell)∈names\/∃c,(n,c)∈acc)->∃c,(n,c)∈cellsFrom k names acc
 | [],_,_,_,h=>by
  rcases h with h|h
  ·cases h
  ·exact h
 |(m,k)::r,j,acc,n,h=>by
  unfold cellsFrom;split
  ·rename_i hk
   apply bS;rcases h with h|⟨c,h⟩
   ·rcases List.mem_cons.mp h with e|e
    ·cases e;exact .inr ⟨_,List.mem_cons_self ..⟩
    ·exact .inl e
   ·exact .inr ⟨c,List.mem_cons_of_mem _ h⟩
  ·rename_i hk
   apply bS;rcases h with h|h
   ·rcases List.mem_cons.mp h with e|e
    ·cases e;simp at hk
    ·exact .inl e
   ·exact .inr h
theorem dh:∀ {names:List (Str×NameKind)} {k:Nat} {acc:List (Str×Addr)},(∀n c,(n,c)∈acc->c<k)->(∀n m c,(n,c)∈acc->(m,c)∈acc->n=m) ->
  ∀n m c,(n,c)∈cellsFrom k names acc->(m,c)∈cellsFrom k names acc->n=m
 | [],_,_,_,h2,n,m,c,a,b=>h2 n m c a b
 |(x,kd)::r,k,acc,h1,h2,n,m,c,a,b=>by
  unfold cellsFrom at a b;split at a
  ·rename_i hk
   rw[if_pos hk] at b;refine dh (k:=k+1) ?_ ?_ n m c a b
   ·intro n c h
    rcases List.mem_cons.mp h with e|e
    ·cases e;exact Nat.lt_succ_self _
    ·exact Nat.lt_succ_of_lt (h1 n c e)
   ·intro n m c h h'
    rcases List.mem_cons.mp h with e|e<;>rcases List.mem_cons.mp h' with e'|e'
    ·cases e;cases e';rfl
    ·cases e;exact absurd (h1 _ _ e') (Nat.lt_irrefl _)
    ·cases e';exact absurd (h1 _ _ e) (Nat.lt_irrefl _)
    ·exact h2 n m c e e'
  ·rename_i hk
   rw[if_neg hk] at b;exact dh h1 h2 n m c a b
theorem bZ{α:Type}:∀ {l:List (Str×α)} {n:Str},(∃c,(n,c)∈l)->∃c,l.lookup n=some c
 | [],_,⟨_,h⟩=>by cases h
 |(k,v)::r,n,⟨c,h⟩=>by
  rw[List.lookup_cons]
  cases hb:n == k with
  |true=>exact⟨v,rfl⟩
  |false=>
   rcases List.mem_cons.mp h with e|e
   ·cases e;simp at hb
   ·exact bZ ⟨c,e⟩
noncomputable def d8(scope osc:Scope)(N:List Str)(src:List (Option Nat))(ON:List Str):Bool:=
 (scope.kind == .function) && (osc.kind == .function) && decide (src.length=N.length) &&
 (scope.names.all fun y=>(scope.names.lookup y.1 == some y.2) && (if y.2 == .free then osc.names.lookup y.1 == some .cell else true)) &&
 ((N.zip src).all fun p=>match p.2 with|none=>true|some j=>(ON[j]? == some p.1) && (scope.names.lookup p.1 == some .free))
noncomputable def kP(src:List (Option Nat))(σ:St):St:=src.map fun o=>match o with|none=>none|some j=>(σ[j]?).join
noncomputable def Cx.blk(X:Cx)(scope:Scope)(N:List Str)(cs:List (Str×Addr))(C:Addr)(s:Shared)(H:Hp)(ex:List Addr)(pn:List (Addr×Obj)):Cx:=
 { X with N:=N,s₀:=s,H₀:=H,env:=compEnvC scope cs C X.env,outer:=X.stack,stack:=X.stack,ex:=ex,fn:=fun x=>decide (scope.names.lookup x=some .cell),pn:=pn,xe:=fun _ _=>False }
section
variable{X:Cx}{pins:List (Addr×Obj)}{σ:St}{H:Hp}{s:Shared}{scope:Scope}{N:List Str}{src:List (Option Nat)}
theorem jB{osc:Scope}{ON:List Str}(h:d8 scope osc N src ON=true):scope.kind=.function/\osc.kind=.function/\src.length=N.length /\
  (∀y∈scope.names,scope.names.lookup y.1=some y.2)/\(∀y∈scope.names,y.2=.free->osc.names.lookup y.1=some .cell) /\
  (∀(i:Nat)(x:Str)(j:Nat),N[i]?=some x->src[i]?=some (some j)->ON[j]?=some x/\scope.names.lookup x=some .free):=by
 unfold d8 at h;simp only[Bool.and_eq_true,decide_eq_true_eq,beq_iff_eq,List.all_eq_true] at h;obtain⟨⟨⟨⟨h1,h2⟩,h3⟩,h4⟩,h5⟩:=h;refine⟨h1,h2,h3,fun y hy=>(h4 y hy).1,fun y hy e=>?_,fun i x j e1 e2=>?_⟩
 ·have:=(h4 y hy).2
  rw[e] at this;simpa using this
 ·have hm:(x,some j)∈N.zip src:=by
   apply List.mem_of_getElem? (i:=i);rw[List.getElem?_zip_eq_some];exact⟨e1,e2⟩
  have:=h5 _ hm;simpa using this
theorem eE{env:Env}(hk:env.scope.kind=.function):∀ {names:List (Str×NameKind)} {x:Str} {k:NameKind},names.lookup x=some k->(k=.free->env.kindOf x=some .cell) ->
  (names.map fun(n,k)=>if (k == NameKind.free && env.scope.kind == .function && env.kindOf n == some .cell) then (n,NameKind.cell) else (n,k)).lookup x=some (if k=.free then .cell else k)
 | [],_,_,h,_=>by simp at h
 |(n,k')::r,x,k,h,hf=>by
  have ih:=@eE env hk r x k;show List.lookup x ((if (k' == NameKind.free && env.scope.kind == .function && env.kindOf n == some .cell)=true then (n,NameKind.cell) else (n,k'))::_)=_
  cases hx:x == n with
  |true=>
   simp only[List.lookup_cons,hx] at h;have e:x=n:=by simpa using hx
   subst e;cases h;by_cases hfr:k'=.free
   ·have:=hf hfr
    subst hfr;rw[if_pos (by rw[this,hk];rfl)]
    simp[List.lookup_cons]
   ·have hfr':(k' == NameKind.free)=false:=by simpa using hfr
    rw[if_neg (by rw[hfr'];simp),if_neg hfr]
    simp[List.lookup_cons]
  |false=>
   simp only[List.lookup_cons,hx] at h;by_cases hc:(k' == NameKind.free && env.scope.kind == .function && env.kindOf n == some .cell)=true
   ·rw[if_pos hc];simp only[List.lookup_cons,hx];exact ih h hf
   ·rw[if_neg hc];simp only[List.lookup_cons,hx];exact ih h hf
theorem mz{env:Env}{names:List (Str×NameKind)}{x:Str}(h:(names.map fun(n,k)=>if (k == NameKind.free && env.scope.kind == .function && env.kindOf n == some .cell) then (n,NameKind.cell) else (n,k)).lookup x=some .cell):
  (x,NameKind.cell)∈names\/(x,NameKind.free)∈names:=by
 have hm:=mem_of_lookup h;obtain⟨⟨n,k⟩,hy,e⟩:=List.mem_map.mp hm;dsimp only at e;split at e
 ·rename_i hc
  cases e;simp only[Bool.and_eq_true,beq_iff_eq] at hc;rw[hc.1.1] at hy;exact .inr hy
 ·cases e;exact .inl hy
theorem kw{env:Env}{names:List (Str×NameKind)}{x:Str}(hk:env.scope.kind=.function)(hfr:∀y∈names,y.2=.free->env.kindOf y.1=some .cell)(h:(names.map fun(n,k)=>if (k == NameKind.free && env.scope.kind == .function && env.kindOf n == some .cell) then (n,NameKind.cell) else (n,k)).lookup x=some .free):False:=by
 have hm:=mem_of_lookup h;obtain⟨⟨n,k⟩,hy,e⟩:=List.mem_map.mp hm;dsimp only at e;split at e
 ·cases e
 ·rename_i hc
  cases e;have:=hfr _ hy rfl;exact hc (by rw[this,hk];rfl)
theorem ql{fp:List Addr}(I:Inv X pins σ H s)(hb:d8 scope X.env.scope N src X.N=true)(f2:∀b∈fp,f7 X pins H b)(fo:∀b∈fp,∃o,s.heap.get? b=some o){t:Nat}:
  Inv (X.blk scope N (cellsFrom (s.heap.objs.size+1) scope.names (ef X.env scope.names [])) s.heap.objs.size s H fp (X.pn++pins)) [] (kP src σ) H { s with heap:=pushCells (s.heap.push { cls:=.type "dict",data:=.dict #[] }) scope.names,toks:=t }:=by
 obtain⟨hk,hok,hlen,hnd,hfr,hsrc⟩:=jB hb;have keep:∀b o,s.heap.get? b=some o->(pushCells (s.heap.push { cls:=.type "dict",data:=.dict #[] }) scope.names).get? b=some o:=fun b o e=>pushCells_keeps _ _ b o (Heap.get?_push_of_some _ e);have hfr':∀y∈scope.names,y.2=.free->X.env.kindOf y.1=some .cell:=hfr;have sz:(s.heap.push { cls:=.type "dict",data:=.dict #[] }).objs.size=s.heap.objs.size+1:=Heap.size_push ..
 have cell:∀n c,(n,c)∈cellsFrom (s.heap.objs.size+1) scope.names (ef X.env scope.names []) ->
   (X.env.cells.lookup n=some c/\(n,NameKind.free)∈scope.names)\/((n,NameKind.cell)∈scope.names/\s.heap.objs.size<c/\(pushCells (s.heap.push { cls:=.type "dict",data:=.dict #[] }) scope.names).IsCell c none):=by
  intro n c h;rw[←sz] at h
  rcases dj h with h|⟨h1,h2,h3⟩
  ·rcases dH h with h|⟨h1,h2⟩
   ·cases h
   ·obtain⟨c',hc'⟩:=I.ok.has n (.inl (hfr' _ h1 rfl))
    rw[hc'] at h2;exact .inl ⟨by rw[hc',h2];rfl,h1⟩
  ·exact .inr ⟨h1,by rw[sz] at h2;exact h2,h3⟩
 have oldc:∀n c,X.env.cells.lookup n=some c->c<s.heap.objs.size:=fun n c e=>by
  obtain⟨v,o,ho,_⟩:=I.cell n c e;exact Heap.lt_size ho
 have hH:H s.heap.objs.size=none:=I.hok.fresh (Nat.le_refl _)
 have ok:(X.blk scope N (cellsFrom (s.heap.objs.size+1) scope.names (ef X.env scope.names [])) s.heap.objs.size s H fp (X.pn++pins)).Ok:={
  mod:=I.ok.mod
  kind:=hk
  glob:=I.ok.glob
  blt:=I.ok.blt
  above:=Nat.le_refl _
  inj:=fun x y c a b=>by
   refine dh (k:=s.heap.objs.size+1) (acc:=ef X.env scope.names []) ?_ ?_ x y c (mem_of_lookup a) (mem_of_lookup b)
   ·intro n c h
    rcases dH h with h|⟨h1,h2⟩
    ·cases h
    ·obtain⟨c',hc'⟩:=I.ok.has n (.inl (hfr' _ h1 rfl))
     rw[hc'] at h2;rw[h2];exact Nat.lt_succ_of_lt (oldc n c' hc')
   ·intro n m c h h'
    rcases dH h with h|⟨h1,h2⟩
    ·cases h
    ·rcases dH h' with h'|⟨h1',h2'⟩
     ·cases h'
     ·obtain⟨c1,hc1⟩:=I.ok.has n (.inl (hfr' _ h1 rfl))
      obtain⟨c2,hc2⟩:=I.ok.has m (.inl (hfr' _ h1' rfl));rw[hc1] at h2;rw[hc2] at h2';have e1:c=c1:=h2;have e2:c=c2:=h2';exact I.ok.inj n m c (by rw[e1];exact hc1) (by rw[e2];exact hc2)
  has:=fun x h=>by
   have hm:(x,NameKind.cell)∈scope.names\/(x,NameKind.free)∈scope.names:=by
    rcases h with h|h
    ·exact mz (env:=X.env) h
    ·exact(kw (env:=X.env) hok hfr' h).elim
   have:∃c,(x,c)∈cellsFrom (s.heap.objs.size+1) scope.names (ef X.env scope.names []):=by
    rcases hm with hm|hm
    ·exact bS (.inl hm)
    ·exact bS (.inr (fF (.inl hm)))
   exact bZ this
  cab:=fun x c hf e=>by
   have hf':scope.names.lookup x=some .cell:=of_decide_eq_true hf;rcases cell x c (mem_of_lookup e) with⟨_,h⟩|⟨_,h,_⟩
   ·have:=hnd _ h
    rw[hf'] at this;cases this
   ·exact Nat.le_of_lt h
  hd:=I.ok.hd
  frames:=I.ok.frames
  stk:=.inl rfl
  exf:=fun b hb=>by
   obtain⟨o,ho⟩:=fo b hb;have hlt:=Heap.lt_size ho;refine⟨Nat.ne_of_lt hlt,fun x c e=>?_⟩;rcases cell x c (mem_of_lookup e) with⟨h,_⟩|⟨_,h,_⟩
   ·exact(f2 b hb).2.2.2.2.1 x c h
   ·exact Nat.ne_of_gt (Nat.lt_trans hlt h)
  bs:=I.bs
  bsz:=Nat.le_trans I.ok.bsz I.sz
  noex:=fun b o e hb=>by
   rcases(f2 b hb).2.2.2.1 with h|h
   ·exact I.ok.noex b o e h
   ·exact absurd (Nat.lt_of_lt_of_le (Heap.lt_size e) (Nat.le_trans I.ok.bsz h)) (Nat.lt_irrefl _)
  exfs:=fun b hb hm=>by
   rcases List.mem_cons.mp (I.Ai b hm) with h|h
   ·exact(f2 b hb).2.1 h
   ·exact(f2 b hb).2.2.1 h
  funs:=I.stack
  frf:=I.Ah
  tt:=I.ok.tt.mono I.base.tbls }
 refine⟨ok,rfl,I.bare,Un.kept keep,⟨fun _=>none,(Heap.Ns.new s.heap (.type "dict")).keeps (pushCells_keeps _ _),fun i x v e1 e2 e3=>?_⟩,fun x c e=>?_,hH,fun x c e=>?_,fun p hp=>?_,I.hok.kept keep,?_⟩
 ·-- a captured name
  have e2':(src.map fun o=>match o with|none=>none|some j=>(σ[j]?).join)[i]?=some (some v):=e2
  rw[List.getElem?_map] at e2'
  cases hs:src[i]? with
  |none=>rw[hs] at e2';cases e2'
  |some o=>
   rw[hs] at e2'
   cases o with
   |none=>cases e2'
   |some j=>
    have ej:(σ[j]?).join=some v:=by simpa using e2'
    have ej':σ[j]?=some (some v):=by
     cases hq:σ[j]? with
     |none=>rw[hq] at ej;cases ej
     |some z=>rw[hq] at ej;simpa using ej
    obtain⟨n1,n2⟩:=hsrc i x j e1 hs;have hfree:X.env.kindOf x=some .cell:=hfr' (x,.free) (mem_of_lookup n2) rfl;obtain⟨m,hn,hl⟩:=I.loc;obtain⟨u,r,l⟩:=hl j x v n1 ej' (.inr (.inl hfree));refine⟨u,r,.inr ⟨.inl ?_,?_⟩⟩
    ·have:=eE (env:=X.env) hok n2 (fun _=>hfree)
     exact this
    ·rcases l with⟨h,_⟩|⟨_,c,hc,hcell⟩
     ·rw[hfree] at h;cases h
     ·have:∃c',(x,c')∈cellsFrom (s.heap.objs.size+1) scope.names (ef X.env scope.names []):=bS (.inr (fF (.inl (mem_of_lookup n2))))
      obtain⟨c',hc'⟩:=bZ this;refine⟨c',hc',?_⟩;rcases cell x c' (mem_of_lookup hc') with⟨h,_⟩|⟨h,_,_⟩
      ·rw[hc] at h
       cases h;obtain⟨oc,ho,hd⟩:=hcell;exact⟨oc,keep _ _ ho,hd⟩
      ·have:=hnd _ h
       rw[n2] at this;cases this
 ·rcases cell x c (mem_of_lookup e) with⟨h,_⟩|⟨_,_,h⟩
  ·obtain⟨v,o,ho,hd⟩:=I.cell x c h
   exact⟨v,o,keep _ _ ho,hd⟩
  ·exact⟨_,h⟩
 ·rcases cell x c (mem_of_lookup e) with⟨h,_⟩|⟨_,h,_⟩
  ·exact I.freeC x c h
  ·exact I.hok.fresh (Nat.le_of_lt h)
 ·rw[List.append_nil] at hp
  obtain⟨e,n,ne,nf,d⟩:=I.pin p hp;refine⟨keep _ _ e,n,Nat.ne_of_lt (Heap.lt_size e),fun hm=>?_,d⟩;rcases List.mem_cons.mp (I.Ai _ hm) with h|h
  ·exact ne h
  ·exact nf h
 ·show (src.map _).length=N.length
  rw[List.length_map];exact hlen
theorem uh{fp:List Addr}{cs:List (Str×Addr)}{C:Addr}{σ':St}{H':Hp}{s':Shared}{pins':List (Addr×Obj)}(I:Inv X pins σ H s)(f2:∀b∈fp,f7 X pins H b)(I':Inv (X.blk scope N cs C s H fp (X.pn++pins)) pins' σ' H' s'):Inv X pins σ H' s':=
 I.call' (ch:=fp) I'.os I'.base I'.hok I'.bare fun b hb=>⟨(f2 b hb).2.2.2.1,(f2 b hb).2.1,(f2 b hb).2.2.2.2.1,(f2 b hb).2.2.2.2.2⟩
theorem mC{C:Addr}{h':Heap}(I:Inv X pins σ H s)(hC:H C=none)(hL:C≠X.env.locals)(h1:X.s₀.heap.objs.size<=C)(h2:∀x c,X.env.cells.lookup x=some c->c≠C)(h3:∀p∈X.pn++pins,p.1≠C)(hs:Heap.SameBut C s.heap h'):Inv X pins σ H { s with heap:=h' }:=
 I.turned (t':=s.toks) (fun b o hb e=>(hs.2 b hb).trans e) hC hL (.inr h1) h2 h3
end
section
variable{M:Model}{A:Around}{E:Value->Shared->Prop}{s:Shared}
theorem lC{scope:Scope}{globals:Addr}{cl:List (Str×Addr)}{qual:Str}{env:Env}{Q:Env->Shared->Prop}(hQ:Q (newEnv scope s.heap.objs.size globals (cellsFrom (s.heap.objs.size+1) scope.names cl) qual none .none (some env) builtinsNs) { s with heap:=pushCells (s.heap.push { cls:=.type "dict",data:=.dict #[] }) scope.names }):
  wpAny M A (newFunctionEnv scope globals cl [] qual none .none (some env)) Q E s:=by
 simp only[newFunctionEnv,Option.isSome_some,if_true];refine wpAny_bind (wpAny_alloc ?_);refine wpAny_bind (wpAny_layCells _ (fun name kind cells=>by cases hkc:kind == NameKind.cell<;>simp[hkc]) _ _ _ _ ?_)
 rw[show ({ s with heap:=s.heap.push { cls:=.type "dict",data:=.dict #[] } }:Shared).heap.objs.size=s.heap.objs.size+1 from Heap.size_push ..]
 simp only[List.forIn_nil];exact wpAny_bind (wpAny_pure (wpAny_pure hQ))
end
section
variable{X:Cx}{elt tg iter:Expr}{ifs:List Expr}{aL:List Comprehension}{scope:Scope}{pos:Pos}{N:List Str}{src:List (Option Nat)}{wi:TI}{g:TG}{tc:TT}{l:TL}
noncomputable def i8(src:List (Option Nat))(wi:TI)(g:TG)(tc:TT)(l:TL):TE:=fun σ H Q=>wi σ H fun J H1=>∀acc,H1 acc=none->pk J g tc l acc (kP src σ) (upd H1 acc (.lst [])) fun _ H'=>Q (.ref acc) H'
theorem mq{use:Option (Value->Sem Unit)}{pins:List (Addr×Obj)}{s:Shared}{σ:St}{H:Hp}{Q:Value->Shared->Prop}{Q':VK}(hc:X.calm=true)(hb:d8 scope X.env.scope N src X.N=true)(ha:∀g',aL[0]?=some g'->g'.is_async=0)(hi:PI X tg iter wi)(hg:∀cs C s H ex pn,PG (X.blk scope N cs C s H ex pn) tg g)(ht:∀cs C s H ex pn,PTs (X.blk scope N cs C s H ex pn) ifs tc)(hl:∀cs C s H ex pn,PL (X.blk scope N cs C s H ex pn) elt (⟨tg,iter,ifs,0⟩::aL) scope pos 0 l)(hs:∀x,foldedSetIterable iter X.env x=pure x)(I:Inv X pins σ H s)(h:i8 src wi g tc l σ H Q')
  (hQ:∀(acc C:Addr)(H':Hp)(s':Shared)(m:Str->Option Value),Inv X pins σ H' s'->Q' (.ref acc) H'->s'.heap.Ns C m->H' C=none->C≠X.env.locals->X.s₀.heap.objs.size<=C->(∀x c,X.env.cells.lookup x=some c->c≠C)->(∀p∈X.pn++pins,p.1≠C) ->
   compPost (model X.prog X.w) X.A X.xe use Q (.ref acc) C (.ok .next) s') :
  wpAny (model X.prog X.w) X.A (comprehension (.ListComp elt (⟨tg,iter,ifs,0⟩::aL) scope pos) scope X.env (firstIterPos (⟨tg,iter,ifs,0⟩::aL) pos) (newList []) false (firstIter (⟨tg,iter,ifs,0⟩::aL) X.env) use) Q X.xe s:=by
 obtain⟨hk,hok,hlen,hnd,hfr,hsrc⟩:=jB hb;refine wpAny_comprehension_free (g:=⟨tg,iter,ifs,0⟩) (gs:=aL) rfl hs (nC fun y hy e=>I.ok.has y.1 (.inl (hfr y hy e))) hk (fun y hy e=>by have:=hnd y hy;rw[e] at this;exact this) ?_
 refine thn (hi pins s σ H _ I h) fun v s1 h1=>thn h1 fun itv s2 h2=>?_;obtain⟨it,fp,tn,J,H2,e,I2,T,st2,f2,q⟩:=h2;subst e;have hfresh:H2 s2.heap.objs.size=none:=I2.hok.fresh (Nat.le_refl _);refine wpAny_newObj_type (lC ?_);dsimp only;have old:∀b o,s2.heap.get? b=some o->(s2.heap.push { cls:=.type "list",dict:=none,data:=.seq ([]:List Value).toArray }).get? b=some o:=fun b o e=>Heap.get?_push_of_some _ e
 have I3:Inv X pins σ (upd H2 s2.heap.objs.size (.lst [])) { s2 with heap:=s2.heap.push { cls:=.type "list",dict:=none,data:=.seq ([]:List Value).toArray } }:=
  I2.lnew (its:=[]) (t':=s2.toks) .nil (by decide)
 have f3:∀b∈fp,f7 X pins (upd H2 s2.heap.objs.size (.lst [])) b:=fun b hb=>by
  obtain⟨o,ho,_⟩:=T.obj _ _ st2 b hb;exact⟨by rw[aq (Nat.ne_of_lt (Heap.lt_size ho))];exact(f2 b hb).1,(f2 b hb).2⟩
 have fo3:∀b∈fp,∃o,({ s2 with heap:=s2.heap.push { cls:=.type "list",dict:=none,data:=.seq ([]:List Value).toArray } }:Shared).heap.get? b=some o:=fun b hb=>by
  obtain⟨o,ho,_⟩:=T.obj _ _ st2 b hb;exact⟨o,old b o ho⟩
 generalize hs3:({ s2 with heap:=s2.heap.push { cls:=.type "list",dict:=none,data:=.seq ([]:List Value).toArray } }:Shared)=s3 at I3 fo3 ⊢
 have st3:tn 0 s3.heap:=by
  rw[←hs3]
  exact T.keep _ _ _ st2 fun b _ o e=>old b o e
 have IB:=ql (t:=s3.toks) I3 hb f3 fo3;have stB:tn 0 (pushCells (s3.heap.push { cls:=.type "dict",data:=.dict #[] }) scope.names):=T.keep _ _ _ st3 fun b _ o e=>pushCells_keeps _ _ b o (Heap.get?_push_of_some _ e)
 have fB:∀b∈fp,f7 (X.blk scope N (cellsFrom (s3.heap.objs.size+1) scope.names (ef X.env scope.names [])) s3.heap.objs.size s3 (upd H2 s2.heap.objs.size (.lst [])) fp (X.pn++pins)) [] (upd H2 s2.heap.objs.size (.lst [])) b:=fun b hb=>by
  obtain⟨n0,n1,n2,n3,n4,n5⟩:=f3 b hb;refine⟨n0,(IB.ok.exf b hb).1,IB.ok.exfs b hb,.inl hb,(IB.ok.exf b hb).2,fun p hp=>?_⟩;rw[List.append_nil] at hp;exact n5 p hp
 have loop:codeAny (model X.prog X.w) X.A (.compLoop (.ListComp elt (⟨tg,iter,ifs,0⟩::aL) scope pos) 0 (.ref it) (.ref s2.heap.objs.size) (compEnvC scope (cellsFrom (s3.heap.objs.size+1) scope.names (ef X.env scope.names [])) s3.heap.objs.size X.env))
   (compPost (model X.prog X.w) X.A X.xe use Q (.ref s2.heap.objs.size) s3.heap.objs.size) { s3 with heap:=pushCells (s3.heap.push { cls:=.type "dict",data:=.dict #[] }) scope.names }:=by
  refine jK (X:=X.blk scope N (cellsFrom (s3.heap.objs.size+1) scope.names (ef X.env scope.names [])) s3.heap.objs.size s3 (upd H2 s2.heap.objs.size (.lst [])) fp (X.pn++pins)) rfl hc rfl (by simpa using ha) (hg _ _ _ _ _ _) (ht _ _ _ _ _ _) (hl _ _ _ _ _ _) IB T stB fB (q _ hfresh) fun σ' H' s' I' k'=>?_
  obtain⟨m,hn,_⟩:=I'.loc;refine hQ _ _ H' s' m (uh I3 f3 I') k' hn I'.free ?_ I3.sz ?_ ?_
  ·exact Nat.ne_of_gt I3.lt
  ·intro x c e
   obtain⟨v,o,ho,_⟩:=I3.cell x c e;exact Nat.ne_of_lt (Heap.lt_size ho)
  ·intro p hp
   exact Nat.ne_of_lt (Heap.lt_size (I3.pin p hp).1)
 subst hs3;exact fg (d:=0) rfl loop (T.self X.A 0 _ _ _ stB loop)
theorem eO(hc:X.calm=true)(hb:d8 scope X.env.scope N src X.N=true)(ha:∀g',aL[0]?=some g'->g'.is_async=0)(hi:PI X tg iter wi)(hg:∀cs C s H ex pn,PG (X.blk scope N cs C s H ex pn) tg g)(ht:∀cs C s H ex pn,PTs (X.blk scope N cs C s H ex pn) ifs tc)(hl:∀cs C s H ex pn,PL (X.blk scope N cs C s H ex pn) elt (⟨tg,iter,ifs,0⟩::aL) scope pos 0 l)(hs:∀x,foldedSetIterable iter X.env x=pure x:=by intro _;rfl):PE X (.ListComp elt (⟨tg,iter,ifs,0⟩::aL) scope pos) (i8 src wi g tc l):=.mk <| by
 intro pins s σ H Q I h;rw[eval_ListComp];refine mq (use:=none) hc hb ha hi hg ht hl hs I h fun acc C H' s' m I' q' hn hC hL h1 h2 h3=>?_;exact⟨m,hn,fun h' hs'=>⟨.ref acc,H',mC I' hC hL h1 h2 h3 hs',rfl,q'⟩⟩
theorem o6{i:Nat}{x:Str}{pos' spos:Pos}(hN:X.N.Nodup)(hi0:X.N[i]?=some x)(hx:Loc X.env.scope x)(hc:X.calm=true)(hb:d8 scope X.env.scope N src X.N=true)(ha:∀g',aL[0]?=some g'->g'.is_async=0)(hi:PI X tg iter wi)(hg:∀cs C s H ex pn,PG (X.blk scope N cs C s H ex pn) tg g)(ht:∀cs C s H ex pn,PTs (X.blk scope N cs C s H ex pn) ifs tc)(hl:∀cs C s H ex pn,PL (X.blk scope N cs C s H ex pn) elt (⟨tg,iter,ifs,0⟩::aL) scope pos 0 l)(hs:∀x,foldedSetIterable iter X.env x=pure x:=by intro _;rfl)(hsw:swapsWith (.ListComp elt (⟨tg,iter,ifs,0⟩::aL) scope pos) (some (.Name x pos')) spos.line X.env=pure true:=by rfl)(hf:X.fn x=true\/X.env.scope.names.lookup x=some .local:=by first|exact .inl rfl|exact .inr rfl|assumption):
  PS X (.Assign [.Name x pos'] (.ListComp elt (⟨tg,iter,ifs,0⟩::aL) scope pos) spos) (qz (i8 src wi g tc l) (kI i)):=.mk <| by
 intro pins s σ H D I h;rw[exec_Assign_Name_used _ _ _ _ hsw];refine wpAny_bind (wpAny_standAt (wpAny_bind ?_));show wpAny _ X.A (do let _ ← comprehension (.ListComp elt (⟨tg,iter,ifs,0⟩::aL) scope pos) scope X.env (firstIterPos (⟨tg,iter,ifs,0⟩::aL) pos) (newList []) false (firstIter (⟨tg,iter,ifs,0⟩::aL) X.env) (some (assign (.Name x pos') X.env))) _ _ s
 refine wpAny_bind (wpAny_mono (mq (use:=some (assign (.Name x pos') X.env)) (Q:=fun _ s'=>SP X pins D .next s') hc hb ha hi hg ht hl hs I h fun acc C H' s' m I' q' hn hC hL h1 h2 h3=>?_) (fun _ s' hq=>wpAny_pure (wpAny_pure hq)) fun _ _ e=>e);show wpAny _ X.A (assign (.Name x pos') X.env (.ref acc)) _ _ _;refine wpAny_assign_Name (jL (v:=.ref acc) I' hN hi0 hx rfl (fun s'' I'' ⟨a,hsb,hwh⟩=>?_) hf)
 have hne:C≠a:=by
  rcases hwh with e|e
  ·rw[e];exact hL
  ·exact fun z=>h2 x a e z.symm
 exact⟨m,hn.sameBut hsb hne,fun h' hs'=>⟨σ.set i (some (.ref acc)),H',mC I'' hC hL h1 h2 h3 hs',q'⟩⟩
end
section
variable{X:Cx}
noncomputable def dU(H:Hp):V->Option String
 |.non=>some "NoneType"
 |.bl _=>some "bool"
 |.int _=>some "int"
 |.str _=>some "str"
 |.ref a=>match H a with
  |some (.lst _)=>some "list"
  |some (.tup _)=>some "tuple"
  |some (.dK _)=>some "dict"
  |some (.dT _)=>some "dict"
  |some (.frz _ (.lst _))=>some "list"
  |_=>none
 |_=>none
noncomputable def isA(H:Hp)(x:V)(T:String):Bool:=match dU H x with
 |some t=>t == T || (t == "bool" && T == "int")
 |none=>false
theorem pW{K:W.Frag}{H:Hp}{x:V}{t:String}(h:dU H x=some t):gi K H x (.type t):=by
 cases x with
 |non=>cases h;exact .non
 |bl b=>cases h;exact .bl b
 |int i=>cases h;exact .int i
 |str z=>cases h;exact .str z
 |byt b=>cases h
 |flt b=>cases h
 |ty n=>cases h
 |ref a=>
  unfold dU at h;dsimp only at h;split at h
  ·rename_i e;cases h;exact .lst e
  ·rename_i e;cases h;exact .tup e
  ·rename_i e;cases h;exact .dK e
  ·rename_i e;cases h;exact .dT e
  ·rename_i e;cases h;exact .frz e
  ·cases h
noncomputable def gz:List String:=["NoneType","bool","int","str","list","tuple","dict"]
theorem ll{H:Hp}{x:V}{t:String}(h:dU H x=some t):t∈gz:=by
 cases x with
 |non=>cases h;decide
 |bl b=>cases h;decide
 |int i=>cases h;decide
 |str z=>cases h;decide
 |byt b=>cases h
 |flt b=>cases h
 |ty n=>cases h
 |ref a=>
  unfold dU at h;dsimp only at h;split at h<;>first|(cases h;decide)|cases h
theorem wH(K:W.Frag){t T:String}(ht:t∈gz)(hT:T∈gz):W.kitOne K (.type t) (.type T)=some (t == T || (t == "bool" && T == "int")):=by
 simp only[gz,List.mem_cons,List.not_mem_nil,or_false] at ht hT;rcases ht with rfl|rfl|rfl|rfl|rfl|rfl|rfl<;>rcases hT with rfl|rfl|rfl|rfl|rfl|rfl|rfl<;>with_unfolding_all rfl
theorem hV:cy X (.builtin "isinstance") (fun xs H Q=>∃x T,xs=[x,.ty T]/\T∈gz/\(dU H x).isSome=true/\Q (.bl (isA H x T)) H):=by
 intro pins s σ H xs us Q I r h;obtain⟨x,T,rfl,hT,hs,q⟩:=h;obtain⟨u,w',rfl,rx,rT⟩:=rm r;cases (show w'=Value.type T from rT)
 obtain⟨t,ht⟩:=Option.isSome_iff_exists.mp hs;refine pV I rx (pW ht) (wH X.K (ll ht) hT) fun tk=>⟨.bl (isA H x T),H,I.tok tk,?_,q⟩;show _=Value.bool (isA H x T);unfold isA;rw[ht]
end
end L2
set_option autoImplicit false
namespace L2
open PySem PySem.Spec PyProof.Rows
inductive D where
 |non|bl (b:Bool)|int (i:Int)|str (x:Str)|tup (ds:List D)|lst (ds:List D)
 |dk (ks:List Int)|dt (ks:List (List Int))
noncomputable def dkO(ks:List Int):List (Key×V):=ks.map fun k=>(Sum.inl k,V.int 1)
noncomputable def dtO(ks:List (List Int)):List (List Key×V):=ks.map fun k=>(k.map Sum.inl,V.int 1)
theorem nX:∀ {a b:List Int},dkO a=dkO b->a=b
 | [],[],_=>rfl
 |x::a,y::b,h=>by
  simp only[dkO,List.map_cons,List.cons.injEq,Prod.mk.injEq,Sum.inl.injEq,and_true] at h;rw[h.1,nX h.2]
 | [],_::_,h=>by simp[dkO] at h
 |_::_,[],h=>by simp[dkO] at h
theorem pA:∀ {a b:List Int},(a.map Sum.inl:List Key)=b.map Sum.inl->a=b
 | [],[],_=>rfl
 |x::a,y::b,h=>by
  simp only[List.map_cons,List.cons.injEq,Sum.inl.injEq] at h;rw[h.1,pA h.2]
 | [],_::_,h=>by simp at h
 |_::_,[],h=>by simp at h
theorem nQ:∀ {a b:List (List Int)},dtO a=dtO b->a=b
 | [],[],_=>rfl
 |x::a,y::b,h=>by
  simp only[dtO,List.map_cons,List.cons.injEq,Prod.mk.injEq,and_true] at h;rw[pA h.1,nQ h.2]
 | [],_::_,h=>by simp[dtO] at h
 |_::_,[],h=>by simp[dtO] at h
mutual
noncomputable def Dat(H:Hp):D->V->Prop
 |.non,v=>v=.non
 |.bl b,v=>v=.bl b
 |.int i,v=>v=.int i
 |.str x,v=>v=.str x
 |.tup ds,v=>∃a xs,v=.ref a/\H a=some (.tup xs)/\aj H ds xs
 |.lst ds,v=>∃a xs,v=.ref a/\H a=some (.lst xs)/\aj H ds xs
 |.dk ks,v=>∃a xs,v=.ref a/\H a=some (.dK (dkO xs))/\xs=ks
 |.dt ks,v=>∃a xs,v=.ref a/\H a=some (.dT (dtO xs))/\xs=ks
noncomputable def aj(H:Hp):List D->List V->Prop
 | [],xs=>xs=[]
 |d::ds,xs=>∃x r,xs=x::r/\Dat H d x/\aj H ds r
end
mutual
noncomputable def dep:D->Nat
 |.tup ds=>bC ds+1
 |.lst ds=>bC ds+1
 |.dk _=>1000000
 |.dt _=>1000000
 |_=>0
noncomputable def bC:List D->Nat
 | []=>0
 |d::ds=>max (dep d) (bC ds)
end
mutual
noncomputable def eqD:D->D->Bool
 |.non,.non=>true
 |.bl a,.bl b=>a == b
 |.bl a,.int b=>(if a then 1 else 0) == b
 |.int a,.bl b=>a == (if b then 1 else 0)
 |.int a,.int b=>a == b
 |.str a,.str b=>a == b
 |.tup a,.tup b=>bP a b
 |.lst a,.lst b=>bP a b
 |.dk a,.dk b=>a == b
 |.dt a,.dt b=>a == b
 |_,_=>false
noncomputable def bP:List D->List D->Bool
 | [],[]=>true
 |x::xs,y::ys=>eqD x y && bP xs ys
 |_,_=>false
end
theorem cV:∀ {ds:List D} {d:D},d∈ds->dep d<=bC ds
 |d::ds,e,h=>by
  unfold bC;rcases List.mem_cons.mp h with rfl|h
  ·exact Nat.le_max_left _ _
  ·exact Nat.le_trans (cV h) (Nat.le_max_right _ _)
theorem aj.length:∀ {H:Hp} {ds:List D} {xs:List V},aj H ds xs->xs.length=ds.length
 |H,[],xs,h=>by
  have e:xs=[]:=by simpa[aj] using h
  rw[e];rfl
 |H,d::ds,xs,h=>by
  obtain⟨x,r,rfl,_,t⟩:∃x r,xs=x::r/\Dat H d x/\aj H ds r:=by simpa only[aj] using h
  rw[List.length_cons,List.length_cons,aj.length t]
theorem aj.get:∀ {H:Hp} {ds:List D} {xs:List V} {i:Nat} {d:D},aj H ds xs->ds[i]?=some d->∃x,xs[i]?=some x/\Dat H d x
 |H,[],xs,i,d,h,e=>by simp at e
 |H,d'::ds,xs,i,d,h,e=>by
  obtain⟨x,r,rfl,hx,t⟩:∃x r,xs=x::r/\Dat H d' x/\aj H ds r:=by simpa only[aj] using h
  cases i with
  |zero=>simp at e;subst e;exact⟨x,rfl,hx⟩
  |succ i=>simpa using aj.get t (i:=i) (by simpa using e)
theorem aj.of_get:∀ {H:Hp} {ds:List D} {xs:List V},xs.length=ds.length->(∀(i:Nat)(d:D)(x:V),ds[i]?=some d->xs[i]?=some x->Dat H d x)->aj H ds xs
 |H,[],[],_,_=>by simp[aj]
 |H,d::ds,x::xs,hl,h=>by
  simp only[aj];exact⟨x,xs,rfl,h 0 d x rfl rfl,aj.of_get (by simpa using hl) fun i d x e1 e2=>h (i+1) d x (by simpa using e1) (by simpa using e2)⟩
 |H,[],_::_,hl,_=>by simp at hl
 |H,_::_,[],hl,_=>by simp at hl
theorem aj.append:∀ {H:Hp} {ds es:List D} {xs ys:List V},aj H ds xs->aj H es ys->aj H (ds++es) (xs++ys)
 |H,[],es,xs,ys,h,h'=>by
  have e:xs=[]:=by simpa[aj] using h
  rw[e];exact h'
 |H,d::ds,es,xs,ys,h,h'=>by
  obtain⟨x,r,rfl,hx,t⟩:∃x r,xs=x::r/\Dat H d x/\aj H ds r:=by simpa only[aj] using h
  show aj H (d::(ds++es)) (x::(r++ys));simp only[aj];exact⟨x,r++ys,rfl,hx,aj.append t h'⟩
mutual
theorem Dat.same{H H':Hp}(e:bK H H'):∀ {d:D} {v:V},Dat H d v->Dat H' d v
 |.non,v,h=>by simpa only[Dat] using h
 |.bl b,v,h=>by simpa only[Dat] using h
 |.int i,v,h=>by simpa only[Dat] using h
 |.str x,v,h=>by simpa only[Dat] using h
 |.tup ds,v,h=>by
  simp only[Dat] at h ⊢;obtain⟨a,xs,rfl,h1,h2⟩:=h;exact⟨a,xs,rfl,e a _ h1,aj.same e h2⟩
 |.lst ds,v,h=>by
  simp only[Dat] at h ⊢;obtain⟨a,xs,rfl,h1,h2⟩:=h;exact⟨a,xs,rfl,e a _ h1,aj.same e h2⟩
 |.dk ks,v,h=>by
  simp only[Dat] at h ⊢;obtain⟨a,xs,rfl,h1,h2⟩:=h;exact⟨a,xs,rfl,e a _ h1,h2⟩
 |.dt ks,v,h=>by
  simp only[Dat] at h ⊢;obtain⟨a,xs,rfl,h1,h2⟩:=h;exact⟨a,xs,rfl,e a _ h1,h2⟩
theorem aj.same{H H':Hp}(e:bK H H'):∀ {ds:List D} {xs:List V},aj H ds xs->aj H' ds xs
 | [],xs,h=>by simpa only[aj] using h
 |d::ds,xs,h=>by
  simp only[aj] at h ⊢;obtain⟨x,r,rfl,h1,h2⟩:=h;exact⟨x,r,rfl,Dat.same e h1,aj.same e h2⟩
end
mutual
theorem Dat.inj{H:Hp}:∀ {d e:D} {v:V},Dat H d v->Dat H e v->d=e
 |.non,e,v,h,h'=>by
  simp only[Dat] at h;subst h;cases e<;>simp only[Dat] at h'<;>first|rfl|(obtain⟨_,_,h',_⟩:=h';cases h';done)|(cases h';done)
 |.bl b,e,v,h,h'=>by
  simp only[Dat] at h;subst h;cases e<;>simp only[Dat] at h'<;>first|(obtain⟨_,_,h',_⟩:=h';cases h';done)|(cases h';rfl)|(cases h';done)
 |.int i,e,v,h,h'=>by
  simp only[Dat] at h;subst h;cases e<;>simp only[Dat] at h'<;>first|(obtain⟨_,_,h',_⟩:=h';cases h';done)|(cases h';rfl)|(cases h';done)
 |.str x,e,v,h,h'=>by
  simp only[Dat] at h;subst h;cases e<;>simp only[Dat] at h'<;>first|(obtain⟨_,_,h',_⟩:=h';cases h';done)|(cases h';rfl)|(cases h';done)
 |.tup ds,e,v,h,h'=>by
  simp only[Dat] at h;obtain⟨a,xs,rfl,h1,h2⟩:=h
  cases e with
  |tup es=>
   simp only[Dat] at h';obtain⟨b,ys,e1,h3,h4⟩:=h';cases e1;rw[h1] at h3;cases h3;rw[aj.inj h2 h4]
  |lst es=>
   simp only[Dat] at h';obtain⟨b,ys,e1,h3,h4⟩:=h';cases e1;rw[h1] at h3;cases h3
  |dk es=>
   simp only[Dat] at h';obtain⟨b,ys,e1,h3,h4⟩:=h';cases e1;rw[h1] at h3;cases h3
  |dt es=>
   simp only[Dat] at h';obtain⟨b,ys,e1,h3,h4⟩:=h';cases e1;rw[h1] at h3;cases h3
  |_=>simp only[Dat] at h';cases h'
 |.lst ds,e,v,h,h'=>by
  simp only[Dat] at h;obtain⟨a,xs,rfl,h1,h2⟩:=h
  cases e with
  |lst es=>
   simp only[Dat] at h';obtain⟨b,ys,e1,h3,h4⟩:=h';cases e1;rw[h1] at h3;cases h3;rw[aj.inj h2 h4]
  |tup es=>
   simp only[Dat] at h';obtain⟨b,ys,e1,h3,h4⟩:=h';cases e1;rw[h1] at h3;cases h3
  |dk es=>
   simp only[Dat] at h';obtain⟨b,ys,e1,h3,h4⟩:=h';cases e1;rw[h1] at h3;cases h3
  |dt es=>
   simp only[Dat] at h';obtain⟨b,ys,e1,h3,h4⟩:=h';cases e1;rw[h1] at h3;cases h3
  |_=>simp only[Dat] at h';cases h'
 |.dk ds,e,v,h,h'=>by
  simp only[Dat] at h;obtain⟨a,xs,rfl,h1,rfl⟩:=h
  cases e with
  |tup es=>
   simp only[Dat] at h';obtain⟨b,ys,e1,h3,h4⟩:=h';cases e1;rw[h1] at h3;cases h3
  |lst es=>
   simp only[Dat] at h';obtain⟨b,ys,e1,h3,h4⟩:=h';cases e1;rw[h1] at h3;cases h3
  |dk es=>
   simp only[Dat] at h';obtain⟨b,ys,e1,h3,h4⟩:=h';cases e1;rw[h1] at h3;rw[←h4,nX (a:=xs) (b:=ys)]
   simpa using h3
  |dt es=>
   simp only[Dat] at h';obtain⟨b,ys,e1,h3,h4⟩:=h';cases e1;rw[h1] at h3;cases h3
  |_=>simp only[Dat] at h';cases h'
 |.dt ds,e,v,h,h'=>by
  simp only[Dat] at h;obtain⟨a,xs,rfl,h1,rfl⟩:=h
  cases e with
  |tup es=>
   simp only[Dat] at h';obtain⟨b,ys,e1,h3,h4⟩:=h';cases e1;rw[h1] at h3;cases h3
  |lst es=>
   simp only[Dat] at h';obtain⟨b,ys,e1,h3,h4⟩:=h';cases e1;rw[h1] at h3;cases h3
  |dk es=>
   simp only[Dat] at h';obtain⟨b,ys,e1,h3,h4⟩:=h';cases e1;rw[h1] at h3;cases h3
  |dt es=>
   simp only[Dat] at h';obtain⟨b,ys,e1,h3,h4⟩:=h';cases e1;rw[h1] at h3;rw[←h4,nQ (a:=xs) (b:=ys)]
   simpa using h3
  |_=>simp only[Dat] at h';cases h'
theorem aj.inj{H:Hp}:∀ {ds es:List D} {xs:List V},aj H ds xs->aj H es xs->ds=es
 | [],[],_,_,_=>rfl
 | [],e::es,xs,h,h'=>by
  simp only[aj] at h h';obtain⟨x,r,rfl,_⟩:=h';cases h
 |d::ds,[],xs,h,h'=>by
  simp only[aj] at h h';obtain⟨x,r,rfl,_⟩:=h;cases h'
 |d::ds,e::es,xs,h,h'=>by
  simp only[aj] at h h';obtain⟨x,r,rfl,h1,h2⟩:=h;obtain⟨x',r',e1,h3,h4⟩:=h';cases e1;rw[Dat.inj h1 h3,aj.inj h2 h4]
end
mutual
theorem dF:∀d:D,eqD d d=true
 |.non=>by simp[eqD]
 |.bl b=>by simp[eqD]
 |.int i=>by simp[eqD]
 |.str x=>by simp[eqD]
 |.tup ds=>by simp only[eqD];exact dv ds
 |.lst ds=>by simp only[eqD];exact dv ds
 |.dk ks=>by simp[eqD]
 |.dt ks=>by simp[eqD]
theorem dv:∀ds:List D,bP ds ds=true
 | []=>by simp[bP]
 |d::ds=>by simp only[bP,dF d,dv ds,Bool.and_self]
end
theorem iB:∀ {ds es:List D},ds.length≠es.length->bP ds es=false
 | [],[],h=>absurd rfl h
 | [],_::_,_=>by simp[bP]
 |_::_,[],_=>by simp[bP]
 |d::ds,e::es,h=>by
  simp only[bP,iB (ds:=ds) (es:=es) (by simpa using h),Bool.and_false]
theorem fy:∀ {ds es:List D},ds.length=es.length->(List.range ds.length).all (fun j=>eqD (ds.getD j .non) (es.getD j .non))=bP ds es
 | [],[],_=>by simp[bP]
 | [],_::_,h=>by simp at h
 |_::_,[],h=>by simp at h
 |d::ds,e::es,h=>by
  have ih:=fy (ds:=ds) (es:=es) (by simpa using h)
  rw[List.length_cons,List.range_succ_eq_map,List.all_cons,List.all_map];simp only[bP,←ih]
  rfl
end L2
namespace L2
open PySem PySem.Spec PyProof.Rows AutoSeq1
noncomputable def kL(h:Heap)(l:Addr):Prop:=∃es ep,h.get? l=some { cls:=.type "dict",data:=.dict es ep }
theorem fM:isSubtype (.type "NoneType") (.type "dict")=pure false:=by rw[isSubtype_type];kernel_rfl
theorem gy:isSubtype (.type "bool") (.type "dict")=pure false:=by rw[isSubtype_type];kernel_rfl
theorem gC:isSubtype (.type "int") (.type "dict")=pure false:=by rw[isSubtype_type];kernel_rfl
theorem gF:isSubtype (.type "str") (.type "dict")=pure false:=by rw[isSubtype_type];kernel_rfl
theorem gJ:isSubtype (.type "tuple") (.type "dict")=pure false:=by rw[isSubtype_type];kernel_rfl
theorem gE:isSubtype (.type "list") (.type "dict")=pure false:=by rw[isSubtype_type];kernel_rfl
theorem lM:isSubtype (.type "dict") (.type "NoneType")=pure false:=by rw[isSubtype_type];kernel_rfl
theorem ph:isSubtype (.type "dict") (.type "bool")=pure false:=by rw[isSubtype_type];kernel_rfl
theorem eS:isSubtype (.type "dict") (.type "int")=pure false:=by rw[isSubtype_type];kernel_rfl
theorem gS:isSubtype (.type "dict") (.type "str")=pure false:=by rw[isSubtype_type];kernel_rfl
theorem gT:isSubtype (.type "dict") (.type "tuple")=pure false:=by rw[isSubtype_type];kernel_rfl
theorem gQ:isSubtype (.type "dict") (.type "list")=pure false:=by rw[isSubtype_type];kernel_rfl
section
variable(l b:Addr)(es:Array DictEntry)(ep:Nat)
noncomputable abbrev DO(es:Array DictEntry)(ep:Nat):Obj:={ cls:=.type "dict",data:=.dict es ep }
theorem vZ:Meets (Builtin.«dict.__eq__» ⟨[.ref l,.none],[]⟩) (fun _ R s=>s.heap.get? l=some (DO es ep)/\R (.ok (.ret .notImplemented)) s):=
 .of_wp fun prog w A R s h=>by obtain⟨hp,g,d,tk,os⟩:=s;obtain⟨hl,h⟩:=h;have f1:=fM;wp_walk using wpAny_loadPart' hl,wpAny_load hl;exact⟨_,rfl,h⟩
theorem wk:Meets (Builtin.«dict.__ne__» ⟨[.ref l,.none],[]⟩) (fun _ R s=>s.heap.get? l=some (DO es ep)/\R (.ok (.ret .notImplemented)) s):=
 .of_wp fun prog w A R s h=>by obtain⟨hp,g,d,tk,os⟩:=s;obtain⟨hl,h⟩:=h;have f1:=fM;wp_walk using wpAny_loadPart' hl,wpAny_load hl;exact⟨_,rfl,h⟩
theorem yt(c:Bool):Meets (Builtin.«dict.__eq__» ⟨[.ref l,.bool c],[]⟩) (fun _ R s=>s.heap.get? l=some (DO es ep)/\R (.ok (.ret .notImplemented)) s):=
 .of_wp fun prog w A R s h=>by obtain⟨hp,g,d,tk,os⟩:=s;obtain⟨hl,h⟩:=h;have f1:=gy;wp_walk using wpAny_loadPart' hl,wpAny_load hl;exact⟨_,rfl,h⟩
theorem yk(c:Bool):Meets (Builtin.«dict.__ne__» ⟨[.ref l,.bool c],[]⟩) (fun _ R s=>s.heap.get? l=some (DO es ep)/\R (.ok (.ret .notImplemented)) s):=
 .of_wp fun prog w A R s h=>by obtain⟨hp,g,d,tk,os⟩:=s;obtain⟨hl,h⟩:=h;have f1:=gy;wp_walk using wpAny_loadPart' hl,wpAny_load hl;exact⟨_,rfl,h⟩
theorem yM(c:Int)(u:Tok):Meets (Builtin.«dict.__eq__» ⟨[.ref l,.int c u],[]⟩) (fun _ R s=>s.heap.get? l=some (DO es ep)/\R (.ok (.ret .notImplemented)) s):=
 .of_wp fun prog w A R s h=>by obtain⟨hp,g,d,tk,os⟩:=s;obtain⟨hl,h⟩:=h;have f1:=gC;wp_walk using wpAny_loadPart' hl,wpAny_load hl;exact⟨_,rfl,h⟩
theorem xH(c:Int)(u:Tok):Meets (Builtin.«dict.__ne__» ⟨[.ref l,.int c u],[]⟩) (fun _ R s=>s.heap.get? l=some (DO es ep)/\R (.ok (.ret .notImplemented)) s):=
 .of_wp fun prog w A R s h=>by obtain⟨hp,g,d,tk,os⟩:=s;obtain⟨hl,h⟩:=h;have f1:=gC;wp_walk using wpAny_loadPart' hl,wpAny_load hl;exact⟨_,rfl,h⟩
theorem yg(c:Str)(u:Tok):Meets (Builtin.«dict.__eq__» ⟨[.ref l,.str c u],[]⟩) (fun _ R s=>s.heap.get? l=some (DO es ep)/\R (.ok (.ret .notImplemented)) s):=
 .of_wp fun prog w A R s h=>by obtain⟨hp,g,d,tk,os⟩:=s;obtain⟨hl,h⟩:=h;have f1:=gF;wp_walk using wpAny_loadPart' hl,wpAny_load hl;exact⟨_,rfl,h⟩
theorem zl(c:Str)(u:Tok):Meets (Builtin.«dict.__ne__» ⟨[.ref l,.str c u],[]⟩) (fun _ R s=>s.heap.get? l=some (DO es ep)/\R (.ok (.ret .notImplemented)) s):=
 .of_wp fun prog w A R s h=>by obtain⟨hp,g,d,tk,os⟩:=s;obtain⟨hl,h⟩:=h;have f1:=gF;wp_walk using wpAny_loadPart' hl,wpAny_load hl;exact⟨_,rfl,h⟩
theorem yj(its:Array Value)(n:Nat)(dd:Option Addr)(sl:Array (Option Value)):Meets (Builtin.«dict.__eq__» ⟨[.ref l,.ref b],[]⟩) (fun _ R s=>s.heap.get? l=some (DO es ep)/\s.heap.get? b=some ⟨.type "tuple",dd,.seq its n,sl⟩/\R (.ok (.ret .notImplemented)) s):=
 .of_wp fun prog w A R s h=>by obtain⟨hp,g,d,tk,os⟩:=s;obtain⟨hl,hb,h⟩:=h;have f1:=gJ;wp_walk using wpAny_loadPart' hl,wpAny_load hl,wpAny_loadPart' hb,wpAny_load hb;exact⟨_,rfl,h⟩
theorem xT(its:Array Value)(n:Nat)(dd:Option Addr)(sl:Array (Option Value)):Meets (Builtin.«dict.__ne__» ⟨[.ref l,.ref b],[]⟩) (fun _ R s=>s.heap.get? l=some (DO es ep)/\s.heap.get? b=some ⟨.type "tuple",dd,.seq its n,sl⟩/\R (.ok (.ret .notImplemented)) s):=
 .of_wp fun prog w A R s h=>by obtain⟨hp,g,d,tk,os⟩:=s;obtain⟨hl,hb,h⟩:=h;have f1:=gJ;wp_walk using wpAny_loadPart' hl,wpAny_load hl,wpAny_loadPart' hb,wpAny_load hb;exact⟨_,rfl,h⟩
theorem zj(its:Array Value)(n:Nat)(dd:Option Addr)(sl:Array (Option Value)):Meets (Builtin.«dict.__eq__» ⟨[.ref l,.ref b],[]⟩) (fun _ R s=>s.heap.get? l=some (DO es ep)/\s.heap.get? b=some ⟨.type "list",dd,.seq its n,sl⟩/\R (.ok (.ret .notImplemented)) s):=
 .of_wp fun prog w A R s h=>by obtain⟨hp,g,d,tk,os⟩:=s;obtain⟨hl,hb,h⟩:=h;have f1:=gE;wp_walk using wpAny_loadPart' hl,wpAny_load hl,wpAny_loadPart' hb,wpAny_load hb;exact⟨_,rfl,h⟩
theorem xK(its:Array Value)(n:Nat)(dd:Option Addr)(sl:Array (Option Value)):Meets (Builtin.«dict.__ne__» ⟨[.ref l,.ref b],[]⟩) (fun _ R s=>s.heap.get? l=some (DO es ep)/\s.heap.get? b=some ⟨.type "list",dd,.seq its n,sl⟩/\R (.ok (.ret .notImplemented)) s):=
 .of_wp fun prog w A R s h=>by obtain⟨hp,g,d,tk,os⟩:=s;obtain⟨hl,hb,h⟩:=h;have f1:=gE;wp_walk using wpAny_loadPart' hl,wpAny_load hl,wpAny_loadPart' hb,wpAny_load hb;exact⟨_,rfl,h⟩
theorem yv(c:Bool):Meets (Builtin.«int.__eq__» ⟨[.bool c,.ref l],[]⟩) (fun _ R s=>s.heap.get? l=some (DO es ep)/\R (.ok (.ret .notImplemented)) s):=
 .of_wp fun prog w A R s h=>by obtain⟨hp,g,d,tk,os⟩:=s;obtain⟨hl,h⟩:=h;have f1:=eS;wp_walk using wpAny_loadPart' hl,wpAny_load hl;exact⟨_,rfl,h⟩
theorem yY(c:Bool):Meets (Builtin.«int.__ne__» ⟨[.bool c,.ref l],[]⟩) (fun _ R s=>s.heap.get? l=some (DO es ep)/\R (.ok (.ret .notImplemented)) s):=
 .of_wp fun prog w A R s h=>by obtain⟨hp,g,d,tk,os⟩:=s;obtain⟨hl,h⟩:=h;have f1:=eS;wp_walk using wpAny_loadPart' hl,wpAny_load hl;exact⟨_,rfl,h⟩
theorem zc(c:Int)(u:Tok):Meets (Builtin.«int.__eq__» ⟨[.int c u,.ref l],[]⟩) (fun _ R s=>s.heap.get? l=some (DO es ep)/\R (.ok (.ret .notImplemented)) s):=
 .of_wp fun prog w A R s h=>by obtain⟨hp,g,d,tk,os⟩:=s;obtain⟨hl,h⟩:=h;have f1:=eS;wp_walk using wpAny_loadPart' hl,wpAny_load hl;exact⟨_,rfl,h⟩
theorem yD(c:Int)(u:Tok):Meets (Builtin.«int.__ne__» ⟨[.int c u,.ref l],[]⟩) (fun _ R s=>s.heap.get? l=some (DO es ep)/\R (.ok (.ret .notImplemented)) s):=
 .of_wp fun prog w A R s h=>by obtain⟨hp,g,d,tk,os⟩:=s;obtain⟨hl,h⟩:=h;have f1:=eS;wp_walk using wpAny_loadPart' hl,wpAny_load hl;exact⟨_,rfl,h⟩
theorem zP(c:Str)(u:Tok):Meets (Builtin.«str.__eq__» ⟨[.str c u,.ref l],[]⟩) (fun _ R s=>s.heap.get? l=some (DO es ep)/\R (.ok (.ret .notImplemented)) s):=
 .of_wp fun prog w A R s h=>by obtain⟨hp,g,d,tk,os⟩:=s;obtain⟨hl,h⟩:=h;have f1:=gS;wp_walk using wpAny_loadPart' hl,wpAny_load hl;exact⟨_,rfl,h⟩
theorem zA(c:Str)(u:Tok):Meets (Builtin.«str.__ne__» ⟨[.str c u,.ref l],[]⟩) (fun _ R s=>s.heap.get? l=some (DO es ep)/\R (.ok (.ret .notImplemented)) s):=
 .of_wp fun prog w A R s h=>by obtain⟨hp,g,d,tk,os⟩:=s;obtain⟨hl,h⟩:=h;have f1:=gS;wp_walk using wpAny_loadPart' hl,wpAny_load hl;exact⟨_,rfl,h⟩
theorem zr(its:Array Value)(n:Nat)(dd:Option Addr)(sl:Array (Option Value)):Meets (Builtin.«tuple.__eq__» ⟨[.ref b,.ref l],[]⟩) (fun _ R s=>s.heap.get? l=some (DO es ep)/\s.heap.get? b=some ⟨.type "tuple",dd,.seq its n,sl⟩/\R (.ok (.ret .notImplemented)) s):=
 .of_wp fun prog w A R s h=>by obtain⟨hp,g,d,tk,os⟩:=s;obtain⟨hl,hb,h⟩:=h;have f1:=gT;wp_walk using wpAny_loadPart' hl,wpAny_load hl,wpAny_loadPart' hb,wpAny_load hb;exact⟨_,rfl,h⟩
theorem zK(its:Array Value)(n:Nat)(dd:Option Addr)(sl:Array (Option Value)):Meets (Builtin.«tuple.__ne__» ⟨[.ref b,.ref l],[]⟩) (fun _ R s=>s.heap.get? l=some (DO es ep)/\s.heap.get? b=some ⟨.type "tuple",dd,.seq its n,sl⟩/\R (.ok (.ret .notImplemented)) s):=
 .of_wp fun prog w A R s h=>by obtain⟨hp,g,d,tk,os⟩:=s;obtain⟨hl,hb,h⟩:=h;have f1:=gT;wp_walk using wpAny_loadPart' hl,wpAny_load hl,wpAny_loadPart' hb,wpAny_load hb;exact⟨_,rfl,h⟩
theorem zO(its:Array Value)(n:Nat)(dd:Option Addr)(sl:Array (Option Value)):Meets (Builtin.«list.__eq__» ⟨[.ref b,.ref l],[]⟩) (fun _ R s=>s.heap.get? l=some (DO es ep)/\s.heap.get? b=some ⟨.type "list",dd,.seq its n,sl⟩/\R (.ok (.ret .notImplemented)) s):=
 .of_wp fun prog w A R s h=>by obtain⟨hp,g,d,tk,os⟩:=s;obtain⟨hl,hb,h⟩:=h;have f1:=gQ;wp_walk using wpAny_loadPart' hl,wpAny_load hl,wpAny_loadPart' hb,wpAny_load hb;exact⟨_,rfl,h⟩
theorem zx(its:Array Value)(n:Nat)(dd:Option Addr)(sl:Array (Option Value)):Meets (Builtin.«list.__ne__» ⟨[.ref b,.ref l],[]⟩) (fun _ R s=>s.heap.get? l=some (DO es ep)/\s.heap.get? b=some ⟨.type "list",dd,.seq its n,sl⟩/\R (.ok (.ret .notImplemented)) s):=
 .of_wp fun prog w A R s h=>by obtain⟨hp,g,d,tk,os⟩:=s;obtain⟨hl,hb,h⟩:=h;have f1:=gQ;wp_walk using wpAny_loadPart' hl,wpAny_load hl,wpAny_loadPart' hb,wpAny_load hb;exact⟨_,rfl,h⟩
end
noncomputable def Eq3(A:Around)(s:Shared)(v u:Value)(b:Bool):Prop:=SeqAt.RcAt A s v u b/\SeqAt.EqAt A s v u b/\SeqAt.RcNeAt A s v u (!b)
section
variable{A:Around}{s:Shared}{l:Addr}
theorem dw{v:Value}(hne:v≠.ref l)(h:SeqAt.RcAt A s v (.ref l) false):SeqAt.EqAt A s v (.ref l) false:=fun prog w E Q q=>by
 unfold eqBool;refine wpAny_holding ?_;refine wpAny_ite_split (fun hab=>absurd (eq_of_beq hab) hne) (fun _=>?_);cases v<;>exact wpAny_bind (h prog w E _ (wpAny_truthy_bool q))
theorem ra(d:kL s.heap l)(hu:A.units<cLine):Eq3 A s .none (.ref l) false:=by
 obtain⟨es,ep,ho⟩:=d
 have a:SeqAt.RcAt A s .none (.ref l) false:=fun prog w E Q h=>SeqAt.rc_eq_decline_or (k:=false) rfl ⟨_,ho,rfl⟩ (by decide) lM F.slot_NoneType_eq F.slot_dict_eq_refl
  (fun _ hq=>call_gives F.slot_NoneType_eq rfl F.entry_NoneType_eq (F.args_NoneType_eq_2 _ _) (SeqAt.NoneType___eq___none_ref_0 l) hq)
  (fun _ hq=>call_meets F.slot_dict_eq_refl ⟨_,ho,rfl⟩ F.entry_dict_eq (F.args_dict_eq_2 _ _) (vZ l es ep) ⟨ho,hq⟩)
  (fun _ hq=>wpAny_of_eq (rfl:isSame .none (.ref l)=pure false) hq) (.inr hu) h
 exact⟨a,dw nofun a,fun prog w E Q h=>SeqAt.rc_ne_decline_or (k:=false) rfl ⟨_,ho,rfl⟩ (by decide) lM F.slot_NoneType_ne F.slot_dict_ne_refl
  (fun _ hq=>call_gives F.slot_NoneType_ne rfl F.entry_NoneType_ne (F.args_NoneType_ne_2 _ _) (SeqAt.NoneType___ne___none_ref_0 l) hq)
  (fun _ hq=>call_meets F.slot_dict_ne_refl ⟨_,ho,rfl⟩ F.entry_dict_ne (F.args_dict_ne_2 _ _) (wk l es ep) ⟨ho,hq⟩)
  (fun _ hq=>wpAny_of_eq (rfl:isSame .none (.ref l)=pure false) hq) (.inr hu) h⟩
theorem vI(c:Bool)(d:kL s.heap l)(hu:A.units<cLine):Eq3 A s (.bool c) (.ref l) false:=by
 obtain⟨es,ep,ho⟩:=d
 have a:SeqAt.RcAt A s (.bool c) (.ref l) false:=fun prog w E Q h=>SeqAt.rc_eq_decline_or (k:=false) rfl ⟨_,ho,rfl⟩ (by decide) ph F.slot_bool_eq F.slot_dict_eq_refl
  (fun _ hq=>call_meets F.slot_bool_eq rfl F.entry_int_eq (F.args_int_eq_2 _ _) (yv l es ep c) ⟨ho,hq⟩)
  (fun _ hq=>call_meets F.slot_dict_eq_refl ⟨_,ho,rfl⟩ F.entry_dict_eq (F.args_dict_eq_2 _ _) (yt l es ep c) ⟨ho,hq⟩)
  (fun _ hq=>wpAny_of_eq (rfl:isSame (.bool c) (.ref l)=pure false) hq) (.inr hu) h
 exact⟨a,dw nofun a,fun prog w E Q h=>SeqAt.rc_ne_decline_or (k:=false) rfl ⟨_,ho,rfl⟩ (by decide) ph F.slot_bool_ne F.slot_dict_ne_refl
  (fun _ hq=>call_meets F.slot_bool_ne rfl F.entry_int_ne (F.args_int_ne_2 _ _) (yY l es ep c) ⟨ho,hq⟩)
  (fun _ hq=>call_meets F.slot_dict_ne_refl ⟨_,ho,rfl⟩ F.entry_dict_ne (F.args_dict_ne_2 _ _) (yk l es ep c) ⟨ho,hq⟩)
  (fun _ hq=>wpAny_of_eq (rfl:isSame (.bool c) (.ref l)=pure false) hq) (.inr hu) h⟩
theorem vM(c:Int)(u:Tok)(d:kL s.heap l)(hu:A.units<cLine):Eq3 A s (.int c u) (.ref l) false:=by
 obtain⟨es,ep,ho⟩:=d
 have a:SeqAt.RcAt A s (.int c u) (.ref l) false:=fun prog w E Q h=>SeqAt.rc_eq_decline_or (k:=false) (typeIs_int s c u) ⟨_,ho,rfl⟩ (by decide) eS F.slot_int_eq F.slot_dict_eq_refl
  (fun _ hq=>call_meets F.slot_int_eq (typeIs_int s c u) F.entry_int_eq (F.args_int_eq_2 _ _) (zc l es ep c u) ⟨ho,hq⟩)
  (fun _ hq=>call_meets F.slot_dict_eq_refl ⟨_,ho,rfl⟩ F.entry_dict_eq (F.args_dict_eq_2 _ _) (yM l es ep c u) ⟨ho,hq⟩)
  (fun _ hq=>wpAny_of_eq (rfl:isSame (.int c u) (.ref l)=pure false) hq) (.inr hu) h
 exact⟨a,dw nofun a,fun prog w E Q h=>SeqAt.rc_ne_decline_or (k:=false) (typeIs_int s c u) ⟨_,ho,rfl⟩ (by decide) eS F.slot_int_ne F.slot_dict_ne_refl
  (fun _ hq=>call_meets F.slot_int_ne (typeIs_int s c u) F.entry_int_ne (F.args_int_ne_2 _ _) (yD l es ep c u) ⟨ho,hq⟩)
  (fun _ hq=>call_meets F.slot_dict_ne_refl ⟨_,ho,rfl⟩ F.entry_dict_ne (F.args_dict_ne_2 _ _) (xH l es ep c u) ⟨ho,hq⟩)
  (fun _ hq=>wpAny_of_eq (rfl:isSame (.int c u) (.ref l)=pure false) hq) (.inr hu) h⟩
theorem vf(c:Str)(u:Tok)(d:kL s.heap l)(hu:A.units<cLine):Eq3 A s (.str c u) (.ref l) false:=by
 obtain⟨es,ep,ho⟩:=d
 have a:SeqAt.RcAt A s (.str c u) (.ref l) false:=fun prog w E Q h=>SeqAt.rc_eq_decline_or (k:=false) (typeIs_str s c u) ⟨_,ho,rfl⟩ (by decide) gS F.slot_str_eq F.slot_dict_eq_refl
  (fun _ hq=>call_meets F.slot_str_eq (typeIs_str s c u) F.entry_str_eq (F.args_str_eq_2 _ _) (zP l es ep c u) ⟨ho,hq⟩)
  (fun _ hq=>call_meets F.slot_dict_eq_refl ⟨_,ho,rfl⟩ F.entry_dict_eq (F.args_dict_eq_2 _ _) (yg l es ep c u) ⟨ho,hq⟩)
  (fun _ hq=>wpAny_of_eq (rfl:isSame (.str c u) (.ref l)=pure false) hq) (.inr hu) h
 exact⟨a,dw nofun a,fun prog w E Q h=>SeqAt.rc_ne_decline_or (k:=false) (typeIs_str s c u) ⟨_,ho,rfl⟩ (by decide) gS F.slot_str_ne F.slot_dict_ne_refl
  (fun _ hq=>call_meets F.slot_str_ne (typeIs_str s c u) F.entry_str_ne (F.args_str_ne_2 _ _) (zA l es ep c u) ⟨ho,hq⟩)
  (fun _ hq=>call_meets F.slot_dict_ne_refl ⟨_,ho,rfl⟩ F.entry_dict_ne (F.args_dict_ne_2 _ _) (zl l es ep c u) ⟨ho,hq⟩)
  (fun _ hq=>wpAny_of_eq (rfl:isSame (.str c u) (.ref l)=pure false) hq) (.inr hu) h⟩
theorem g4{b:Addr}{ob ol:Obj}{Q:Bool->Shared->Prop}{M:Model}{E:Value->Shared->Prop}(h1:s.heap.get? b=some ob)(h2:s.heap.get? l=some ol)(hb:ob.cls≠ol.cls)(hl:ol.cls≠.type "tuple")(q:Q false s):wpAny M A (isSame (.ref b) (.ref l)) Q E s:=
 SeqAt.wpAny_isSame_ref_other' (fun e=>by subst e;rw[h1] at h2;cases h2;exact hb rfl) h1 h2 hl q
theorem vQ{b:Addr}{its:Array Value}(hb:s.heap.IsTuple b its)(d:kL s.heap l)(hu:A.units<cLine):Eq3 A s (.ref b) (.ref l) false:=by
 obtain⟨es,ep,ho⟩:=d;obtain⟨⟨cls,dd,data,sl⟩,hp,hc,n,hd⟩:=id hb;simp only at hc hd;subst hc hd;have ne:Value.ref b≠Value.ref l:=fun e=>by cases e;exact absurd (congrArg (fun o:Obj=>o.cls) (Option.some.inj (hp.symm.trans ho))) (by simp)
 have a:SeqAt.RcAt A s (.ref b) (.ref l) false:=fun prog w E Q h=>SeqAt.rc_eq_decline_or (k:=false) ⟨_,hp,rfl⟩ ⟨_,ho,rfl⟩ (by decide) gT F.slot_tuple_eq F.slot_dict_eq_refl
  (fun _ hq=>call_meets F.slot_tuple_eq ⟨_,hp,rfl⟩ F.entry_tuple_eq (F.args_tuple_eq_2 _ _) (zr l b es ep _ _ _ _) ⟨ho,hp,hq⟩)
  (fun _ hq=>call_meets F.slot_dict_eq_refl ⟨_,ho,rfl⟩ F.entry_dict_eq (F.args_dict_eq_2 _ _) (yj l b es ep _ _ _ _) ⟨ho,hp,hq⟩)
  (fun _ hq=>g4 hp ho (by simp) (by simp) hq) (.inr hu) h
 exact⟨a,dw ne a,fun prog w E Q h=>SeqAt.rc_ne_decline_or (k:=false) ⟨_,hp,rfl⟩ ⟨_,ho,rfl⟩ (by decide) gT F.slot_tuple_ne F.slot_dict_ne_refl
  (fun _ hq=>call_meets F.slot_tuple_ne ⟨_,hp,rfl⟩ F.entry_tuple_ne (F.args_tuple_ne_2 _ _) (zK l b es ep _ _ _ _) ⟨ho,hp,hq⟩)
  (fun _ hq=>call_meets F.slot_dict_ne_refl ⟨_,ho,rfl⟩ F.entry_dict_ne (F.args_dict_ne_2 _ _) (xT l b es ep _ _ _ _) ⟨ho,hp,hq⟩)
  (fun _ hq=>g4 hp ho (by simp) (by simp) hq) (.inr hu) h⟩
theorem vx{b:Addr}{its:Array Value}(hb:s.heap.IsList b its)(d:kL s.heap l)(hu:A.units<cLine):Eq3 A s (.ref b) (.ref l) false:=by
 obtain⟨es,ep,ho⟩:=d;obtain⟨⟨cls,dd,data,sl⟩,hp,hc,n,hd⟩:=id hb;simp only at hc hd;subst hc hd;have ne:Value.ref b≠Value.ref l:=fun e=>by cases e;exact absurd (congrArg (fun o:Obj=>o.cls) (Option.some.inj (hp.symm.trans ho))) (by simp)
 have a:SeqAt.RcAt A s (.ref b) (.ref l) false:=fun prog w E Q h=>SeqAt.rc_eq_decline_or (k:=false) ⟨_,hp,rfl⟩ ⟨_,ho,rfl⟩ (by decide) gQ F.slot_list_eq F.slot_dict_eq_refl
  (fun _ hq=>call_meets F.slot_list_eq ⟨_,hp,rfl⟩ F.entry_list_eq (F.args_list_eq_2 _ _) (zO l b es ep _ _ _ _) ⟨ho,hp,hq⟩)
  (fun _ hq=>call_meets F.slot_dict_eq_refl ⟨_,ho,rfl⟩ F.entry_dict_eq (F.args_dict_eq_2 _ _) (zj l b es ep _ _ _ _) ⟨ho,hp,hq⟩)
  (fun _ hq=>g4 hp ho (by simp) (by simp) hq) (.inr hu) h
 exact⟨a,dw ne a,fun prog w E Q h=>SeqAt.rc_ne_decline_or (k:=false) ⟨_,hp,rfl⟩ ⟨_,ho,rfl⟩ (by decide) gQ F.slot_list_ne F.slot_dict_ne_refl
  (fun _ hq=>call_meets F.slot_list_ne ⟨_,hp,rfl⟩ F.entry_list_ne (F.args_list_ne_2 _ _) (zx l b es ep _ _ _ _) ⟨ho,hp,hq⟩)
  (fun _ hq=>call_meets F.slot_dict_ne_refl ⟨_,ho,rfl⟩ F.entry_dict_ne (F.args_dict_ne_2 _ _) (xK l b es ep _ _ _ _) ⟨ho,hp,hq⟩)
  (fun _ hq=>g4 hp ho (by simp) (by simp) hq) (.inr hu) h⟩
end
end L2
namespace L2
open PySem PySem.Spec PyProof.Rows
section
variable{X:Cx}{pins:List (Addr×Obj)}{σ:St}{H:Hp}{s:Shared}
theorem nW:∀ {xs:List V} {us:List Value} {j:Nat} {x:V},ar xs us->xs[j]?=some x->∀(h:j<us.toArray.size),aF x us.toArray[j]:=fun {xs us j x} r e h=>by
 obtain⟨u,h1,h2⟩:=r.get e
 have:us[j]?=some us.toArray[j]:=by
  rw[List.getElem?_eq_getElem (by simpa using h)]
  simp
 rw[h1] at this;cases this;exact h2
theorem cW(I:Inv X pins σ H s){a:Addr}{xs:List V}(h:H a=some (.tup xs)):∃its:List Value,ar xs its/\s.heap.IsTuple a its.toArray:=by
 obtain⟨its,r,p,_⟩:=I.tuple (SqT.of (K:=X.K) h);exact⟨its,r,p⟩
theorem fu(I:Inv X pins σ H s){a:Addr}{xs:List V}(h:H a=some (.lst xs)):∃its:List Value,ar xs its/\s.heap.IsList a its.toArray:=by
 obtain⟨its,r,p,_⟩:=I.list (SqL.of (K:=X.K) h);exact⟨its,r,p.isList⟩
theorem jH(I:Inv X pins σ H s){a:Addr}{kvs:List (Key×V)}(h:H a=some (.dK kvs)):kL s.heap a:=by
 obtain⟨_,_,vs,_,o,es,ep,e1,⟨c1,c2,c3⟩,e2,_⟩:=I.hok _ _ h;obtain⟨cls,dd,data,sl⟩:=o;simp only at c1 c2 c3 e2;subst c1 c2 c3 e2;exact⟨_,_,e1⟩
theorem jj(I:Inv X pins σ H s){a:Addr}{kvs:List (List Key×V)}(h:H a=some (.dT kvs)):kL s.heap a:=by
 obtain⟨_,_,vs,_,o,es,ep,e1,⟨c1,c2,c3⟩,e2,_⟩:=I.hok _ _ h;obtain⟨cls,dd,data,sl⟩:=o;simp only at c1 c2 c3 e2;subst c1 c2 c3 e2;exact⟨_,_,e1⟩
theorem sS{ds es:List D}:((List.range (min ds.length es.length)).all (fun j=>eqD (ds.getD j .non) (es.getD j .non)) && ds.length == es.length)=bP ds es:=by
 by_cases h:ds.length=es.length
 ·rw[←fy h]
  have:min ds.length es.length=ds.length:=by omega
  rw[this];simp[h]
 ·rw[iB h]
  have:(ds.length == es.length)=false:=by simpa using h
  rw[this,Bool.and_false]
theorem ie(I:Inv X pins σ H s)(n:Nat):∀(d e:D)(x y:V)(v u:Value)(A:Around),dep d<=n->A.units+n<cLine->Dat H d x->Dat H e y->aF x v->aF y u ->
  SeqAt.RcAt A s v u (eqD d e)/\SeqAt.EqAt A s v u (eqD d e)/\SeqAt.RcNeAt A s v u (!eqD d e):=by
 induction n with
 |zero=>
  intro d e x y v u A hd hu hx hy rx ry;have hu':A.units<cLine:=by omega
  cases d with
  |tup ds=>simp only[dep] at hd;omega
  |lst ds=>simp only[dep] at hd;omega
  |dk ds=>simp only[dep] at hd;omega
  |dt ds=>simp only[dep] at hd;omega
  |non=>
   simp only[Dat] at hx;subst hx;cases rx
   cases e with
   |non=>simp only[Dat] at hy;subst hy;cases ry;exact⟨SeqAt.RcAt.none_none,SeqAt.EqAt.same _,SeqAt.RcNeAt.none_none⟩
   |bl b=>simp only[Dat] at hy;subst hy;cases ry;exact⟨SeqAt.RcAt.none_bool b,SeqAt.EqAt.none_bool b,SeqAt.RcNeAt.none_bool b⟩
   |int b=>simp only[Dat] at hy;subst hy;obtain⟨t,rfl⟩:=ry;exact⟨SeqAt.RcAt.none_int b t,SeqAt.EqAt.none_int b t,SeqAt.RcNeAt.none_int b t⟩
   |str b=>simp only[Dat] at hy;subst hy;obtain⟨t,rfl⟩:=ry;exact⟨SeqAt.RcAt.none_str b t,SeqAt.EqAt.none_str b t,SeqAt.RcNeAt.none_str b t⟩
   |tup es=>
    simp only[Dat] at hy;obtain⟨b,ys,rfl,hb,_⟩:=hy;cases ry;obtain⟨its,_,p⟩:=cW I hb;exact⟨SeqAt.RcAt.none_tuple p hu',SeqAt.EqAt.none_tuple p hu',SeqAt.RcNeAt.none_tuple p hu'⟩
   |lst es=>
    simp only[Dat] at hy;obtain⟨b,ys,rfl,hb,_⟩:=hy;cases ry;obtain⟨its,_,p⟩:=fu I hb;exact⟨SeqAt.RcAt.none_list p hu',SeqAt.EqAt.none_list p hu',SeqAt.RcNeAt.none_list p hu'⟩
   |dk es=>
    simp only[Dat] at hy;obtain⟨b,ys,rfl,hb,_⟩:=hy;cases ry;exact ra (jH I hb) hu'
   |dt es=>
    simp only[Dat] at hy;obtain⟨b,ys,rfl,hb,_⟩:=hy;cases ry;exact ra (jj I hb) hu'
  |bl a=>
   simp only[Dat] at hx;subst hx;cases rx
   cases e with
   |non=>simp only[Dat] at hy;subst hy;cases ry;exact⟨SeqAt.RcAt.bool_none a,SeqAt.EqAt.bool_none a,SeqAt.RcNeAt.bool_none a⟩
   |bl b=>simp only[Dat] at hy;subst hy;cases ry;exact⟨SeqAt.RcAt.bool_bool a b,SeqAt.EqAt.bool_bool a b,SeqAt.RcNeAt.bool_bool a b⟩
   |int b=>simp only[Dat] at hy;subst hy;obtain⟨t,rfl⟩:=ry;exact⟨SeqAt.RcAt.bool_int a b t,SeqAt.EqAt.bool_int a b t,SeqAt.RcNeAt.bool_int a b t⟩
   |str b=>simp only[Dat] at hy;subst hy;obtain⟨t,rfl⟩:=ry;exact⟨SeqAt.RcAt.bool_str a b t,SeqAt.EqAt.bool_str a b t,SeqAt.RcNeAt.bool_str a b t⟩
   |tup es=>
    simp only[Dat] at hy;obtain⟨b,ys,rfl,hb,_⟩:=hy;cases ry;obtain⟨its,_,p⟩:=cW I hb;exact⟨SeqAt.RcAt.bool_tuple a p hu',SeqAt.EqAt.bool_tuple a p hu',SeqAt.RcNeAt.bool_tuple a p hu'⟩
   |lst es=>
    simp only[Dat] at hy;obtain⟨b,ys,rfl,hb,_⟩:=hy;cases ry;obtain⟨its,_,p⟩:=fu I hb;exact⟨SeqAt.RcAt.bool_list a p hu',SeqAt.EqAt.bool_list a p hu',SeqAt.RcNeAt.bool_list a p hu'⟩
   |dk es=>
    simp only[Dat] at hy;obtain⟨b,ys,rfl,hb,_⟩:=hy;cases ry;exact vI a (jH I hb) hu'
   |dt es=>
    simp only[Dat] at hy;obtain⟨b,ys,rfl,hb,_⟩:=hy;cases ry;exact vI a (jj I hb) hu'
  |int a=>
   simp only[Dat] at hx;subst hx;obtain⟨t',rfl⟩:=rx
   cases e with
   |non=>simp only[Dat] at hy;subst hy;cases ry;exact⟨SeqAt.RcAt.int_none a t',SeqAt.EqAt.int_none a t',SeqAt.RcNeAt.int_none a t'⟩
   |bl b=>simp only[Dat] at hy;subst hy;cases ry;exact⟨SeqAt.RcAt.int_bool a t' b,SeqAt.EqAt.int_bool a t' b,SeqAt.RcNeAt.int_bool a t' b⟩
   |int b=>simp only[Dat] at hy;subst hy;obtain⟨t,rfl⟩:=ry;exact⟨SeqAt.RcAt.int_int a t' b t,SeqAt.EqAt.int_int a t' b t,SeqAt.RcNeAt.int_int a t' b t⟩
   |str b=>simp only[Dat] at hy;subst hy;obtain⟨t,rfl⟩:=ry;exact⟨SeqAt.RcAt.int_str a t' b t,SeqAt.EqAt.int_str a t' b t,SeqAt.RcNeAt.int_str a t' b t⟩
   |tup es=>
    simp only[Dat] at hy;obtain⟨b,ys,rfl,hb,_⟩:=hy;cases ry;obtain⟨its,_,p⟩:=cW I hb;exact⟨SeqAt.RcAt.int_tuple a t' p hu',SeqAt.EqAt.int_tuple a t' p hu',SeqAt.RcNeAt.int_tuple a t' p hu'⟩
   |lst es=>
    simp only[Dat] at hy;obtain⟨b,ys,rfl,hb,_⟩:=hy;cases ry;obtain⟨its,_,p⟩:=fu I hb;exact⟨SeqAt.RcAt.int_list a t' p hu',SeqAt.EqAt.int_list a t' p hu',SeqAt.RcNeAt.int_list a t' p hu'⟩
   |dk es=>
    simp only[Dat] at hy;obtain⟨b,ys,rfl,hb,_⟩:=hy;cases ry;exact vM a t' (jH I hb) hu'
   |dt es=>
    simp only[Dat] at hy;obtain⟨b,ys,rfl,hb,_⟩:=hy;cases ry;exact vM a t' (jj I hb) hu'
  |str a=>
   simp only[Dat] at hx;subst hx;obtain⟨t',rfl⟩:=rx
   cases e with
   |non=>simp only[Dat] at hy;subst hy;cases ry;exact⟨SeqAt.RcAt.str_none a t',SeqAt.EqAt.str_none a t',SeqAt.RcNeAt.str_none a t'⟩
   |bl b=>simp only[Dat] at hy;subst hy;cases ry;exact⟨SeqAt.RcAt.str_bool a t' b,SeqAt.EqAt.str_bool a t' b,SeqAt.RcNeAt.str_bool a t' b⟩
   |int b=>simp only[Dat] at hy;subst hy;obtain⟨t,rfl⟩:=ry;exact⟨SeqAt.RcAt.str_int a t' b t,SeqAt.EqAt.str_int a t' b t,SeqAt.RcNeAt.str_int a t' b t⟩
   |str b=>simp only[Dat] at hy;subst hy;obtain⟨t,rfl⟩:=ry;exact⟨SeqAt.RcAt.str_str a t' b t,SeqAt.EqAt.str_str a t' b t,SeqAt.RcNeAt.str_str a t' b t⟩
   |tup es=>
    simp only[Dat] at hy;obtain⟨b,ys,rfl,hb,_⟩:=hy;cases ry;obtain⟨its,_,p⟩:=cW I hb;exact⟨SeqAt.RcAt.str_tuple a t' p hu',SeqAt.EqAt.str_tuple a t' p hu',SeqAt.RcNeAt.str_tuple a t' p hu'⟩
   |lst es=>
    simp only[Dat] at hy;obtain⟨b,ys,rfl,hb,_⟩:=hy;cases ry;obtain⟨its,_,p⟩:=fu I hb;exact⟨SeqAt.RcAt.str_list a t' p hu',SeqAt.EqAt.str_list a t' p hu',SeqAt.RcNeAt.str_list a t' p hu'⟩
   |dk es=>
    simp only[Dat] at hy;obtain⟨b,ys,rfl,hb,_⟩:=hy;cases ry;exact vf a t' (jH I hb) hu'
   |dt es=>
    simp only[Dat] at hy;obtain⟨b,ys,rfl,hb,_⟩:=hy;cases ry;exact vf a t' (jj I hb) hu'
 |succ n ih=>
  intro d e x y v u A hd hu hx hy rx ry;have hu':A.units<cLine:=by omega
  by_cases h0:dep d<=n
  ·exact ih d e x y v u A h0 (by omega) hx hy rx ry
  have hin:A.in1.units+n<cLine:=by show A.units+1+n<cLine;omega
  have items:∀(ds es:List D)(xs ys:List V)(its its2:List Value),bC ds<=n->aj H ds xs->aj H es ys->ar xs its->ar ys its2 ->
    ∀j (h1:j<its.toArray.size) (h2:j<its2.toArray.size),SeqAt.EqAt A.in1 s its.toArray[j] its2.toArray[j] (eqD (ds.getD j .non) (es.getD j .non)):=by
   intro ds es xs ys its its2 hdp hxs hys r1 r2 j h1 h2;have l1:j<ds.length:=by rw[←hxs.length,r1.length];simpa using h1
   have l2:j<es.length:=by rw[←hys.length,r2.length];simpa using h2
   obtain⟨x',ex,hx'⟩:=hxs.get (List.getElem?_eq_getElem l1);obtain⟨y',ey,hy'⟩:=hys.get (List.getElem?_eq_getElem l2);have g1:ds.getD j .non=ds[j]:=by rw[List.getD_eq_getElem?_getD,List.getElem?_eq_getElem l1];rfl
   have g2:es.getD j .non=es[j]:=by rw[List.getD_eq_getElem?_getD,List.getElem?_eq_getElem l2];rfl
   rw[g1,g2];exact(ih ds[j] es[j] x' y' _ _ A.in1 (Nat.le_trans (cV (List.getElem_mem l1)) hdp) hin hx' hy' (nW r1 ex h1) (nW r2 ey h2)).2.1
  cases d with
  |non=>simp only[dep] at h0;omega
  |bl a=>simp only[dep] at h0;omega
  |int a=>simp only[dep] at h0;omega
  |str a=>simp only[dep] at h0;omega
  |dk ds=>simp only[dep] at hd;have:cLine=9900:=rfl;omega
  |dt ds=>simp only[dep] at hd;have:cLine=9900:=rfl;omega
  |tup ds=>
   simp only[dep] at hd;have hx0:=hx;simp only[Dat] at hx;obtain⟨a,xs,rfl,ha,hxs⟩:=hx;cases rx;obtain⟨its,r1,p⟩:=cW I ha
   cases e with
   |non=>simp only[Dat] at hy;subst hy;cases ry;exact⟨SeqAt.RcAt.tuple_none p hu',SeqAt.EqAt.tuple_none p hu',SeqAt.RcNeAt.tuple_none p hu'⟩
   |bl b=>simp only[Dat] at hy;subst hy;cases ry;exact⟨SeqAt.RcAt.tuple_bool b p hu',SeqAt.EqAt.tuple_bool b p hu',SeqAt.RcNeAt.tuple_bool b p hu'⟩
   |int b=>simp only[Dat] at hy;subst hy;obtain⟨t,rfl⟩:=ry;exact⟨SeqAt.RcAt.tuple_int b t p hu',SeqAt.EqAt.tuple_int b t p hu',SeqAt.RcNeAt.tuple_int b t p hu'⟩
   |str b=>simp only[Dat] at hy;subst hy;obtain⟨t,rfl⟩:=ry;exact⟨SeqAt.RcAt.tuple_str b t p hu',SeqAt.EqAt.tuple_str b t p hu',SeqAt.RcNeAt.tuple_str b t p hu'⟩
   |lst es=>
    simp only[Dat] at hy;obtain⟨b,ys,rfl,hb,_⟩:=hy;cases ry;obtain⟨its2,_,p2⟩:=fu I hb;exact⟨SeqAt.RcAt.tuple_list p p2 hu',SeqAt.EqAt.tuple_list p p2 hu',SeqAt.RcNeAt.tuple_list p p2 hu'⟩
   |dk es=>
    simp only[Dat] at hy;obtain⟨b,ys,rfl,hb,_⟩:=hy;cases ry;exact vQ p (jH I hb) hu'
   |dt es=>
    simp only[Dat] at hy;obtain⟨b,ys,rfl,hb,_⟩:=hy;cases ry;exact vQ p (jj I hb) hu'
   |tup es=>
    have hy0:=hy;simp only[Dat] at hy;obtain⟨b,ys,rfl,hb,hys⟩:=hy;cases ry;obtain⟨its2,r2,p2⟩:=cW I hb;have it:=items ds es xs ys its its2 (by omega) hxs hys r1 r2
    have z1:its.toArray.size=ds.length:=by rw[←hxs.length,r1.length];simp
    have z2:its2.toArray.size=es.length:=by rw[←hys.length,r2.length];simp
    have e0:=sS (ds:=ds) (es:=es)
    have rc:SeqAt.RcAt A s (.ref a) (.ref b) (bP ds es):=by
     have:=SeqAt.RcAt.tuples p p2 hu' it;rw[z1,z2,e0] at this;exact this
    have rn:SeqAt.RcNeAt A s (.ref a) (.ref b) (!bP ds es):=by
     have:=SeqAt.RcNeAt.tuples p p2 hu' it;rw[z1,z2,e0] at this;exact this
    simp only[eqD];refine⟨rc,?_,rn⟩;by_cases hab:a=b
    ·subst hab
     have:D.tup ds=D.tup es:=hx0.inj hy0;cases this;rw[dv];exact SeqAt.EqAt.same _
    ·exact .of_refs hab rc
  |lst ds=>
   simp only[dep] at hd;have hx0:=hx;simp only[Dat] at hx;obtain⟨a,xs,rfl,ha,hxs⟩:=hx;cases rx;obtain⟨its,r1,p⟩:=fu I ha
   cases e with
   |non=>simp only[Dat] at hy;subst hy;cases ry;exact⟨SeqAt.RcAt.list_none p hu',SeqAt.EqAt.list_none p hu',SeqAt.RcNeAt.list_none p hu'⟩
   |bl b=>simp only[Dat] at hy;subst hy;cases ry;exact⟨SeqAt.RcAt.list_bool b p hu',SeqAt.EqAt.list_bool b p hu',SeqAt.RcNeAt.list_bool b p hu'⟩
   |int b=>simp only[Dat] at hy;subst hy;obtain⟨t,rfl⟩:=ry;exact⟨SeqAt.RcAt.list_int b t p hu',SeqAt.EqAt.list_int b t p hu',SeqAt.RcNeAt.list_int b t p hu'⟩
   |str b=>simp only[Dat] at hy;subst hy;obtain⟨t,rfl⟩:=ry;exact⟨SeqAt.RcAt.list_str b t p hu',SeqAt.EqAt.list_str b t p hu',SeqAt.RcNeAt.list_str b t p hu'⟩
   |tup es=>
    simp only[Dat] at hy;obtain⟨b,ys,rfl,hb,_⟩:=hy;cases ry;obtain⟨its2,_,p2⟩:=cW I hb;exact⟨SeqAt.RcAt.list_tuple p p2 hu',SeqAt.EqAt.list_tuple p p2 hu',SeqAt.RcNeAt.list_tuple p p2 hu'⟩
   |dk es=>
    simp only[Dat] at hy;obtain⟨b,ys,rfl,hb,_⟩:=hy;cases ry;exact vx p (jH I hb) hu'
   |dt es=>
    simp only[Dat] at hy;obtain⟨b,ys,rfl,hb,_⟩:=hy;cases ry;exact vx p (jj I hb) hu'
   |lst es=>
    have hy0:=hy;simp only[Dat] at hy;obtain⟨b,ys,rfl,hb,hys⟩:=hy;cases ry;obtain⟨its2,r2,p2⟩:=fu I hb;have it:=items ds es xs ys its its2 (by omega) hxs hys r1 r2
    have z1:its.toArray.size=ds.length:=by rw[←hxs.length,r1.length];simp
    have z2:its2.toArray.size=es.length:=by rw[←hys.length,r2.length];simp
    have both:SeqAt.RcAt A s (.ref a) (.ref b) (bP ds es)/\SeqAt.RcNeAt A s (.ref a) (.ref b) (!bP ds es):=by
     by_cases hl:ds.length=es.length
     ·have r:=SeqAt.RcAt.lists p p2 (by rw[z1,z2];exact hl) hu' it
      have q:=SeqAt.RcNeAt.lists p p2 (by rw[z1,z2];exact hl) hu' it
      rw[z1,fy hl] at r q;exact⟨r,q⟩
     ·have hne:(its.toArray.size != its2.toArray.size)=true:=by rw[z1,z2];simpa using hl
      rw[iB hl];exact⟨SeqAt.RcAt.lists_lengths p p2 hne hu',SeqAt.RcNeAt.lists_lengths p p2 hne hu'⟩
    simp only[eqD];refine⟨both.1,?_,both.2⟩;by_cases hab:a=b
    ·subst hab
     have:D.lst ds=D.lst es:=hx0.inj hy0;cases this;rw[dv];exact SeqAt.EqAt.same _
    ·exact .of_refs hab both.1
noncomputable def wA(neg:Bool):R2:=fun x y H Q=>∃d e,Dat H d x/\Dat H e y/\dep d<=100/\Q (.bl (if neg then !eqD d e else eqD d e)) H
theorem wd(hu:X.A.units+100<cLine):OpR X (compareOp .Eq) (wA false):=by
 intro pins s σ H x y v u Q I rx ry h;obtain⟨d,e,hx,hy,hd,q⟩:=h;exact(ie I 100 d e x y v u X.A hd hu hx hy rx ry).1 X.prog X.w _ _ ⟨.bl _,H,I,rfl,q⟩
theorem mR(hu:X.A.units+100<cLine):OpR X (compareOp .NotEq) (wA true):=by
 intro pins s σ H x y v u Q I rx ry h;obtain⟨d,e,hx,hy,hd,q⟩:=h;exact(ie I 100 d e x y v u X.A hd hu hx hy rx ry).2.2 X.prog X.w _ _ ⟨.bl _,H,I,rfl,q⟩
end
theorem iI{H:Hp}{p:Addr}{o:HO}(h:H p=none):bK H (upd H p o):=fun b u e=>by
 rw[aq (aH e h)];exact e
theorem iQ{e k y:Int}(h:0<k)(h2:k<=2^64):iZ (e%k) y:=by
 have h1:=Int.emod_nonneg e (Int.ne_of_gt h);have h3:=Int.emod_lt_of_pos e h;exact .inl ⟨by omega,by omega⟩
theorem gn{x y:Int}(h:-(2^64)<x/\x<2^64):iZ x y:=.inl h
theorem xC{x y:Int}(h:-(2^64)<y/\y<2^64):iZ x y:=.inr h
section
variable{X:Cx}{tg a b l:Expr}{ta tb tl:TE}{pos:Pos}
theorem aD(K:W.Frag)(h:X.K=K):IxR X (rIx K):=h ▸ xA
theorem aA(K:W.Frag)(h:X.K=K):cy X (.builtin "len") (fun xs H Q=>∃x n,xs=[x]/\uZ K x H n/\Q (.int n) H):=h ▸ tJ
theorem cc(K:W.Frag)(h:X.K=K)(ha:PE X a ta)(he:∀whole,isTrue a X.env whole=(do let v ← whole;standAt a.pos;holding [v] (truthy v))):
  PT X a (fun σ H Q=>ta σ H fun x H'=>∃k,lH K x H' k/\Q k H'):=h ▸ rq ha he
theorem i0(K:W.Frag)(h:X.K=K):cy X (.type "list") (fun xs H Q=>∃p ys,xs=[.ref p]/\(SqL K H p ys\/SqT K H p ys)/\∀l,H l=none->Q (.ref l) (upd H l (.lst ys))):=h ▸ jX
theorem aV(K:W.Frag)(h:X.K=K):cy X (.type "tuple") (fun xs H Q=>∃p ys,xs=[.ref p]/\((SqL K H p ys/\∀l,H l=none->Q (.ref l) (upd H l (.tup ys)))\/(SqT K H p ys/\Q (.ref p) H))):=h ▸ i5
end
noncomputable def zD(J:It)(g:TG)(tb:TS)(D:ee)(σ:St)(H:Hp):Prop:=∃W:Nat->Nat->St->Hp->Prop,(∃m,W 0 m σ H)/\∀i m σ H,W i m σ H ->
 (J.stop i H/\D.nx σ H)\/(J.go i H/\∃N:St->Hp->Prop,(∀σ' H',N σ' H'->∃m',m'<m/\W (i+1) m' σ' H')/\∀x H',J.yld i H x H'->g x σ H' fun σ2 H2=>tb { D with nx:=N,ct:=N,bk:=D.nx } σ2 H2)
theorem uq(wi:TI)(g:TG)(tb:TS)(D:ee)(σ:St)(H:Hp):xB wi g tb D σ H=wi σ H fun J H1=>zD J g tb D σ H1:=rfl
noncomputable def rg(H H':Hp):Prop:=∀b xs,H b=some (.tup xs)->H' b=some (.tup xs)
mutual
noncomputable def noL:D->Bool
 |.lst _=>false
 |.dk _=>false
 |.dt _=>false
 |.tup ds=>Ac ds
 |_=>true
noncomputable def Ac:List D->Bool
 | []=>true
 |d::ds=>noL d && Ac ds
end
mutual
theorem Dat.t{H H':Hp}(e:rg H H'):∀ {d:D} {v:V},noL d=true->Dat H d v->Dat H' d v
 |.non,v,_,h=>by simpa only[Dat] using h
 |.bl b,v,_,h=>by simpa only[Dat] using h
 |.int i,v,_,h=>by simpa only[Dat] using h
 |.str x,v,_,h=>by simpa only[Dat] using h
 |.tup ds,v,n,h=>by
  simp only[Dat] at h ⊢;simp only[noL] at n;obtain⟨a,xs,rfl,h1,h2⟩:=h;exact⟨a,xs,rfl,e a _ h1,aj.t e n h2⟩
 |.lst ds,v,n,h=>by simp[noL] at n
 |.dk ds,v,n,h=>by simp[noL] at n
 |.dt ds,v,n,h=>by simp[noL] at n
theorem aj.t{H H':Hp}(e:rg H H'):∀ {ds:List D} {xs:List V},Ac ds=true->aj H ds xs->aj H' ds xs
 | [],xs,_,h=>by simpa only[aj] using h
 |d::ds,xs,n,h=>by
  simp only[aj] at h ⊢;simp only[Ac,Bool.and_eq_true] at n;obtain⟨x,r,rfl,h1,h2⟩:=h;exact⟨x,r,rfl,Dat.t e n.1 h1,aj.t e n.2 h2⟩
end
theorem fO:∀ {ds:List D},(∀d∈ds,noL d=true)->Ac ds=true
 | [],_=>by simp[Ac]
 |d::ds,h=>by
  simp only[Ac,Bool.and_eq_true];exact⟨h d (List.mem_cons_self ..),fO fun e he=>h e (List.mem_cons_of_mem _ he)⟩
theorem p6(ns:List Int):Ac (ns.map D.int)=true:=fO fun d hd=>by
 obtain⟨n,_,rfl⟩:=List.mem_map.mp hd;simp[noL]
end L2
namespace L2
theorem inv(F:Nat->St->Hp->Prop):∃Pv:Nat->St->Hp->Prop,∀i σ H,Pv i σ H↔F i σ H:=⟨F,fun _ _ _=>Iff.rfl⟩
end L2
namespace L2
open PySem
theorem cG.An{k:Nat}{A:Around}(r:cG k A):A.units+100<cLine:=by have:=r.un;omega
theorem fN:∀ {ds:List D} {n:Nat},(∀d∈ds,dep d<=n)->bC ds<=n
 | [],n,_=>by simp[bC]
 |d::ds,n,h=>by
  simp only[bC];exact Nat.max_le.mpr ⟨h d (List.mem_cons_self ..),fN fun e he=>h e (List.mem_cons_of_mem _ he)⟩
theorem pX(ns:List Int):bC (ns.map D.int)=0:=by
 have:bC (ns.map D.int)<=0:=fN fun d hd=>by
  obtain⟨n,_,rfl⟩:=List.mem_map.mp hd;simp[dep]
 omega
end L2
namespace L2
open PySem PySem.Spec PyProof.Rows
end L2
namespace L2
open PySem
theorem aj.take{H:Hp}:∀ {ds:List D} {xs:List V} (n:Nat),aj H ds xs->aj H (ds.take n) (xs.take n):=fun {ds xs} n h=>by
 refine aj.of_get (by rw[List.length_take,List.length_take,h.length]) fun i d x e1 e2=>?_
 rw[List.getElem?_take] at e1 e2;split at e1
 ·rename_i hi
  rw[if_pos hi] at e2;obtain⟨x',h1,h2⟩:=h.get e1;rw[e2] at h1;cases h1;exact h2
 ·cases e1
theorem aj.drop{H:Hp}:∀ {ds:List D} {xs:List V} (n:Nat),aj H ds xs->aj H (ds.drop n) (xs.drop n):=fun {ds xs} n h=>by
 refine aj.of_get (by rw[List.length_drop,List.length_drop,h.length]) fun i d x e1 e2=>?_
 rw[List.getElem?_drop] at e1 e2;obtain⟨x',h1,h2⟩:=h.get e1;rw[e2] at h1;cases h1;exact h2
end L2
namespace L2
open PySem PySem.Spec PyProof.Rows
noncomputable def LD(H:Hp)(l:Addr)(ds:List D):Prop:=Ac ds=true/\∃xs,H l=some (.lst xs)/\aj H ds xs
theorem lG{ds es:List D}:Ac (ds++es)=(Ac ds && Ac es):=by
 induction ds with
 |nil=>simp[Ac]
 |cons d ds ih=>simp[Ac,ih,Bool.and_assoc]
inductive Tr where
 |lf (x:List D)
 |nd (x:List D) (l r:Tr)
namespace Tr
noncomputable def d:Tr->D
 |.lf x=>.tup x
 |.nd x l r=>.tup (x++[l.d,r.d])
noncomputable def size:Tr->Nat
 |.lf _=>1
 |.nd _ l r=>l.size+r.size+1
noncomputable def dp:Tr->Nat
 |.lf _=>0
 |.nd _ l r=>1+max l.dp r.dp
noncomputable def post:Tr->List Tr
 |.lf x=>[.lf x]
 |.nd x l r=>l.post++r.post++[.nd x l r]
noncomputable def pre:Tr->List Tr
 |.lf x=>[.lf x]
 |.nd x l r=>.nd x l r::(r.pre++l.pre)
noncomputable def ok(lw:Str):Tr->Prop
 |.lf x=>x[0]?=some (.str lw)/\Ac x=true
 |.nd x l r=>(∃w,x[0]?=some (.str w)/\w≠lw)/\Ac x=true/\l.ok lw/\r.ok lw
theorem ok.noL{lw:Str}:∀ {t:Tr},t.ok lw->noL t.d=true
 |.lf x,h=>by simp only[d,L2.noL];exact h.2
 |.nd x l r,h=>by
  obtain⟨_,h1,h2,h3⟩:=h;simp only[d,L2.noL,lG,Bool.and_eq_true];exact⟨h1,by simp[Ac,ok.noL h2,ok.noL h3]⟩
theorem ok.post{lw:Str}:∀ {t:Tr},t.ok lw->∀u∈t.post,u.ok lw
 |.lf x,h,u,hu=>by simp only[Tr.post,List.mem_singleton] at hu;subst hu;exact h
 |.nd x l r,h,u,hu=>by
  simp only[Tr.post,List.mem_append,List.mem_singleton] at hu;rcases hu with(hu|hu)|hu
  ·exact ok.post h.2.2.1 u hu
  ·exact ok.post h.2.2.2 u hu
  ·subst hu;exact h
theorem ok.Ac{lw:Str}{ts:List Tr}(h:∀t∈ts,t.ok lw):Ac (ts.map d)=true:=fO fun e he=>by
 obtain⟨t,ht,rfl⟩:=List.mem_map.mp he;exact(h t ht).noL
end Tr
section
variable{X:Cx}
theorem fb{prog:Program}{w:World}{A:Around}{E:Value->Shared->Prop}{s:Shared}{t sl:Addr}{items:Array Value}{vl vu:Value}{lo hi:Option Int}{Q:Value->Shared->Prop}(ht:IsTup s.heap t items)(hs:s.heap.IsSliceOf sl vl vu .none)(pl:IsPart vl lo)(pu:IsPart vu hi)(hw:HT.sIx items.size 0 lo=0/\HT.sIx items.size items.size hi=items.size)(h:Q (.ref t) s):wpAny (model prog w) A (getItem (.ref t) (.ref sl)) Q E s:=by
 obtain⟨os,hos,hcs,hds⟩:=id hs;have hTs:s.TypeIs (.ref sl) "slice":=⟨os,hos,hcs⟩;unfold getItem
 try with_reducible refine wpAny_holding ?_
 first|refine wpAny_bind (wpAny_pure ?_)|skip
 refine wpAny_bind (wpAny_sequenceKey ht.typeIs (by decide) ?_)
 refine wpAny_bind (wpAny_callSpecial?_slot (name:=Str.ofString "__getitem__") ht.typeIs PyProof.Rows.slot_tuple_getitem
  (wpAny_call_entry PyProof.Rows.slot_tuple_getitem ht.typeIs PyProof.Rows.entry_tuple_getitem ?_ (PyProof.Rows.args_tuple_getitem _ _)))
 show wpAny _ _ (Builtin.Tuple.tupleItemsOf (.ref t) >>= _) _ _ s;refine wpAny_bind (tupleItemsOf_ ht ?_);refine wpAny_bind (wpAny_typeOf hTs ?_);rw[if_pos (by decide)]
 refine wpAny_bind (HT.sliceApplied_gen hs pl pu ?_)
 have hyes:(((HT.sIx items.size 0 lo:Nat):Int) == 0 && (1:Int) == 1 && (HT.sIx items.size items.size hi-HT.sIx items.size 0 lo) == items.size)=true:=by
  rw[hw.1,hw.2];simp
 show wpAny _ _ (if (((HT.sIx items.size 0 lo:Nat):Int) == 0 && (1:Int) == 1 && (HT.sIx items.size items.size hi-HT.sIx items.size 0 lo) == items.size)=true then _ else _) _ _ s
 rw[if_pos hyes];unfold Builtin.Tuple.tupleIsExact;refine wpAny_bind (wpAny_bind (wpAny_typeOf ht.typeIs (wpAny_pure ?_)));rw[if_pos (by decide)]
 exact wpAny_bind (wpAny_rule (wpAny_pure ⟨_,rfl,wpAny_pure h⟩))
noncomputable def vi(K:W.Frag):V->Option Int->Option Int->Hp->VK->Prop:=fun x lo hi H Q=>∃a xs,x=.ref a/\SqT K H a xs /\
 if HT.sIx xs.length 0 lo=0/\HT.sIx xs.length xs.length hi=xs.length then Q (.ref a) H else ∀p,H p=none->Q (.ref p) (upd H p (.tup (kc xs lo hi)))
theorem ug:SlR X (vi X.K):=by
 intro pins s σ H x v vl vu lo hi sl Q I rx hs pl pu h;obtain⟨a,xs,rfl,hx,h⟩:=h;by_cases hw:HT.sIx xs.length 0 lo=0/\HT.sIx xs.length xs.length hi=xs.length
 ·rw[if_pos hw] at h
  cases rx;obtain⟨its,r,ht,hz⟩:=I.tuple hx;have hlen:its.toArray.size=xs.length:=by rw[List.size_toArray];exact r.length.symm
  exact⟨"tuple",_,PyProof.Rows.slot_tuple_getitem.lookup,ht.typeIs,fb ht hs pl pu (by rw[hlen];exact hw) ⟨.ref a,H,I,rfl,h⟩⟩
 ·rw[if_neg hw] at h
  exact wJ pins s σ H (.ref a) v vl vu lo hi sl Q I rx hs pl pu ⟨a,xs,rfl,hx,hw,h⟩
end
noncomputable def wdD(w:List Int):D:=.tup (w.map D.int)
noncomputable def csD(pl:Nat)(ys ns:List (List Int)):D:=.tup [.int pl,.tup (ys.map wdD),.tup (ns.map wdD)]
theorem xl(w:List Int):noL (wdD w)=true:=by simp only[wdD,noL];exact p6 w
theorem l7(ws:List (List Int)):Ac (ws.map wdD)=true:=fO fun d hd=>by
 obtain⟨w,_,rfl⟩:=List.mem_map.mp hd;exact xl w
structure SN(n:Nat)(H:Hp)(S:Addr)(ad:Nat->Addr)(fs:Nat->List D):Prop where
 s:H S=some (.lst ((List.range n).map fun i=>.ref (ad i)))
 l:∀i,i<n->LD H (ad i) (fs i)
open Classical in
noncomputable def eqF(H:Hp)(dx:D)(u:Value):Bool:=if h:∃d,∃x,aF x u/\Dat H d x then eqD (Classical.choose h) dx else false
theorem sM{H:Hp}{dx d:D}{x:V}{u:Value}(r:aF x u)(h:Dat H d x):eqF H dx u=eqD d dx:=by
 have hex:∃d,∃x,aF x u/\Dat H d x:=⟨d,x,r,h⟩;unfold eqF;rw[dif_pos hex];obtain⟨x',r',h'⟩:=Classical.choose_spec hex;have:x'=x:=r'.inj r;subst this;rw[Dat.inj h' h]
theorem kn{H:Hp}{dx:D}:∀ {ds:List D} {xs:List V} {its:List Value},aj H ds xs->ar xs its->its.any (eqF H dx)=ds.any fun d=>eqD d dx
 | [],xs,its,h,r=>by
  simp only[aj] at h;subst h;cases r;rfl
 |d::ds,xs,its,h,r=>by
  simp only[aj] at h;obtain⟨x,xr,rfl,h1,h2⟩:=h
  cases r with
  |cons r1 r2=>rw[List.any_cons,List.any_cons,sM r1 h1,kn h2 r2]
theorem kZ{H:Hp}:∀ {ds:List D} {xs:List V} {its:List Value},aj H ds xs->ar xs its->∀u∈its,∃d x,d∈ds/\aF x u/\Dat H d x
 | [],xs,its,h,r,u,hu=>by simp only[aj] at h;subst h;cases r;cases hu
 |d::ds,xs,its,h,r,u,hu=>by
  simp only[aj] at h;obtain⟨x,xr,rfl,h1,h2⟩:=h
  cases r with
  |cons r1 r2=>
   rcases List.mem_cons.mp hu with rfl|hu
   ·exact⟨d,x,List.mem_cons_self ..,r1,h1⟩
   ·obtain⟨d',x',m,q⟩:=kZ h2 r2 u hu
    exact⟨d',x',List.mem_cons_of_mem _ m,q⟩
theorem oQ:∀ {ds:List D} {d:D},d∈ds->dep d<=bC ds
 |e::ds,d,h=>by
  simp only[bC];rcases List.mem_cons.mp h with rfl|h
  ·omega
  ·have:=oQ h;omega
noncomputable def inD(dx:D)(ds:List D):Bool:=ds.any fun d=>eqD d dx
noncomputable def xM(neg:Bool):R2:=fun x y H Q=>∃dx ds,Dat H dx x/\(Dat H (.lst ds) y\/Dat H (.tup ds) y)/\bC ds<=90/\Q (.bl (if neg then !inD dx ds else inD dx ds)) H
section
variable{X:Cx}
theorem wZ(hu:X.A.units+100<cLine):OpR X (compareOp .In) (xM false):=by
 intro pins s σ H x y v u Q I rx ry h;obtain⟨dx,ds,hx,hy,hdp,q⟩:=h
 have he:∀ {xs:List V} {its:List Value},aj H ds xs->ar xs its->∀w,w∈its.toArray->SeqAt.EqAt X.A.in1 s w v (eqF H dx w):=fun hd r w hw=>by
  obtain⟨d,z,hm,rz,hz⟩:=kZ hd r w (by simpa using hw)
  rw[sM rz hz];exact(ie I 90 d dx z x w v X.A.in1 (Nat.le_trans (oQ hm) hdp) (by show X.A.units+1+90<cLine;omega) hz hx rz rx).2.1
 rcases hy with hy|hy
 ·simp only[Dat] at hy
  obtain⟨a,xs,rfl,ha,hd⟩:=hy;cases ry;obtain⟨its,r,pl,_⟩:=I.list (SqL.of ha);refine SeqAt.in_listAt (eqF H dx) pl.isList (he hd r) ⟨.bl _,H,I,rfl,?_⟩;rw[show its.toArray.any (eqF H dx)=its.any (eqF H dx) by simp,kn hd r]
  exact q
 ·simp only[Dat] at hy
  obtain⟨a,xs,rfl,ha,hd⟩:=hy;cases ry;obtain⟨its,r,pl,_⟩:=I.tuple (SqT.of ha);refine SeqAt.in_tupleAt (eqF H dx) pl (he hd r) ⟨.bl _,H,I,rfl,?_⟩;rw[show its.toArray.any (eqF H dx)=its.any (eqF H dx) by simp,kn hd r]
  exact q
end
end L2
namespace L2
open PySem PySem.Spec PyProof.Rows
section
variable{X:Cx}
theorem mn{es fs x1 pos te t}(ha:PE X (.Tuple fs x1 pos) te)(hr:PA X es t):PA X (.Tuple fs x1 pos::es) (jD te t):=aa ha hr (by rfl)
theorem a8{es c j pos te t}(ha:PE X (.Constant c j pos) te)(hr:PA X es t):PA X (.Constant c j pos::es) (jD te t):=aa ha hr (by rfl)
end
end L2
namespace L2
open PySem PySem.Spec PySem.Calls PyProof.Rows
noncomputable def Frz(H H':Hp):Prop:=∀b o u,H b=some (.frz o u)->H' b=some (.frz o u)
noncomputable def zB(K:W.Frag)(c P:Addr):Bool:=match K.lookup c with
 | some o=>(o.cls == .type "code") && c != P && (match o.data with
  | .fields vs=>(vs[11]? == some (.ref P)) && (match vs.getD 18 .none,vs.getD 7 .none,vs.getD 9 .none,vs.getD 10 .none with
   |.str _ _,.int _ _,.bool _,.int _ _=>true
   |_,_,_,_=>false)
  |_=>false)
 |none=>false
structure Clo(P:Program)(w:World)(K:W.Frag)(mg:Str->Option Value)(base:Heap)(H₀:Hp)(k:Nat)(f:Addr)(n:Nat)(sp:Sp):Prop where
 fn:(∃(oc:Value)(od:Option Addr)(fd:FuncData) (sl:Array (Option Value)) (u:HO),H₀ f=some (.frz ⟨oc,od,.func fd,sl⟩ u))\/∃(oc:Value)(od:Option Addr)(fd:FuncData) (sl:Array (Option Value)),K.lookup f=some ⟨oc,od,.func fd,sl⟩
 len:∀vs H Q E,sp vs H Q E->vs.length=n
 run:∀(A:Around)(outer:List Env)(s:Shared)(H:Hp)(us:List Value)(vs:List V)(Q:VK)(E:XK),cG k A->mY P w K mg base A outer s H->Frz H₀ H->ar vs us->sp vs H Q E ->
  codeAny (model P w) A (.call (.ref f) ⟨us,[]⟩) (CR CX0 outer P w H s Q E) s
structure yx(ps cs:List Str)(sc:Scope):Prop where
 kind:sc.kind=.function
 co:sc.isCoroutine=false
 gen:sc.isGenerator=false
 nd:(ps++cs).Nodup
 par:∀x∈ps,sc.names.lookup x=some .local
 free:∀x∈cs,sc.names.lookup x=some .free
 has:∀y∈sc.names,y.2≠.cell/\(y.2=.free->y.1∈cs)
structure zV(K:W.Frag)(x qual:Str)(st:Stmt)(f:Addr)(fd:FuncData)(c p:Addr):Prop where
 ex:∃(oc:Value)(od:Option Addr)(kV doc pm:Value)(an:Option Addr)(ct:Value) (osl:Array (Option Value)),
  fd=W.fnOf x qual (defArgs st) (defBody st) (defScope st) .none kV doc pm an (.ref c) ct/\K.lookup f=some ⟨oc,od,.func fd,osl⟩/\W.codeIn K (.ref c) qual=true
 tab:(x,c,p)∈gK K
 hd:zB K c p=true
noncomputable def ndB:List Nat->Bool
 | []=>true
 |a::r=>!(r.contains a) && ndB r
theorem nI{α:Type}(f:α->Nat):∀ {l:List α} {q:α},ndB (l.map f)=true->q∈l->l.find? (fun t=>f t == f q)=some q
 | [],_,_,m=>nomatch m
 |a::r,q,h,m=>by
  rw[List.map_cons,ndB,Bool.and_eq_true] at h;obtain⟨h1,h2⟩:=h;rcases List.mem_cons.mp m with e|m
  ·subst e
   rw[List.find?_cons_of_pos (by simp)]
  ·have ne:(f a == f q)=false:=by
    cases z:f a == f q with
    |false=>rfl
    |true=>
     have z':f a=f q:=eq_of_beq z
     have:(r.map f).contains (f a)=true:=by
      rw[z'];simpa using⟨q,m,rfl⟩
     rw[this] at h1;cases h1
   rw[List.find?_cons_of_neg (by rw[ne];simp)]
   exact nI f h2 m
noncomputable def iY(K:W.Frag)(b:Addr):Option HO:=((gK K).find? fun t=>t.2.2 == b).map fun t=>HO.tbl #[.str (t.1 ++ ".<locals>." ++ "<lambda>") 0]
theorem iC{K:W.Frag}{b:Addr}{o:HO}(e:iY K b=some o):∃t∈gK K,t.2.2=b/\o=HO.tbl #[.str (t.1 ++ ".<locals>." ++ "<lambda>") 0]:=by
 unfold iY at e
 cases q:(gK K).find? (fun t=>t.2.2 == b) with
 |none=>rw[q] at e;cases e
 |some t=>
  rw[q] at e;cases e;have:=List.find?_some q;exact⟨t,List.mem_of_find?_eq_some q,eq_of_beq this,rfl⟩
noncomputable def qB(K:W.Frag)(names:List Str):Bool:=W.noTabs K && ndB ((gK K).map fun t=>t.2.2) && (gK K).all fun t=>names.contains t.1
theorem uv{K:W.Frag}{t:Str×Addr×Addr}(h:t∈gK K):W.tabIn K t.1=some t.2:=by
 unfold gK at h;split at h
 ·obtain⟨e,_,q⟩:=List.mem_filterMap.mp h
  split at q
  ·rename_i x tk hx
   cases z:W.tabIn K x with
   |none=>rw[z] at q;cases q
   |some r=>rw[z] at q;cases q;exact z
  ·cases q
 ·cases h
theorem pS{P:Program}{w:World}{K:W.Frag}{mg mb:Str->Option Value}{CX:CXT}{k:Nat}{fa a:Addr}{fd:FuncData}{x:Str}{sp:Sp}{s₁:Shared}{vs:List Value}{ns:List Int}(KX:K.In s₁.heap)(hns:s₁.heap.Ns mainGlobals mg)(hb:s₁.heap.Ns builtinsNs mb)(hbb:∀x:Str,x≠"__name__"->mb x=bootBuiltins x)(hlim:s₁.heap.NoLimit)(hg:s₁.gens=#[])(hbm:∃bm ob,mg "__builtins__"=some (.ref bm)/\bm≠builtinsNs/\s₁.heap.get? bm=some ob/\ob.cls=.type "module"/\ob.dict=some builtinsNs/\ob.data=.plain)(hT:∀t∈gK K,W.CodeHd s₁.heap t.2.1 t.2.2/\s₁.heap.get? t.2.2=some (W.tabObj #[]))(nt:W.noTabs K=true)(nd:ndB ((gK K).map fun t=>t.2.2)=true)(ha:s₁.heap.get? a=some { cls:=.type "list",data:=.seq vs.toArray })(hi:IntsAre vs ns)(hl:ns.length<=sizeLine)(hr:cG k callerA)(F:∀base:Heap,bD P w K mg base CX k fa fd [x] sp)(hbind:∀(s:Shared)(u:Value),BindsTo s fd ⟨[u],[]⟩ [(x,u)])(hsp:∀H:Hp,SqL K H a (ns.map V.int)->sp [.ref a] H (fun v _=>v=.bl true) fun _ _ _=>False)(hCX:∀H e s',CX [] H s₁ (fun _ _ _=>False) e s'->False):
  codeAny (model P w) callerA (.call (.ref fa) ⟨[.ref a],[]⟩) (fun r s'=>r=.ok (.ret (.bool true))/\OldK s₁.heap s'.heap/\s'.os=s₁.os/\AllBare s'.gens) s₁:=by
 have rv:=jw hi;have lenV:=hi.length
 have tabNot:∀b o,K.lookup b=some o->iY K b=none:=fun b o e=>by
  cases q:iY K b with
  |none=>rfl
  |some u=>
   obtain⟨t,ht,rfl,_⟩:=iC q;have e1:=(hT t ht).2;rw[KX _ _ e] at e1;cases e1;have h2:=List.all_eq_true.mp nt _ (W.mem_of_lookupK e);exact absurd (show false=true from h2) Bool.false_ne_true
 have tabA:iY K a=none:=by
  cases q:iY K a with
  |none=>rfl
  |some u=>
   obtain⟨t,ht,e,_⟩:=iC q;have e1:=(hT t ht).2;rw[e,ha] at e1;cases e1
 have core:∀H:Hp,(∀b,b≠a->H b=iY K b)->(H a=none\/(K.lookup a=none/\H a=some (.frz { cls:=.type "list",data:=.seq vs.toArray } (.lst (ns.map V.int)))))->SqL K H a (ns.map V.int) ->
   codeAny (model P w) callerA (.call (.ref fa) ⟨[.ref a],[]⟩) (fun r s'=>r=.ok (.ret (.bool true))/\OldK s₁.heap s'.heap/\s'.os=s₁.os/\AllBare s'.gens) s₁:=by
  intro H hH hA hS
  have what:∀b u,H b=some u->(b=a/\K.lookup a=none/\u=.frz { cls:=.type "list",data:=.seq vs.toArray } (.lst (ns.map V.int)))\/∃t∈gK K,t.2.2=b/\u=HO.tbl #[.str (t.1 ++ ".<locals>." ++ "<lambda>") 0]:=fun b u e=>by
   by_cases hb:b=a
   ·subst hb
    rcases hA with z|⟨z1,z2⟩
    ·rw[z] at e;cases e
    ·rw[z2] at e;cases e
     exact .inl ⟨rfl,z1,rfl⟩
   ·rw[hH b hb] at e
    exact .inr (iC e)
  have hok:HOk P w H s₁.heap:=fun b u e=>by
   rcases what b u e with⟨rfl,_,rfl⟩|⟨t,ht,rfl,rfl⟩
   ·exact⟨ha,by rw[List.length_map];exact hl,vs,_,rv,ha⟩
   ·exact⟨#[],(hT t ht).2,trivial,fun pos cv q=>by cases q⟩
  have tt:pL K H:=fun t ht=>by
   refine⟨#[.str (t.1 ++ ".<locals>." ++ "<lambda>") 0],?_,rfl⟩
   have ne:t.2.2≠a:=fun z=>by
    have e1:=(hT t ht).2;rw[z,ha] at e1;cases e1
   rw[hH _ ne];unfold iY;rw[nI (fun t:Str×Addr×Addr=>t.2.2) nd ht];rfl
  have base_of:∀ {b:Addr} {o:Obj},s₁.heap.get? b=some o->H b=none->(jV s₁.heap H).get? b=some o:=fun e n=>q0 e n
  have freeB:∀ {b:Addr} {o:Obj},s₁.heap.get? b=some o->o.cls≠.none->o.cls≠.type "list"->H b=none:=fun {b o} e c1 c2=>by
   cases q:H b with
   |none=>rfl
   |some u=>
    rcases what b u q with⟨rfl,_,_⟩|⟨t,ht,rfl,_⟩
    ·rw[ha] at e;cases e;exact absurd rfl c2
    ·rw[(hT t ht).2] at e;cases e;exact absurd rfl c1
  have noD:∀ {b:Addr} {o:Obj} {es:Array DictEntry} {ep:Nat},s₁.heap.get? b=some o->o.data=.dict es ep->H b=none:=fun {b o es ep} e d=>by
   cases q:H b with
   |none=>rfl
   |some u=>
    rcases what b u q with⟨rfl,_,_⟩|⟨t,ht,rfl,_⟩
    ·rw[ha] at e;cases e;cases d
    ·rw[(hT t ht).2] at e;cases e;cases d
  have nsK:∀ {b:Addr} {m:Str->Option Value},s₁.heap.Ns b m->(jV s₁.heap H).Ns b m:=fun {b m} ⟨o,es,ep,e,d,r⟩=>⟨o,es,ep,base_of e (noD e d),d,r⟩
  have hKb : K.In (jV s₁.heap H):=fun b o e=>base_of (KX b o e) (by
   cases q:H b with
   |none=>rfl
   |some u=>
    by_cases hb:b=a
    ·subst hb
     rcases hA with z|⟨z1,_⟩
     ·rw[z] at q;cases q
     ·rw[e] at z1;cases z1
    ·rw[hH b hb,tabNot b o e] at q;cases q)
  have hM:Mod K mg (jV s₁.heap H):=⟨hKb,nsK hns,⟨mb,nsK hb,hbb⟩,let ⟨mc,h1,h2⟩:=hlim;⟨mc,nsK h1,h2⟩,
   let ⟨bm,ob,b1,b2,b3,b4,b5,b6⟩:=hbm;⟨bm,ob,b1,b2,base_of b3 (freeB b3 (by rw[b4];nofun) (by rw[b4];decide)),b4,b5,b6⟩⟩
  have e0:mY P w K mg (jV s₁.heap H) callerA [] s₁ H:=⟨rfl,hM,fun b o e=>uW e,Nat.le_of_eq (pZ _ _),trivial,fun b hb=>absurd (show b∈([]:List Addr) from hb) (by simp),tt,hok,.of_eq hg⟩
  refine codeAny_mono ((F _).run callerA [] s₁ H ⟨[.ref a],[]⟩ [.ref a] [.ref a] _ _ hr e0 (hbind s₁ (.ref a)) (.cons rfl .nil) (hsp H hS)) fun r s' h=>?_
  cases r with
  |error e=>exact(hCX H e s' h).elim
  |ok fl=>
   cases fl with
   |next=>exact False.elim h
   |brk=>exact False.elim h
   |cont=>exact False.elim h
   |ret u=>
    obtain⟨v,H',os,bare,un,hok',r',q⟩:=h;have q':v=.bl true:=q;subst q';obtain rfl:u=Value.bool true:=r';refine⟨rfl,⟨fun b o e=>?_,fun b o e=>un.there b o e (by simp)⟩,os,bare⟩
    cases q:H b with
    |none=>exact .inl (un.keep b o e q (by intro z;exact absurd (show b∈([]:List Addr) from z) (by simp)) (by simp))
    |some u=>
     rcases what b u q with⟨rfl,_,rfl⟩|⟨t,ht,rfl,rfl⟩
     ·have z2:=un.frzs _ _ _ q
      obtain⟨e1,_⟩:=hok _ _ q;obtain⟨e2,_⟩:=hok' _ _ z2;rw[e] at e1;cases e1;exact .inl e2
     ·obtain⟨more,z2⟩:=un.tbls _ _ q
      obtain⟨qs,e2,_⟩:=hok' _ _ z2;have e1:=(hT t ht).2;rw[e] at e1;obtain rfl:=Option.some.inj e1;exact .inr (.inl ⟨((hT t ht).1.tab (hT t ht).2).isCodeTable,rfl,#[],qs,rfl,by rw[Array.empty_append];exact e2⟩)
 cases hk:K.lookup a with
 |some o=>
  have e:=KX a o hk;rw[ha] at e;cases e;exact core (fun b=>iY K b) (fun _ _=>rfl) (.inl tabA) (.inr ⟨_,vs.toArray,_,hk,rfl,rfl,rfl,by rw[List.size_toArray,lenV];exact hl,by simpa using rv⟩)
 |none=>
  refine core (fun b=>if b=a then some (.frz { cls:=.type "list",data:=.seq vs.toArray } (.lst (ns.map V.int))) else iY K b) (fun b hb=>if_neg hb) (.inr ⟨hk,if_pos rfl⟩) (.inl (.inr ⟨_,if_pos rfl⟩))
theorem tj{l:W.OpenLaw}{n k:Nat}{q:Program}{loose:List Str}{XP:(Str->Option Value)->Heap->Prop}{YP:World->Heap->Prop}{d:DefRec}{K:Params->W.Frag}{CX:CXT}{sp:W.Frag->Sp}{x:Str}(hn:l.most=some n)(hn2:n<=sizeLine)(hdf:d.params.defaults=[])(hr:cG k callerA)(hY:∀(w:World)(h:Heap),YP w h->(K w.params).In h)(tabs:∀w:World,qB (K w.params) ((recsOf q).map (·.name))=true)
  (F:∀(w:World)(mg:Str->Option Value)(fa:Addr)(h:Heap),(K w.params).In h->h.Ns mainGlobals mg->mg d.name=some (.ref fa) ->
   ∃fd:FuncData,(∀(s:Shared)(u:Value),BindsTo s fd ⟨[u],[]⟩ [(x,u)])/\∀base:Heap,bD l.prog w (K w.params) mg base CX k fa fd [x] (sp (K w.params)))
  (hsp:∀(K:W.Frag)(H:Hp)(a:Addr)(ns:List Int),ns.length<=n->yK H->SqL K H a (ns.map V.int)->sp K [.ref a] H (fun v _=>v=.bl true) fun _ _ _=>False)
  (hCX:∀(H:Hp)(s:Shared)(e:Value)(s':Shared),CX [] H s (fun _ _ _=>False) e s'->False) :
  W.WalkO q loose XP YP l.row.toRowW d [] (fun f vs=>PySem.call f vs):=by
 refine Att.me hn hdf fun w s₀ s₁ mg mb fa o pm cd doc a vs ns G Y ho hd hcd hmg hobj hints hlen hg=>?_;have KX:=hY w _ Y;have tb:=tabs w;unfold qB at tb;rw[Bool.and_eq_true,Bool.and_eq_true] at tb;obtain⟨⟨t1,t2⟩,t3⟩:=tb;obtain⟨fd,hb,hF⟩:=F w mg fa _ KX G.T.g hmg;refine pS KX G.T.g G.T.b G.T.builtins G.T.nolimit hg G.T.bmain (fun t ht=>?_) t1 t2 hobj hints (Nat.le_trans hlen hn2) hr hF hb (fun H hS=>hsp _ H a ns hlen trivial hS) fun H e s'=>hCX H s₁ e s'
 have hc:=List.all_eq_true.mp t3 t ht;have hm:t.1∈(recsOf q).map (·.name):=by simpa using hc
 obtain⟨r,hr1,hr2⟩:=List.mem_map.mp hm
 cases z:(recsOf q).find? (fun e=>e.name == t.1) with
 |none=>
  have:=List.find?_eq_none.mp z r hr1;rw[hr2] at this;simp at this
 |some d'=>exact W.tab_of G.T KX z (uv ht)
end L2
namespace L2
open PySem PySem.Spec PySem.Calls PyProof.Rows
open AutoSeq1 (wpAny_loadPart')
section
variable{prog:Program}{w:World}{A:Around}{E:Value->Shared->Prop}{S:Shared}
set_option maxHeartbeats 2000000 in
end
end L2
namespace L2
open PySem PySem.Spec PySem.Calls PyProof.Rows
structure Src(prog:Program)(w:World)(A:Around)(j q:Addr)(its:Array Value)(It1:Nat->Heap->Prop)(Sq1:Heap->Prop):Prop where
 item:∀(n:Nat)(v:Value)(S:Shared)(Q:Value->Shared->Prop)(E:Value->Shared->Prop),It1 n S.heap->Sq1 S.heap->its[n]?=some v->(∀h1,It1 (n+1) h1->Heap.SameBut j S.heap h1->Q v { S with heap:=h1 })->wpAny (model prog w) A (Builtin.SmallTypes.nextOf (.ref j)) Q E S
 stop:∀(n:Nat)(S:Shared)(Q:Value->Shared->Prop)(E:Value->Shared->Prop),It1 n S.heap->Sq1 S.heap->its[n]?=none->(∀h1 e,Heap.ExtBut j S.heap h1->(∃o,h1.get? e=some o/\o.cls=.type "StopIteration")->E (.ref e) { S with heap:=h1 })->wpAny (model prog w) A (Builtin.SmallTypes.nextOf (.ref j)) Q E S
 mv:∀(n:Nat)(h h1:Heap),It1 n h->(∀o,h.get? j=some o->h1.get? j=some o)->It1 n h1
 sv:∀(h h1:Heap),Sq1 h->(∀o,h.get? q=some o->h1.get? q=some o)->Sq1 h1
 live:∀(n:Nat)(h:Heap),It1 n h->∃o vs,h.get? j=some o/\o.data=.fields vs
structure Kd(cls:String)(Sa:W.Frag->Hp->Addr->List V->Prop)(Iti:Heap->Addr->Addr->Nat->Prop)(Is:Heap->Addr->Array Value->Prop):Prop where
 got:∀ {X:Cx} {pins:List (Addr×Obj)} {σ:St} {H:Hp} {s:Shared} {a:Addr} {xs:List V},Inv X pins σ H s->Sa X.K H a xs->∃its:List Value,ar xs its/\Is s.heap a its.toArray
 inj:∀ {X:Cx} {pins:List (Addr×Obj)} {σ:St} {H:Hp} {s:Shared} {a:Addr} {xs ys:List V},Inv X pins σ H s->Sa X.K H a xs->Sa X.K H a ys->xs=ys
 src:∀(prog:Program)(w:World)(A:Around)(j q:Addr)(its:Array Value),A.handled=none->Src prog w A j q its (fun n h=>Iti h j q n) (fun h=>Is h q its)
 seq:∀ {h:Heap} {a:Addr} {its:Array Value},Is h a its->∃o n,h.get? a=some o/\o.data=.seq its n
 ne:∀ {X:Cx} {pins:List (Addr×Obj)} {σ:St} {H:Hp} {s:Shared} {a b:Addr} {xs:List V},Inv X pins σ H s->Sa X.K H a xs->f7 X pins H b->a≠b
 itr:∀ {prog:Program} {w:World} {A:Around} {E:Value->Shared->Prop} {S:Shared} {a:Addr} {its:Array Value} {Q:Value->Shared->Prop},Is S.heap a its->Q (.ref S.heap.objs.size) { S with heap:=S.heap.push { cls:=.type cls,data:=.fields #[.ref a,.int 0 0] } }->wpAny (model prog w) A (pyIter (.ref a)) Q E S
 sv:∀ {h h1:Heap} {a:Addr} {its:Array Value},Is h a its->(∀ob,h.get? a=some ob->h1.get? a=some ob)->Is h1 a its
 new:∀ {h:Heap} {j q:Addr},h.get? j=some { cls:=.type cls,data:=.fields #[.ref q,.int 0 0] }->Iti h j q 0
noncomputable def aE{α:Type}(c:Nat->Nat->Bool):W.KasT α->α
 |.ret a=>a
 |.ask i j k=>aE c (k (c i j))
noncomputable def KG{α:Type}(n:Nat)(R:α->Prop):W.KasT α->Prop
 |.ret a=>R a
 |.ask i j k=>i<n/\j<n/\∀b,KG n R (k b)
theorem KG.fin{α:Type}{n:Nat}{R:α->Prop}(c:Nat->Nat->Bool):∀ {t:W.KasT α},KG n R t->R (aE c t)
 |.ret _,h=>h
 |.ask i j k,h=>KG.fin c (t:=k (c i j)) (h.2.2 (c i j))
theorem KG.mono{α:Type}{n:Nat}{R S:α->Prop}(q:∀a,R a->S a):∀ {t:W.KasT α},KG n R t->KG n S t
 |.ret a,h=>q a h
 |.ask _ _ k,h=>⟨h.1,h.2.1,fun b=>KG.mono q (t:=k b) (h.2.2 b)⟩
theorem KG.bind{α β:Type}{n:Nat}{R:β->Prop}{f:α->W.KasT β}:∀ {t:W.KasT α},KG n (fun a=>KG n R (f a)) t->KG n R (t.bind f)
 |.ret _,h=>h
 |.ask _ _ k,h=>⟨h.1,h.2.1,fun b=>KG.bind (t:=k b) (h.2.2 b)⟩
theorem KG.wp{α:Type}{n:Nat}{R:α->Prop}{c:Nat->Nat->Bool}{cmp:Nat->Nat->(Bool->Shared->Prop)->Shared->Prop}{Q:α->Shared->Prop}{s:Shared}(hc:∀i j C,i<n->j<n->C (c i j) s->cmp i j C s):
  ∀ {t:W.KasT α},KG n R t->Q (aE c t) s->t.kasWp cmp Q s
 |.ret _,_,q=>q
 |.ask i j k,h,q=>hc i j _ h.1 h.2.1 (KG.wp hc (t:=k (c i j)) (h.2.2 (c i j)) q)
noncomputable def Ord(n:Nat)(p:Array Nat):Prop:=p.Perm (List.range n).toArray
theorem Ord.lt{n:Nat}{p:Array Nat}(hn:0<n)(h:Ord n p)(k:Nat):p.getD k 0<n:=by
 by_cases hk:k<p.size
 ·have hm:p[k]∈p:=Array.getElem_mem hk
  have h2:=(h.mem_iff (a:=p[k])).mp hm;simp at h2;simp[Array.getD,hk];exact h2
 ·simp[Array.getD,hk]
  exact hn
theorem Ord.rev{n i j:Nat}{p:Array Nat}(h:Ord n p):Ord n (W.kas_rev p i j):=(mirror_perm p i j _).trans h
theorem Ord.bub{n i j:Nat}{p:Array Nat}(h:Ord n p):Ord n (bubble p i j):=(bubble_perm p i j).trans h
section
variable{n:Nat}(hn:0<n)
include hn
theorem nc{p:Array Nat}(hp:Ord n p):∀f k,KG n (fun _=>True) (W.kas_asc p f k)
 |0,_=>trivial
 |f+1,k=>⟨hp.lt hn _,hp.lt hn _,fun b=>by
  cases b
  ·exact nc hp f (k+1)
  ·exact trivial⟩
theorem gZ:∀f (p:Array Nat) k q,Ord n p->KG n (fun r=>Ord n r.1) (W.kas_desc f p k q)
 |0,_,_,_,hp=>hp
 |f+1,p,k,q,hp=>by
  refine⟨hp.lt hn _,hp.lt hn _,fun b=>?_⟩;cases b
  ·refine⟨hp.lt hn _,hp.lt hn _,fun d=>?_⟩
   cases d
   ·exact gZ f _ _ _ hp
   ·exact hp
  ·show KG n _ (if q>0 then _ else _)
   split
   ·exact gZ f _ _ _ hp.rev
   ·exact gZ f _ _ _ hp
theorem kR{p:Array Nat}(hp:Ord n p)(a b:Nat):KG n (fun r=>Ord n r.2) (W.kas_tail3 a b p):=KG.bind ((nc hn hp.rev _ _).mono fun _ _=>hp.rev)
theorem gD{p:Array Nat}(hp:Ord n p)(a b:Nat):KG n (fun r=>Ord n r.2) (W.kas_descPart a b p):=KG.bind ((gZ hn _ _ _ _ hp).mono fun r hr=>by
 split
 ·exact kR hn hr.rev _ _
 ·exact kR hn hr _ _)
theorem sq{p:Array Nat}(hp:Ord n p)(a:Nat):KG n (fun r=>Ord n r.2) (W.kas_count a p):=KG.bind ((nc hn hp _ _).mono fun k _=>by
 split
 ·exact hp
 ·split
  ·refine⟨hp.lt hn _,hp.lt hn _,fun b=>?_⟩
   cases b
   ·exact gD hn hp.rev _ _
   ·exact hp
  ·exact gD hn hp _ _)
theorem iR{p:Array Nat}(hp:Ord n p)(k:Nat):∀f l r,KG n (fun _=>True) (W.kas_place p k f l r)
 |0,_,_=>trivial
 |f+1,l,r=>by
  show KG n _ (if l ≥ r then _ else _)
  split
  ·exact trivial
  ·refine⟨hp.lt hn _,hp.lt hn _,fun b=>?_⟩
   cases b
   ·exact iR hp k f _ _
   ·exact iR hp k f _ _
theorem rS:∀f (p:Array Nat) k,Ord n p->KG n (Ord n) (W.kas_bin f p k)
 |0,_,_,hp=>hp
 |f+1,_,k,hp=>KG.bind ((iR hn hp _ _ _ _).mono fun _ _=>rS f _ _ hp.bub)
theorem pi:KG n (Ord n) (W.kas_sort n):=KG.bind ((sq hn (.refl _) n).mono fun r hr=>by
 split
 ·exact rS hn _ _ _ hr
 ·exact hr)
end
noncomputable def Zs:List Value->List Int->Prop
 | [],[]=>True
 |v::vs,n::ns=>(∃t,v=.int n t)/\Zs vs ns
 |_,_=>False
noncomputable def ltF(e:Bool):List Int->List Int->Bool
 |x::xs,y::ys=>if x=y then ltF e xs ys else decide (x<y)
 |_,_=>e
noncomputable def ltZ(x y:List Int):Bool:=ltF (decide (x.length<y.length)) x y
theorem Zs.len:∀ {vs:List Value} {ns:List Int},Zs vs ns->vs.length=ns.length
 | [],[],_=>rfl
 |_::_,_::_,h=>congrArg (·+1) (Zs.len h.2)
 | [],_::_,h=>h.elim
 |_::_,[],h=>h.elim
section
variable{prog:Program}{w:World}{A:Around}{E:Value->Shared->Prop}{s:Shared}
theorem uO{b:Bool}{x y:Int}{t u:Tok}{Q:Bool->Shared->Prop}(h:Q (decide (x<y)) s):wpAny (model prog w) A (oneLt' b (.int x t) (.int y u)) Q E s:=by
 cases b
 ·exact W.kat_one _ _ (wpAny_lt_int h)
 ·exact oneLt_int h
theorem pf{b e:Bool}{Q:Bool->Shared->Prop}:∀ {xs ys:List Value} {ns ms:List Int} (i:Nat),Zs xs ns->Zs ys ms->Q (ltF e ns ms) s->W.KatLex prog w A b e Q (xs.zip ys) i s
 | [],_,[],_,_,_,_,q=>W.kat_nil (by simpa[ltF] using q)
 |_::_,[],_::_,[],_,_,_,q=>W.kat_nil (by simpa[ltF] using q)
 |x::xs,y::ys,n::ns,m::ms,i,hx,hy,q=>by
  obtain⟨⟨t,rfl⟩,hx⟩:=hx;obtain⟨⟨u,rfl⟩,hy⟩:=hy;refine W.kat_cons (wpAny_eqBool_int ?_);unfold ltF at q;by_cases h:n=m
  ·rw[if_pos h] at q
   rw[show (n == m)=true by simpa using h]
   exact W.kat_yes (pf (i+1) hx hy q)
  ·rw[if_neg h] at q
   rw[show (n == m)=false by simpa using h]
   exact W.kat_no (uO q)
 | [],_,_::_,_,_,h,_,_=>h.elim
 |_::_,_,[],_,_,h,_,_=>h.elim
 |_::_,[],_,_::_,_,_,h,_=>h.elim
 |_::_,_::_,_,[],_,_,h,_=>h.elim
end
noncomputable def TW(h:Heap):List Value->List (List Int)->Prop
 | [],[]=>True
 |v::vs,x::xs=>(∃a o its n,v=.ref a/\h.get? a=some o/\o.cls=.type "tuple"/\o.data=.seq its n/\Zs its.toList x)/\TW h vs xs
 |_,_=>False
theorem TW.len{h:Heap}:∀ {vs:List Value} {W:List (List Int)},TW h vs W->vs.length=W.length
 | [],[],_=>rfl
 |_::_,_::_,q=>congrArg (·+1) (TW.len q.2)
 | [],_::_,q=>q.elim
 |_::_,[],q=>q.elim
theorem TW.keep{h h':Heap}(k:∀b o,h.get? b=some o->o.cls=.type "tuple"->h'.get? b=some o):∀ {vs:List Value} {W:List (List Int)},TW h vs W->TW h' vs W
 | [],[],_=>trivial
 |_::_,_::_,⟨⟨a,o,its,n,e1,e2,e3,e4⟩,q⟩=>⟨⟨a,o,its,n,e1,k _ _ e2 e3,e3,e4⟩,TW.keep k q⟩
 | [],_::_,q=>q.elim
 |_::_,[],q=>q.elim
theorem TW.at{h:Heap}:∀ {vs:List Value} {W:List (List Int)} {i:Nat},TW h vs W->i<vs.length->∃a o its n,vs.getD i Value.none=.ref a/\h.get? a=some o/\o.data=.seq its n/\Zs its.toList (W.getD i [])
 |_::_,_::_,0,⟨⟨a,o,its,n,e1,e2,e3,e4,e5⟩,_⟩,_=>⟨a,o,its,n,by simpa using e1,e2,e4,by simpa using e5⟩
 |_::_,_::_,i+1,⟨_,q⟩,hi=>by
  obtain⟨a,o,its,n,e1,e2,e3,e4⟩:=TW.at (i:=i) q (by simpa using hi)
  exact⟨a,o,its,n,by simpa using e1,e2,e3,by simpa using e4⟩
 | [],_,_,_,hi=>absurd hi (by simp)
 |_::_,[],_,q,_=>q.elim
theorem TW.tups{h:Heap}:∀ {vs:List Value} {W:List (List Int)},TW h vs W->(∀x∈W,x≠[])->∃fs,PySem.W.KatTups h vs fs/\fs.length=vs.length/\∀v∈fs,∃n t,v=.int n t
 | [],[],_,_=>⟨[],trivial,rfl,by simp⟩
 |_::vs,x::xs,⟨⟨a,o,its,n,rfl,e2,e3,e4,e5⟩,q⟩,ne=>by
  obtain⟨fs,g1,g2,g3⟩:=TW.tups q fun y hy=>ne y (List.mem_cons_of_mem _ hy);have e6:=ne x List.mem_cons_self
  match hi:its.toList,x,e5,e6 with
  | [],[],_,e6=>exact absurd rfl e6
  | [],_::_,e5,_=>exact e5.elim
  |_::_,[],e5,_=>exact e5.elim
  |f::r,m::ms,e5,_=>
   obtain⟨t,ht⟩:=e5.1;refine⟨f::fs,PySem.W.KatTups.cons e2 e3 e4 ?_ g1,by simp[g2],?_⟩
   ·rw[←Array.getElem?_toList,hi];rfl
   ·intro v hv
    rcases List.mem_cons.mp hv with rfl|hv
    ·exact⟨m,t,ht⟩
    ·exact g3 v hv
 | [],_::_,q,_=>q.elim
 |_::_,[],q,_=>q.elim
noncomputable def cA(W:List (List Int)):Array Nat:=if W.length<2 then (List.range W.length).toArray else aE (fun i j=>ltZ (W.getD i []) (W.getD j [])) (PySem.W.kas_sort W.length)
theorem cI(W:List (List Int)):Ord W.length (cA W):=by
 unfold cA;split
 ·exact .refl _
 ·exact KG.fin _ (pi (by omega))
section
variable{prog:Program}{w:World}{A:Around}{E:Value->Shared->Prop}{s:Shared}
noncomputable def jN(vs:List Value)(W:List (List Int)):Array Value:=List.toArray ((cA W).toList.map fun i=>vs.getD i Value.none)
theorem qk{h:Heap}{vs:List Value}{W:List (List Int)}(tw:TW h vs W):(jN vs W).size=vs.length:=by
 have a:=(cI W).size_eq;have b:=tw.len;simp[jN];simp at a;omega
theorem pQ{vs:List Value}{W:List (List Int)}{b:Bool}{s:Shared}(tw:TW s.heap vs W){Q:Array Nat->Shared->Prop}(h2:0<vs.length)(q:Q (aE (fun i j=>ltZ (W.getD i []) (W.getD j [])) (PySem.W.kas_sort vs.length)) s):
  (PySem.W.kas_sort vs.length).kasWp (PySem.W.kas_ask prog w A (tuples' b) vs) Q s:=by
 refine KG.wp (fun i j C hi hj hC=>?_) (pi h2) q;obtain⟨a1,o1,i1,n1,e1,e2,e3,e4⟩:=tw.at hi;obtain⟨a2,o2,i2,n2,f1,f2,f3,f4⟩:=tw.at hj;show wpAny (model prog w) A (keyLt' (tuples' b) (vs.getD i Value.none) (vs.getD j Value.none)) C _ s;rw[e1,f1];refine PySem.W.kat_lt e2 e3 f2 f3 (pf 0 e4 f4 ?_);have g1:=e4.len;have g2:=f4.len;rw[Array.length_toList] at g1 g2;rw[g1,g2];exact hC
theorem qg:∀(vs:List Value),vs.length<2->Array.map (·.2) (vs.toArray.zip vs.toArray)=List.toArray ((List.range vs.length).map fun i=>vs.getD i Value.none)
 | [],_=>by simp
 | [v],_=>by simp
 |_::_::_,h=>absurd h (by simp)
theorem p9{a:Addr}{vs:List Value}{W:List (List Int)}{k:Nat}{P:PySem.Fin->Shared->Prop}(g:s.heap.get? a=some (seqObj "list" vs.toArray k))(tw:TW s.heap vs W)(ne:2<=W.length->∀x∈W,x≠[])(hs:vs.length<64)(q:P (.done (.ret .none)) { s with heap:=sortedHeap s.heap a vs (jN vs W) }):wpAny (model prog w) A (Builtin.«list.sort» ⟨[.ref a],[]⟩) P E s:=by
 have line:64<=sizeLine:=by rw[sizeLine_eq];omega
 have room:vs.toArray.size<=sizeLine:=by rw[List.size_toArray];omega
 have la:a<s.heap.objs.size:=Heap.lt_size g;have osz:=qk tw;rw[list_sort_plain];obtain⟨e1,g1⟩:∃e1,(s.heap.update a (Obj.mapSeq fun _=>(#[]:Array Value))).get? a=some (seqObj "list" #[] e1):=⟨_,get?_update_seq g fun _=>#[]⟩;refine wpAny_bind (listItems_at g rfl (wpAny_bind (listUpdate_at g rfl (wpAny_bind (seqEpoch_at g1 rfl (wpAny_bind (wpAny_newTuple (wpAny_bind (wpAny_newList (wpAny_holding ?_) (Nat.zero_le _))) ?_)))) room (Nat.zero_le _))))
 case refine_2=>show vs.length<=_;omega
 have g3:(((s.heap.update a (Obj.mapSeq fun _=>(#[]:Array Value))).push (seqObj "tuple" vs.toArray 0)).push (seqObj "list" #[] 0)).get? a=some (seqObj "list" #[] e1):=Heap.get?_push_of_some _ (Heap.get?_push_of_some _ g1)
 have tw3:TW (((s.heap.update a (Obj.mapSeq fun _=>(#[]:Array Value))).push (seqObj "tuple" vs.toArray 0)).push (seqObj "list" #[] 0)) vs W:=tw.keep fun b o e c=>by
  have nb:b≠a:=fun z=>by
   subst z;rw[g] at e;cases e;exact absurd (show Value.type "list"=Value.type "tuple" from c) (fun z=>by injection z with z;exact absurd z (by decide))
  exact Heap.get?_push_of_some _ (Heap.get?_push_of_some _ ((Heap.get?_update_ne _ _ _ _ nb).trans e))
 show wpAny (model prog w) A _ P E { s with heap:=((s.heap.update a (Obj.mapSeq fun _=>(#[]:Array Value))).push (seqObj "tuple" vs.toArray 0)).push (seqObj "list" #[] 0) }
 have fin:∀out:Array Value,out=jN vs W->P (.done (.ret .none)) { s with heap:=(((s.heap.update a (Obj.mapSeq fun _=>(#[]:Array Value))).push (seqObj "tuple" vs.toArray 0)).push (seqObj "list" #[] 0)).update a (Obj.mapSeq fun _=>out) }:=fun out e=>by
  subst e;exact q
 generalize hh:((s.heap.update a (Obj.mapSeq fun _=>(#[]:Array Value))).push (seqObj "tuple" vs.toArray 0)).push (seqObj "list" #[] 0)=hp at g3 tw3 fin ⊢;dsimp only;by_cases h2:vs.toArray.size<2
 ·rw[if_pos h2,if_pos h2]
  refine wpAny_bind (wpAny_pure ?_);rw[StateT.run_pure];refine wpAny_bind (wpAny_pure ?_);dsimp only
  have same:(arrOf (SortSt.mk' general' (vs.toArray.zip vs.toArray) #[] 7 none)).map (·.2)=jN vs W:=by
   have hl:=tw.len;rw[List.size_toArray] at h2;unfold jN cA;rw[if_pos (by omega),←hl]
   exact qg vs h2
  rw[same];refine wpAny_bind (seqEpoch_at g3 rfl (wpAny_bind (listUpdate_at g3 rfl ?_ (Nat.zero_le _) (by omega))))
  simp only[bne_self_eq_false,Bool.false_eq_true,if_false];exact wpAny_pure (fin _ rfl)
 ·rw[if_neg h2,if_neg h2]
  rw[List.size_toArray] at h2;obtain⟨fs,t1,t2,t3⟩:=tw3.tups (ne (by have:=tw.len;omega))
  refine wpAny_bind (PySem.W.kat_kind (T:=.type "int") t1 (by omega) (fun v hv=>?_) rfl ?_)
  ·obtain⟨n,t,rfl⟩:=t3 v hv
   exact PySem.W.Looks.now
  refine wpAny_bind (wpAny_mono (PySem.W.kat_run (E:=E) (Q:=fun st' s'=>failedOf st'=none/\(arrOf st').map (·.2)=jN vs W/\s'={ s with heap:=hp }) (G:=fun p s'=>p=cA W/\s'={ s with heap:=hp }) rfl (by omega) hs (fun p st' s' _ b1 b2 b3=>⟨b2,?_,b3.2⟩) (pQ tw3 (by omega) ⟨?_,rfl⟩)) ?_ fun _ _ e=>e)
  ·rw[PySem.W.kat_snds rfl b1,b3.1]
   rfl
  ·have hl:=tw.len
   unfold cA;rw[if_neg (by omega),←hl]
  ·rintro⟨⟨⟩,st'⟩ s' ⟨b1,b2,rfl⟩
   dsimp only at b1 b2 ⊢;rw[b2];refine wpAny_bind (seqEpoch_at g3 rfl (wpAny_bind (listUpdate_at g3 rfl ?_ (Nat.zero_le _) (by omega))))
   rw[b1];simp only[bne_self_eq_false,Bool.false_eq_true,if_false];exact wpAny_pure (fin _ rfl)
theorem kS{l:Addr}{vs:List Value}{W:List (List Int)}{Q:Value->Shared->Prop}(g:s.heap.IsList l vs.toArray)(tw:TW s.heap vs W)(ne:2<=W.length->∀x∈W,x≠[])(hs:vs.length<64)(q:Q (.ref (s.heap.objs.size+1)) { s with heap:=sortedAll s.heap vs (jN vs W) }):wpAny (model prog w) A (call (.builtin "sorted") [.ref l]) Q E s:=by
 have line:64<=sizeLine:=by rw[sizeLine_eq];omega
 refine Calls.call_function_entry kind_sorted plain_sorted entry_sorted (args_sorted1 _) ?_;unfold Builtin.«sorted»;have n1:((s.heap.push (seqObj "list" #[] 0)).update s.heap.objs.size (Obj.mapSeq (·++vs.toArray))).objs.size=s.heap.objs.size+1:=by rw[Heap.size_update,size_push']
 refine wpAny_bind (m:=checkCount "sorted" 1 1 _) (wpAny_pure (wpAny_bind (collect_list g (wpAny_bind (wpAny_newList ?_ (by omega))) (by omega))))
 have g2:(((s.heap.push (seqObj "list" #[] 0)).update s.heap.objs.size (Obj.mapSeq (·++vs.toArray))).push (seqObj "list" vs.toArray 0)).get? (s.heap.objs.size+1)=some (seqObj "list" vs.toArray 0):=by
  rw[←n1];exact Heap.get?_push_size _ rfl
 have tw2:TW (((s.heap.push (seqObj "list" #[] 0)).update s.heap.objs.size (Obj.mapSeq (·++vs.toArray))).push (seqObj "list" vs.toArray 0)) vs W:=tw.keep fun b o e _=>by
  have lt:=Heap.lt_size e;exact Heap.get?_push_of_some _ ((Heap.get?_update_ne _ _ _ _ (Nat.ne_of_lt lt)).trans (Heap.get?_push_of_some _ e))
 show wpAny _ _ _ _ _ { s with heap:=((s.heap.push (seqObj "list" #[] 0)).update s.heap.objs.size (Obj.mapSeq (·++vs.toArray))).push (seqObj "list" vs.toArray 0) }
 rw[n1];exact wpAny_bind (wpAny_holding (wpAny_call_entry slot_list_sort ⟨_,g2,rfl⟩ entry_list_sort (p9 g2 tw2 ne hs ⟨_,rfl,wpAny_pure ⟨_,rfl,q⟩⟩) (args_list_sort _)))
end
noncomputable def srt(xs:List V)(W:List (List Int)):List V:=(cA W).toList.map fun i=>xs.getD i .non
noncomputable def TWv(H:Hp):List V->List (List Int)->Prop
 | [],[]=>True
 |v::vs,x::xs=>(∃a,v=.ref a/\H a=some (.tup (x.map V.int)))/\TWv H vs xs
 |_,_=>False
section
variable{X:Cx}
theorem Zs.of:∀ {ns:List Int} {its:List Value},ar (ns.map V.int) its->Zs its ns
 | [],[],_=>trivial
 |n::ns,v::vs,h=>by
  cases h with
  |cons r rr=>
   exact⟨r,Zs.of rr⟩
 | [],_::_,h=>by cases h
 |_::_,[],h=>by cases h
theorem TWv.tw{pins:List (Addr×Obj)}{σ:St}{H:Hp}{s:Shared}(I:Inv X pins σ H s):∀ {xs:List V} {W:List (List Int)} {us:List Value},TWv H xs W->ar xs us->TW s.heap us W
 | [],[],[],_,_=>trivial
 |v::vs,x::ys,u::us,⟨⟨a,e1,e2⟩,q⟩,h=>by
  subst e1
  cases h with
  |cons r rr=>
   cases r;obtain⟨_,its,e4,⟨o,e5,e6,n,e7⟩,_⟩:=I.hok a _ e2;exact⟨⟨a,o,its.toArray,n,rfl,e5,e6,e7,Zs.of e4⟩,TWv.tw I q rr⟩
 | [],[],_::_,_,h=>by cases h
 |_::_,_,[],_,h=>by cases h
 | [],_::_,_,q,_=>q.elim
 |_::_,[],_,q,_=>q.elim
theorem ir{α:Type}{f:α->V}{g:α->Value}:∀ {l:List α},(∀i∈l,aF (f i) (g i))->ar (l.map f) (l.map g)
 | [],_=>.nil
 |_::_,h=>.cons (h _ (List.mem_cons_self ..)) (ir fun j hj=>h j (List.mem_cons_of_mem _ hj))
theorem Ord.mem{n:Nat}{p:Array Nat}(h:Ord n p){i:Nat}(hi:i∈p.toList):i<n:=by
 have:=(h.mem_iff (a:=i)).mp (Array.mem_toList_iff.mp hi);simpa using this
theorem jY:cy X (.builtin "sorted") (fun xs H Q=>∃p ys W,xs=[.ref p]/\SqL X.K H p ys/\TWv H ys W/\(2<=W.length->∀x∈W,x≠[])/\W.length<64/\∀l,H l=none->Q (.ref l) (upd H l (.lst (srt ys W)))):=by
 intro pins s σ H xs us Q I r h;obtain⟨p,ys,W,rfl,hq,hT,hne,hW,q⟩:=h;obtain⟨u,rfl,rx⟩:=jF r;cases rx;obtain⟨its,r',pl,hz⟩:=I.list hq;have tw:=TWv.tw I hT r';have e1:=tw.len;have e2:=r'.length;obtain⟨e,he⟩:=sortedAll_at s.heap its (jN its W)
 have hv:ar (srt ys W) ((cA W).toList.map fun i=>its.getD i Value.none):=ir fun i hi=>by
  have hi':=(cI W).mem hi;obtain⟨u,hu,ru⟩:=r'.get (List.getElem?_eq_getElem (by omega:i<ys.length))
  rw[List.getD_eq_getElem?_getD,List.getD_eq_getElem?_getD,hu,List.getElem?_eq_getElem (by omega:i<ys.length)]
  exact ru
 have hl:(srt ys W).length<=sizeLine:=by
  have a:=(cI W).size_eq;have b:64<=sizeLine:=by rw[sizeLine_eq];omega
  simp[srt] at a ⊢;omega
 exact kS pl.isList tw hne (by omega) ⟨.ref (s.heap.objs.size+1),_,I.laid (t':=s.toks) (fun b o e=>sortedAll_old e) (Nat.le_succ _) (show bj X.prog X.w _ _ _ (.lst (srt ys W)) from ⟨hl,_,e,hv,he⟩),rfl,q _ (I.hok.fresh (Nat.le_succ _))⟩
end
noncomputable def fi(W:List (List Int)):List (List Int):=(cA W).toList.map fun i=>W.getD i []
theorem fZ(W:List (List Int)):(fi W).Perm W:=by
 have h:(cA W).toList.Perm (List.range W.length):=by
  have:=(cI W).toList;simpa using this
 have:=h.map fun i=>W.getD i [];refine this.trans (.of_eq ?_);apply List.ext_getElem?;intro i;by_cases hi:i<W.length
 ·rw[List.getElem?_map,List.getElem?_range hi,List.getElem?_eq_getElem hi]
  simp[hi]
 ·rw[List.getElem?_eq_none (by simpa using hi),List.getElem?_eq_none (by simpa using hi)]
theorem pG{H:Hp}:∀ {ns:List Int} {xs:List V},aj H (ns.map D.int) xs->xs=ns.map V.int
 | [],xs,h=>by simpa[aj] using h
 |n::ns,xs,h=>by
  simp only[List.map_cons,aj,Dat] at h;obtain⟨x,r,rfl,rfl,h2⟩:=h;rw[pG h2];rfl
theorem TWv.of{H:Hp}:∀ {W:List (List Int)} {xs:List V},aj H (W.map wdD) xs->TWv H xs W
 | [],xs,h=>by
  have:xs=[]:=by simpa[aj] using h
  subst this;exact trivial
 |x::W,xs,h=>by
  simp only[List.map_cons,aj] at h;obtain⟨v,r,rfl,hv,h2⟩:=h;simp only[wdD,Dat] at hv;obtain⟨a,ys,rfl,ha,hy⟩:=hv;rw[pG hy] at ha;exact⟨⟨a,rfl,ha⟩,TWv.of h2⟩
theorem jt{H:Hp}{W:List (List Int)}{xs:List V}(h:aj H (W.map wdD) xs):∀ {l:List Nat},(∀i∈l,i<W.length)->aj H ((l.map fun i=>W.getD i []).map wdD) (l.map fun i=>xs.getD i .non)
 | [],_=>by simp[aj]
 |i::l,q=>by
  simp only[List.map_cons,aj];have hi:=q i (List.mem_cons_self ..);obtain⟨x,e,hx⟩:=h.get (i:=i) (d:=wdD (W.getD i [])) (by rw[List.getElem?_map,List.getD_eq_getElem?_getD,List.getElem?_eq_getElem hi];rfl)
  refine⟨_,_,rfl,?_,jt h fun j hj=>q j (List.mem_cons_of_mem _ hj)⟩;rw[show xs.getD i V.non=x by rw[List.getD_eq_getElem?_getD,e];rfl]
  exact hx
theorem qZ{H:Hp}{W:List (List Int)}{xs:List V}(h:aj H (W.map wdD) xs):aj H ((fi W).map wdD) (srt xs W):=jt h fun i hi=>(cI W).mem hi
theorem cR(W:List (List Int)):(fi W).length=W.length:=(fZ W).length_eq
section
variable{X:Cx}
theorem db:cy X (.builtin "sorted") (fun xs H Q=>∃p W,xs=[.ref p]/\LD H p (W.map wdD)/\(∀x∈W,x≠[])/\W.length<64/\∀l H',H l=none->bK H H'->LD H' l ((fi W).map wdD)->Q (.ref l) H'):=by
 intro pins s σ H xs us Q I r h;obtain⟨p,W,rfl,⟨hn,ys,hy,hd⟩,ne,hl,q⟩:=h;exact jY pins s σ H _ us Q I r ⟨p,ys,W,rfl,SqL.of hy,TWv.of hd,fun _=>ne,hl,fun l hl=>q l _ hl (iI hl) ⟨l7 _,_,bu,(qZ hd).same (iI hl)⟩⟩
end
structure bW(c:Nat->Nat->Bool):Prop where
 as:∀i j,c i j=true->c j i=false
 tr:∀i j k,c j i=false->c k j=false->c k i=false
theorem cL{α β:Type}(c:Nat->Nat->Bool){f:α->W.KasT β}:∀t:W.KasT α,aE c (t.bind f)=aE c (f (aE c t))
 |.ret _=>rfl
 |.ask i j k=>cL c (k (c i j))
section
variable{c:Nat->Nat->Bool}(L:bW c)
noncomputable def Up(c:Nat->Nat->Bool)(p:Array Nat)(k:Nat):Prop:=∀i j,i<=j->j<k->c (p.getD j 0) (p.getD i 0)=false
noncomputable def Dn(c:Nat->Nat->Bool)(p:Array Nat)(k:Nat):Prop:=∀i j,i<=j->j<k->c (p.getD i 0) (p.getD j 0)=false
include L
theorem bW.rf(i:Nat):c i i=false:=by
 cases h:c i i with
 |false=>rfl
 |true=>rw[L.as i i h] at h;cases h
theorem xj(p:Array Nat):Up c p 1:=fun i j h1 h2=>by
 have:i=j:=by omega
 subst this;exact L.rf _
theorem uT{p:Array Nat}{k:Nat}(h:Up c p k)(hk:1<=k)(q:c (p.getD k 0) (p.getD (k-1) 0)=false):Up c p (k+1):=fun i j h1 h2=>by
 by_cases hj:j<k
 ·exact h i j h1 hj
 ·have:j=k:=by omega
  subst this;by_cases hi:i=j
  ·subst hi;exact L.rf _
  ·exact L.tr _ (p.getD (j-1) 0) _ (h i (j-1) (by omega) (by omega)) q
theorem fQ{p:Array Nat}{k:Nat}(h:Dn c p k)(hk:1<=k)(q:c (p.getD (k-1) 0) (p.getD k 0)=false):Dn c p (k+1):=fun i j h1 h2=>by
 by_cases hj:j<k
 ·exact h i j h1 hj
 ·have:j=k:=by omega
  subst this;by_cases hi:i=j
  ·subst hi;exact L.rf _
  ·exact L.tr _ (p.getD (j-1) 0) _ q (h i (j-1) (by omega) (by omega))
theorem nE{p:Array Nat}:∀f k,1<=k->Up c p k->Up c p (aE c (W.kas_asc p f k))/\k<=aE c (W.kas_asc p f k)/\aE c (W.kas_asc p f k)<=k+f
 |0,k,_,h=>⟨h,Nat.le_refl _,Nat.le_refl _⟩
 |f+1,k,hk,h=>by
  unfold W.kas_asc;simp only[aE]
  cases q:c (p.getD k 0) (p.getD (k-1) 0) with
  |true=>exact⟨h,Nat.le_refl _,by simp[aE]⟩
  |false=>
   have:=nE f (k+1) (by omega) (uT L h hk q)
   simp only[Bool.false_eq_true,if_false];exact⟨this.1,by omega,by omega⟩
end
theorem aO{p:Array Nat}{i j:Nat}(hj:j<=p.size)(k:Nat):(W.kas_rev p i j).getD k 0=if i<=k/\k<j then p.getD (i+j-1-k) 0 else p.getD k 0:=by
 have:=getElem?_mirror_all (xs:=p) (i:=i) hj k;simp only[Array.getD_eq_getD_getElem?];unfold W.kas_rev;rw[this];split<;>rfl
theorem ez{p:Array Nat}{s d:Nat}(hs:s<p.size)(hd:d<=s)(k:Nat):(bubble p s d).getD k 0=if k=s-d then p.getD s 0 else if s-d<k/\k<=s then p.getD (k-1) 0 else p.getD k 0:=by
 have:=getElem?_bubble hs d hd k;simp only[Array.getD_eq_getD_getElem?];rw[this];split
 ·rfl
 ·split<;>rfl
section
variable{c:Nat->Nat->Bool}(L:bW c)
include L
theorem uu{p:Array Nat}{k:Nat}(hk:k<=p.size)(h:Dn c p k):Up c (W.kas_rev p 0 k) k:=fun i j h1 h2=>by
 rw[aO hk,aO hk,if_pos (by omega),if_pos (by omega)]
 exact h _ _ (by omega) (by omega)
theorem iJ{p:Array Nat}{k:Nat}(hu:Up c p k):∀f l r,r-l<=f->l<=r->r<=k->(∀i,i<l->c (p.getD k 0) (p.getD i 0)=false)->(∀i,r<=i->i<k->c (p.getD k 0) (p.getD i 0)=true) ->
  aE c (W.kas_place p k f l r)<=k/\(∀i,i<aE c (W.kas_place p k f l r)->c (p.getD k 0) (p.getD i 0)=false)/\(∀i,aE c (W.kas_place p k f l r)<=i->i<k->c (p.getD k 0) (p.getD i 0)=true)
 |0,l,r,hf,hl,hr,h1,h2=>by
  have:l=r:=by omega
  subst this;exact⟨hr,h1,h2⟩
 |f+1,l,r,hf,hl,hr,h1,h2=>by
  unfold W.kas_place;by_cases h:l ≥ r
  ·rw[if_pos h]
   have:l=r:=by omega
   subst this;exact⟨hr,h1,h2⟩
  ·rw[if_neg h]
   simp only[aE]
   cases q:c (p.getD k 0) (p.getD ((l+r) / 2) 0) with
   |true=>
    simp only[if_true];refine iJ hu f l ((l+r) / 2) (by omega) (by omega) (by omega) h1 fun i hi hik=>?_
    cases e:c (p.getD k 0) (p.getD i 0) with
    |true=>rfl
    |false=>
     have:=L.tr (p.getD ((l+r) / 2) 0) (p.getD i 0) (p.getD k 0) (hu _ _ hi hik) e;rw[this] at q;cases q
   |false=>
    simp only[Bool.false_eq_true,if_false];refine iJ hu f ((l+r) / 2+1) r (by omega) (by omega) hr (fun i hi=>?_) h2
    exact L.tr (p.getD i 0) (p.getD ((l+r) / 2) 0) (p.getD k 0) (hu _ _ (by omega) (by omega)) q
theorem tF:∀f (p:Array Nat) k,k+f<=p.size->Up c p k->Up c (aE c (W.kas_bin f p k)) (k+f)
 |0,_,_,_,h=>h
 |f+1,p,k,hz,h=>by
  unfold W.kas_bin;rw[cL];obtain⟨h1,h2,h3⟩:=iJ L h k 0 k (by omega) (by omega) (Nat.le_refl _) (fun i hi=>absurd hi (by omega)) (fun i hi hik=>absurd hik (by omega))
  generalize aE c (W.kas_place p k k 0 k)=l at h1 h2 h3 ⊢
  have:=tF f (bubble p k (k - l)) (k + 1) (by rw [bubble_size];omega) (fun i j hij hj=>by
   rw[ez (by omega) (by omega),ez (by omega) (by omega),show k-(k-l)=l by omega]
   by_cases j1:j=l
   ·rw[if_pos j1]
    by_cases i1:i=l
    ·rw[if_pos i1];exact L.rf _
    ·rw[if_neg i1,if_neg (by omega)];exact h2 i (by omega)
   ·rw[if_neg j1]
    by_cases j2:l<j/\j<=k
    ·rw[if_pos j2]
     by_cases i1:i=l
     ·rw[if_pos i1];exact L.as _ _ (h3 (j-1) (by omega) (by omega))
     ·rw[if_neg i1]
      by_cases i2:l<i/\i<=k
      ·rw[if_pos i2];exact h _ _ (by omega) (by omega)
      ·rw[if_neg i2];exact h _ _ (by omega) (by omega)
    ·rw[if_neg j2,if_neg (by omega),if_neg (by omega)];exact h _ _ hij (by omega))
  rw[show k+(f+1)=k+1+f by omega]
  exact this
noncomputable def pC(c:Nat->Nat->Bool)(p:Array Nat)(a b:Nat):Prop:=∀i j,a<=i->i<b->a<=j->j<b->c (p.getD i 0) (p.getD j 0)=false
theorem tQ{p:Array Nat}{a k:Nat}(hk:k<=p.size)(h:Dn c p k)(al:pC c p a k):Dn c (W.kas_rev p a k) k:=fun i j hij hj=>by
 rw[aO hk,aO hk];by_cases j1:a<=j/\j<k
 ·rw[if_pos j1]
  by_cases i1:a<=i/\i<k
  ·rw[if_pos i1];exact al _ _ (by omega) (by omega) (by omega) (by omega)
  ·rw[if_neg i1]
   exact h _ _ (by omega) (by omega)
 ·rw[if_neg j1,if_neg (by omega)];exact h _ _ hij hj
theorem g0:∀f (p:Array Nat) n q,1<=n->q+1<=n->n+f<=p.size->Dn c p n->pC c p (n-(q+1)) n ->
  (aE c (W.kas_desc f p n q)).1.size=p.size/\1<=(aE c (W.kas_desc f p n q)).2.1/\(aE c (W.kas_desc f p n q)).2.1<=n+f/\(aE c (W.kas_desc f p n q)).2.2+1<=(aE c (W.kas_desc f p n q)).2.1 /\
  Dn c (aE c (W.kas_desc f p n q)).1 (aE c (W.kas_desc f p n q)).2.1/\pC c (aE c (W.kas_desc f p n q)).1 ((aE c (W.kas_desc f p n q)).2.1-((aE c (W.kas_desc f p n q)).2.2+1)) (aE c (W.kas_desc f p n q)).2.1
 |0,p,n,q,h1,h2,h3,h4,h5=>⟨rfl,h1,Nat.le_refl _,h2,h4,h5⟩
 |f+1,p,n,q,h1,h2,h3,h4,h5=>by
  have single:∀p':Array Nat,pC c p' (n+1-(0+1)) (n+1):=fun p' i j a1 a2 a3 a4=>by
   have:i=j:=by omega
   subst this;exact L.rf _
  unfold W.kas_desc;simp only[aE]
  cases e:c (p.getD n 0) (p.getD (n-1) 0) with
  |true=>
   simp only[if_true];by_cases hq:q>0
   ·rw[if_pos hq]
    have d1:=tQ L (by omega:n<=p.size) h4 h5
    have d2 : Dn c (W.kas_rev p (n - (q + 1)) n) (n + 1):=fQ L d1 h1 (by
     rw[aO (by omega),aO (by omega),if_pos (by omega),if_neg (by omega)]
     exact L.tr _ (p.getD (n-1) 0) _ (L.as _ _ e) (h5 _ _ (by omega) (by omega) (by omega) (by omega)))
    have:=g0 f (W.kas_rev p (n-(q+1)) n) (n+1) 0 (by omega) (by omega) (by rw[W.kas_rev_size];omega) d2 (single _)
    rw[W.kas_rev_size] at this;exact⟨this.1,this.2.1,by omega,this.2.2.2⟩
   ·rw[if_neg hq]
    have:=g0 f p (n+1) 0 (by omega) (by omega) (by omega) (fQ L h4 h1 (L.as _ _ e)) (single _)
    exact⟨this.1,this.2.1,by omega,this.2.2.2⟩
  |false=>
   simp only[Bool.false_eq_true,if_false,aE]
   cases e2:c (p.getD (n-1) 0) (p.getD n 0) with
   |true=>exact⟨rfl,h1,by simp[aE],h2,h4,h5⟩
   |false=>
    simp only[Bool.false_eq_true,if_false]
    have:=g0 f p (n + 1) (q + 1) (by omega) (by omega) (by omega) (fQ L h4 h1 e2) (fun i j a1 a2 a3 a4=>by
     have low:∀i,n-(q+1)<=i->i<n+1->c (p.getD i 0) (p.getD n 0)=false:=fun i b1 b2=>by
      by_cases hi:i=n
      ·subst hi;exact L.rf _
      ·exact L.tr _ (p.getD (n-1) 0) _ e2 (h5 _ _ (by omega) (by omega) (by omega) (by omega))
     have high:∀i,n-(q+1)<=i->i<n+1->c (p.getD n 0) (p.getD i 0)=false:=fun i b1 b2=>by
      by_cases hi:i=n
      ·subst hi;exact L.rf _
      ·exact L.tr _ (p.getD (n-1) 0) _ (h5 _ _ (by omega) (by omega) (by omega) (by omega)) e
     exact L.tr _ (p.getD n 0) _ (high j (by omega) a4) (low i (by omega) a2))
    exact⟨this.1,this.2.1,by omega,this.2.2.2⟩
theorem kU{p:Array Nat}{n z:Nat}(h1:1<=n)(h2:n<=z)(hz:z=p.size)(h:Dn c p n):(aE c (W.kas_tail3 n z p)).2.size=z/\1<=(aE c (W.kas_tail3 n z p)).1/\(aE c (W.kas_tail3 n z p)).1<=z/\Up c (aE c (W.kas_tail3 n z p)).2 (aE c (W.kas_tail3 n z p)).1:=by
 unfold W.kas_tail3;rw[cL];simp only[aE];have:=nE L (p:=W.kas_rev p 0 n) (z-n) n h1 (uu L (by omega) h)
 exact⟨by rw[W.kas_rev_size];exact hz.symm,by omega,by omega,this.1⟩
theorem gA{p:Array Nat}{n z:Nat}(h1:1<=n)(h2:n<z)(hz:z=p.size)(h:Dn c p (n+1)):(aE c (W.kas_descPart n z p)).2.size=z/\1<=(aE c (W.kas_descPart n z p)).1/\(aE c (W.kas_descPart n z p)).1<=z/\Up c (aE c (W.kas_descPart n z p)).2 (aE c (W.kas_descPart n z p)).1:=by
 unfold W.kas_descPart;rw[cL]
 obtain ⟨a1,a2,a3,a4,a5,a6⟩:=g0 L (z - (n + 1)) p (n + 1) 0 (by omega) (by omega) (by omega) h (fun i j b1 b2 b3 b4=>by
  have:i=j:=by omega
  subst this
  exact L.rf _)
 generalize aE c (W.kas_desc (z-(n+1)) p (n+1) 0)=r at a1 a2 a3 a4 a5 a6 ⊢;split
 ·exact kU L a2 (by omega) (by rw[W.kas_rev_size];omega) (tQ L (by omega) a5 a6)
 ·exact kU L a2 (by omega) (by omega) a5
theorem kT{p:Array Nat}:∀f k,aE c (W.kas_asc p f k)=k+f\/c (p.getD (aE c (W.kas_asc p f k)) 0) (p.getD (aE c (W.kas_asc p f k)-1) 0)=true
 |0,k=>.inl rfl
 |f+1,k=>by
  unfold W.kas_asc;simp only[aE]
  cases q:c (p.getD k 0) (p.getD (k-1) 0) with
  |true=>exact .inr (by simpa[aE] using q)
  |false=>
   simp only[Bool.false_eq_true,if_false];rcases kT f (k+1) with h|h
   ·exact .inl (by rw[h];omega)
   ·exact .inr h
theorem sX{p:Array Nat}{z:Nat}(h1:1<=z)(hz:z=p.size):(aE c (W.kas_count z p)).2.size=z/\1<=(aE c (W.kas_count z p)).1/\(aE c (W.kas_count z p)).1<=z/\Up c (aE c (W.kas_count z p)).2 (aE c (W.kas_count z p)).1:=by
 unfold W.kas_count;rw[cL];obtain⟨a1,a2,a3⟩:=nE L (p:=p) (z-1) 1 (Nat.le_refl _) (xj L p);have a4:=kT L (p:=p) (z-1) 1;generalize aE c (W.kas_asc p (z-1) 1)=n at a1 a2 a3 a4 ⊢;by_cases e:(n == z)=true
 ·rw[if_pos e]
  have:n=z:=by simpa using e
  exact⟨hz.symm,a2,by show n<=z;omega,a1⟩
 ·rw[if_neg e]
  have hne:n≠z:=by simpa using e
  have st:c (p.getD n 0) (p.getD (n-1) 0)=true:=by
   rcases a4 with h|h
   ·exact absurd h (by omega)
   ·exact h
  by_cases h2:n>1
  ·rw[if_pos h2]
   simp only[aE]
   cases q:c (p.getD 0 0) (p.getD (n-1) 0) with
   |true=>exact⟨hz.symm,a2,by show n<=z;omega,a1⟩
   |false=>
    simp only[Bool.false_eq_true,if_false]
    have al:∀i j,i<n->j<n->c (p.getD i 0) (p.getD j 0)=false:=fun i j hi hj=>by
     have b1:c (p.getD i 0) (p.getD 0 0)=false->True:=fun _=>trivial;have b2:=a1 j (n-1) (by omega) (by omega)
     have b3:=a1 0 i (by omega) (by omega)
     have b4:=a1 i (n-1) (by omega) (by omega)
     have b5:=a1 0 j (by omega) (by omega)
     have up1:c (p.getD (n-1) 0) (p.getD j 0)=false:=a1 j (n-1) (by omega) (by omega)
     have x1:c (p.getD 0 0) (p.getD j 0)=false:=L.tr (p.getD j 0) (p.getD (n-1) 0) (p.getD 0 0) up1 q;exact L.tr (p.getD j 0) (p.getD 0 0) (p.getD i 0) x1 b3
    have d0:Dn c (W.kas_rev p 0 n) n:=fun i j hij hj=>by
     rw[aO (by omega),aO (by omega),if_pos (by omega),if_pos (by omega)]
     exact al _ _ (by omega) (by omega)
    have d1 : Dn c (W.kas_rev p 0 n) (n + 1):=fQ L d0 (by omega) (by
     rw[aO (by omega),aO (by omega),if_pos (by omega),if_neg (by omega)]
     exact L.tr _ (p.getD (n-1) 0) _ (L.as _ _ st) (al _ _ (by omega) (by omega)))
    exact gA L (by omega) (by omega) (by rw[W.kas_rev_size];exact hz) d1
  ·rw[if_neg h2]
   have n1:n=1:=by omega
   subst n1
   have d0:Dn c p 1:=fun i j hij hj=>by
    have:i=j:=by omega
    subst this;exact L.rf _
   exact gA L (by omega) (by omega) hz (fQ L d0 (by omega) (L.as _ _ st))
theorem uC{z:Nat}(h1:1<=z):Up c (aE c (W.kas_sort z)) z:=by
 unfold W.kas_sort;rw[cL];obtain⟨a1,a2,a3,a4⟩:=sX L (p:=List.toArray (List.range z)) h1 (by simp)
 generalize aE c (W.kas_count z (List.toArray (List.range z)))=r at a1 a2 a3 a4 ⊢;split
 ·rw[show max r.1 1=r.1 by omega]
  have:=tF L (z-r.1) r.2 r.1 (by omega) a4
  rwa [show r.1+(z-r.1)=z by omega] at this
 ·have:r.1=z:=by omega
  rw[this] at a4;exact a4
end
noncomputable def bi:List Int->List Int->Bool
 | [],[]=>false
 | [],_::_=>true
 |_::_,[]=>false
 |x::xs,y::ys=>if x=y then bi xs ys else decide (x<y)
theorem gX:∀x y:List Int,ltZ x y=bi x y
 | [],[]=>rfl
 | [],_::_=>by simp[ltZ,ltF,bi]
 |_::_,[]=>by simp[ltZ,ltF,bi]
 |x::xs,y::ys=>by
  have:=gX xs ys;unfold ltZ at this ⊢;unfold ltF bi;have e:decide ((x::xs).length<(y::ys).length)=decide (xs.length<ys.length):=by simp
  rw[e,this]
theorem mP:∀x y:List Int,bi x y=true->bi y x=false
 | [],[],h=>by simp[bi] at h
 | [],_::_,_=>rfl
 |_::_,[],h=>by simp[bi] at h
 |x::xs,y::ys,h=>by
  unfold bi at h ⊢;by_cases e:x=y
  ·rw[if_pos e] at h;rw[if_pos e.symm];exact mP xs ys h
  ·rw[if_neg e] at h;rw[if_neg (Ne.symm e)]
   simp at h ⊢;omega
theorem ng:∀x y z:List Int,bi y x=false->bi z y=false->bi z x=false
 | [],_,[],_,_=>rfl
 | [],_,_::_,_,_=>rfl
 |_::_,[],_,h,_=>by simp[bi] at h
 |_::_,_::_,[],_,h=>by simp[bi] at h
 |x::xs,y::ys,z::zs,h1,h2=>by
  unfold bi at h1 h2 ⊢;by_cases e1:y=x
  ·subst e1
   rw[if_pos rfl] at h1;by_cases e2:z=y
   ·subst e2
    rw[if_pos rfl] at h2 ⊢;exact ng xs ys zs h1 h2
   ·rw[if_neg e2] at h2 ⊢;exact h2
  ·rw[if_neg e1] at h1
   simp at h1;by_cases e2:z=y
   ·subst e2
    rw[if_neg e1];simpa using h1
   ·rw[if_neg e2] at h2
    simp at h2;rw[if_neg (by omega)]
    simp;omega
theorem mU:∀x y:List Int,bi y x=false->bi x y=false->x=y
 | [],[],_,_=>rfl
 | [],_::_,_,h=>by simp[bi] at h
 |_::_,[],h,_=>by simp[bi] at h
 |x::xs,y::ys,h1,h2=>by
  unfold bi at h1 h2;by_cases e:x=y
  ·subst e
   rw[if_pos rfl] at h1 h2;rw[mU xs ys h1 h2]
  ·rw[if_neg e] at h2
   rw[if_neg (Ne.symm e)] at h1;simp at h1 h2;omega
theorem mM(W:List (List Int)):bW fun i j=>ltZ (W.getD i []) (W.getD j []) where
 as i j h:=by rw[gX] at h ⊢;exact mP _ _ h
 tr i j k h1 h2:=by rw[gX] at h1 h2 ⊢;exact ng _ _ _ h1 h2
noncomputable def Ris(W:List (List Int)):Prop:=W.Pairwise fun a b=>bi b a=false
theorem lS(W:List (List Int)):Ris (fi W):=by
 have hs:(cA W).size=W.length:=by
  have:=(cI W).size_eq;simpa using this
 unfold Ris;rw[List.pairwise_iff_getElem];intro i j hi hj hij;have hl:(fi W).length=W.length:=cR W
 have at_:∀k (hk:k<(fi W).length),(fi W)[k]=W.getD ((cA W).getD k 0) []:=fun k hk=>by
  have hk2:k<(cA W).size:=by omega
  have q:(fi W)[k]?=some (W.getD ((cA W).getD k 0) []):=by
   unfold fi;rw[List.getElem?_map,Array.getElem?_toList,Array.getElem?_eq_getElem hk2,Array.getD_eq_getD_getElem?,Array.getElem?_eq_getElem hk2];rfl
  exact(List.getElem?_eq_some_iff.mp q).2
 rw[at_ i hi,at_ j hj];by_cases h2:W.length<2
 ·omega
 ·have:=uC (mM W) (z:=W.length) (by omega) i j (by omega) (by omega)
  have e:cA W=aE (fun i j=>ltZ (W.getD i []) (W.getD j [])) (PySem.W.kas_sort W.length):=by unfold cA;rw[if_neg h2]
  rw[←e] at this
  rw[←gX]
  exact this
end L2
namespace L2
open PySem PySem.Spec PyProof.Rows
inductive AV where
 |d (x:D)
 |r (v:V)
 |p (v:V) (P:Hp->Prop)
inductive OC where
 |own (xs:List AV)
 |frz (ds:List D)
 |dic (kvs:List (Str×AV))
noncomputable abbrev Om:=Addr->Option OC
noncomputable abbrev SA:=List (Option AV)
noncomputable abbrev Fs:=Addr->Bool
noncomputable def Om.put(ω:Om)(l:Addr)(c:OC):Om:=fun b=>if b=l then some c else ω b
theorem Om.Aa{ω:Om}{l:Addr}{c:OC}:ω.put l c l=some c:=by unfold Om.put;rw[if_pos rfl]
theorem Om.z9{ω:Om}{l b:Addr}{c:OC}(h:b≠l):ω.put l c b=ω b:=by unfold Om.put;rw[if_neg h]
theorem Om.Ab{ω:Om}{l:Addr}{c e:OC}:(ω.put l c).put l e=ω.put l e:=by funext b;unfold Om.put;split<;>rfl
theorem Om.Ae{ω:Om}{l p:Addr}{c e:OC}(h:p≠l):(ω.put l c).put p e=(ω.put p e).put l c:=by
 funext b;unfold Om.put;split<;>split<;>simp_all
noncomputable def ow:Option OC->Bool
 |some (.own _)=>true
 |some (.dic _)=>true
 |_=>false
noncomputable def Fs.add(F:Fs)(l:Addr):Fs:=fun b=>decide (b=l) || F b
noncomputable def cut(F:Fs)(H:Hp)(ω:Om):Hp:=fun b=>if (ow (ω b) || F b)=true then none else H b
noncomputable def RV(G:Hp):AV->V->Prop
 |.d x,v=>Dat G x v
 |.r u,v=>v=u
 |.p u P,v=>v=u/\∀G',bK G G'->P G'
noncomputable def RVs(G:Hp):List AV->List V->Prop
 | [],vs=>vs=[]
 |a::as,vs=>∃v r,vs=v::r/\RV G a v/\RVs G as r
noncomputable def RS(G:Hp)(ρ:SA)(σ:St):Prop:=ρ.length=σ.length/\∀(i:Nat)(a:AV),ρ[i]?=some (some a)->∃v,σ[i]?=some (some v)/\RV G a v
noncomputable def RKs(G:Hp):List (Str×AV)->List (Key×V)->Prop
 | [],ks=>ks=[]
 |p::r,ks=>∃v r',ks=((Sum.inr p.1:Key),v)::r'/\RV G p.2 v/\RKs G r r'
structure Rep(F:Fs)(H:Hp)(ω:Om):Prop where
 own:∀l xs,ω l=some (.own xs)->∃vs,H l=some (.lst vs)/\RVs (cut F H ω) xs vs
 frz:∀l ds,ω l=some (.frz ds)->Dat (cut F H ω) (.lst ds) (.ref l)
 hid:∀b,F b=true->ω b=none/\∃vs,H b=some (.lst vs)
 dic:∀l kvs,ω l=some (.dic kvs)->∃ks,H l=some (.dK ks)/\RKs (cut F H ω) kvs ks
structure Fr(F:Fs)(H:Hp)(ω:Om)(H':Hp)(ω':Om):Prop where
 st:∀b o,ow (ω b)=false->F b=false->H b=some o->H' b=some o/\ow (ω' b)=false
 hd:∀b,F b=true->H' b=H b
section
variable{F:Fs}{H H1 H2 H':Hp}{ω ω1 ω2 ω':Om}{G G':Hp}
theorem Fr.refl:Fr F H ω H ω:=⟨fun _ _ h _ e=>⟨e,h⟩,fun _ _=>rfl⟩
theorem Fr.trans(a:Fr F H ω H1 ω1)(b:Fr F H1 ω1 H2 ω2):Fr F H ω H2 ω2:=
 ⟨fun c o h f e=>let ⟨x,y⟩:=a.st c o h f e;b.st c o y f x,fun c h=>(b.hd c h).trans (a.hd c h)⟩
theorem aJ{b:Addr}{o:HO}:cut F H ω b=some o↔ow (ω b)=false/\F b=false/\H b=some o:=by
 unfold cut;cases ow (ω b)<;>cases F b<;>simp
theorem Fr.same(a:Fr F H ω H' ω'):bK (cut F H ω) (cut F H' ω'):=fun b o e=>by
 obtain⟨h,f,e⟩:=aJ.mp e;obtain⟨x,y⟩:=a.st b o h f e;exact aJ.mpr ⟨y,f,x⟩
theorem az:bK (cut F H ω) H:=fun b o e=>(aJ.mp e).2.2
theorem RV.same(e:bK G G'):∀ {a:AV} {v:V},RV G a v->RV G' a v
 |.d _,_,h=>Dat.same e h
 |.r _,_,h=>h
 |.p _ _,_,h=>⟨h.1,fun G2 s=>h.2 G2 (e.trans s)⟩
theorem RVs.same(e:bK G G'):∀ {as:List AV} {vs:List V},RVs G as vs->RVs G' as vs
 | [],_,h=>h
 |_::_,_,⟨v,r,h1,h2,h3⟩=>⟨v,r,h1,h2.same e,h3.same e⟩
theorem RKs.same(e:bK G G'):∀ {as:List (Str×AV)} {vs:List (Key×V)},RKs G as vs->RKs G' as vs
 | [],_,h=>h
 |_::_,_,⟨v,r,h1,h2,h3⟩=>⟨v,r,h1,h2.same e,h3.same e⟩
theorem RS.same(e:bK G G'){ρ:SA}{σ:St}(h:RS G ρ σ):RS G' ρ σ:=⟨h.1,fun i a q=>let ⟨v,x,y⟩:=h.2 i a q;⟨v,x,y.same e⟩⟩
theorem RVs.length:∀ {as:List AV} {vs:List V},RVs G as vs->vs.length=as.length
 | [],_,h=>by cases h;rfl
 |_::_,_,⟨v,r,h1,_,h3⟩=>by subst h1;simp[h3.length]
theorem RVs.get:∀ {as:List AV} {vs:List V} {i:Nat} {a:AV},RVs G as vs->as[i]?=some a->∃v,vs[i]?=some v/\RV G a v
 | [],_,_,_,_,e=>by simp at e
 |_::_,_,0,_,⟨v,r,h1,h2,_⟩,e=>by subst h1;simp at e;subst e;exact⟨v,rfl,h2⟩
 |_::_,_,i+1,_,⟨v,r,h1,_,h3⟩,e=>by subst h1;simp at e;obtain⟨v',e1,e2⟩:=h3.get e;exact⟨v',by simpa using e1,e2⟩
theorem RVs.append:∀ {as bs:List AV} {vs us:List V},RVs G as vs->RVs G bs us->RVs G (as++bs) (vs++us)
 | [],_,_,_,h,k=>by cases h;exact k
 |_::_,_,_,_,⟨v,r,h1,h2,h3⟩,k=>by subst h1;exact⟨v,_,rfl,h2,h3.append k⟩
theorem RVs.one{a:AV}{v:V}(h:RV G a v):RVs G [a] [v]:=⟨v,[],rfl,h,rfl⟩
theorem RVs.dats:∀ {ds:List D} {vs:List V},RVs G (ds.map AV.d) vs↔aj G ds vs
 | [],_=>by simp[RVs,aj]
 |d::ds,vs=>by
  simp only[List.map_cons,RVs,aj,RV];constructor
  ·rintro⟨v,r,h1,h2,h3⟩;exact⟨v,r,h1,h2,RVs.dats.mp h3⟩
  ·rintro⟨v,r,h1,h2,h3⟩;exact⟨v,r,h1,h2,RVs.dats.mpr h3⟩
theorem RVs.set{as:List AV}{vs:List V}(i:Nat){a:AV}{v:V}(h:RVs G as vs)(k:RV G a v):RVs G (as.set i a) (vs.set i v):=by
 induction as generalizing vs i with
 |nil=>cases h;exact rfl
 |cons b as ih=>
  obtain⟨u,r,rfl,h2,h3⟩:=h
  cases i with
  |zero=>exact⟨v,r,rfl,k,h3⟩
  |succ i=>exact⟨u,_,rfl,h2,ih i h3⟩
theorem Rep.free(R:Rep F H ω){p:Addr}(h:H p=none):ω p=none/\F p=false:=by
 constructor
 ·cases e:ω p with
  |none=>rfl
  |some c=>cases c with
   |own xs=>obtain⟨vs,q,_⟩:=R.own p xs e;rw[h] at q;cases q
   |frz ds=>
    have q:=R.frz p ds e;simp only[Dat] at q;obtain⟨a,xs,e1,e2,_⟩:=q;cases e1;rw[az _ _ e2] at h;cases h
   |dic kvs=>obtain⟨vs,q,_⟩:=R.dic p kvs e;rw[h] at q;cases q
 ·cases e:F p with
  |false=>rfl
  |true=>obtain⟨_,o,q⟩:=R.hid p e;rw[h] at q;cases q
theorem Rep.lay(R:Rep F H ω){p:Addr}{o:HO}(h:H p=none):Rep F (upd H p o) ω/\Fr F H ω (upd H p o) ω/\cut F (upd H p o) ω p=some o:=by
 have hs:=iI (o:=o) h
 have fr:Fr F H ω (upd H p o) ω:=⟨fun b u x f e=>⟨hs _ _ e,x⟩,fun b f=>by
  obtain⟨_,u,q⟩:=R.hid b f
  rw[aq (aH q h)]⟩
 obtain⟨f1,f2⟩:=R.free h;refine⟨⟨fun l xs e=>?_,fun l ds e=>(R.frz l ds e).same fr.same,fun b f=>?_,fun l ks e=>(by obtain⟨vs,e1,e2⟩:=R.dic l ks e;exact⟨vs,hs _ _ e1,e2.same fr.same⟩)⟩,fr,aJ.mpr ⟨by rw[f1];rfl,f2,bu⟩⟩
 ·obtain⟨vs,e1,e2⟩:=R.own l xs e
  exact⟨vs,hs _ _ e1,e2.same fr.same⟩
 ·obtain⟨x,u,q⟩:=R.hid b f
  exact⟨x,u,hs _ _ q⟩
theorem pM{l:Addr}{xs ys:List AV}{o:HO}(h:ω l=some (.own xs)):cut F (upd H l o) (ω.put l (.own ys))=cut F H ω:=by
 funext b
 unfold cut Om.put;by_cases hb:b=l
 ·subst hb;rw[if_pos rfl,h];simp[ow]
 ·rw[if_neg hb,aq hb]
theorem Rep.write(R:Rep F H ω){l:Addr}{xs ys:List AV}{vs:List V}(h:ω l=some (.own xs))(hv:RVs (cut F H ω) ys vs):
  Rep F (upd H l (.lst vs)) (ω.put l (.own ys))/\Fr F H ω (upd H l (.lst vs)) (ω.put l (.own ys)):=by
 have c:=pM (F:=F) (H:=H) (ys:=ys) (o:=.lst vs) h
 refine ⟨⟨fun k zs e=>?_,fun k ds e=>?_,fun b f=>?_,fun k ks e=>(by
  have hk:k≠l:=fun z=>(by subst z;rw[Om.Aa] at e;cases e)
  rw[Om.z9 hk] at e;rw[c,aq hk];exact R.dic k ks e)⟩,fun b o x f e=>?_,fun b f=>?_⟩
 ·rw[c]
  by_cases hk:k=l
  ·subst hk;rw[Om.Aa] at e;cases e;exact⟨vs,bu,hv⟩
  ·rw[Om.z9 hk] at e;rw[aq hk];exact R.own k zs e
 ·rw[c]
  by_cases hk:k=l
  ·subst hk;rw[Om.Aa] at e;cases e
  ·rw[Om.z9 hk] at e;exact R.frz k ds e
 ·obtain⟨x,o,q⟩:=R.hid b f
  have hb:b≠l:=fun z=>by subst z;rw[h] at x;cases x
  exact⟨by rw[Om.z9 hb];exact x,o,by rw[aq hb];exact q⟩
 ·have hb:b≠l:=fun z=>by subst z;rw[h] at x;cases x
  rw[Om.z9 hb,aq hb];exact⟨e,x⟩
 ·obtain⟨x,o,q⟩:=R.hid b f
  have hb:b≠l:=fun z=>by subst z;rw[h] at x;cases x
  exact aq hb
theorem Rep.mk'(R:Rep F H ω){l:Addr}{xs:List AV}{vs:List V}(h:H l=none)(hv:RVs (cut F H ω) xs vs):
  Rep F (upd H l (.lst vs)) (ω.put l (.own xs))/\Fr F H ω (upd H l (.lst vs)) (ω.put l (.own xs)):=by
 obtain⟨f1,f2⟩:=R.free h
 have c:cut F (upd H l (.lst vs)) (ω.put l (.own xs))=cut F H ω:=by
  funext b
  unfold cut Om.put;by_cases hb:b=l
  ·subst hb;rw[if_pos rfl,f1,f2,h];simp[ow]
  ·rw[if_neg hb,aq hb]
 refine ⟨⟨fun k zs e=>?_,fun k ds e=>?_,fun b f=>?_,fun k ks e=>(by
  have hk:k≠l:=fun z=>(by subst z;rw[Om.Aa] at e;cases e)
  rw[Om.z9 hk] at e;rw[c,aq hk];exact R.dic k ks e)⟩,fun b o x f e=>?_,fun b f=>?_⟩
 ·rw[c]
  by_cases hk:k=l
  ·subst hk;rw[Om.Aa] at e;cases e;exact⟨vs,bu,hv⟩
  ·rw[Om.z9 hk] at e;rw[aq hk];exact R.own k zs e
 ·rw[c]
  by_cases hk:k=l
  ·subst hk;rw[Om.Aa] at e;cases e
  ·rw[Om.z9 hk] at e;exact R.frz k ds e
 ·obtain⟨x,o,q⟩:=R.hid b f
  have hb:b≠l:=aH q h;exact⟨by rw[Om.z9 hb];exact x,o,by rw[aq hb];exact q⟩
 ·have hb:b≠l:=aH e h
  rw[Om.z9 hb,aq hb];exact⟨e,x⟩
 ·obtain⟨x,o,q⟩:=R.hid b f
  exact aq (aH q h)
theorem Rep.freeze(R:Rep F H ω){l:Addr}{ds:List D}(h:ω l=some (.own (ds.map AV.d))):
  Rep F H (ω.put l (.frz ds))/\Fr F H ω H (ω.put l (.frz ds))/\Dat (cut F H (ω.put l (.frz ds))) (.lst ds) (.ref l):=by
 have fr:Fr F H ω H (ω.put l (.frz ds)):=⟨fun b o x f e=>⟨e,by
  by_cases hb:b=l
  ·subst hb;rw[h] at x;cases x
  ·rw[Om.z9 hb];exact x⟩,fun _ _=>rfl⟩
 obtain⟨vs,e1,e2⟩:=R.own l _ h
 have hF:F l=false:=by
  cases e:F l with
  |false=>rfl
  |true=>have:=(R.hid l e).1;rw[h] at this;cases this
 have dl:Dat (cut F H (ω.put l (.frz ds))) (.lst ds) (.ref l):=by
  simp only[Dat];exact⟨l,vs,rfl,aJ.mpr ⟨by rw[Om.Aa];rfl,hF,e1⟩,(RVs.dats.mp e2).same fr.same⟩
 refine ⟨⟨fun k zs e=>?_,fun k es e=>?_,fun b f=>?_,fun k ks e=>(by
  have hk:k≠l:=fun z=>(by subst z;rw[Om.Aa] at e;cases e)
  rw[Om.z9 hk] at e;obtain⟨us,q1,q2⟩:=R.dic k ks e;exact⟨us,q1,q2.same fr.same⟩)⟩,fr,dl⟩
 ·by_cases hk:k=l
  ·subst hk;rw[Om.Aa] at e;cases e
  ·rw[Om.z9 hk] at e
   obtain⟨us,q1,q2⟩:=R.own k zs e;exact⟨us,q1,q2.same fr.same⟩
 ·by_cases hk:k=l
  ·subst hk;rw[Om.Aa] at e;cases e;exact dl
  ·rw[Om.z9 hk] at e;exact(R.frz k es e).same fr.same
 ·obtain⟨x,o,q⟩:=R.hid b f
  have hb:b≠l:=fun z=>by subst z;rw[h] at x;cases x
  exact⟨by rw[Om.z9 hb];exact x,o,q⟩
theorem Rep.hide(R:Rep F H ω){l:Addr}{vs:List V}(h:H l=none):Rep (F.add l) (upd H l (.lst vs)) ω/\cut (F.add l) (upd H l (.lst vs)) ω=cut F H ω:=by
 obtain⟨f1,f2⟩:=R.free h
 have c:cut (F.add l) (upd H l (.lst vs)) ω=cut F H ω:=by
  funext b
  unfold cut Fs.add;by_cases hb:b=l
  ·subst hb;simp[h]
  ·rw[aq hb];simp[hb]
 refine⟨⟨fun k zs e=>?_,fun k ds e=>?_,fun b f=>?_,fun k ks e=>(by rw[c];obtain⟨us,q1,q2⟩:=R.dic k ks e;exact⟨us,by rw[aq (aH q1 h)];exact q1,q2⟩)⟩,c⟩
 ·rw[c]
  obtain⟨us,q1,q2⟩:=R.own k zs e;exact⟨us,by rw[aq (aH q1 h)];exact q1,q2⟩
 ·rw[c];exact R.frz k ds e
 ·by_cases hb:b=l
  ·subst hb;exact⟨f1,_,bu⟩
  ·have f':F b=true:=by simpa[Fs.add,hb] using f
   obtain⟨x,o,q⟩:=R.hid b f';exact⟨x,o,by rw[aq hb];exact q⟩
theorem Rep.hwrite(R:Rep F H ω){l:Addr}{vs:List V}(h:F l=true):Rep F (upd H l (.lst vs)) ω/\cut F (upd H l (.lst vs)) ω=cut F H ω:=by
 have c:cut F (upd H l (.lst vs)) ω=cut F H ω:=by
  funext b
  unfold cut;by_cases hb:b=l
  ·subst hb;simp[h]
  ·rw[aq hb]
 refine ⟨⟨fun k zs e=>?_,fun k ds e=>?_,fun b f=>?_,fun k ks e=>(by
  have hk:k≠l:=fun z=>(by subst z;rw[(R.hid _ h).1] at e;cases e)
  rw[c,aq hk];exact R.dic k ks e)⟩,c⟩
 ·rw[c]
  obtain⟨us,q1,q2⟩:=R.own k zs e;have hk:k≠l:=fun z=>by subst z;rw[(R.hid _ h).1] at e;cases e
  exact⟨us,by rw[aq hk];exact q1,q2⟩
 ·rw[c];exact R.frz k ds e
 ·by_cases hb:b=l
  ·subst hb;exact⟨(R.hid _ h).1,_,bu⟩
  ·obtain⟨x,o,q⟩:=R.hid b f
   exact⟨x,o,by rw[aq hb];exact q⟩
theorem Rep.unhide{l:Addr}{vs:List V}(R:Rep (F.add l) H ω)(hF:F l=false)(h:H l=some (.lst vs)):
  Rep F H ω/\bK (cut (F.add l) H ω) (cut F H ω)/\cut F H ω l=some (.lst vs):=by
 have hl:ω l=none:=(R.hid l (by simp[Fs.add])).1
 have sm:bK (cut (F.add l) H ω) (cut F H ω):=fun b o e=>by
  obtain⟨x,f,e⟩:=aJ.mp e;refine aJ.mpr ⟨x,?_,e⟩;unfold Fs.add at f
  cases q:F b with
  |false=>rfl
  |true=>rw[q] at f;simp at f
 refine⟨⟨fun k zs e=>?_,fun k ds e=>(R.frz k ds e).same sm,fun b f=>R.hid b (by simp[Fs.add,f]),fun k ks e=>(by obtain⟨us,q1,q2⟩:=R.dic k ks e;exact⟨us,q1,q2.same sm⟩)⟩,sm,aJ.mpr ⟨by rw[hl];rfl,hF,h⟩⟩
 obtain⟨us,q1,q2⟩:=R.own k zs e;exact⟨us,q1,q2.same sm⟩
theorem Rep.Au{l:Addr}{vs:List V}{xs:List AV}(R:Rep (F.add l) H ω)(hF:F l=false)(h:H l=some (.lst vs))(hv:RVs (cut (F.add l) H ω) xs vs):
  Rep F H (ω.put l (.own xs))/\bK (cut (F.add l) H ω) (cut F H (ω.put l (.own xs))):=by
 have hl:ω l=none:=(R.hid l (by simp[Fs.add])).1
 have sm:bK (cut (F.add l) H ω) (cut F H (ω.put l (.own xs))):=fun b o e=>by
  obtain⟨x,f,e⟩:=aJ.mp e;have hb:b≠l:=fun z=>by subst z;simp[Fs.add] at f
  refine aJ.mpr ⟨by rw[Om.z9 hb];exact x,?_,e⟩
  unfold Fs.add at f
  cases q:F b with
  |false=>rfl
  |true=>rw[q] at f;simp at f
 refine ⟨⟨fun k zs e=>?_,fun k ds e=>?_,fun b f=>?_,fun k ks e=>(by
  have hk:k≠l:=fun z=>(by subst z;rw[Om.Aa] at e;cases e)
  rw[Om.z9 hk] at e;obtain⟨us,q1,q2⟩:=R.dic k ks e;exact⟨us,q1,q2.same sm⟩)⟩,sm⟩
 ·by_cases hk:k=l
  ·subst hk;rw[Om.Aa] at e;cases e;exact⟨vs,h,hv.same sm⟩
  ·rw[Om.z9 hk] at e
   obtain⟨us,q1,q2⟩:=R.own k zs e;exact⟨us,q1,q2.same sm⟩
 ·by_cases hk:k=l
  ·subst hk;rw[Om.Aa] at e;cases e
  ·rw[Om.z9 hk] at e;exact(R.frz k ds e).same sm
 ·have hb:b≠l:=fun z=>by subst z;rw[f] at hF;cases hF
  rw[Om.z9 hb];exact R.hid b (by simp[Fs.add,f])
end
noncomputable def LP{α β:Type}(R:Hp->α->β->Prop)(F:Fs)(H:Hp)(ω:Om)(Q':α->Om->Prop)(Q:β->Hp->Prop):Prop:=
 ∀a ω' v H',Rep F H' ω'->Fr F H ω H' ω'->R (cut F H' ω') a v->Q' a ω'->Q v H'
theorem LP.fr{α β:Type}{R:Hp->α->β->Prop}{F:Fs}{H H1:Hp}{ω ω1:Om}{Q':α->Om->Prop}{Q:β->Hp->Prop}(k:LP R F H ω Q' Q)(f:Fr F H ω H1 ω1):LP R F H1 ω1 Q' Q:=
 fun a ω' v H' rp fr rv q=>k a ω' v H' rp (f.trans fr) rv q
structure Ref{α β:Type}(R:Hp->α->β->Prop)(t:St->Hp->(β->Hp->Prop)->Prop)(t':SA->Om->(α->Om->Prop)->Prop):Prop where
 run:∀(F:Fs)(H:Hp)(ω:Om)(σ:St)(ρ:SA)(Q:β->Hp->Prop)(Q':α->Om->Prop),Rep F H ω->RS (cut F H ω) ρ σ->t' ρ ω Q'->LP R F H ω Q' Q->t σ H Q
theorem Ref.go{α β:Type}{R:Hp->α->β->Prop}{t:St->Hp->(β->Hp->Prop)->Prop}{t':SA->Om->(α->Om->Prop)->Prop}(h:Ref R t t'){F:Fs}{H:Hp}{ω:Om}{σ:St}{ρ:SA}{Q:β->Hp->Prop}{Q':α->Om->Prop}(rp:Rep F H ω)(rs:RS (cut F H ω) ρ σ)(w:t' ρ ω Q')(k:∀a ω1 v H1,Rep F H1 ω1->Fr F H ω H1 ω1->RS (cut F H1 ω1) ρ σ->R (cut F H1 ω1) a v->Q' a ω1->Q v H1):t σ H Q:=
 h.run F H ω σ ρ Q Q' rp rs w fun a ω1 v H1 rp1 fr1 rv q=>k a ω1 v H1 rp1 fr1 (rs.same fr1.same) rv q
noncomputable abbrev AE:=SA->Om->(AV->Om->Prop)->Prop
noncomputable abbrev AT:=SA->Om->(Bool->Om->Prop)->Prop
noncomputable abbrev AA:=SA->Om->(List AV->Om->Prop)->Prop
noncomputable def REq{α:Type}(_:Hp)(a b:α):Prop:=a=b
noncomputable abbrev aY(t:TE)(t':AE):Prop:=Ref RV t t'
noncomputable abbrev d9(t:TT)(t':AT):Prop:=Ref REq t t'
noncomputable abbrev fP(t:TA)(t':AA):Prop:=Ref RVs t t'
structure bp where
 nx:SA->Om->Prop
 rt:AV->Om->Prop
 bk:SA->Om->Prop:=fun _ _=>False
 ct:SA->Om->Prop:=fun _ _=>False
noncomputable abbrev AS:=bp->SA->Om->Prop
structure LE(F:Fs)(H:Hp)(ω:Om)(D':bp)(D:ee):Prop where
 nx:LP RS F H ω D'.nx D.nx
 rt:LP RV F H ω D'.rt D.rt
 bk:LP RS F H ω D'.bk D.bk
 ct:LP RS F H ω D'.ct D.ct
theorem LE.fr{F:Fs}{H H1:Hp}{ω ω1:Om}{D':bp}{D:ee}(k:LE F H ω D' D)(f:Fr F H ω H1 ω1):LE F H1 ω1 D' D:=⟨k.nx.fr f,k.rt.fr f,k.bk.fr f,k.ct.fr f⟩
structure eW(t:TS)(t':AS):Prop where
 run:∀(F:Fs)(H:Hp)(ω:Om)(σ:St)(ρ:SA)(D:ee)(D':bp),Rep F H ω->RS (cut F H ω) ρ σ->t' D' ρ ω->LE F H ω D' D->t D σ H
noncomputable abbrev AG:=AV->SA->Om->(SA->Om->Prop)->Prop
noncomputable abbrev AGs:=List AV->SA->Om->(SA->Om->Prop)->Prop
structure jM(g:TG)(g':AG):Prop where
 run:∀(F:Fs)(H:Hp)(ω:Om)(σ:St)(ρ:SA)(v:V)(a:AV)(Q:St->Hp->Prop)(Q':SA->Om->Prop),Rep F H ω->RS (cut F H ω) ρ σ->RV (cut F H ω) a v->g' a ρ ω Q'->LP RS F H ω Q' Q->g v σ H Q
structure zR(g:TGs)(g':AGs):Prop where
 run:∀(F:Fs)(H:Hp)(ω:Om)(σ:St)(ρ:SA)(v:List V)(a:List AV)(Q:St->Hp->Prop)(Q':SA->Om->Prop),Rep F H ω->RS (cut F H ω) ρ σ->RVs (cut F H ω) a v->g' a ρ ω Q'->LP RS F H ω Q' Q->g v σ H Q
noncomputable abbrev ASp:=List AV->Om->(AV->Om->Prop)->Prop
noncomputable def fL(sp:ASp):Sp:=fun vs H Q _=>∃(F:Fs)(xs:List AV)(ω:Om)(Q':AV->Om->Prop),Rep F H ω/\RVs (cut F H ω) xs vs/\sp xs ω Q'/\LP RV F H ω Q' Q
noncomputable def vC:AS:=fun D ρ ω=>D.nx ρ ω
noncomputable def uf(t u:AS):AS:=fun D ρ ω=>t { D with nx:=u D } ρ ω
noncomputable def vS(te:AE):AS:=fun D ρ ω=>te ρ ω fun _ ω1=>D.nx ρ ω1
noncomputable def x0(te:AE):AS:=fun D ρ ω=>te ρ ω D.rt
noncomputable def zf(c:AT)(t u:AS):AS:=fun D ρ ω=>c ρ ω fun b ω1=>if b=true then t D ρ ω1 else u D ρ ω1
noncomputable def x8(te:AE)(g:AG):AS:=fun D ρ ω=>te ρ ω fun x ω1=>g x ρ ω1 D.nx
noncomputable def iK(i:Nat):AG:=fun v ρ ω Q=>Q (ρ.set i (some v)) ω
section
variable{t u:TS}{t' u':AS}{te:TE}{te':AE}{tc:TT}{tc':AT}{g:TG}{g':AG}{gs:TGs}{gs':AGs}
theorem RS.set{G:Hp}{ρ:SA}{σ:St}{i:Nat}{a:AV}{v:V}(h:RS G ρ σ)(r:RV G a v):RS G (ρ.set i (some a)) (σ.set i (some v)):=by
 refine⟨by simp[h.1],fun j b e=>?_⟩
 by_cases hj:j=i
 ·subst hj
  rw[List.getElem?_set] at e;rw[List.getElem?_set];simp only[if_true] at e ⊢;split at e
  ·rename_i hl
   cases e;rw[if_pos (h.1 ▸ hl)];exact⟨v,rfl,r⟩
  ·cases e
 ·rw[List.getElem?_set_ne (Ne.symm hj)] at e
  rw[List.getElem?_set_ne (Ne.symm hj)];exact h.2 j b e
theorem df:eW vk vC:=⟨fun F H ω σ ρ D D' rp rs h k=>k.nx ρ ω σ H rp .refl rs h⟩
theorem aM(h1:eW t t')(h2:eW u u'):eW (wQ t u) (uf t' u'):=⟨fun F H ω σ ρ D D' rp rs h k=>
 h1.run F H ω σ ρ _ _ rp rs h ⟨fun ρ1 ω1 σ1 H1 rp1 fr1 rs1 q=>h2.run F H1 ω1 σ1 ρ1 D D' rp1 rs1 q (k.fr fr1),k.rt,k.bk,k.ct⟩⟩
theorem q9(h:aY te te'):eW (pd te) (vS te'):=⟨fun F H ω σ ρ D D' rp rs w k=>h.go rp rs w fun a ω1 v H1 rp1 fr1 rs1 rv q=>k.nx ρ ω1 σ H1 rp1 fr1 rs1 q⟩
theorem cz(h:aY te te'):eW (ym te) (x0 te'):=⟨fun F H ω σ ρ D D' rp rs w k=>h.run F H ω σ ρ _ _ rp rs w k.rt⟩
theorem jR(hc:d9 tc tc')(h1:eW t t')(h2:eW u u'):eW (v7 tc t u) (zf tc' t' u'):=⟨fun F H ω σ ρ D D' rp rs w k=>
 hc.go rp rs w fun a ω1 v H1 rp1 fr1 rs1 rv q=>by
  cases (show a=v from rv)
  cases a with
  |true=>rw[if_pos rfl] at q ⊢;exact h1.run F H1 ω1 σ ρ D D' rp1 rs1 q (k.fr fr1)
  |false=>rw[if_neg Bool.false_ne_true] at q ⊢;exact h2.run F H1 ω1 σ ρ D D' rp1 rs1 q (k.fr fr1)⟩
theorem bo(h:aY te te')(hg:jM g g'):eW (qz te g) (x8 te' g'):=⟨fun F H ω σ ρ D D' rp rs w k=>h.go rp rs w fun a ω1 v H1 rp1 fr1 rs1 rv q=>
 hg.run F H1 ω1 σ ρ v a _ _ rp1 rs1 rv q (k.nx.fr fr1)⟩
theorem ay{i:Nat}:jM (kI i) (iK i):=⟨fun F H ω σ ρ v a Q Q' rp rs rv w k=>k _ ω _ H rp .refl (rs.set rv) w⟩
end
noncomputable def sK(G:Hp)(as:List AV)(J:It):Prop:=∀(F:Fs)(H:Hp)(ω:Om),Rep F H ω->bK G (cut F H ω)->J.stop as.length H /\
 ∀(i:Nat)(a:AV),as[i]?=some a->J.go i H/\∀x H',J.yld i H x H'->Rep F H' ω/\Fr F H ω H' ω/\RV (cut F H' ω) a x
noncomputable abbrev AI:=SA->Om->(List AV->Om->Prop)->Prop
noncomputable abbrev mL(t:TI)(t':AI):Prop:=Ref sK t t'
noncomputable def fe(g:AG)(tb:AS)(D:bp):List AV->SA->Om->Prop
 | [],ρ,ω=>D.nx ρ ω
 |a::as,ρ,ω=>g a ρ ω fun ρ1 ω1=>tb { nx:=fe g tb D as,ct:=fe g tb D as,bk:=D.nx,rt:=D.rt } ρ1 ω1
noncomputable def yp(wi:AI)(g:AG)(tb:AS):AS:=fun D ρ ω=>wi ρ ω fun as ω1=>fe g tb D as ρ ω1
theorem eR{α:Type}{as:List α}{i:Nat}(h:i<as.length):∃a,as[i]?=some a/\as.drop i=a::as.drop (i+1):=
 ⟨as[i],List.getElem?_eq_getElem h,List.drop_eq_getElem_cons h⟩
theorem oO{wi:TI}{wi':AI}{g:TG}{g':AG}{t:TS}{t':AS}(hi:mL wi wi')(hg:jM g g')(hb:eW t t'):eW (xB wi g t) (yp wi' g' t'):=⟨fun F H ω σ ρ D D' rp rs w k=>by
 rw[uq];refine hi.go rp rs w fun as ω1 J H1 rp1 fr1 rs1 it q=>?_;refine⟨fun i m σ2 H2=>m+i=as.length/\∃ρ2 ω2,Rep F H2 ω2/\RS (cut F H2 ω2) ρ2 σ2/\Fr F H1 ω1 H2 ω2/\fe g' t' D' (as.drop i) ρ2 ω2,⟨as.length,rfl,ρ,ω1,rp1,rs1,.refl,q⟩,?_⟩;rintro i m σ2 H2 ⟨hm,ρ2,ω2,rp2,rs2,fr2,q2⟩;obtain⟨stop,go⟩:=it F H2 ω2 rp2 fr2.same;by_cases hl:i<as.length
 ·obtain⟨a,ha,hd⟩:=eR hl
  rw[hd] at q2;obtain⟨g1,y1⟩:=go i a ha;refine .inr ⟨g1,fun σ' H'=>m-1+(i+1)=as.length/\∃ρ' ω',Rep F H' ω'/\RS (cut F H' ω') ρ' σ'/\Fr F H1 ω1 H' ω'/\fe g' t' D' (as.drop (i+1)) ρ' ω',fun σ' H' z=>⟨m-1,by omega,z⟩,fun x H' hy=>?_⟩
  obtain⟨rp3,fr3,rv3⟩:=y1 x H' hy;have fr13:=(fr2.trans fr3);refine hg.run F H' ω2 σ2 ρ2 x a _ _ rp3 (rs2.same fr3.same) rv3 q2 fun ρ4 ω4 σ4 H4 rp4 fr4 rs4 q4=>?_;have k4:=k.fr ((fr1.trans fr13).trans fr4);refine hb.run F H4 ω4 σ4 ρ4 _ _ rp4 rs4 q4 ⟨?_,k4.rt,k4.nx,?_⟩
  ·exact fun ρ' ω' σ' H'' e1 e2 e3 e4=>⟨by omega,ρ',ω',e1,e3,(fr13.trans fr4).trans e2,e4⟩
  ·exact fun ρ' ω' σ' H'' e1 e2 e3 e4=>⟨by omega,ρ',ω',e1,e3,(fr13.trans fr4).trans e2,e4⟩
 ·have hi:i=as.length:=by omega
  subst hi;rw[List.drop_length] at q2
  exact .inl ⟨stop,k.nx ρ2 ω2 σ2 H2 rp2 (fr1.trans fr2) rs2 q2⟩⟩
noncomputable abbrev AL:=List AV->SA->Om->(List AV->SA->Om->Prop)->Prop
structure Fa(l:Addr)(F:Fs)(H:Hp)(ω:Om)(H':Hp)(ω':Om):Prop where
 st:∀b o,ow (ω b)=false->F b=false->H b=some o->H' b=some o/\ow (ω' b)=false
 hd:∀b,F b=true->b≠l->H' b=H b
theorem Fr.fa{l:Addr}{F:Fs}{H H':Hp}{ω ω':Om}(h:Fr F H ω H' ω'):Fa l F H ω H' ω':=⟨h.st,fun b f _=>h.hd b f⟩
theorem Fa.trans{l:Addr}{F:Fs}{H H1 H2:Hp}{ω ω1 ω2:Om}(a:Fa l F H ω H1 ω1)(b:Fa l F H1 ω1 H2 ω2):Fa l F H ω H2 ω2:=
 ⟨fun c o h f e=>let ⟨x,y⟩:=a.st c o h f e;b.st c o y f x,fun c h n=>(b.hd c h n).trans (a.hd c h n)⟩
theorem Fa.same{l:Addr}{F:Fs}{H H':Hp}{ω ω':Om}(a:Fa l F H ω H' ω'):bK (cut F H ω) (cut F H' ω'):=fun b o e=>by
 obtain⟨h,f,e⟩:=aJ.mp e;obtain⟨x,y⟩:=a.st b o h f e;exact aJ.mpr ⟨y,f,x⟩
noncomputable def LL(l:Addr)(F:Fs)(H:Hp)(ω:Om)(K':List AV->SA->Om->Prop)(K:St->Hp->Prop):Prop:=
 ∀xs vs ρ ω' σ H',Rep F H' ω'->Fa l F H ω H' ω'->RS (cut F H' ω') ρ σ->H' l=some (.lst vs)->RVs (cut F H' ω') xs vs->K' xs ρ ω'->K σ H'
theorem LL.fa{l:Addr}{F:Fs}{H H1:Hp}{ω ω1:Om}{K':List AV->SA->Om->Prop}{K:St->Hp->Prop}(k:LL l F H ω K' K)(f:Fa l F H ω H1 ω1):LL l F H1 ω1 K' K:=
 fun xs vs ρ ω' σ H' e1 e2 e3 e4 e5 e6=>k xs vs ρ ω' σ H' e1 (f.trans e2) e3 e4 e5 e6
structure mT(l:TL)(l':AL):Prop where
 run:∀(F:Fs)(H:Hp)(ω:Om)(σ:St)(ρ:SA)(acc:Addr)(vs:List V)(xs:List AV)(K:St->Hp->Prop)(K':List AV->SA->Om->Prop),Rep F H ω->RS (cut F H ω) ρ σ->F acc=true->H acc=some (.lst vs)->RVs (cut F H ω) xs vs ->
  l' xs ρ ω K'->LL acc F H ω K' K->l acc σ H K
noncomputable def fW:AT:=fun _ ω Q=>Q true ω
noncomputable def iE(te:AE):AL:=fun xs ρ ω K=>te ρ ω fun y ω1=>xs.length<sizeLine/\K (xs++[y]) ρ ω1
noncomputable def ce(g:AG)(tc:AT)(l:AL):List AV->AL
 | [],xs,ρ,ω,K=>K xs ρ ω
 |a::as,xs,ρ,ω,K=>g a ρ ω fun ρ1 ω1=>tc ρ1 ω1 fun b ω2=>if b=true then l xs ρ1 ω2 (fun xs' ρ' ω'=>ce g tc l as xs' ρ' ω' K) else ce g tc l as xs ρ1 ω2 K
noncomputable def vv(wi:AI)(g:AG)(tc:AT)(l:AL):AL:=fun xs ρ ω K=>wi ρ ω fun as ω1=>ce g tc l as xs ρ ω1 K
noncomputable def i4(src:List (Option Nat))(ρ:SA):SA:=src.map fun o=>match o with|none=>none|some j=>(ρ[j]?).join
noncomputable def und:List AV->Option (List D)
 | []=>some []
 |.d x::r=>(und r).map (x::·)
 |_=>none
theorem bX:∀ds:List D,und (ds.map AV.d)=some ds
 | []=>rfl
 |d::ds=>by simp[und,bX ds]
theorem cN:∀ {xs:List AV} {ds:List D},und xs=some ds->xs=ds.map AV.d
 | [],ds,h=>by cases h;rfl
 |.d x::r,ds,h=>by
  simp only[und,Option.map_eq_some_iff] at h;obtain⟨es,e1,rfl⟩:=h;rw[cN e1];rfl
 |.r _::_,_,h=>by simp[und] at h
 |.p _ _::_,_,h=>by simp[und] at h
noncomputable def vW(src:List (Option Nat))(wi:AI)(g:AG)(tc:AT)(l:AL):AE:=fun ρ ω Q=>wi ρ ω fun as ω1=>ce g tc l as [] (i4 src ρ) ω1 fun xs _ ω'=>∃ds,und xs=some ds/\Q (.d (.lst ds)) ω'
noncomputable def sh(src:List (Option Nat))(wi:AI)(g:AG)(tc:AT)(l:AL):AE:=fun ρ ω Q=>wi ρ ω fun as ω1=>ce g tc l as [] (i4 src ρ) ω1 fun xs _ ω'=>∀p,ω' p=none->Q (.r (.ref p)) (ω'.put p (.own xs))
section
variable{te:TE}{te':AE}{tc:TT}{tc':AT}{g:TG}{g':AG}{wi:TI}{wi':AI}{l:TL}{l':AL}{src:List (Option Nat)}
theorem lK:d9 pr fW:=⟨fun F H ω σ ρ Q Q' rp rs w k=>k true ω true H rp .refl rfl w⟩
theorem eg(h:aY te te'):mT (vP te) (iE te'):=⟨fun F H ω σ ρ acc vs xs K K' rp rs fa ha rx w k=>by
 refine h.go rp rs w fun y ω1 v H1 rp1 fr1 rs1 rv q=>?_;obtain⟨q1,q2⟩:=q;have ha1:H1 acc=some (.lst vs):=(fr1.hd acc fa).trans ha;obtain⟨rp2,c2⟩:=rp1.hwrite (vs:=vs++[v]) fa;refine⟨vs,ha1,by rw[rx.length];exact q1,k (xs++[y]) (vs++[v]) ρ ω1 σ _ rp2 ?_ ?_ bu ?_ q2⟩
 ·refine fr1.fa.trans ⟨fun b o e1 e2 e3=>⟨?_,e1⟩,fun b f n=>aq n⟩
  have hb:b≠acc:=fun z=>by subst z;rw[fa] at e2;cases e2
  rw[aq hb];exact e3
 ·rw[c2];exact rs1
 ·rw[c2];exact(rx.same fr1.same).append (.one rv)⟩
theorem sH(hg:jM g g')(hc:d9 tc tc')(hl:mT l l'){G:Hp}{as:List AV}{J:It}(it:sK G as J){F:Fs}{H:Hp}{ω:Om}{σ:St}{ρ:SA}{acc:Addr}{vs:List V}{xs:List AV}{K:St->Hp->Prop}{K':List AV->SA->Om->Prop}(rp:Rep F H ω)(rs:RS (cut F H ω) ρ σ)(fa:F acc=true)(ha:H acc=some (.lst vs))(rx:RVs (cut F H ω) xs vs)(sG:bK G (cut F H ω))(w:ce g' tc' l' as xs ρ ω K')(k:LL acc F H ω K' K):pk J g tc l acc σ H K:=by
 refine⟨fun i m σ2 H2=>m+i=as.length/\∃ρ2 ω2 vs2 xs2,Rep F H2 ω2/\RS (cut F H2 ω2) ρ2 σ2/\Fa acc F H ω H2 ω2/\H2 acc=some (.lst vs2)/\RVs (cut F H2 ω2) xs2 vs2/\ce g' tc' l' (as.drop i) xs2 ρ2 ω2 K',
  ⟨as.length,rfl,ρ,ω,vs,xs,rp,rs,Fr.refl.fa,ha,rx,w⟩,?_⟩
 rintro i m σ2 H2 ⟨hm,ρ2,ω2,vs2,xs2,rp2,rs2,fr2,ha2,rx2,q2⟩;obtain⟨stop,go⟩:=it F H2 ω2 rp2 (sG.trans fr2.same);by_cases hl':i<as.length
 ·obtain⟨a,hai,hd⟩:=eR hl'
  rw[hd] at q2;obtain⟨g1,y1⟩:=go i a hai;refine .inr ⟨g1,fun x H' hy=>?_⟩;obtain⟨rp3,fr3,rv3⟩:=y1 x H' hy;refine hg.run F H' ω2 σ2 ρ2 x a _ _ rp3 (rs2.same fr3.same) rv3 q2 fun ρ4 ω4 σ4 H4 rp4 fr4 rs4 q4=>?_;refine hc.go rp4 rs4 q4 fun b ω5 b' H5 rp5 fr5 rs5 rb q5=>?_;cases (show b=b' from rb)
  have fr25:Fr F H2 ω2 H5 ω5:=(fr3.trans fr4).trans fr5;have ha5:H5 acc=some (.lst vs2):=(fr25.hd acc fa).trans ha2;have rx5:=rx2.same fr25.same
  cases b with
  |true=>
   rw[if_pos rfl] at q5 ⊢;refine hl.run F H5 ω5 σ4 ρ4 acc vs2 xs2 _ _ rp5 rs5 fa ha5 rx5 q5 fun xs6 vs6 ρ6 ω6 σ6 H6 e1 e2 e3 e4 e5 e6=>?_;exact⟨m-1,by omega,by omega,ρ6,ω6,vs6,xs6,e1,e3,(fr2.trans fr25.fa).trans e2,e4,e5,e6⟩
  |false=>
   rw[if_neg Bool.false_ne_true] at q5 ⊢;exact⟨m-1,by omega,by omega,ρ4,ω5,vs2,xs2,rp5,rs5,fr2.trans fr25.fa,ha5,rx5,q5⟩
 ·have hi:i=as.length:=by omega
  subst hi;rw[List.drop_length] at q2;exact .inl ⟨stop,k xs2 vs2 ρ2 ω2 σ2 H2 rp2 fr2 rs2 ha2 rx2 q2⟩
theorem yi(hi:mL wi wi')(hg:jM g g')(hc:d9 tc tc')(hl:mT l l'):mT (y7 wi g tc l) (vv wi' g' tc' l'):=⟨fun F H ω σ ρ acc vs xs K K' rp rs fa ha rx w k=>
 hi.go rp rs w fun as ω1 J H1 rp1 fr1 rs1 it q=>sH hg hc hl it rp1 rs1 fa ((fr1.hd acc fa).trans ha) (rx.same fr1.same) (bK.refl _) q (k.fa fr1.fa)⟩
theorem RS.blk{G:Hp}{ρ:SA}{σ:St}(h:RS G ρ σ):RS G (i4 src ρ) (kP src σ):=by
 refine⟨by simp[i4,kP],fun i a e=>?_⟩
 unfold i4 at e;unfold kP;rw[List.getElem?_map] at e ⊢
 cases q:src[i]? with
 |none=>rw[q] at e;simp at e
 |some o=>
  rw[q] at e
  cases o with
  |none=>simp at e
  |some j=>
   simp only[Option.map_some,Option.some.injEq] at e ⊢
   have e':ρ[j]?=some (some a):=by
    cases z:ρ[j]? with
    |none=>rw[z] at e;simp at e
    |some y=>rw[z] at e;simp at e;rw[e]
   obtain⟨v,e1,e2⟩:=h.2 j a e';exact⟨v,by rw[e1];rfl,e2⟩
theorem o8(hi:mL wi wi')(hg:jM g g')(hc:d9 tc tc')(hl:mT l l'){F:Fs}{H:Hp}{ω:Om}{σ:St}{ρ:SA}{Q:VK}{K':List AV->SA->Om->Prop}(rp:Rep F H ω)(rs:RS (cut F H ω) ρ σ)(w:wi' ρ ω fun as ω1=>ce g' tc' l' as [] (i4 src ρ) ω1 K')(k:∀p xs vs ρ' ω' H',F p=false->(∀b o,ow (ω b)=false->F b=false->H b=some o->b≠p)->Rep (F.add p) H' ω'->Fr F H ω H' ω'->H' p=some (.lst vs)->RVs (cut (F.add p) H' ω') xs vs->K' xs ρ' ω'->Q (.ref p) H'):i8 src wi g tc l σ H Q:=by
 refine hi.go rp rs w fun as ω1 J H1 rp1 fr1 rs1 it q=>fun acc hacc=>?_;obtain⟨rp2,c2⟩:=rp1.hide (vs:=[]) hacc;obtain⟨f1,f2⟩:=rp1.free hacc;have hb1:∀b,b≠acc->F b=false->(F.add acc) b=false:=fun b h f=>by simp[Fs.add,h,f]
 have hne:∀b o,ow (ω b)=false->F b=false->H b=some o->b≠acc:=fun b o h f e=>aH (fr1.st b o h f e).1 hacc;refine sH (xs:=[]) hg hc hl it rp2 (by rw[c2];exact rs1.blk) (by simp[Fs.add]) bu rfl (by rw[c2];exact bK.refl _) q fun xs vs ρ' ω' σ' H' e1 e2 e3 e4 e5 e6=>?_
 refine k acc xs vs ρ' ω' H' f2 hne e1 ⟨fun b o h f e=>?_,fun b f=>?_⟩ e4 e5 e6
 ·obtain⟨x,y⟩:=fr1.st b o h f e
  have hb:=hne b o h f e;exact e2.st b o y (hb1 b hb f) (by rw[aq hb];exact x)
 ·have hb:b≠acc:=fun z=>by subst z;rw[f] at f2;cases f2
  rw[e2.hd b (by simp[Fs.add,f]) hb,aq hb,fr1.hd b f]
theorem gm(hi:mL wi wi')(hg:jM g g')(hc:d9 tc tc')(hl:mT l l'):aY (i8 src wi g tc l) (vW src wi' g' tc' l'):=⟨fun F H ω σ ρ Q Q' rp rs w k=>by
 refine o8 hi hg hc hl rp rs w fun p xs vs ρ' ω' H' f hne rp1 fr1 e1 e2 q=>?_;obtain⟨ds,hu,q⟩:=q;cases cN hu;obtain⟨rp2,sm,hp⟩:=rp1.unhide f e1;refine k (.d (.lst ds)) ω' _ H' rp2 fr1 ?_ q;simp only[RV,Dat]
 exact⟨p,vs,rfl,hp,RVs.dats.mp (e2.same sm)⟩⟩
theorem n9(hi:mL wi wi')(hg:jM g g')(hc:d9 tc tc')(hl:mT l l'):aY (i8 src wi g tc l) (sh src wi' g' tc' l'):=⟨fun F H ω σ ρ Q Q' rp rs w k=>by
 refine o8 hi hg hc hl rp rs w fun p xs vs ρ' ω' H' f hne rp1 fr1 e1 e2 q=>?_;have hp:ω' p=none:=(rp1.hid p (by simp[Fs.add])).1
 obtain⟨rp2,sm⟩:=rp1.Au f e1 e2;refine k (.r (.ref p)) (ω'.put p (.own xs)) _ H' rp2 ⟨fun b o h f e=>?_,fr1.hd⟩ rfl (q p hp);obtain⟨x,y⟩:=fr1.st b o h f e;rw[Om.z9 (hne b o h f e)]
 exact⟨x,y⟩⟩
end
noncomputable def aQ(ω:Om):AV->Option D
 |.d x=>some x
 |.r (.ref l)=>match ω l with
  |some (.own xs)=>(und xs).map D.lst
  |some (.frz ds)=>some (.lst ds)
  |_=>none
 |_=>none
noncomputable def cT(ω:Om):AV->Option (List AV)
 |.d (.lst ds)=>some (ds.map AV.d)
 |.r (.ref l)=>match ω l with
  |some (.own xs)=>some xs
  |some (.frz ds)=>some (ds.map AV.d)
  |_=>none
 |_=>none
noncomputable def eZ:AV->Option (List AV)
 |.d (.tup ds)=>some (ds.map AV.d)
 |_=>none
noncomputable def re(ω:Om)(x:AV)(K:D->Om->Prop):Prop:=match x with
 |.d x=>K x ω
 |.r (.ref l)=>match ω l with
  |some (.own xs)=>∃ds,und xs=some ds/\K (.lst ds) (ω.put l (.frz ds))
  |some (.frz ds)=>K (.lst ds) ω
  |_=>False
 |_=>False
section
variable{F:Fs}{H:Hp}{ω:Om}{x:AV}{v:V}
theorem jS(rp:Rep F H ω)(rv:RV (cut F H ω) x v){xs:List AV}(h:cT ω x=some xs):∃a vs,v=.ref a/\H a=some (.lst vs)/\RVs (cut F H ω) xs vs:=by
 cases x with
 |d x=>cases x with
  |lst ds=>
   simp only[cT,Option.some.injEq] at h;subst h;simp only[RV,Dat] at rv;obtain⟨a,vs,rfl,e1,e2⟩:=rv;exact⟨a,vs,rfl,az _ _ e1,RVs.dats.mpr e2⟩
  |_=>simp[cT] at h
 |p u P=>simp[cT] at h
 |r u=>
  cases (show v=u from rv)
  cases v with
  |ref l=>
   simp only[cT] at h
   cases e:ω l with
   |none=>rw[e] at h;simp at h
   |some c=>
    rw[e] at h
    cases c with
    |own ys=>
     simp only[Option.some.injEq] at h;subst h;obtain⟨vs,e1,e2⟩:=rp.own l _ e;exact⟨l,vs,rfl,e1,e2⟩
    |frz ds=>
     simp only[Option.some.injEq] at h;subst h;have q:=rp.frz l ds e;simp only[Dat] at q;obtain⟨a,vs,e1,e2,e3⟩:=q;cases e1;exact⟨l,vs,rfl,az _ _ e2,RVs.dats.mpr e3⟩
    |dic ks=>simp at h
  |_=>simp[cT] at h
theorem qv(rv:RV (cut F H ω) x v){xs:List AV}(h:eZ x=some xs):∃a vs,v=.ref a/\cut F H ω a=some (.tup vs)/\RVs (cut F H ω) xs vs:=by
 cases x with
 |d x=>cases x with
  |tup ds=>
   simp only[eZ,Option.some.injEq] at h;subst h;simp only[RV,Dat] at rv;obtain⟨a,vs,rfl,e1,e2⟩:=rv;exact⟨a,vs,rfl,e1,RVs.dats.mpr e2⟩
  |_=>simp[eZ] at h
 |p u P=>simp[eZ] at h
 |r u=>simp[eZ] at h
theorem fA(rp:Rep F H ω)(rv:RV (cut F H ω) x v){d:D}(h:aQ ω x=some d):Dat H d v:=by
 cases x with
 |d x=>
  simp only[aQ,Option.some.injEq] at h;subst h;exact Dat.same az rv
 |p u P=>simp[aQ] at h
 |r u=>
  cases (show v=u from rv)
  cases v with
  |ref l=>
   simp only[aQ] at h
   cases e:ω l with
   |none=>rw[e] at h;simp at h
   |some c=>
    rw[e] at h
    cases c with
    |own ys=>
     simp only[Option.map_eq_some_iff] at h;obtain⟨ds,h1,rfl⟩:=h;cases cN h1;obtain⟨vs,e1,e2⟩:=rp.own l _ e;simp only[Dat];exact⟨l,vs,rfl,e1,(RVs.dats.mp e2).same az⟩
    |frz ds=>
     simp only[Option.some.injEq] at h;subst h;exact(rp.frz l ds e).same az
    |dic ks=>simp at h
  |_=>simp[aQ] at h
theorem dc(rp:Rep F H ω)(rv:RV (cut F H ω) x v){ds:List D}(h:aQ ω x=some (.lst ds)):∃a vs,v=.ref a/\H a=some (.lst vs)/\aj (cut F H ω) ds vs:=by
 have:cT ω x=some (ds.map AV.d):=by
  cases x with
  |d x=>simp only[aQ,Option.some.injEq] at h;subst h;rfl
  |p u P=>simp[aQ] at h
  |r u=>cases u with
   |ref l=>
    simp only[aQ] at h;simp only[cT]
    cases e:ω l with
    |none=>rw[e] at h;simp at h
    |some c=>
     rw[e] at h
     cases c with
     |own ys=>
      simp only[Option.map_eq_some_iff] at h;obtain⟨es,h1,h2⟩:=h;cases h2;rw[cN h1]
     |frz es=>simp only[Option.some.injEq] at h;cases h;rfl
     |dic ks=>simp at h
   |_=>simp[aQ] at h
 obtain⟨a,vs,e1,e2,e3⟩:=jS rp rv this;exact⟨a,vs,e1,e2,RVs.dats.mp e3⟩
theorem w6(rp:Rep F H ω)(rv:RV (cut F H ω) x v){K:D->Om->Prop}(h:re ω x K):∃d ω',Rep F H ω'/\Fr F H ω H ω'/\Dat (cut F H ω') d v/\K d ω':=by
 cases x with
 |d x=>exact⟨x,ω,rp,.refl,rv,h⟩
 |p u P=>exact h.elim
 |r u=>
  cases (show v=u from rv)
  cases v with
  |ref l=>
   simp only[re] at h
   cases e:ω l with
   |none=>rw[e] at h;exact h.elim
   |some c=>
    rw[e] at h
    cases c with
    |own ys=>
     obtain⟨ds,h1,h2⟩:=h;cases cN h1;obtain⟨q1,q2,q3⟩:=rp.freeze e;exact⟨_,_,q1,q2,q3,h2⟩
    |frz ds=>exact⟨_,_,rp,.refl,rp.frz l ds e,h⟩
    |dic ks=>exact h.elim
  |_=>exact h.elim
end
noncomputable abbrev A2:=AV->AV->Om->(AV->Om->Prop)->Prop
structure eY(r:R2)(r':A2):Prop where
 run:∀(F:Fs)(H:Hp)(ω:Om)(v u:V)(x y:AV)(Q:VK)(Q':AV->Om->Prop),Rep F H ω->RV (cut F H ω) x v->RV (cut F H ω) y u->r' x y ω Q'->LP RV F H ω Q' Q->r v u H Q
structure z7(r:V->Hp->VK->Prop)(r':AV->Om->(AV->Om->Prop)->Prop):Prop where
 run:∀(F:Fs)(H:Hp)(ω:Om)(v:V)(x:AV)(Q:VK)(Q':AV->Om->Prop),Rep F H ω->RV (cut F H ω) x v->r' x ω Q'->LP RV F H ω Q' Q->r v H Q
structure ig(r:List V->Hp->VK->Prop)(r':List AV->Om->(AV->Om->Prop)->Prop):Prop where
 run:∀(F:Fs)(H:Hp)(ω:Om)(vs:List V)(xs:List AV)(Q:VK)(Q':AV->Om->Prop),Rep F H ω->RVs (cut F H ω) xs vs->r' xs ω Q'->LP RV F H ω Q' Q->r vs H Q
noncomputable def yo(i:Nat):AE:=fun ρ ω Q=>∃a,ρ[i]?=some (some a)/\Q a ω
noncomputable def aC(d:D):AE:=fun _ ω Q=>Q (.d d) ω
noncomputable def aOp(r:A2)(ta tb:AE):AE:=fun ρ ω Q=>ta ρ ω fun x ω1=>tb ρ ω1 fun y ω2=>r x y ω2 Q
noncomputable def yw:AA:=fun _ ω Q=>Q [] ω
noncomputable def vO(ta:AE)(tr:AA):AA:=fun ρ ω Q=>ta ρ ω fun x ω1=>tr ρ ω1 fun xs ω2=>Q (x::xs) ω2
noncomputable def xS(t:AA):AE:=fun ρ ω Q=>t ρ ω fun xs ω1=>xs.length<=sizeLine/\∃ds,und xs=some ds/\Q (.d (.tup ds)) ω1
noncomputable def yJ(t:AA):AE:=fun ρ ω Q=>t ρ ω fun xs ω1=>xs.length<=sizeLine/\∃ds,und xs=some ds/\Q (.d (.lst ds)) ω1
noncomputable def vU(t:AA):AE:=fun ρ ω Q=>t ρ ω fun xs ω1=>xs.length<=sizeLine/\∀p,ω1 p=none->Q (.r (.ref p)) (ω1.put p (.own xs))
noncomputable def vc(sp:ASp)(t:AA):AE:=fun ρ ω Q=>t ρ ω fun xs ω1=>sp xs ω1 Q
noncomputable def aCB(r:List AV->Om->(AV->Om->Prop)->Prop)(t:AA):AE:=fun ρ ω Q=>t ρ ω fun xs ω1=>r xs ω1 Q
noncomputable def vX(t:AE):AT:=fun ρ ω Q=>t ρ ω fun x ω1=>∃k,x=.d (.bl k)/\Q k ω1
noncomputable def yz(t u:AT):AT:=fun ρ ω Q=>t ρ ω fun c ω1=>if c=true then u ρ ω1 Q else Q false ω1
noncomputable def aOr(t u:AT):AT:=fun ρ ω Q=>t ρ ω fun c ω1=>if c=true then Q true ω1 else u ρ ω1 Q
noncomputable def yq(t:AT):AT:=fun ρ ω Q=>t ρ ω fun c ω1=>Q (!c) ω1
section
variable{ta tb tc:TE}{ta' tb' tc':AE}{t u:TT}{t' u':AT}{r r2:R2}{r' r2':A2}{s:TA}{s':AA}
theorem af{i:Nat}:aY (tU i) (yo i):=⟨fun F H ω σ ρ Q Q' rp rs h k=>by
 obtain⟨a,e,q⟩:=h;obtain⟨v,e1,e2⟩:=rs.2 i a e
 exact⟨v,e1,k a ω v H rp .refl e2 q⟩⟩
theorem ao{i:Int}:aY (tC (.int i)) (aC (.int i)):=⟨fun F H ω σ ρ Q Q' rp rs h k=>k _ ω _ H rp .refl (by simp[RV,Dat]) h⟩
theorem zm{x:Str}:aY (tC (.str x)) (aC (.str x)):=⟨fun F H ω σ ρ Q Q' rp rs h k=>k _ ω _ H rp .refl (by simp[RV,Dat]) h⟩
theorem m4{b:Bool}:aY (tC (.bl b)) (aC (.bl b)):=⟨fun F H ω σ ρ Q Q' rp rs h k=>k _ ω _ H rp .refl (by simp[RV,Dat]) h⟩
theorem yG:aY (tC .non) (aC .non):=⟨fun F H ω σ ρ Q Q' rp rs h k=>k _ ω _ H rp .refl (by simp[RV,Dat]) h⟩
noncomputable def zk(v:V):AE:=fun _ ω Q=>Q (.r v) ω
theorem d6{v:V}:aY (tC v) (zk v):=⟨fun F H ω σ ρ Q Q' rp rs h k=>k (.r v) ω _ H rp .refl rfl h⟩
theorem av(h2:eY r r')(ha:aY ta ta')(hb:aY tb tb'):aY (tOp r ta tb) (aOp r' ta' tb'):=⟨fun F H ω σ ρ Q Q' rp rs h k=>
 ha.go rp rs h fun x ω1 v H1 rp1 fr1 rs1 rv1 q1=>hb.go rp1 rs1 q1 fun y ω2 u H2 rp2 fr2 rs2 rv2 q2=>h2.run F H2 ω2 v u x y Q Q' rp2 (rv1.same fr2.same) rv2 q2 (k.fr (fr1.trans fr2))⟩
theorem ai:fP xw yw:=⟨fun F H ω σ ρ Q Q' rp rs h k=>k [] ω _ H rp .refl rfl h⟩
theorem ae(ha:aY ta ta')(hs:fP s s'):fP (jD ta s) (vO ta' s'):=⟨fun F H ω σ ρ Q Q' rp rs h k=>
 ha.go rp rs h fun x ω1 v H1 rp1 fr1 rs1 rv1 q1=>hs.go rp1 rs1 q1 fun y ω2 u H2 rp2 fr2 rs2 rv2 q2=>k (x::y) ω2 (v::u) H2 rp2 (fr1.trans fr2) ⟨v,u,rfl,rv1.same fr2.same,rv2⟩ q2⟩
theorem kO(hs:fP s s'):aY (xn s) (xS s'):=⟨fun F H ω σ ρ Q Q' rp rs h k=>
 hs.go rp rs h fun xs ω1 vs H1 rp1 fr1 rs1 rv1 ⟨z,ds,hu,q1⟩=>⟨by rw[rv1.length];exact z,fun p hp=>by
  cases cN hu;obtain⟨rp2,fr2,hc⟩:=rp1.lay (o:=.tup vs) hp;refine k _ ω1 _ _ rp2 (fr1.trans fr2) ?_ q1;simp only[RV,Dat]
  exact⟨p,vs,rfl,hc,(RVs.dats.mp rv1).same fr2.same⟩⟩⟩
theorem vt(hs:fP s s'):aY (wS s) (yJ s'):=⟨fun F H ω σ ρ Q Q' rp rs h k=>
 hs.go rp rs h fun xs ω1 vs H1 rp1 fr1 rs1 rv1 ⟨z,ds,hu,q1⟩=>⟨by rw[rv1.length];exact z,fun p hp=>by
  cases cN hu;obtain⟨rp2,fr2,hc⟩:=rp1.lay (o:=.lst vs) hp;refine k _ ω1 _ _ rp2 (fr1.trans fr2) ?_ q1;simp only[RV,Dat]
  exact⟨p,vs,rfl,hc,(RVs.dats.mp rv1).same fr2.same⟩⟩⟩
theorem ki(hs:fP s s'):aY (wS s) (vU s'):=⟨fun F H ω σ ρ Q Q' rp rs h k=>
 hs.go rp rs h fun xs ω1 vs H1 rp1 fr1 rs1 rv1 ⟨z,q1⟩=>⟨by rw[rv1.length];exact z,fun p hp=>by
  obtain⟨rp2,fr2⟩:=rp1.mk' (vs:=vs) hp rv1
  exact k (.r (.ref p)) _ _ _ rp2 (fr1.trans fr2) rfl (q1 p (rp1.free hp).1)⟩⟩
theorem a9{sp:ASp}{E:XK}(hs:fP s s'):aY (nU (fL sp) [] E s) (vc sp s'):=⟨fun F H ω σ ρ Q Q' rp rs h k=>
 hs.go rp rs h fun xs ω1 vs H1 rp1 fr1 rs1 rv1 q=>⟨F,xs,ω1,Q',rp1,by rw[List.append_nil];exact rv1,q,k.fr fr1⟩⟩
theorem br{r:List V->Hp->VK->Prop}{r':List AV->Om->(AV->Om->Prop)->Prop}(hr:ig r r')(hs:fP s s'):aY (tCB r s) (aCB r' s'):=⟨fun F H ω σ ρ Q Q' rp rs h k=>
 hs.go rp rs h fun xs ω1 vs H1 rp1 fr1 rs1 rv1 q=>hr.run F H1 ω1 vs xs Q Q' rp1 rv1 q (k.fr fr1)⟩
theorem dY(ha:aY ta ta'):d9 (u9 ta) (vX ta'):=⟨fun F H ω σ ρ Q Q' rp rs h k=>
 ha.go rp rs h fun x ω1 v H1 rp1 fr1 rs1 rv1 ⟨c,e,q⟩=>by subst e;exact⟨c,by simpa[RV,Dat] using rv1,k c ω1 c H1 rp1 fr1 rfl q⟩⟩
theorem yF(h1:d9 t t')(h2:d9 u u'):d9 (yQ t u) (yz t' u'):=⟨fun F H ω σ ρ Q Q' rp rs h k=>
 h1.go rp rs h fun c ω1 c' H1 rp1 fr1 rs1 rv1 q=>by
  cases (show c=c' from rv1)
  cases c with
  |true=>rw[if_pos rfl] at q ⊢;exact h2.run F H1 ω1 σ ρ Q Q' rp1 rs1 q (k.fr fr1)
  |false=>rw[if_neg Bool.false_ne_true] at q ⊢;exact k false ω1 false H1 rp1 fr1 rfl q⟩
theorem rX(h1:d9 t t')(h2:d9 u u'):d9 (tOr t u) (aOr t' u'):=⟨fun F H ω σ ρ Q Q' rp rs h k=>
 h1.go rp rs h fun c ω1 c' H1 rp1 fr1 rs1 rv1 q=>by
  cases (show c=c' from rv1)
  cases c with
  |true=>rw[if_pos rfl] at q ⊢;exact k true ω1 true H1 rp1 fr1 rfl q
  |false=>rw[if_neg Bool.false_ne_true] at q ⊢;exact h2.run F H1 ω1 σ ρ Q Q' rp1 rs1 q (k.fr fr1)⟩
theorem fE(h1:d9 t t'):d9 (xX t) (yq t'):=⟨fun F H ω σ ρ Q Q' rp rs h k=>
 h1.go rp rs h fun c ω1 c' H1 rp1 fr1 rs1 rv1 q=>by
  cases (show c=c' from rv1)
  exact k _ ω1 _ H1 rp1 fr1 rfl q⟩
theorem xL{G:Hp}{c:Bool}{v:V}(h:RV G (.d (.bl c)) v):v=.bl c:=by simpa[RV,Dat] using h
noncomputable def ec(ω:Om)(x:AV):Option Bool:=match x with
 |.d .non=>some false
 |.d (.bl b)=>some b
 |.d (.int i)=>some (i != 0)
 |.d (.tup ds)=>some (!ds.isEmpty)
 |x=>(cT ω x).map fun xs=>!xs.isEmpty
noncomputable def yR(ta:AE):AT:=fun ρ ω Q=>ta ρ ω fun x ω1=>∃k,ec ω1 x=some k/\Q k ω1
theorem gv{α β:Type}{xs:List α}{ys:List β}(h:xs.length=ys.length):xs.isEmpty=ys.isEmpty:=by
 cases xs<;>cases ys<;>simp_all
theorem mK{K:W.Frag}{F:Fs}{H1:Hp}{ω1:Om}{x:AV}{v:V}{c:Bool}(rp1:Rep F H1 ω1)(rv1:RV (cut F H1 ω1) x v)(e:ec ω1 x=some c):lH K v H1 c:=by
  have ls:∀ {xs:List AV},cT ω1 x=some xs->c=(!xs.isEmpty)->lH K v H1 c:=fun {xs} e1 e2=>by
   obtain⟨a,vs,rfl,e3,e4⟩:=jS rp1 rv1 e1;exact .inl ⟨vs,.inl (.inl e3),by rw[e2,gv e4.length.symm]⟩
  cases x with
  |d x=>cases x with
   |non=>simp only[ec,Option.some.injEq] at e;simp only[RV,Dat] at rv1;subst rv1;exact e.symm
   |bl b=>simp only[ec,Option.some.injEq] at e;simp only[RV,Dat] at rv1;subst rv1;exact e.symm
   |int b=>simp only[ec,Option.some.injEq] at e;simp only[RV,Dat] at rv1;subst rv1;exact e.symm
   |str b=>simp[ec,cT] at e
   |dk b=>simp[ec,cT] at e
   |dt b=>simp[ec,cT] at e
   |tup ds=>
    simp only[ec,Option.some.injEq] at e;simp only[RV,Dat] at rv1;obtain⟨a,vs,rfl,e1,e2⟩:=rv1;exact .inr (.inl ⟨vs,.inl (.inl (az _ _ e1)),by rw[←e,gv e2.length]⟩)
   |lst ds=>
    simp only[ec,Option.map_eq_some_iff] at e;obtain⟨xs,e1,e2⟩:=e;exact ls e1 e2.symm
  |r u=>
   simp only[ec,Option.map_eq_some_iff] at e;obtain⟨xs,e1,e2⟩:=e;exact ls e1 e2.symm
  |p u P=>simp[ec,cT] at e
theorem gH{K:W.Frag}(ha:aY ta ta'):d9 (fun σ H Q=>ta σ H fun x H'=>∃k,lH K x H' k/\Q k H') (yR ta'):=⟨fun F H ω σ ρ Q Q' rp rs h k=>
 ha.go rp rs h fun x ω1 v H1 rp1 fr1 rs1 rv1 ⟨c,e,q⟩=>⟨c,mK rp1 rv1 e,k c ω1 c H1 rp1 fr1 rfl q⟩⟩
end
noncomputable def aI0(f:Int->Int->D):A2:=fun x y ω Q=>∃i j,x=.d (.int i)/\y=.d (.int j)/\Q (.d (f i j)) ω
noncomputable def aI(C:Int->Int->Prop)(f:Int->Int->D):A2:=fun x y ω Q=>∃i j,x=.d (.int i)/\y=.d (.int j)/\C i j/\Q (.d (f i j)) ω
section
variable{F:Fs}{H:Hp}{ω:Om}{Q:VK}{Q':AV->Om->Prop}
theorem LP.int(k:LP RV F H ω Q' Q)(rp:Rep F H ω){i:Int}(q:Q' (.d (.int i)) ω):Q (.int i) H:=k (.d (.int i)) ω _ H rp .refl (by simp[RV,Dat]) q
theorem LP.bl(k:LP RV F H ω Q' Q)(rp:Rep F H ω){i:Bool}(q:Q' (.d (.bl i)) ω):Q (.bl i) H:=k (.d (.bl i)) ω _ H rp .refl (by simp[RV,Dat]) q
theorem bb{G:Hp}{i:Int}{v:V}(h:RV G (.d (.int i)) v):v=.int i:=by simpa[RV,Dat] using h
theorem xq{G:Hp}{v:V}(h:RV G (.d .non) v):v=.non:=by simpa[RV,Dat] using h
theorem LP.tup(k:LP RV F H ω Q' Q)(rp:Rep F H ω){ds:List D}{vs:List V}(hd:aj (cut F H ω) ds vs)(q:Q' (.d (.tup ds)) ω):∀p,H p=none->Q (.ref p) (upd H p (.tup vs)):=fun p hp=>by
 obtain⟨rp2,fr2,hc⟩:=rp.lay (o:=.tup vs) hp;refine k (.d (.tup ds)) ω _ _ rp2 fr2 ?_ q;simp only[RV,Dat];exact⟨p,vs,rfl,hc,hd.same fr2.same⟩
theorem LP.lst(k:LP RV F H ω Q' Q)(rp:Rep F H ω){ds:List D}{vs:List V}(hd:aj (cut F H ω) ds vs)(q:Q' (.d (.lst ds)) ω):∀p,H p=none->Q (.ref p) (upd H p (.lst vs)):=fun p hp=>by
 obtain⟨rp2,fr2,hc⟩:=rp.lay (o:=.lst vs) hp;refine k (.d (.lst ds)) ω _ _ rp2 fr2 ?_ q;simp only[RV,Dat];exact⟨p,vs,rfl,hc,hd.same fr2.same⟩
theorem LP.own(k:LP RV F H ω Q' Q)(rp:Rep F H ω){xs:List AV}{vs:List V}(hd:RVs (cut F H ω) xs vs)(q:∀p,ω p=none->Q' (.r (.ref p)) (ω.put p (.own xs))):∀p,H p=none->Q (.ref p) (upd H p (.lst vs)):=fun p hp=>by
 obtain⟨rp2,fr2⟩:=rp.mk' (vs:=vs) hp hd;exact k (.r (.ref p)) _ _ _ rp2 fr2 rfl (q p (rp.free hp).1)
end
theorem d7{f:Int->Int->Int}:eY (rI0 fun i j=>.int (f i j)) (aI0 fun i j=>.int (f i j)):=⟨fun F H ω v u x y Q Q' rp h1 h2 ⟨i,j,e1,e2,q⟩ k=>by
 subst e1 e2;exact⟨i,j,bb h1,bb h2,k.int rp q⟩⟩
theorem jv{f:Int->Int->Bool}:eY (rI0 fun i j=>.bl (f i j)) (aI0 fun i j=>.bl (f i j)):=⟨fun F H ω v u x y Q Q' rp h1 h2 ⟨i,j,e1,e2,q⟩ k=>by
 subst e1 e2;exact⟨i,j,bb h1,bb h2,k.bl rp q⟩⟩
theorem eX{C:Int->Int->Prop}{f:Int->Int->Int}:eY (rI C fun i j=>.int (f i j)) (aI C fun i j=>.int (f i j)):=⟨fun F H ω v u x y Q Q' rp h1 h2 ⟨i,j,e1,e2,c,q⟩ k=>by
 subst e1 e2;exact⟨i,j,bb h1,bb h2,c,k.int rp q⟩⟩
noncomputable def xJ(neg:Bool):A2:=fun x y ω Q=>∃a b,aQ ω x=some a/\aQ ω y=some b/\dep a<=100/\Q (.d (.bl (if neg then !eqD a b else eqD a b))) ω
theorem nM{neg:Bool}:eY (wA neg) (xJ neg):=⟨fun F H ω v u x y Q Q' rp h1 h2 ⟨a,b,e1,e2,s,q⟩ k=>⟨a,b,fA rp h1 e1,fA rp h2 e2,s,k.bl rp q⟩⟩
noncomputable def aIn(neg:Bool):A2:=fun x y ω Q=>∃a b ds,aQ ω x=some a/\aQ ω y=some b/\(b=.lst ds\/b=.tup ds)/\bC ds<=90/\Q (.d (.bl (if neg then !inD a ds else inD a ds))) ω
theorem zo{neg:Bool}:eY (xM neg) (aIn neg):=⟨fun F H ω v u x y Q Q' rp h1 h2 ⟨a,b,ds,e1,e2,e3,s,q⟩ k=>⟨a,ds,fA rp h1 e1,by
 have:=fA rp h2 e2;rcases e3 with rfl|rfl
 ·exact .inl this
 ·exact .inr this,s,k.bl rp q⟩⟩
noncomputable def ye:A2:=fun x y ω Q=>∃ds es,x=.d (.tup ds)/\y=.d (.tup es)/\ds.length+es.length<=sizeLine/\Q (.d (.tup (ds++es))) ω
noncomputable def oo:R2:=fun x y H Q=>∃a b xs ys,x=.ref a/\y=.ref b/\H a=some (.tup xs)/\H b=some (.tup ys)/\xs.length+ys.length<=sizeLine /\
 (xs=[]->Q (.ref b) H)/\(ys=[]->Q (.ref a) H)/\∀p,H p=none->Q (.ref p) (upd H p (.tup (xs++ys)))
theorem bq{X:Cx}:OpR X (binaryOp .Add) oo:=by
 intro pins s σ H x y v u Q I rx ry h;obtain⟨a,b,xs,ys,rfl,rfl,ha,hb,hz,g1,g2,g3⟩:=h;by_cases hn:xs=[]
 ·subst hn
  cases rx;cases ry;obtain⟨its,r1,ht⟩:=cW I ha;obtain⟨its2,r2,hb2⟩:=cW I hb;cases r1;obtain⟨⟨cls,dd,data,sl⟩,ho,hc,n,hd⟩:=id ht;obtain⟨⟨cls2,dd2,data2,sl2⟩,ho2,hc2,n2,hd2⟩:=id hb2;simp only at hc hd hc2 hd2;subst hc hd hc2 hd2
  exact concat_meets ⟨_,ho,rfl⟩ ⟨_,ho2,rfl⟩ noFill_tuple_add seq_tuple_add PySem.F.slot_tuple_add PySem.F.entry_tuple_add (PySem.F.args_tuple_add_2 _ _)
   (tuple_addW0 a b _ _ n n2 dd dd2 sl sl2 (by simp)) ⟨ho,ho2,⟨.ref b,H,I,rfl,g1 rfl⟩⟩
 ·exact uN pins s σ H (.ref a) (.ref b) v u Q I rx ry ⟨a,b,xs,ys,rfl,rfl,SqT.of ha,SqT.of hb,hn,hz,g2,fun _ p hp=>g3 p hp⟩
theorem wM:eY oo ye:=⟨fun F H ω v u x y Q Q' rp h1 h2 ⟨ds,es,e1,e2,z,q⟩ k=>by
 subst e1 e2;have h1':=h1;have h2':=h2;simp only[RV,Dat] at h1 h2;obtain⟨a,xs,rfl,ha,hxs⟩:=h1;obtain⟨b,ys,rfl,hb,hys⟩:=h2;refine⟨a,b,xs,ys,rfl,rfl,az _ _ ha,az _ _ hb,by rw[hxs.length,hys.length];exact z,fun e=>?_,fun e=>?_,k.tup rp (hxs.append hys) q⟩
 ·have:ds=[]:=List.length_eq_zero_iff.mp (by rw[←hxs.length,e];rfl)
  subst this;exact k _ ω _ H rp .refl h2' q
 ·have:es=[]:=List.length_eq_zero_iff.mp (by rw[←hys.length,e];rfl)
  subst this;rw[List.append_nil] at q
  exact k _ ω _ H rp .refl h1' q⟩
theorem Rep.later{F:Fs}{H H':Hp}{ω:Om}(rp:Rep F H ω)(s:bK H H'):Rep F H' ω/\Fr F H ω H' ω:=by
 have fr:Fr F H ω H' ω:=⟨fun b o x f e=>⟨s _ _ e,x⟩,fun b f=>by
  obtain⟨_,o,q⟩:=rp.hid b f
  rw[q,s _ _ q]⟩
 refine⟨⟨fun l xs e=>?_,fun l ds e=>(rp.frz l ds e).same fr.same,fun b f=>?_,fun l ks e=>(by obtain⟨vs,e1,e2⟩:=rp.dic l ks e;exact⟨vs,s _ _ e1,e2.same fr.same⟩)⟩,fr⟩
 ·obtain⟨vs,e1,e2⟩:=rp.own l xs e
  exact⟨vs,s _ _ e1,e2.same fr.same⟩
 ·obtain⟨x,o,q⟩:=rp.hid b f
  exact⟨x,o,s _ _ q⟩
noncomputable def zE:A2:=fun x y ω Q=>∃xs i a,cT ω x=some xs/\y=.d (.int i)/\atI xs i=some a/\Q a ω
noncomputable def zu:A2:=fun x y ω Q=>∃xs i a,eZ x=some xs/\y=.d (.int i)/\atI xs i=some a/\Q a ω
theorem RVs.atI{G:Hp}{xs:List AV}{vs:List V}{i:Int}{a:AV}(h:RVs G xs vs)(e:atI xs i=some a):∃v,L2.atI vs i=some v/\RV G a v:=by
 unfold L2.atI at e ⊢;rw[h.length]
 cases z:ixN xs.length i with
 |none=>rw[z] at e;cases e
 |some j=>
  rw[z] at e;exact h.get e
theorem yL{K:W.Frag}:eY (wG K) zE:=⟨fun F H ω v u x y Q Q' rp h1 h2 ⟨xs,i,a,e1,e2,e3,q⟩ k=>by
 subst e2;obtain⟨l,vs,rfl,q1,q2⟩:=jS rp h1 e1;obtain⟨w,z1,z2⟩:=q2.atI e3
 exact⟨l,vs,i,w,rfl,bb h2,.inl (.inl q1),z1,k a ω w H rp .refl z2 q⟩⟩
theorem y4{K:W.Frag}:eY (xt K) zu:=⟨fun F H ω v u x y Q Q' rp h1 h2 ⟨xs,i,a,e1,e2,e3,q⟩ k=>by
 subst e2;obtain⟨l,vs,rfl,q1,q2⟩:=qv h1 e1;obtain⟨w,z1,z2⟩:=q2.atI e3
 exact⟨l,vs,i,w,rfl,bb h2,.inl (.inl (az _ _ q1)),z1,k a ω w H rp .refl z2 q⟩⟩
noncomputable def aIx:A2:=fun x y ω Q=>∃xs i a,(cT ω x=some xs\/eZ x=some xs)/\y=.d (.int i)/\atI xs i=some a/\Q a ω
theorem cO{K:W.Frag}:eY (rIx K) aIx:=⟨fun F H ω v u x y Q Q' rp h1 h2 ⟨xs,i,a,e1,e2,e3,q⟩ k=>by
 rcases e1 with e1|e1
 ·exact .inl (yL.run F H ω v u x y Q Q' rp h1 h2 ⟨xs,i,a,e1,e2,e3,q⟩ k)
 ·exact .inr (.inl (y4.run F H ω v u x y Q Q' rp h1 h2 ⟨xs,i,a,e1,e2,e3,q⟩ k))⟩
noncomputable abbrev AC:=List AV->Om->(AV->Om->Prop)->Prop
theorem ip{G:Hp}{a:AV}{vs:List V}(h:RVs G [a] vs):∃v,vs=[v]/\RV G a v:=by
 obtain⟨v,r,rfl,h1,h2⟩:=h;cases h2;exact⟨v,rfl,h1⟩
theorem wK{G:Hp}{a b:AV}{vs:List V}(h:RVs G [a,b] vs):∃v u,vs=[v,u]/\RV G a v/\RV G b u:=by
 obtain⟨v,r,rfl,h1,h2⟩:=h;obtain⟨u,rfl,h3⟩:=ip h2;exact⟨v,u,rfl,h1,h3⟩
noncomputable def l6(ω:Om)(x:AV):Option Nat:=match eZ x with
 |some xs=>some xs.length
 |none=>(cT ω x).map List.length
noncomputable def xZ:AC:=fun xs ω Q=>∃x n,xs=[x]/\l6 ω x=some n/\Q (.d (.int n)) ω
theorem cM{K:W.Frag}:ig (fun xs H Q=>∃x n,xs=[x]/\uZ K x H n/\Q (.int n) H) xZ:=⟨fun F H ω vs xs Q Q' rp rv ⟨x,n,e1,e2,q⟩ k=>by
 subst e1;obtain⟨v,rfl,r⟩:=ip rv;refine⟨v,n,rfl,?_,k.int rp q⟩;unfold l6 at e2
 cases z:eZ x with
 |some xs=>
  rw[z] at e2;cases e2;obtain⟨a,us,rfl,q1,q2⟩:=qv r z;exact .inr ⟨us,.inl (.inl (az _ _ q1)),q2.length.symm⟩
 |none=>
  rw[z] at e2;simp only[Option.map_eq_some_iff] at e2;obtain⟨ys,e3,rfl⟩:=e2;obtain⟨a,us,rfl,q1,q2⟩:=jS rp r e3
  exact .inl ⟨us,.inl (.inl q1),q2.length.symm⟩⟩
noncomputable def aF2(f:Int->Int->Int):AC:=fun xs ω Q=>∃i j,xs=[.d (.int i),.d (.int j)]/\Q (.d (.int (f i j))) ω
theorem xv{f:Int->Int->Int}:ig (fun xs H Q=>∃i j,xs=[.int i,.int j]/\Q (.int (f i j)) H) (aF2 f):=⟨fun F H ω vs xs Q Q' rp rv ⟨i,j,e1,q⟩ k=>by
 subst e1;obtain⟨v,u,rfl,r1,r2⟩:=wK rv
 exact⟨i,j,by rw[bb r1,bb r2],k.int rp q⟩⟩
noncomputable def aF1(f:Int->Int):AC:=fun xs ω Q=>∃i,xs=[.d (.int i)]/\Q (.d (.int (f i))) ω
theorem zF{f:Int->Int}:ig (fun xs H Q=>∃i,xs=[.int i]/\Q (.int (f i)) H) (aF1 f):=⟨fun F H ω vs xs Q Q' rp rv ⟨i,e1,q⟩ k=>by
 subst e1;obtain⟨v,rfl,r1⟩:=ip rv
 exact⟨i,by rw[bb r1],k.int rp q⟩⟩
noncomputable def r8:AC:=fun xs ω Q=>∃x ds,xs=[x]/\(aQ ω x=some (.lst ds)\/x=.d (.tup ds))/\Q (.d (.tup ds)) ω
theorem dN{K:W.Frag}:ig (fun xs H Q=>∃p ys,xs=[.ref p]/\((SqL K H p ys/\∀l,H l=none->Q (.ref l) (upd H l (.tup ys)))\/(SqT K H p ys/\Q (.ref p) H))) r8:=⟨fun F H ω vs xs Q Q' rp rv ⟨x,ds,e1,e2,q⟩ k=>by
 subst e1;obtain⟨v,rfl,r1⟩:=ip rv;rcases e2 with e2|rfl
 ·obtain⟨a,us,rfl,q1,q2⟩:=dc rp r1 e2
  exact⟨a,us,rfl,.inl ⟨.inl (.inl q1),k.tup rp q2 q⟩⟩
 ·have r2:=r1
  simp only[RV,Dat] at r2;obtain⟨a,us,rfl,q1,q2⟩:=r2
  exact⟨a,us,rfl,.inr ⟨.inl (.inl (az _ _ q1)),k _ ω _ H rp .refl r1 q⟩⟩⟩
noncomputable def nZ:AC:=fun xs ω Q=>∃x ds,xs=[x]/\(aQ ω x=some (.lst ds)\/x=.d (.tup ds))/\Q (.d (.lst ds)) ω
theorem xf{K:W.Frag}:ig (fun xs H Q=>∃p ys,xs=[.ref p]/\(SqL K H p ys\/SqT K H p ys)/\∀l,H l=none->Q (.ref l) (upd H l (.lst ys))) nZ:=⟨fun F H ω vs xs Q Q' rp rv ⟨x,ds,e1,e2,q⟩ k=>by
 subst e1;obtain⟨v,rfl,r1⟩:=ip rv;rcases e2 with e2|rfl
 ·obtain⟨a,us,rfl,q1,q2⟩:=dc rp r1 e2
  exact⟨a,us,rfl,.inl (.inl (.inl q1)),k.lst rp q2 q⟩
 ·have r2:=r1
  simp only[RV,Dat] at r2;obtain⟨a,us,rfl,q1,q2⟩:=r2
  exact⟨a,us,rfl,.inr (.inl (.inl (az _ _ q1))),k.lst rp q2 q⟩⟩
noncomputable def cX(lo:Int)(n:Nat):List AV:=(List.range n).map fun i=>AV.d (.int (lo+(i:Nat)))
noncomputable def sL(ta:AA):AI:=fun ρ ω R=>ta ρ ω fun xs ω1=>∃j:Int,xs=[.d (.int j)]/\-(2^62)<=j/\j<2^62/\R (cX 0 j.toNat) ω1
section
variable{te:TE}{te':AE}{ta:TA}{ta':AA}{K:W.Frag}
theorem uB{G:Hp}{ds:List D}{a:Addr}(h:Dat G (.lst ds) (.ref a)):sK G (ds.map AV.d) (Itl K a):=fun F H ω rp s=>by
 have h2:=h.same s;simp only[Dat] at h2;obtain⟨_,vs,e,ha,hd⟩:=h2;cases e;have hq:SqL K H a vs:=.inl (.inl (az _ _ ha));have hl:=hd.length;refine⟨⟨vs,hq,by simp;omega⟩,fun i x hx=>?_⟩
 obtain⟨v,e1,e2⟩:=(RVs.dats.mpr hd).get hx;refine⟨⟨vs,v,hq,e1⟩,fun y H' hy=>?_⟩;obtain⟨rfl,hy⟩:=hy;have:=hy vs hq;rw[e1] at this;cases this;exact⟨rp,.refl,e2⟩
theorem xE{G:Hp}{ds:List D}{a:Addr}(h:Dat G (.tup ds) (.ref a)):sK G (ds.map AV.d) (Itt K a):=fun F H ω rp s=>by
 have h2:=h.same s;simp only[Dat] at h2;obtain⟨_,vs,e,ha,hd⟩:=h2;cases e;have hq:SqT K H a vs:=.inl (.inl (az _ _ ha));have hl:=hd.length;refine⟨⟨vs,hq,by simp;omega⟩,fun i x hx=>?_⟩
 obtain⟨v,e1,e2⟩:=(RVs.dats.mpr hd).get hx;refine⟨⟨vs,v,hq,e1⟩,fun y H' hy=>?_⟩;obtain⟨rfl,hy⟩:=hy;have:=hy vs hq;rw[e1] at this;cases this;exact⟨rp,.refl,e2⟩
theorem qe{G:Hp}{ds:List D}{v:V}(h:Dat G (.lst ds) v):∃a vs,v=.ref a/\G a=some (.lst vs):=by
 simp only[Dat] at h;obtain⟨a,vs,e,h,_⟩:=h;exact⟨a,vs,e,h⟩
theorem qa{G:Hp}{ds:List D}{v:V}(h:Dat G (.tup ds) v):∃a vs,v=.ref a/\G a=some (.tup vs):=by
 simp only[Dat] at h;obtain⟨a,vs,e,h,_⟩:=h;exact⟨a,vs,e,h⟩
theorem xc{G:Hp}{lo:Int}{n:Nat}:sK G (cX lo n) (Itr lo n):=fun F H ω rp s=>by
 refine⟨by simp[cX,Itr],fun i x hx=>?_⟩
 unfold cX at hx;rw[List.getElem?_map] at hx;by_cases hi:i<n
 ·rw[List.getElem?_range hi] at hx
  simp only[Option.map_some,Option.some.injEq] at hx;subst hx;refine⟨hi,fun y H' hy=>?_⟩;obtain⟨rfl,rfl⟩:=hy;exact⟨rp,.refl,by simp[RV,Dat]⟩
 ·rw[List.getElem?_eq_none (by simp;omega)] at hx
  cases hx
theorem eF(h:fP ta ta'):mL (vV ta) (sL ta'):=⟨fun F H ω σ ρ R R' rp rs w k=>h.go rp rs w fun xs ω1 vs H1 rp1 fr1 rs1 rv ⟨j,e,h1,h2,q⟩=>by
 subst e;obtain⟨v,rfl,r⟩:=ip rv
 exact⟨j,by rw[bb r],h1,h2,k _ ω1 _ H1 rp1 fr1 xc q⟩⟩
noncomputable def uP:D->Option (List D)
 |.tup ds=>some ds
 |.lst ds=>some ds
 |_=>none
end
noncomputable def vh(to ti:AE):AG:=fun v ρ ω Q=>to ρ ω fun o ω1=>ti ρ ω1 fun i ω2=>∃l k xs j,o=.r (.ref l)/\i=.d (.int k)/\ω2 l=some (.own xs)/\ixN xs.length k=some j/\Q ρ (ω2.put l (.own (xs.set j v)))
section
variable{K:W.Frag}{n:Nat}{gs:TGs}{gs':AGs}{to ti:TE}{to' ti':AE}
theorem vH(ho:aY to to')(hi:aY ti ti'):jM (xW to ti vm) (vh to' ti'):=⟨fun F H ω σ ρ v a Q Q' rp rs rv w k=>
 ho.go rp rs w fun x ω1 u H1 rp1 fr1 rs1 rv1 q1=>hi.go rp1 rs1 q1 fun y ω2 u2 H2 rp2 fr2 rs2 rv2 ⟨l,j,xs,i,e1,e2,e3,e4,q⟩=>by
  subst e1 e2;have e5:u=.ref l:=rv1;obtain⟨vs,z1,z2⟩:=rp2.own l xs e3;have rv':=rv.same (fr1.trans fr2).same;obtain⟨rp3,fr3⟩:=rp2.write e3 (z2.set i rv');have fr:=(fr1.trans fr2).trans fr3
  exact⟨l,vs,j,i,e5,bb rv2,z1,by rw[z2.length];exact e4,k ρ _ σ _ rp3 fr (rs.same fr.same) q⟩⟩
end
noncomputable def dG{α:Type}(xs:List α)(lo hi:Option Int):List α:=(xs.drop (HT.sIx xs.length 0 lo)).take (HT.sIx xs.length xs.length hi-HT.sIx xs.length 0 lo)
noncomputable abbrev AO:=SA->Om->(Option Int->Om->Prop)->Prop
noncomputable def tM:AO:=fun _ ω Q=>Q none ω
noncomputable def qO(t:AE):AO:=fun ρ ω Q=>t ρ ω fun x ω1=>∃i,x=.d (.int i)/\Q (some i) ω1
theorem aj.cut{G:Hp}{ds:List D}{vs:List V}{lo hi:Option Int}(h:aj G ds vs):aj G (dG ds lo hi) (kc vs lo hi):=by
 unfold dG kc;rw[h.length];exact(h.drop _).take _
section
variable{K:W.Frag}{te ts:TE}{te' ts':AE}{tl th:TO}{tl' th':AO}
theorem ke:Ref REq oK tM:=⟨fun F H ω σ ρ Q Q' rp rs w k=>k none ω none H rp .refl rfl w⟩
theorem j5(h:aY te te'):Ref REq (vL te) (qO te'):=⟨fun F H ω σ ρ Q Q' rp rs w k=>h.go rp rs w fun x ω1 v H1 rp1 fr1 rs1 rv ⟨i,e,q⟩=>by
 subst e;exact⟨i,bb rv,k _ ω1 _ H1 rp1 fr1 rfl q⟩⟩
end
noncomputable def oB(to:AE)(t:AA):AE:=fun ρ ω Q=>to ρ ω fun x ω1=>∃l,x=.r (.ref l)/\(∃zs,ω1 l=some (.own zs))/\t ρ ω1 fun ys ω2=>∃xs y,ys=[y]/\ω2 l=some (.own xs)/\xs.length<sizeLine/\Q (.d .non) (ω2.put l (.own (xs++[y])))
noncomputable def qW(to:AE):AE:=fun ρ ω Q=>to ρ ω fun x ω1=>∃l xs,x=.r (.ref l)/\ω1 l=some (.own xs)/\Q (.d .non) (ω1.put l (.own []))
section
variable{K:W.Frag}{to:TE}{to':AE}{t:TA}{t':AA}
theorem tz(ho:aY to to')(ht:fP t t'):aY (tBM K "list" nT to t) (oB to' t'):=⟨fun F H ω σ ρ Q Q' rp rs w k=>
 ho.go rp rs w fun x ω1 v H1 rp1 fr1 rs1 rv1 ⟨l,e,⟨zs,hz⟩,q1⟩=>by
  subst e;cases (show v=.ref l from rv1)
  obtain⟨us,z1,_⟩:=rp1.own l zs hz;refine⟨.inl ⟨rfl,us,.inl (.inl z1)⟩,ht.go rp1 rs1 q1 fun ys ω2 vs H2 rp2 fr2 rs2 rv2 ⟨xs,y,e1,e2,e3,q⟩=>?_⟩;subst e1;obtain⟨u,rfl,r⟩:=ip rv2;obtain⟨ws,z3,z4⟩:=rp2.own l xs e2;obtain⟨rp3,fr3⟩:=rp2.write e2 (z4.append (.one r))
  exact⟨l,ws,u,rfl,rfl,z3,by rw[z4.length];exact e3,k _ _ _ _ rp3 ((fr1.trans fr2).trans fr3) (by simp[RV,Dat]) q⟩⟩
theorem uV(ho:aY to to'):aY (yX K "list" se to) (qW to'):=⟨fun F H ω σ ρ Q Q' rp rs w k=>
 ho.go rp rs w fun x ω1 v H1 rp1 fr1 rs1 rv1 ⟨l,xs,e,hz,q⟩=>by
  subst e;cases (show v=.ref l from rv1)
  obtain⟨us,z1,z2⟩:=rp1.own l xs hz;obtain⟨rp3,fr3⟩:=rp1.write (ys:=[]) (vs:=[]) hz rfl
  exact⟨.inl ⟨rfl,us,.inl (.inl z1)⟩,l,us,rfl,rfl,z1,k _ _ _ _ rp3 (fr1.trans fr3) (by simp[RV,Dat]) q⟩⟩
end
noncomputable def oy:AC:=fun xs ω Q=>∃(x:AV) (W:List (List Int)),xs=[x]/\aQ ω x=some (.lst (W.map wdD))/\(∀y∈W,y≠[])/\W.length<64/\Q (.d (.lst ((fi W).map wdD))) ω
theorem Rep.stays{F:Fs}{H:Hp}{ω:Om}(rp:Rep F H ω):rg H (cut F H ω):=fun b xs e=>by
 refine aJ.mpr ⟨?_,?_,e⟩
 ·cases y:ω b with
  |none=>rfl
  |some c=>cases c with
   |frz ds=>rfl
   |own ys=>
    obtain⟨vs,e1,_⟩:=rp.own b ys y;rw[e] at e1;cases e1
   |dic ys=>
    obtain⟨vs,e1,_⟩:=rp.dic b ys y;rw[e] at e1;cases e1
 ·cases z:F b with
  |false=>rfl
  |true=>
   obtain⟨_,vs,q⟩:=rp.hid b z;rw[e] at q;cases q
theorem fG:ig (fun xs H Q=>∃p W,xs=[.ref p]/\LD H p (W.map wdD)/\(∀x∈W,x≠[])/\W.length<64/\∀l H',H l=none->bK H H'->LD H' l ((fi W).map wdD)->Q (.ref l) H') oy:=⟨fun F H ω vs xs Q Q' rp rv ⟨x,W,e1,e2,e3,e4,q⟩ k=>by
 subst e1;obtain⟨v,rfl,r⟩:=ip rv;obtain⟨a,us,rfl,z1,z2⟩:=dc rp r e2;refine⟨a,W,rfl,⟨l7 _,us,z1,z2.same az⟩,e3,e4,fun l H' hl s ld=>?_⟩;obtain⟨rp2,fr2⟩:=rp.later s;obtain⟨hn,ws,y1,y2⟩:=ld;obtain⟨f1,f2⟩:=rp.free hl;refine k _ ω _ H' rp2 fr2 ?_ q;simp only[RV,Dat]
 exact⟨l,ws,rfl,aJ.mpr ⟨by rw[f1];rfl,f2,y1⟩,aj.t rp2.stays hn y2⟩⟩
noncomputable def tyD:D->String
 |.non=>"NoneType"|.bl _=>"bool"|.int _=>"int"|.str _=>"str"|.tup _=>"tuple"|.lst _=>"list"|.dk _=>"dict"|.dt _=>"dict"
noncomputable def isD(T:String)(d:D):Bool:=tyD d == T || (tyD d == "bool" && T == "int")
noncomputable def yC:AC:=fun xs ω Q=>∃x d T,xs=[x,.r (.ty T)]/\aQ ω x=some d/\T∈gz/\Q (.d (.bl (isD T d))) ω
theorem yW{H:Hp}{d:D}{v:V}(h:Dat H d v):dU H v=some (tyD d):=by
 cases d<;>simp only[Dat] at h
 all_goals first
  |(subst h;rfl)
  |(obtain⟨a,xs,rfl,h,_⟩:=h;simp[dU,h,tyD])
theorem qS:ig (fun xs H Q=>∃x T,xs=[x,.ty T]/\T∈gz/\(dU H x).isSome=true/\Q (.bl (isA H x T)) H) yC:=⟨fun F H ω vs xs Q Q' rp rv ⟨x,d,T,e1,e2,e3,q⟩ k=>by
 subst e1;obtain⟨v,u,rfl,r1,r2⟩:=wK rv;cases (show u=.ty T from r2)
 have ht:=yW (fA rp r1 e2);refine⟨v,T,rfl,e3,by rw[ht];rfl,?_⟩
 have:isA H v T=isD T d:=by simp[isA,ht,isD]
 rw[this]
 exact k.bl rp q⟩
noncomputable def zh:A2:=fun x y ω Q=>∃ds es,aQ ω x=some (.lst ds)/\aQ ω y=some (.lst es)/\ds.length+es.length<=sizeLine/\Q (.d (.lst (ds++es))) ω
theorem wC:eY u6 zh:=⟨fun F H ω v u x y Q Q' rp h1 h2 ⟨ds,es,e1,e2,z,q⟩ k=>by
 obtain⟨a,vs,rfl,z1,z2⟩:=dc rp h1 e1;obtain⟨b,us,rfl,z3,z4⟩:=dc rp h2 e2
 exact⟨a,b,vs,us,rfl,rfl,z1,z3,by rw[z2.length,z4.length];exact z,k.lst rp (z2.append z4) q⟩⟩
noncomputable def sj:A2:=fun x y ω Q=>∃ds k,aQ ω x=some (.lst ds)/\y=.d (.int k)/\-(2^63)<=k/\k<2^63/\ds.length*k.toNat<=sizeLine/\Q (.d (.lst (List.replicate k.toNat ds).flatten)) ω
theorem aj.rep{G:Hp}{ds:List D}{vs:List V}(h:aj G ds vs):∀n:Nat,aj G (List.replicate n ds).flatten (List.replicate n vs).flatten
 |0=>by simp[aj]
 |n+1=>by
  simp only[List.replicate_succ,List.flatten_cons];exact h.append (h.rep n)
theorem wo:eY uS sj:=⟨fun F H ω v u x y Q Q' rp h1 h2 ⟨ds,k',e1,e2,b1,b2,z,q⟩ k=>by
 subst e2;obtain⟨a,vs,rfl,z1,z2⟩:=dc rp h1 e1
 exact⟨a,k',vs,rfl,bb h2,z1,b1,b2,by rw[z2.length];exact z,k.lst rp (z2.rep _) q⟩⟩
section
variable{X:Cx}{tg:Expr}
noncomputable def rOr(r1 r2:R2):R2:=fun x y H Q=>r1 x y H Q\/r2 x y H Q
theorem aw{f:Value->Value->Sem Value}{r1 r2:R2}(h1:OpR X f r1)(h2:OpR X f r2):OpR X f (rOr r1 r2):=fun pins s σ H x y v u Q I rx ry h=>by
 rcases h with h|h
 ·exact h1 pins s σ H x y v u Q I rx ry h
 ·exact h2 pins s σ H x y v u Q I rx ry h
noncomputable def ni(K:W.Frag):V->Option Int->Option Int->Hp->VK->Prop:=fun x lo hi H Q=>yS K x lo hi H Q\/vi K x lo hi H Q
theorem kb(K:W.Frag)(hK:X.K=K):SlR X (ni K):=by
 subst hK;intro pins s σ H x v vl vu lo hi sl Q I rx hs pl pu h;rcases h with h|h
 ·exact uI pins s σ H x v vl vu lo hi sl Q I rx hs pl pu h
 ·exact ug pins s σ H x v vl vu lo hi sl Q I rx hs pl pu h
noncomputable def xQ(K:W.Frag)(tl:TE):TI:=fun σ H R=>tl σ H fun x H1=>(∃a,x=.ref a/\(∃xs,SqL K H1 a xs)/\R (Itl K a) H1)\/∃a,x=.ref a/\(∃xs,SqT K H1 a xs)/\R (Itt K a) H1
theorem ik(K:W.Frag)(hK:X.K=K){l:Expr}{tl:TE}(hl:PE X l tl):PI X tg l (xQ K tl):=by
 subst hK;intro pins s σ H R I h;refine thn (hl pins s σ H _ I h) fun v s1 ⟨x,H1,I1,r1,q1⟩=>?_;rcases q1 with q1|q1
 ·obtain⟨a,e,⟨xs,hq⟩,q⟩:=q1
  subst e;cases r1;obtain⟨its,rv,p,hz⟩:=I1.list hq;refine wpAny_pyIter_list p.isList ?_;refine⟨s1.heap.objs.size,[s1.heap.objs.size],_,_,H1,rfl,I1.kept (t':=s1.toks) fun b o e=>Heap.get?_push_of_some _ e,pR a _,⟨_,Heap.get?_push_size _ rfl,rfl,rfl⟩,fun b hb=>?_,q⟩;have e:b=s1.heap.objs.size:=by simpa using hb
  subst e;exact I1.Av (Nat.le_refl _) (I1.hok.fresh (Nat.le_refl _))
 ·obtain⟨a,e,⟨xs,hq⟩,q⟩:=q1
  subst e;cases r1;obtain⟨its,rv,p,hz⟩:=I1.tuple hq;refine wpAny_pyIter_tuple (show s1.heap.IsTuple a its.toArray from p) ?_
  refine⟨s1.heap.objs.size,[s1.heap.objs.size],_,_,H1,rfl,I1.kept (t':=s1.toks) fun b o e=>Heap.get?_push_of_some _ e,m5 a _,⟨_,Heap.get?_push_size _ rfl,rfl,rfl⟩,fun b hb=>?_,q⟩;have e:b=s1.heap.objs.size:=by simpa using hb
  subst e;exact I1.Av (Nat.le_refl _) (I1.hok.fresh (Nat.le_refl _))
noncomputable def vn(K:W.Frag)(ta tb:TE):TE:=fun σ H Q=>ta σ H fun x H1=>∃c,lH K x H1 c/\if c=true then tb σ H1 Q else Q x H1
noncomputable def vJ(K:W.Frag)(ta:TE):TE:=fun σ H Q=>ta σ H fun x H1=>∃c,lH K x H1 c/\Q (.bl (!c)) H1
variable{a b:Expr}{aL:List Expr}{pos:Pos}{ta tb:TE}
theorem nG(K:W.Frag)(hK:X.K=K)(ha:PE X a ta)(hb:PE X (.BoolOp .And (b::aL) pos) tb):PE X (.BoolOp .And (a::b::aL) pos) (vn K ta tb):=.mk <| by
 subst hK;intro pins s σ H Q I h;refine BoolOp_and (thn (ha pins s σ H _ I h) fun v s1 ⟨x,H1,I1,r1,q1⟩=>?_);refine thn (nn pins s1 σ H1 x v (fun c H2=>H2=H1/\if c=true then tb σ H1 Q else Q x H1) I1 r1 ?_) fun c s2 ⟨H2,I2,e,q2⟩=>?_
 ·obtain⟨c,hc,q⟩:=q1
  exact⟨c,hc,rfl,q⟩
 ·subst e
  cases c with
  |true=>rw[if_pos rfl] at q2;exact hb pins s2 σ H2 Q I2 q2
  |false=>rw[if_neg Bool.false_ne_true] at q2;exact⟨x,H2,I2,r1,q2⟩
theorem tV(K:W.Frag)(hK:X.K=K)(ha:PE X a ta):PE X (.UnaryOp .Not a pos) (vJ K ta):=.mk <| by
 subst hK;intro pins s σ H Q I h;refine UnaryOp_ (thn (ha pins s σ H _ I h) fun v s1 ⟨x,H1,I1,r1,q1⟩=>?_);refine not_of (thn (nn pins s1 σ H1 x v (fun c H2=>Q (.bl (!c)) H2) I1 r1 q1) fun c s2 ⟨H2,I2,q2⟩=>⟨.bl (!c),H2,I2,rfl,q2⟩)
end
noncomputable def vB(ta tb:AE):AE:=fun ρ ω Q=>ta ρ ω fun x ω1=>∃c,ec ω1 x=some c/\if c=true then tb ρ ω1 Q else Q x ω1
noncomputable def vY(ta:AE):AE:=fun ρ ω Q=>ta ρ ω fun x ω1=>∃c,ec ω1 x=some c/\Q (.d (.bl (!c))) ω1
noncomputable def aSl(te:AE)(tl th:AO):AE:=fun ρ ω Q=>te ρ ω fun x ω1=>tl ρ ω1 fun lo ω2=>th ρ ω2 fun hi ω3=>match x with
 |.d (.tup ds)=>Q (.d (.tup (dG ds lo hi))) ω3
 |x=>∃ds,aQ ω3 x=some (.lst ds)/\Q (.d (.lst (dG ds lo hi))) ω3
noncomputable def vg(te:AE):AI:=fun ρ ω R=>te ρ ω fun x ω1=>re ω1 x fun d ω2=>∃ds,uP d=some ds/\R (ds.map AV.d) ω2
noncomputable def uw:A2:=fun x y ω Q=>match x with
 |.d (.int i)=>∃j,y=.d (.int j)/\Q (.d (.int (i+j))) ω
 |.d (.tup ds)=>∃es,y=.d (.tup es)/\ds.length+es.length<=sizeLine/\Q (.d (.tup (ds++es))) ω
 |x=>∃ds es,aQ ω x=some (.lst ds)/\aQ ω y=some (.lst es)/\ds.length+es.length<=sizeLine/\Q (.d (.lst (ds++es))) ω
noncomputable def yT:A2:=fun x y ω Q=>match x with
 |.d (.int i)=>∃j,y=.d (.int j)/\iZ i j/\Q (.d (.int (i*j))) ω
 |x=>sj x y ω Q
section
variable{K:W.Frag}{te ta tb:TE}{te' ta' tb':AE}{tl th:TO}{tl' th':AO}{sa:TA}{sa':AA}
theorem qI(ha:aY ta ta')(hb:aY tb tb'):aY (vn K ta tb) (vB ta' tb'):=⟨fun F H ω σ ρ Q Q' rp rs h k=>
 ha.go rp rs h fun x ω1 v H1 rp1 fr1 rs1 rv1 ⟨c,e,q⟩=>⟨c,mK rp1 rv1 e,by
  cases c with
  |false=>rw[if_neg Bool.false_ne_true] at q ⊢;exact k x ω1 v H1 rp1 fr1 rv1 q
  |true=>rw[if_pos rfl] at q ⊢;exact hb.run F H1 ω1 σ ρ Q Q' rp1 rs1 q (k.fr fr1)⟩⟩
theorem wt(ha:aY ta ta'):aY (vJ K ta) (vY ta'):=⟨fun F H ω σ ρ Q Q' rp rs h k=>
 ha.go rp rs h fun x ω1 v H1 rp1 fr1 rs1 rv1 ⟨c,e,q⟩=>⟨c,mK rp1 rv1 e,(k.fr fr1).bl rp1 q⟩⟩
theorem ud(he:aY te te')(hl:Ref REq tl tl')(hh:Ref REq th th'):aY (tSl (ni K) te tl th) (aSl te' tl' th'):=⟨fun F H ω σ ρ Q Q' rp rs w k=>
 he.go rp rs w fun x ω1 v H1 rp1 fr1 rs1 rv1 q1=>hl.go rp1 rs1 q1 fun lo ω2 lo' H2 rp2 fr2 rs2 e2 q2=>hh.go rp2 rs2 q2 fun hi ω3 hi' H3 rp3 fr3 rs3 e3 q=>by
  cases (show lo=lo' from e2)
  cases (show hi=hi' from e3)
  have r:=rv1.same (fr2.trans fr3).same;have k3:=k.fr ((fr1.trans fr2).trans fr3)
  have ls:(∃ds,aQ ω3 x=some (.lst ds)/\Q' (.d (.lst (dG ds lo hi))) ω3)->ni K v lo hi H3 Q:=fun⟨ds,e,q⟩=>by
   obtain⟨a,vs,rfl,z1,z2⟩:=dc rp3 r e;exact .inl ⟨a,vs,rfl,.inl (.inl z1),k3.lst rp3 z2.cut q⟩
  cases x with
  |d x=>cases x with
   |tup ds=>
    refine .inr ?_;have r':=r;simp only[RV,Dat] at r;obtain⟨a,vs,rfl,z1,z2⟩:=r;refine⟨a,vs,rfl,.inl (.inl (az _ _ z1)),?_⟩;by_cases hw:HT.sIx vs.length 0 lo=0/\HT.sIx vs.length vs.length hi=vs.length
    ·rw[if_pos hw]
     have:dG ds lo hi=ds:=by
      unfold dG;rw[←z2.length,hw.1,hw.2,List.drop_zero,Nat.sub_zero,z2.length,List.take_length]
     replace q:Q' (.d (.tup (dG ds lo hi))) ω3:=q
     rw[this] at q;exact k3 _ ω3 _ H3 rp3 .refl r' q
    ·rw[if_neg hw]
     exact k3.tup rp3 z2.cut q
   |_=>exact ls q
  |_=>exact ls q⟩
theorem lW(h:aY te te'):mL (xQ K te) (vg te'):=⟨fun F H ω σ ρ R R' rp rs w k=>h.go rp rs w fun x ω1 v H1 rp1 fr1 rs1 rv q=>by
 obtain⟨d,ω2,rp2,fr2,hd,ds,hs,q2⟩:=w6 rp1 rv q
 cases d with
 |lst es=>
  cases hs;obtain⟨a,vs,rfl,ha⟩:=qe hd;exact .inl ⟨a,rfl,⟨vs,.inl (.inl (az _ _ ha))⟩,k _ ω2 _ H1 rp2 (fr1.trans fr2) (uB hd) q2⟩
 |tup es=>
  cases hs;obtain⟨a,vs,rfl,ha⟩:=qa hd;exact .inr ⟨a,rfl,⟨vs,.inl (.inl (az _ _ ha))⟩,k _ ω2 _ H1 rp2 (fr1.trans fr2) (xE hd) q2⟩
 |_=>cases hs⟩
theorem cP:eY (rOr (rI0 fun i j=>.int (i+j)) (rOr oo u6)) uw:=⟨fun F H ω v u x y Q Q' rp h1 h2 q k=>by
 have ls:(∃ds es,aQ ω x=some (.lst ds)/\aQ ω y=some (.lst es)/\ds.length+es.length<=sizeLine/\Q' (.d (.lst (ds++es))) ω)->rOr (rI0 fun i j=>.int (i+j)) (rOr oo u6) v u H Q:=fun q=>
  .inr (.inr (wC.run F H ω v u x y Q Q' rp h1 h2 q k))
 cases x with
 |d x=>cases x with
  |int i=>
   obtain⟨j,rfl,q⟩:=q;exact .inl ⟨i,j,bb h1,bb h2,k.int rp q⟩
  |tup ds=>
   obtain⟨es,rfl,z,q⟩:=q;exact .inr (.inl (wM.run F H ω v u _ _ Q Q' rp h1 h2 ⟨ds,es,rfl,rfl,z,q⟩ k))
  |_=>exact ls q
 |_=>exact ls q⟩
theorem fh:eY (rOr (rI iZ fun i j=>.int (i*j)) uS) yT:=⟨fun F H ω v u x y Q Q' rp h1 h2 q k=>by
 have ls:sj x y ω Q'->rOr (rI iZ fun i j=>.int (i*j)) uS v u H Q:=fun q=>.inr (wo.run F H ω v u x y Q Q' rp h1 h2 q k)
 cases x with
 |d x=>cases x with
  |int i=>
   obtain⟨j,rfl,c,q⟩:=q;exact .inl ⟨i,j,bb h1,bb h2,c,k.int rp q⟩
  |_=>exact ls q
 |_=>exact ls q⟩
end
noncomputable def eK(N:List Str)(xs:List AV):SA:=xs.map some++List.replicate (N.length-xs.length) none
theorem RS.start{G:Hp}{N:List Str}{xs:List AV}{vs:List V}(h:RVs G xs vs):RS G (eK N xs) (start N vs):=by
 refine⟨by simp[eK,L2.start,h.length],fun i a e=>?_⟩
 unfold eK at e;unfold L2.start;by_cases hi:i<xs.length
 ·rw[List.getElem?_append_left (by simpa using hi),List.getElem?_map] at e
  rw[List.getElem?_append_left (by simpa[h.length] using hi),List.getElem?_map]
  cases z:xs[i]? with
  |none=>rw[z] at e;simp at e
  |some b=>
   rw[z] at e;simp at e;subst e;obtain⟨v,e1,e2⟩:=h.get z;exact⟨v,by rw[e1];rfl,e2⟩
 ·rw[List.getElem?_append_right (by simpa using hi)] at e
  have:=List.mem_of_getElem? e;rw[List.mem_replicate] at this;cases this.2
theorem Fun.okA{P:Program}{w:World}{K:W.Frag}{mg:Str->Option Value}{base:Heap}{x qual:Str}{st:Stmt}{f:Addr}{fd:FuncData}{N ps:List Str}{k:Nat}{sp:ASp}(F:Fun K x qual st f fd)(S:aX N ps (defScope st))(len:∀xs ω Q,sp xs ω Q->xs.length=ps.length)
  (hbody:∀(cdv:Value)(A:Around)(outer:List Env)(s:Shared)(H:Hp)(E:XK),cG k (A.deeper (envOfC qual (defScope st) s.heap.objs.size f cdv)) ->
   ∃t t',PSs (fk CX0 P w K mg base N qual (defScope st) f cdv A outer s H E).nox (defBody st) t/\eW t t'/\∀xs ω Q',sp xs ω Q'->t' { nx:=fun _ ω'=>Q' (.d .non) ω',rt:=Q' } (eK N xs) ω):bD P w K mg base CX0 (k+1) f fd ps (fL sp):=by
 refine F.ok S (fun vs H Q E h=>?_) (fun cdv A outer s H vs Q E hr h=>?_)
 ·obtain⟨F,xs,ω,Q',rp,rv,h,_⟩:=h
  rw[rv.length,len xs ω Q' h]
 ·obtain⟨t,t',h1,h2,h3⟩:=hbody cdv A outer s H E hr
  obtain⟨F,xs,ω,Q',rp,rv,h,kq⟩:=h;refine⟨t,h1,h2.run F H ω _ _ _ _ rp (RS.start rv) (h3 xs ω Q' h) ⟨?_,kq,fun _ _ _ _ _ _ _ z=>z.elim,fun _ _ _ _ _ _ _ z=>z.elim⟩⟩;exact fun ρ' ω' σ' H' e1 e2 e3 q=>kq (.d .non) ω' .non H' e1 e2 (by simp[RV,Dat]) q
theorem mw(D:bp)(ρ:SA)(ω:Om):vC D ρ ω=(D.nx ρ ω):=rfl
theorem oJ(t u:AS)(D:bp)(ρ:SA)(ω:Om):uf t u D ρ ω=(t { D with nx:=u D } ρ ω):=rfl
theorem lY(te:AE)(D:bp)(ρ:SA)(ω:Om):vS te D ρ ω=(te ρ ω fun _ ω1=>D.nx ρ ω1):=rfl
theorem oD(te:AE)(D:bp)(ρ:SA)(ω:Om):x0 te D ρ ω=(te ρ ω D.rt):=rfl
theorem nP(c:AT)(t u:AS)(D:bp)(ρ:SA)(ω:Om):zf c t u D ρ ω=(c ρ ω fun b ω1=>if b=true then t D ρ ω1 else u D ρ ω1):=rfl
theorem n8(te:AE)(g:AG)(D:bp)(ρ:SA)(ω:Om):x8 te g D ρ ω=(te ρ ω fun x ω1=>g x ρ ω1 D.nx):=rfl
theorem dz(i:Nat)(v:AV)(ρ:SA)(ω:Om)(Q:SA->Om->Prop):iK i v ρ ω Q=(Q (ρ.set i (some v)) ω):=rfl
theorem oZ(wi:AI)(g:AG)(tb:AS)(D:bp)(ρ:SA)(ω:Om):yp wi g tb D ρ ω=(wi ρ ω fun as ω1=>fe g tb D as ρ ω1):=rfl
theorem dW(z0:SA)(ω:Om)(Q:Bool->Om->Prop):fW z0 ω Q=(Q true ω):=rfl
theorem eA(te:AE)(xs:List AV)(ρ:SA)(ω:Om)(K:List AV->SA->Om->Prop):iE te xs ρ ω K=(te ρ ω fun y ω1=>xs.length<sizeLine/\K (xs++[y]) ρ ω1):=rfl
theorem lN(wi:AI)(g:AG)(tc:AT)(l:AL)(xs:List AV)(ρ:SA)(ω:Om)(K:List AV->SA->Om->Prop):vv wi g tc l xs ρ ω K=(wi ρ ω fun as ω1=>ce g tc l as xs ρ ω1 K):=rfl
theorem nJ(i:Nat)(ρ:SA)(ω:Om)(Q:AV->Om->Prop):yo i ρ ω Q=(∃a,ρ[i]?=some (some a)/\Q a ω):=rfl
theorem vb(d:D)(z0:SA)(ω:Om)(Q:AV->Om->Prop):aC d z0 ω Q=(Q (.d d) ω):=rfl
theorem sf(r:A2)(ta tb:AE)(ρ:SA)(ω:Om)(Q:AV->Om->Prop):aOp r ta tb ρ ω Q=(ta ρ ω fun x ω1=>tb ρ ω1 fun y ω2=>r x y ω2 Q):=rfl
theorem pe(z0:SA)(ω:Om)(Q:List AV->Om->Prop):yw z0 ω Q=(Q [] ω):=rfl
theorem lu(ta:AE)(tr:AA)(ρ:SA)(ω:Om)(Q:List AV->Om->Prop):vO ta tr ρ ω Q=(ta ρ ω fun x ω1=>tr ρ ω1 fun xs ω2=>Q (x::xs) ω2):=rfl
theorem px(t:AA)(ρ:SA)(ω:Om)(Q:AV->Om->Prop):xS t ρ ω Q=(t ρ ω fun xs ω1=>xs.length<=sizeLine/\∃ds,und xs=some ds/\Q (.d (.tup ds)) ω1):=rfl
theorem pb(t:AA)(ρ:SA)(ω:Om)(Q:AV->Om->Prop):yJ t ρ ω Q=(t ρ ω fun xs ω1=>xs.length<=sizeLine/\∃ds,und xs=some ds/\Q (.d (.lst ds)) ω1):=rfl
theorem lq(t:AA)(ρ:SA)(ω:Om)(Q:AV->Om->Prop):vU t ρ ω Q=(t ρ ω fun xs ω1=>xs.length<=sizeLine/\∀p,ω1 p=none->Q (.r (.ref p)) (ω1.put p (.own xs))):=rfl
theorem mi(sp:ASp)(t:AA)(ρ:SA)(ω:Om)(Q:AV->Om->Prop):vc sp t ρ ω Q=(t ρ ω fun xs ω1=>sp xs ω1 Q):=rfl
theorem mf(t:AE)(ρ:SA)(ω:Om)(Q:Bool->Om->Prop):vX t ρ ω Q=(t ρ ω fun x ω1=>∃k,x=.d (.bl k)/\Q k ω1):=rfl
theorem pD(t u:AT)(ρ:SA)(ω:Om)(Q:Bool->Om->Prop):yz t u ρ ω Q=(t ρ ω fun c ω1=>if c=true then u ρ ω1 Q else Q false ω1):=rfl
theorem qA(t u:AT)(ρ:SA)(ω:Om)(Q:Bool->Om->Prop):aOr t u ρ ω Q=(t ρ ω fun c ω1=>if c=true then Q true ω1 else u ρ ω1 Q):=rfl
theorem pj(t:AT)(ρ:SA)(ω:Om)(Q:Bool->Om->Prop):yq t ρ ω Q=(t ρ ω fun c ω1=>Q (!c) ω1):=rfl
theorem o0(v:V)(z0:SA)(ω:Om)(Q:AV->Om->Prop):zk v z0 ω Q=(Q (.r v) ω):=rfl
theorem om(ta:AE)(ρ:SA)(ω:Om)(Q:Bool->Om->Prop):yR ta ρ ω Q=(ta ρ ω fun x ω1=>∃k,ec ω1 x=some k/\Q k ω1):=rfl
theorem rL(f:Int->Int->D)(x:AV)(y:AV)(ω:Om)(Q:AV->Om->Prop):aI0 f x y ω Q=(∃i j,x=.d (.int i)/\y=.d (.int j)/\Q (.d (f i j)) ω):=rfl
theorem vE(C:Int->Int->Prop)(f:Int->Int->D)(x:AV)(y:AV)(ω:Om)(Q:AV->Om->Prop):aI C f x y ω Q=(∃i j,x=.d (.int i)/\y=.d (.int j)/\C i j/\Q (.d (f i j)) ω):=rfl
theorem oY(neg:Bool)(x:AV)(y:AV)(ω:Om)(Q:AV->Om->Prop):xJ neg x y ω Q=(∃a b,aQ ω x=some a/\aQ ω y=some b/\dep a<=100/\Q (.d (.bl (if neg then !eqD a b else eqD a b))) ω):=rfl
theorem sD(neg:Bool)(x:AV)(y:AV)(ω:Om)(Q:AV->Om->Prop):aIn neg x y ω Q=(∃a b ds,aQ ω x=some a/\aQ ω y=some b/\(b=.lst ds\/b=.tup ds)/\bC ds<=90/\Q (.d (.bl (if neg then !inD a ds else inD a ds))) ω):=rfl
theorem qU(x:AV)(y:AV)(ω:Om)(Q:AV->Om->Prop):aIx x y ω Q=(∃xs i a,(cT ω x=some xs\/eZ x=some xs)/\y=.d (.int i)/\atI xs i=some a/\Q a ω):=rfl
theorem nO(xs:List AV)(ω:Om)(Q:AV->Om->Prop):xZ xs ω Q=(∃x n,xs=[x]/\l6 ω x=some n/\Q (.d (.int n)) ω):=rfl
theorem s9(f:Int->Int->Int)(xs:List AV)(ω:Om)(Q:AV->Om->Prop):aF2 f xs ω Q=(∃i j,xs=[.d (.int i),.d (.int j)]/\Q (.d (.int (f i j))) ω):=rfl
theorem sA(f:Int->Int)(xs:List AV)(ω:Om)(Q:AV->Om->Prop):aF1 f xs ω Q=(∃i,xs=[.d (.int i)]/\Q (.d (.int (f i))) ω):=rfl
theorem jg(xs:List AV)(ω:Om)(Q:AV->Om->Prop):r8 xs ω Q=(∃x ds,xs=[x]/\(aQ ω x=some (.lst ds)\/x=.d (.tup ds))/\Q (.d (.tup ds)) ω):=rfl
theorem iO(xs:List AV)(ω:Om)(Q:AV->Om->Prop):nZ xs ω Q=(∃x ds,xs=[x]/\(aQ ω x=some (.lst ds)\/x=.d (.tup ds))/\Q (.d (.lst ds)) ω):=rfl
theorem jq(ta:AA)(ρ:SA)(ω:Om)(R:List AV->Om->Prop):sL ta ρ ω R=(ta ρ ω fun xs ω1=>∃j:Int,xs=[.d (.int j)]/\-(2^62)<=j/\j<2^62/\R (cX 0 j.toNat) ω1):=rfl
theorem kK(to ti:AE)(v:AV)(ρ:SA)(ω:Om)(Q:SA->Om->Prop):vh to ti v ρ ω Q=(to ρ ω fun o ω1=>ti ρ ω1 fun i ω2=>∃l k xs j,o=.r (.ref l)/\i=.d (.int k)/\ω2 l=some (.own xs)/\ixN xs.length k=some j/\Q ρ (ω2.put l (.own (xs.set j v)))):=rfl
theorem ju(z0:SA)(ω:Om)(Q:Option Int->Om->Prop):tM z0 ω Q=(Q none ω):=rfl
theorem i7(t:AE)(ρ:SA)(ω:Om)(Q:Option Int->Om->Prop):qO t ρ ω Q=(t ρ ω fun x ω1=>∃i,x=.d (.int i)/\Q (some i) ω1):=rfl
theorem iq(to:AE)(t:AA)(ρ:SA)(ω:Om)(Q:AV->Om->Prop):oB to t ρ ω Q=(to ρ ω fun x ω1=>∃l,x=.r (.ref l)/\(∃zs,ω1 l=some (.own zs))/\t ρ ω1 fun ys ω2=>∃xs y,ys=[y]/\ω2 l=some (.own xs)/\xs.length<sizeLine/\Q (.d .non) (ω2.put l (.own (xs++[y])))):=rfl
theorem ja(to:AE)(ρ:SA)(ω:Om)(Q:AV->Om->Prop):qW to ρ ω Q=(to ρ ω fun x ω1=>∃l xs,x=.r (.ref l)/\ω1 l=some (.own xs)/\Q (.d .non) (ω1.put l (.own []))):=rfl
theorem iM(xs:List AV)(ω:Om)(Q:AV->Om->Prop):oy xs ω Q=(∃(x:AV) (W:List (List Int)),xs=[x]/\aQ ω x=some (.lst (W.map wdD))/\(∀y∈W,y≠[])/\W.length<64/\Q (.d (.lst ((fi W).map wdD))) ω):=rfl
theorem pq(xs:List AV)(ω:Om)(Q:AV->Om->Prop):yC xs ω Q=(∃x d T,xs=[x,.r (.ty T)]/\aQ ω x=some d/\T∈gz/\Q (.d (.bl (isD T d))) ω):=rfl
theorem lm(ta tb:AE)(ρ:SA)(ω:Om)(Q:AV->Om->Prop):vB ta tb ρ ω Q=(ta ρ ω fun x ω1=>∃c,ec ω1 x=some c/\if c=true then tb ρ ω1 Q else Q x ω1):=rfl
theorem mo(ta:AE)(ρ:SA)(ω:Om)(Q:AV->Om->Prop):vY ta ρ ω Q=(ta ρ ω fun x ω1=>∃c,ec ω1 x=some c/\Q (.d (.bl (!c))) ω1):=rfl
theorem lg(te:AE)(ρ:SA)(ω:Om)(R:List AV->Om->Prop):vg te ρ ω R=(te ρ ω fun x ω1=>re ω1 x fun d ω2=>∃ds,uP d=some ds/\R (ds.map AV.d) ω2):=rfl
theorem mj(src:List (Option Nat))(wi:AI)(g:AG)(tc:AT)(l:AL)(ρ:SA)(ω:Om)(Q:AV->Om->Prop):vW src wi g tc l ρ ω Q=(wi ρ ω fun as ω1=>ce g tc l as [] (i4 src ρ) ω1 fun xs _ ω'=>∃ds,und xs=some ds/\Q (.d (.lst ds)) ω'):=rfl
theorem i9(src:List (Option Nat))(wi:AI)(g:AG)(tc:AT)(l:AL)(ρ:SA)(ω:Om)(Q:AV->Om->Prop):sh src wi g tc l ρ ω Q=(wi ρ ω fun as ω1=>ce g tc l as [] (i4 src ρ) ω1 fun xs _ ω'=>∀p,ω' p=none->Q (.r (.ref p)) (ω'.put p (.own xs))):=rfl
theorem sC(r:List AV->Om->(AV->Om->Prop)->Prop)(t:AA)(ρ:SA)(ω:Om)(Q:AV->Om->Prop):aCB r t ρ ω Q=(t ρ ω fun xs ω1=>r xs ω1 Q):=rfl
theorem lX(i:Int)(y:AV)(ω:Om)(Q:AV->Om->Prop):uw (.d (.int i)) y ω Q=(∃j,y=.d (.int j)/\Q (.d (.int (i+j))) ω):=rfl
theorem ln(ds:List D)(y:AV)(ω:Om)(Q:AV->Om->Prop):uw (.d (.tup ds)) y ω Q=(∃es,y=.d (.tup es)/\ds.length+es.length<=sizeLine/\Q (.d (.tup (ds++es))) ω):=rfl
theorem lD(ds:List D)(y:AV)(ω:Om)(Q:AV->Om->Prop):uw (.d (.lst ds)) y ω Q=(∃es,aQ ω y=some (.lst es)/\ds.length+es.length<=sizeLine/\Q (.d (.lst (ds++es))) ω):=by
 show (∃ds' es,aQ ω (.d (.lst ds))=some (.lst ds')/\aQ ω y=some (.lst es)/\ds'.length+es.length<=sizeLine/\Q (.d (.lst (ds'++es))) ω)=_;simp only[aQ,Option.some.injEq,D.lst.injEq,exists_eq_left',exists_and_left]
theorem kQ(i:Int)(y:AV)(ω:Om)(Q:AV->Om->Prop):yT (.d (.int i)) y ω Q=(∃j,y=.d (.int j)/\iZ i j/\Q (.d (.int (i*j))) ω):=rfl
noncomputable def slA(x:AV)(lo hi:Option Int)(ω:Om)(Q:AV->Om->Prop):Prop:=match x with
 |.d (.tup ds)=>Q (.d (.tup (dG ds lo hi))) ω
 |x=>∃ds,aQ ω x=some (.lst ds)/\Q (.d (.lst (dG ds lo hi))) ω
theorem nH(ds:List D)(lo hi:Option Int)(ω:Om)(Q:AV->Om->Prop):slA (.d (.tup ds)) lo hi ω Q=Q (.d (.tup (dG ds lo hi))) ω:=rfl
theorem pz(ds:List D)(lo hi:Option Int)(ω:Om)(Q:AV->Om->Prop):slA (.d (.lst ds)) lo hi ω Q=Q (.d (.lst (dG ds lo hi))) ω:=by
 show (∃ds',aQ ω (.d (.lst ds))=some (.lst ds')/\Q (.d (.lst (dG ds' lo hi))) ω)=_;simp only[aQ,Option.some.injEq,D.lst.injEq,exists_eq_left']
theorem qR(te:AE)(tl th:AO)(ρ:SA)(ω:Om)(Q:AV->Om->Prop):aSl te tl th ρ ω Q=(te ρ ω fun x ω1=>tl ρ ω1 fun lo ω2=>th ρ ω2 fun hi ω3=>slA x lo hi ω3 Q):=rfl
theorem tf(ω:Om)(x:D)(K:D->Om->Prop):re ω (.d x) K=K x ω:=rfl
theorem rE(ω:Om)(x:D):aQ ω (.d x)=some x:=rfl
theorem sU(ω:Om)(l:Addr):aQ ω (.r (.ref l))=(match ω l with
  |some (.own xs)=>(und xs).map D.lst
  |some (.frz ds)=>some (.lst ds)
  |_=>none):=rfl
theorem tK(ω:Om)(ds:List D):cT ω (.d (.lst ds))=some (ds.map AV.d):=rfl
theorem tD(ω:Om)(ds:List D):cT ω (.d (.tup ds))=none:=rfl
theorem rP(ω:Om)(l:Addr):cT ω (.r (.ref l))=(match ω l with
  |some (.own xs)=>some xs
  |some (.frz ds)=>some (ds.map AV.d)
  |_=>none):=rfl
theorem rd(ds:List D):eZ (.d (.tup ds))=some (ds.map AV.d):=rfl
theorem qP(ds:List D):eZ (.d (.lst ds))=none:=rfl
theorem qw(v:V):eZ (.r v)=none:=rfl
theorem sr(ω:Om)(b:Bool):ec ω (.d (.bl b))=some b:=rfl
theorem lJ(x:D)(r:List AV):und (.d x::r)=(und r).map (x::·):=rfl
theorem nR:und []=some []:=rfl
theorem nh(ω:Om)(ds:List D):l6 ω (.d (.tup ds))=some ds.length:=by simp[l6,eZ]
theorem sw(ω:Om)(ds:List D):l6 ω (.d (.lst ds))=some ds.length:=by simp[l6,eZ,cT]
theorem rl(ω:Om)(l:Addr):l6 ω (.r (.ref l))=(cT ω (.r (.ref l))).map List.length:=rfl
theorem qN(ds:List D):uP (.tup ds)=some ds:=rfl
theorem r9(ds:List D):uP (.lst ds)=some ds:=rfl
theorem tL{g:AG}{tb:AS}{D:bp}{as:List AV}{ρ:SA}{ω:Om}(I:Nat->SA->Om->Prop)(h0:I 0 ρ ω)(hs:∀(i:Nat)(a:AV)(ρ:SA)(ω:Om)(N:SA->Om->Prop),as[i]?=some a->I i ρ ω->(∀ρ' ω',I (i+1) ρ' ω'->N ρ' ω')->g a ρ ω fun ρ1 ω1=>tb { nx:=N,ct:=N,bk:=D.nx,rt:=D.rt } ρ1 ω1)(hd:∀ρ ω,I as.length ρ ω->D.nx ρ ω):fe g tb D as ρ ω:=by
 have key:∀(n i:Nat)(ρ:SA)(ω:Om),i+n=as.length->I i ρ ω->fe g tb D (as.drop i) ρ ω:=by
  intro n
  induction n with
  |zero=>intro i ρ ω hi h;rw[List.drop_eq_nil_of_le (by omega)];exact hd ρ ω (by rw[←hi];exact h)
  |succ n ih=>
   intro i ρ ω hi h;obtain⟨a,ha,hdr⟩:=eR (as:=as) (i:=i) (by omega)
   rw[hdr];exact hs i a ρ ω _ ha h fun ρ' ω' h'=>ih (i+1) ρ' ω' (by omega) h'
 simpa using key as.length 0 ρ ω (by omega) h0
theorem x6{g:AG}{tb:AS}{D:bp}{ds:List L2.D}{ρ:SA}{ω:Om}(I:Nat->SA->Om->Prop)(h0:I 0 ρ ω)(hs:∀(i:Nat)(d:L2.D)(ρ:SA)(ω:Om)(N:SA->Om->Prop),ds[i]?=some d->I i ρ ω->(∀ρ' ω',I (i+1) ρ' ω'->N ρ' ω')->g (.d d) ρ ω fun ρ1 ω1=>tb { nx:=N,ct:=N,bk:=D.nx,rt:=D.rt } ρ1 ω1)(hd:∀ρ ω,I ds.length ρ ω->D.nx ρ ω):fe g tb D (ds.map AV.d) ρ ω:=
 tL I h0 (fun i a ρ ω N ha h k=>by
  rw[List.getElem?_map,Option.map_eq_some_iff] at ha;obtain⟨d,h1,rfl⟩:=ha
  exact hs i d ρ ω N h1 h k) (fun ρ ω h=>hd ρ ω (by simpa using h))
theorem jO{g:AG}{tb:AS}{D:bp}{lo:Int}{n:Nat}{ρ:SA}{ω:Om}(I:Nat->SA->Om->Prop)(h0:I 0 ρ ω)(hs:∀(i:Nat)(ρ:SA)(ω:Om)(N:SA->Om->Prop),i<n->I i ρ ω->(∀ρ' ω',I (i+1) ρ' ω'->N ρ' ω')->g (.d (.int (lo+(i:Nat)))) ρ ω fun ρ1 ω1=>tb { nx:=N,ct:=N,bk:=D.nx,rt:=D.rt } ρ1 ω1)(hd:∀ρ ω,I n ρ ω->D.nx ρ ω):fe g tb D (cX lo n) ρ ω:=
 tL I h0 (fun i a ρ ω N ha h k=>by
  unfold cX at ha;rw[List.getElem?_map,Option.map_eq_some_iff] at ha;obtain⟨j,h1,rfl⟩:=ha;obtain⟨hj,rfl⟩:=List.getElem?_eq_some_iff.mp h1;simp only[List.getElem_range,List.length_range] at hj ⊢
  exact hs i ρ ω N hj h k) (fun ρ ω h=>hd ρ ω (by simpa[cX] using h))
theorem gW{g:AG}{tc:AT}{l:AL}{as xs:List AV}{ρ:SA}{ω:Om}{K:List AV->SA->Om->Prop}(I:Nat->List AV->SA->Om->Prop)(h0:I 0 xs ρ ω)(hs:∀(i:Nat)(a:AV)(xs:List AV)(ρ:SA)(ω:Om)(N:List AV->SA->Om->Prop),as[i]?=some a->I i xs ρ ω->(∀xs' ρ' ω',I (i+1) xs' ρ' ω'->N xs' ρ' ω')->g a ρ ω fun ρ1 ω1=>tc ρ1 ω1 fun b ω2=>if b=true then l xs ρ1 ω2 N else N xs ρ1 ω2)(hd:∀xs ρ ω,I as.length xs ρ ω->K xs ρ ω):ce g tc l as xs ρ ω K:=by
 have key:∀(n i:Nat)(xs:List AV)(ρ:SA)(ω:Om),i+n=as.length->I i xs ρ ω->ce g tc l (as.drop i) xs ρ ω K:=by
  intro n
  induction n with
  |zero=>intro i xs ρ ω hi h;rw[List.drop_eq_nil_of_le (by omega)];exact hd xs ρ ω (by rw[←hi];exact h)
  |succ n ih=>
   intro i xs ρ ω hi h;obtain⟨a,ha,hdr⟩:=eR (as:=as) (i:=i) (by omega)
   rw[hdr];exact hs i a xs ρ ω (fun xs' ρ' ω'=>ce g tc l (as.drop (i+1)) xs' ρ' ω' K) ha h fun xs' ρ' ω' h'=>ih (i+1) xs' ρ' ω' (by omega) h'
 simpa using key as.length 0 xs ρ ω (by omega) h0
theorem sW{g:AG}{tc:AT}{l:AL}{ds:List D}{xs:List AV}{ρ:SA}{ω:Om}{K:List AV->SA->Om->Prop}(I:Nat->List AV->SA->Om->Prop)(h0:I 0 xs ρ ω)(hs:∀(i:Nat)(d:D)(xs:List AV)(ρ:SA)(ω:Om)(N:List AV->SA->Om->Prop),ds[i]?=some d->I i xs ρ ω->(∀xs' ρ' ω',I (i+1) xs' ρ' ω'->N xs' ρ' ω')->g (.d d) ρ ω fun ρ1 ω1=>tc ρ1 ω1 fun b ω2=>if b=true then l xs ρ1 ω2 N else N xs ρ1 ω2)(hd:∀xs ρ ω,I ds.length xs ρ ω->K xs ρ ω):ce g tc l (ds.map AV.d) xs ρ ω K:=
 gW I h0 (fun i a xs ρ ω N ha h k=>by
  rw[List.getElem?_map,Option.map_eq_some_iff] at ha;obtain⟨d,h1,rfl⟩:=ha
  exact hs i d xs ρ ω N h1 h k) (fun xs ρ ω h=>hd xs ρ ω (by simpa using h))
structure Pn where
 f:Int
 x:Int
 i:Int
 h:0<=f
noncomputable def bH(c:Pn):OC:=.own [.d (.int c.f),.d (.int c.x),.d (.int c.i)]
section
variable{α:Type}(a b c e:α)(l:List α)
theorem dM{xs:List α}{x:α}(j:Nat){i:Int}(hi:i=(j:Int))(h:xs[j]?=some x):atI xs i=some x:=by
 subst hi;have hj:=(List.getElem?_eq_some_iff.mp h).1;unfold atI ixN;rw[if_pos (by omega),if_pos (by omega)]
 simpa using h
theorem vq:atI (a::l) 0=some a:=dM 0 rfl rfl
theorem vd:atI (a::b::l) 1=some b:=dM 1 rfl rfl
theorem va:atI (a::b::c::l) 2=some c:=dM 2 rfl rfl
end
theorem sz1:(1<=sizeLine)=True:=eq_true (by decide)
theorem sz2:(2<=sizeLine)=True:=eq_true (by decide)
theorem sz3:(3<=sizeLine)=True:=eq_true (by decide)
theorem sz6:(6<=sizeLine)=True:=eq_true (by decide)
theorem sR:ixN 3 0=some 0:=rfl
theorem rD:ixN 3 2=some 2:=rfl
theorem hG(a b:Int):eqD (.int a) (.int b)=(a == b):=by simp[eqD]
theorem oN(a:Int):dep (.int a)=0:=by simp[dep]
noncomputable def Om.only(ω' ω:Om):Om:=fun b=>if (ω b).isSome=true then ω' b else none
noncomputable def Ex(ω ω':Om):Prop:=∀b,(ω b).isSome=true->ω' b=ω b
theorem Ex.refl(ω:Om):Ex ω ω:=fun _ _=>rfl
theorem Ex.none{ω ω':Om}(h:Ex ω ω'){l:Addr}(e:ω' l=none):ω l=none:=by
 cases z:ω l with
 |none=>rfl
 |some c=>have:=h l (by rw[z];rfl);rw[e,z] at this;cases this
theorem Ex.new{ω ω':Om}(h:Ex ω ω'){l:Addr}{c:OC}(e:ω' l=Option.none):Ex ω (ω'.put l c):=fun b hb=>by
 have:b≠l:=fun z=>by subst z;rw[h.none e] at hb;cases hb
 rw[Om.z9 this];exact h b hb
theorem Ex.over{ω ω':Om}(h:Ex ω ω'){l:Addr}{c:OC}(e:ω l=Option.none):Ex ω (ω'.put l c):=fun b hb=>by
 have:b≠l:=fun z=>by subst z;rw[e] at hb;cases hb
 rw[Om.z9 this];exact h b hb
theorem Ex.put{ω ω':Om}(h:Ex ω ω'){l:Addr}{c:OC}:Ex (ω.put l c) (ω'.put l c):=fun b hb=>by
 by_cases z:b=l
 ·subst z;rw[Om.Aa,Om.Aa]
 ·rw[Om.z9 z] at hb ⊢;rw[Om.z9 z];exact h b hb
theorem Ex.put2{ω ω':Om}{l:Addr}{c e:OC}(h:Ex (ω.put l c) ω'):Ex (ω.put l e) (ω'.put l e):=by
 have:=h.put (l:=l) (c:=e)
 rwa [Om.Ab] at this
theorem du(ω:Om):ω.only ω=ω:=by
 funext b;unfold Om.only
 cases e:ω b<;>simp
theorem lL{ω ω':Om}{p:Addr}{c:OC}(h:Ex (ω.put p c) ω')(hp:(ω p).isSome=true):ω'.only ω=ω.put p c:=by
 funext b;unfold Om.only
 by_cases hb:b=p
 ·subst hb;rw[if_pos hp,h b (by rw[Om.Aa];rfl)]
 ·rw[Om.z9 hb]
  cases e:ω b with
  |none=>simp
  |some o=>simp only[Option.isSome_some,if_true];rw[h b (by rw[Om.z9 hb,e];rfl),Om.z9 hb,e]
theorem Rep.only{F:Fs}{H:Hp}{ω ω':Om}(rp:Rep F H ω'):Rep F H (ω'.only ω)/\bK (cut F H ω') (cut F H (ω'.only ω)):=by
 have ho:∀b,ow (ω' b)=false->ow ((ω'.only ω) b)=false:=fun b h=>by
  unfold Om.only;split
  ·exact h
  ·rfl
 have sm:bK (cut F H ω') (cut F H (ω'.only ω)):=fun b o e=>by
  obtain⟨h,f,e⟩:=aJ.mp e;exact aJ.mpr ⟨ho b h,f,e⟩
 have un:∀b c,(ω'.only ω) b=some c->ω' b=some c:=fun b c e=>by
  unfold Om.only at e;split at e
  ·exact e
  ·cases e
 refine⟨⟨fun l xs e=>?_,fun l ds e=>(rp.frz l ds (un _ _ e)).same sm,fun b f=>?_,fun l ks e=>(by obtain⟨vs,e1,e2⟩:=rp.dic l ks (un _ _ e);exact⟨vs,e1,e2.same sm⟩)⟩,sm⟩
 ·obtain⟨vs,e1,e2⟩:=rp.own l xs (un _ _ e)
  exact⟨vs,e1,e2.same sm⟩
 ·obtain⟨h1,h2⟩:=rp.hid b f
  refine⟨?_,h2⟩;unfold Om.only;rw[h1];simp
theorem Fr.only{F:Fs}{H H':Hp}{ω ω':Om}(fr:Fr F H ω H' ω'):Fr F H ω H' (ω'.only ω):=⟨fun b o h f e=>by
 obtain⟨x,y⟩:=fr.st b o h f e;refine⟨x,?_⟩;unfold Om.only;split
 ·exact y
 ·rfl,fr.hd⟩
theorem Fun.okD{P:Program}{w:World}{K:W.Frag}{mg:Str->Option Value}{base:Heap}{x qual:Str}{st:Stmt}{f:Addr}{fd:FuncData}{N ps:List Str}{k:Nat}{sp:ASp}(F:Fun K x qual st f fd)(S:aX N ps (defScope st))(len:∀xs ω Q,sp xs ω Q->xs.length=ps.length)
  (hbody:∀(cdv:Value)(A:Around)(outer:List Env)(s:Shared)(H:Hp)(E:XK),cG k (A.deeper (envOfC qual (defScope st) s.heap.objs.size f cdv)) ->
   ∃t t',PSs (fk CX0 P w K mg base N qual (defScope st) f cdv A outer s H E).nox (defBody st) t/\eW t t'/\∀xs ω Q',sp xs ω Q'->t' { nx:=fun _ ω'=>Q' (.d .non) (ω'.only ω),rt:=fun a ω'=>∃d,a=.d d/\Q' (.d d) (ω'.only ω) } (eK N xs) ω):bD P w K mg base CX0 (k+1) f fd ps (fL sp):=by
 refine F.ok S (fun vs H Q E h=>?_) (fun cdv A outer s H vs Q E hr h=>?_)
 ·obtain⟨F,xs,ω,Q',rp,rv,h,_⟩:=h
  rw[rv.length,len xs ω Q' h]
 ·obtain⟨t,t',h1,h2,h3⟩:=hbody cdv A outer s H E hr
  obtain⟨F,xs,ω,Q',rp,rv,h,kq⟩:=h;refine⟨t,h1,h2.run F H ω _ _ _ _ rp (RS.start rv) (h3 xs ω Q' h) ⟨?_,?_,fun _ _ _ _ _ _ _ z=>z.elim,fun _ _ _ _ _ _ _ z=>z.elim⟩⟩
  ·exact fun ρ' ω' σ' H' e1 e2 e3 q=>kq (.d .non) (ω'.only ω) .non H' e1.only.1 e2.only (by simp[RV,Dat]) q
  ·rintro a ω' v H' e1 e2 e3 ⟨d,rfl,q⟩
   exact kq (.d d) (ω'.only ω) v H' e1.only.1 e2.only (e3.same e1.only.2) q
noncomputable def wl:Nat->List (List Int)
 |0=>[[]]
 |n+1=>(wl n).flatMap fun w=>[w++[0],w++[1]]
theorem kD:∀n,(wl n).length=2^n
 |0=>rfl
 |n+1=>by
  have h:∀ws:List (List Int),(ws.flatMap fun w=>[w++[0],w++[1]]).length=2*ws.length:=fun ws=>by
   induction ws with
   |nil=>rfl
   |cons a r ih=>rw[List.flatMap_cons,List.length_append,ih];simp;omega
  rw[wl,h,kD n,Nat.pow_succ];omega
theorem mO:∀ {n:Nat} {w:List Int},w∈wl n->w.length=n/\∀x∈w,x=0\/x=1
 |0,w,h=>by simp[wl] at h;rw[h];simp
 |n+1,w,h=>by
  simp only[wl,List.mem_flatMap] at h;obtain⟨v,hv,h⟩:=h;obtain⟨h1,h2⟩:=mO hv;simp only[List.mem_cons,List.not_mem_nil,or_false] at h;rcases h with rfl|rfl<;>refine⟨by simp[h1],fun x hx=>?_⟩<;>rcases List.mem_append.mp hx with hx|hx
  ·exact h2 x hx
  ·rw[List.mem_singleton.mp hx];exact .inl rfl
  ·exact h2 x hx
  ·rw[List.mem_singleton.mp hx];exact .inr rfl
theorem vK{n:Nat}(h:n<=5):(wl n).length<=32:=by
 rw[kD];exact Nat.pow_le_pow_right (by decide) h
theorem wr:∀n:Fin 6,(wl n.val).Nodup:=by decide +kernel
theorem x9{n:Nat}(h:n<=5):(wl n).Nodup:=wr ⟨n,by omega⟩
noncomputable def Wds(n:Nat)(ws:List (List Int)):Prop:=ws.Nodup/\∀w∈ws,w∈wl n
theorem Wds.sub{n:Nat}{ws:List (List Int)}(h:ws.Sublist (wl n))(hn:n<=5):Wds n ws:=⟨h.nodup (x9 hn),fun w hw=>h.mem hw⟩
theorem Wds.perm{n:Nat}{ws vs:List (List Int)}(h:Wds n ws)(p:vs.Perm ws):Wds n vs:=⟨(p.nodup_iff).mpr h.1,fun w hw=>h.2 w (p.mem_iff.mp hw)⟩
theorem jk:∀a b:List Int,bP (a.map D.int) (b.map D.int)=decide (a=b)
 | [],[]=>by simp[bP]
 | [],_::_=>by simp[bP]
 |_::_,[]=>by simp[bP]
 |x::a,y::b=>by
  simp only[List.map_cons,bP,eqD,jk a b,List.cons.injEq];by_cases h1:x=y<;>by_cases h2:a=b<;>simp[h1,h2]
theorem mX(a b:List Int):eqD (wdD a) (wdD b)=decide (a=b):=by simp only[wdD,eqD];exact jk a b
theorem xb(w:List Int):dep (wdD w)=1:=by simp[wdD,dep,pX]
theorem dA(ws:List (List Int)):bC (ws.map wdD)<=1:=fN fun d hd=>by
 obtain⟨w,_,rfl⟩:=List.mem_map.mp hd;rw[xb];exact Nat.le_refl _
theorem v8(a:List Int)(ws:List (List Int)):inD (wdD a) (ws.map wdD)=decide (a∈ws):=by
 unfold inD;rw[Bool.eq_iff_iff,List.any_eq_true,decide_eq_true_iff];constructor
 ·rintro⟨d,hd,e⟩
  obtain⟨w,hw,rfl⟩:=List.mem_map.mp hd;rw[mX,decide_eq_true_iff] at e;exact e ▸ hw
 ·intro h
  exact⟨wdD a,List.mem_map.mpr ⟨a,h,rfl⟩,by rw[mX];simp⟩
theorem ko{α β:Type}{f:α->β}{xs:List α}{i:Nat}{y:β}(h:(xs.map f)[i]?=some y):∃x,xs[i]?=some x/\y=f x:=by
 rw[List.getElem?_map] at h
 cases e:xs[i]? with
 |none=>rw[e] at h;cases h
 |some x=>rw[e] at h;cases h;exact⟨x,rfl,rfl⟩
theorem t9{α:Type}{f:α->AV}{xs:List α}{i:Int}(h0:0<=i)(h1:i<xs.length):∃x,x∈xs/\xs[i.toNat]?=some x/\atI (xs.map f) i=some (f x):=by
 obtain⟨j,rfl⟩:=Int.eq_ofNat_of_zero_le h0;have hj:j<xs.length:=by omega
 exact⟨xs[j],List.getElem_mem hj,by simp[List.getElem?_eq_getElem hj],dM j rfl (by rw[List.getElem?_map,List.getElem?_eq_getElem hj];rfl)⟩
theorem ox(x:List Int):eZ (.d (wdD x))=some ((x.map D.int).map AV.d):=rfl
inductive Sy where
 |is (i b:Int)
 |jn (an:Bool) (l r:Sy)
namespace Sy
noncomputable def d:Sy->D
 |.is i b=>.tup [.str "is",.int i,.int b]
 |.jn an l r=>.tup [.str (if an then "and" else "or"),l.d,r.d]
noncomputable def ok(n:Nat):Sy->Prop
 |.is i b=>0<=i/\i<n/\(b=0\/b=1)
 |.jn _ l r=>l.ok n/\r.ok n
noncomputable def dp:Sy->Nat
 |.is _ _=>0
 |.jn _ l r=>1+max l.dp r.dp
noncomputable def up:Sy->Prop
 |.is _ b=>b=1
 |.jn _ l r=>l.up/\r.up
noncomputable def val(w:List Int):Sy->Bool
 |.is i b=>decide (w.getD i.toNat 0=b)
 |.jn an l r=>if an then val w l && val w r else val w l || val w r
end Sy
inductive Ta where
 |en (i:Int)
 |nd (y:Bool) (ws:List (List Int)) (l r:Ta)
namespace Ta
noncomputable def d:Ta->D
 |.en i=>.tup [.str "end",.int i]
 |.nd y ws l r=>.tup [.str (if y then "yes" else "no"),.tup (ws.map wdD),l.d,r.d]
noncomputable def ok(n:Nat):Ta->Prop
 |.en i=>0<=i/\i<n
 |.nd _ ws l r=>Wds n ws/\l.ok n/\r.ok n
noncomputable def dp:Ta->Nat
 |.en _=>0
 |.nd _ _ l r=>1+max l.dp r.dp
noncomputable def size:Ta->Nat
 |.en _=>1
 |.nd _ _ l r=>l.size+r.size+1
noncomputable def bit(y n:List Int)(hy:Bool)(ws:List (List Int)):Bool:=decide ((if hy then y else n)∈ws)
noncomputable def way(y n:List Int):Ta->List Int
 |.en _=>[]
 |.nd h ws a b=>if bit y n h ws then 1::way y n b else 0::way y n a
noncomputable def fin(y n:List Int):Ta->Int
 |.en i=>i
 |.nd h ws a b=>if bit y n h ws then fin y n b else fin y n a
end Ta
noncomputable def om3(ω:Om)(p l1 l2:Addr)(c A B:OC):Om:=((ω.put p c).put l1 A).put l2 B
section
variable{ω:Om}{p l l1 l2:Addr}{c c' A A' B B':OC}
theorem vz(h1:p≠l1)(h2:p≠l2):om3 ω p l1 l2 c A B p=some c:=by unfold om3;rw[Om.z9 h2,Om.z9 h1,Om.Aa]
theorem rA(h:l1≠l2):om3 ω p l1 l2 c A B l1=some A:=by unfold om3;rw[Om.z9 h,Om.Aa]
theorem xO:om3 ω p l1 l2 c A B l2=some B:=by unfold om3;rw[Om.Aa]
theorem w4(h1:p≠l1)(h2:p≠l2):(om3 ω p l1 l2 c A B).put p c'=om3 ω p l1 l2 c' A B:=by unfold om3;rw[Om.Ae h2,Om.Ae h1,Om.Ab]
theorem wF(h:l1≠l2):(om3 ω p l1 l2 c A B).put l1 A'=om3 ω p l1 l2 c A' B:=by unfold om3;rw[Om.Ae h,Om.Ab]
end
noncomputable def om4(ω:Om)(p l1 l2 l3:Addr)(c A B C:OC):Om:=(((ω.put p c).put l1 A).put l2 B).put l3 C
structure Ne4(p l1 l2 l3:Addr):Prop where
 p1:p≠l1
 p2:p≠l2
 p3:p≠l3
 a:l1≠l2
 b:l1≠l3
 c:l2≠l3
section
variable{ω:Om}{p l1 l2 l3:Addr}{c c' A A' B B' C C':OC}(h:Ne4 p l1 l2 l3)
include h
theorem yP:om4 ω p l1 l2 l3 c A B C p=some c:=by unfold om4;rw[Om.z9 h.p3,Om.z9 h.p2,Om.z9 h.p1,Om.Aa]
theorem yb:om4 ω p l1 l2 l3 c A B C l1=some A:=by unfold om4;rw[Om.z9 h.b,Om.z9 h.a,Om.Aa]
theorem xU:om4 ω p l1 l2 l3 c A B C l2=some B:=by unfold om4;rw[Om.z9 h.c,Om.Aa]
theorem xR:om4 ω p l1 l2 l3 c A B C l3=some C:=by unfold om4;rw[Om.Aa]
end
section
variable{P:Program}{w:World}{K:W.Frag}{mg:Str->Option Value}{base:Heap}
structure Cs(n:Nat)(ys zs:List (List Int)):Prop where
 y:Wds n ys
 z:Wds n zs
 y1:ys≠[]
 z1:zs≠[]
theorem oP{t u:AS}{D:bp}{ρ:SA}{ω:Om}(I:SA->Om->Prop)(h1:∀N:SA->Om->Prop,(∀ρ' ω',I ρ' ω'->N ρ' ω')->t { D with nx:=N } ρ ω)(h2:∀ρ' ω',I ρ' ω'->u D ρ' ω'):uf t u D ρ ω:=h1 (u D) h2
end
structure z6(t2 t:TS)(t':AS):Prop where
 run:∀(F:Fs)(H:Hp)(ω:Om)(σ:St)(ρ:SA)(D:ee)(D':bp),Rep F H ω->RS (cut F H ω) ρ σ->t' D' ρ ω->LE F H ω D' { D with nx:=t2 D }->t D σ H
theorem qX{g:AG}{te:AE}{as:List AV}{rs:List D}{ρ:SA}{ω:Om}{K:List AV->SA->Om->Prop}(R:SA->Prop)(h0:R ρ)(hl:rs.length=as.length)(hz:as.length<=sizeLine)(he:∀(i:Nat)(a:AV)(r:D)(ρ:SA)(N:SA->Om->Prop),as[i]?=some a->rs[i]?=some r->R ρ->(∀ρ1,R ρ1->(∀Q:AV->Om->Prop,Q (.d r) ω->te ρ1 ω Q)->N ρ1 ω)->g a ρ ω N)(hk:∀ρ,R ρ->K (rs.map AV.d) ρ ω):ce g fW (iE te) as [] ρ ω K:=by
 refine gW (fun i xs ρ ω'=>ω'=ω/\R ρ/\xs=(rs.take i).map AV.d) ⟨rfl,h0,rfl⟩ ?_ ?_
 ·rintro i a xs ρ ω' N ha ⟨rfl,hR,rfl⟩ kN
  have hi:=(List.getElem?_eq_some_iff.mp ha).1;have hr:rs[i]?=some rs[i]:=List.getElem?_eq_getElem (by omega)
  refine he i a _ ρ _ ha hr hR fun ρ1 hR1 h=>?_;rw[dW,if_pos rfl,eA];refine h _ ⟨by rw[List.length_map,List.length_take];omega,kN _ _ _ ⟨rfl,hR1,?_⟩⟩
  rw[show rs.take (i+1)=rs.take i++[rs[i]] from by rw[List.take_succ,hr];rfl,List.map_append]
  rfl
 ·rintro xs ρ ω' ⟨rfl,hR,rfl⟩
  rw[←hl,List.take_length]
  exact hk ρ hR
theorem fJ{te:AE}{as:List AV}{rs:List D}{v0:Option AV}{aL:SA}{ω:Om}{K:List AV->SA->Om->Prop}(hl:rs.length=as.length)(hz:as.length<=sizeLine)(he:∀(i:Nat)(a:AV)(r:D),as[i]?=some a->rs[i]?=some r->∀Q:AV->Om->Prop,Q (.d r) ω->te (some a::aL) ω Q)(hk:∀ρ,K (rs.map AV.d) ρ ω):ce (iK 0) fW (iE te) as [] (v0::aL) ω K:=
 qX (fun ρ=>∃v,ρ=v::aL) ⟨_,rfl⟩ hl hz (fun i a r ρ N ha hr ⟨v,e⟩ k=>by
  subst e;rw[dz,List.set_cons_zero]
  exact k _ ⟨_,rfl⟩ (he i a r ha hr)) (fun ρ _=>hk ρ)
noncomputable def gg(K:W.Frag)(a:Addr)(ns:List Int):AV:=.p (.ref a) (fun H=>SqL K H a (ns.map V.int))
noncomputable def xY(K:W.Frag):A2:=fun x y ω Q=>∃(a:Addr)(ns:List Int)(i v:Int),x=gg K a ns/\y=.d (.int i)/\atI ns i=some v/\Q (.d (.int v)) ω
noncomputable def vG(K:W.Frag):AC:=fun xs ω Q=>∃(a:Addr)(ns:List Int),xs=[gg K a ns]/\Q (.d (.int ns.length)) ω
theorem o9(K:W.Frag)(x y:AV)(ω:Om)(Q:AV->Om->Prop):xY K x y ω Q=(∃(a:Addr)(ns:List Int)(i v:Int),x=gg K a ns/\y=.d (.int i)/\atI ns i=some v/\Q (.d (.int v)) ω):=rfl
theorem kY(K:W.Frag)(xs:List AV)(ω:Om)(Q:AV->Om->Prop):vG K xs ω Q=(∃(a:Addr)(ns:List Int),xs=[gg K a ns]/\Q (.d (.int ns.length)) ω):=rfl
theorem t7{α β:Type}{f:α->β}{xs:List α}{i:Int}{v:α}(h:atI xs i=some v):atI (xs.map f) i=some (f v):=by
 unfold atI at h ⊢;rw[List.length_map]
 cases e:ixN xs.length i with
 |none=>rw[e] at h;cases h
 |some j=>
  rw[e] at h;simp only[Option.bind_some] at h ⊢;rw[List.getElem?_map,h];rfl
theorem sB{F:Fs}{H:Hp}{ω:Om}{K:W.Frag}{a:Addr}{ns:List Int}{v:V}(r:RV (cut F H ω) (gg K a ns) v):v=.ref a/\SqL K H a (ns.map V.int):=by
 obtain⟨rfl,r⟩:=r;exact⟨rfl,r _ az⟩
theorem zg{K:W.Frag}:eY (rIx K) (xY K):=⟨fun F H ω v u x y Q Q' rp h1 h2 ⟨a,ns,i,z,e1,e2,e3,q⟩ k=>by
 subst e1 e2;obtain⟨rfl,hs⟩:=sB h1;cases bb h2
 exact .inl ⟨a,_,i,_,rfl,rfl,hs,t7 e3,k.int rp q⟩⟩
theorem rR{K:W.Frag}:ig (fun xs H Q=>∃x n,xs=[x]/\uZ K x H n/\Q (.int n) H) (vG K):=⟨fun F H ω vs xs Q Q' rp rv ⟨a,ns,e,q⟩ k=>by
 subst e;obtain⟨v,rfl,r⟩:=ip rv;obtain⟨rfl,hs⟩:=sB r
 exact⟨_,ns.length,rfl,.inl ⟨_,hs,by simp⟩,k.int rp q⟩⟩
theorem u7{α:Type}{g:AG}{tc:AT}{te:AE}{as:List AV}{xs:List α}{ρ:SA}{ω:Om}{K:List AV->SA->Om->Prop}(R:SA->Prop)(h0:R ρ)(enc:α->AV)(p:α->Bool)(f:α->D)(ea:as=xs.map enc)(hz:xs.length<=sizeLine)(he:∀(x:α)(ρ:SA)(N:SA->Om->Prop),x∈xs->R ρ->(∀ρ1,R ρ1->(∀Q:Bool->Om->Prop,Q (p x) ω->tc ρ1 ω Q)->(p x=true->∀Q:AV->Om->Prop,Q (.d (f x)) ω->te ρ1 ω Q)->N ρ1 ω)->g (enc x) ρ ω N)(hk:∀ρ,R ρ->K (((xs.filter p).map f).map AV.d) ρ ω):ce g tc (iE te) as [] ρ ω K:=by
 subst ea;refine gW (fun i ys ρ ω'=>ω'=ω/\R ρ/\ys=(((xs.take i).filter p).map f).map AV.d) ⟨rfl,h0,rfl⟩ ?_ ?_
 ·rintro i a ys ρ ω' N ha ⟨rfl,hR,rfl⟩ kN
  rw[List.getElem?_map,Option.map_eq_some_iff] at ha;obtain⟨x,hx,rfl⟩:=ha;have hi:=(List.getElem?_eq_some_iff.mp hx).1;have et:xs.take (i+1)=xs.take i++[x]:=by rw[List.take_succ,hx];rfl
  refine he x ρ _ (List.mem_of_getElem? hx) hR fun ρ1 hR1 h1 h2=>h1 _ ?_
  cases hp:p x with
  |true=>
   rw[if_pos rfl,eA];refine h2 hp _ ⟨?_,kN _ _ _ ⟨rfl,hR1,?_⟩⟩
   ·rw[List.length_map,List.length_map]
    have:=List.length_filter_le p (xs.take i);rw[List.length_take] at this;omega
   ·rw[et,List.filter_append]
    simp[hp]
  |false=>
   rw[if_neg Bool.false_ne_true];refine kN _ _ _ ⟨rfl,hR1,?_⟩;rw[et,List.filter_append];simp[hp]
 ·rintro ys ρ ω' ⟨rfl,hR,rfl⟩
  rw[List.length_map,List.take_length];exact hk ρ hR
theorem u3{α:Type}{tc:AT}{te:AE}{xs:List α}{v0:Option AV}{aL:SA}{ω:Om}{K:List AV->SA->Om->Prop}(enc:α->D)(p:α->Bool)(f:α->D)(hz:xs.length<=sizeLine)(ht:∀x∈xs,∀Q:Bool->Om->Prop,Q (p x) ω->tc (some (.d (enc x))::aL) ω Q)(he:∀x∈xs,p x=true->∀Q:AV->Om->Prop,Q (.d (f x)) ω->te (some (.d (enc x))::aL) ω Q)(hk:∀ρ,K (((xs.filter p).map f).map AV.d) ρ ω):ce (iK 0) tc (iE te) ((xs.map enc).map AV.d) [] (v0::aL) ω K:=
 u7 (fun ρ=>∃ v,ρ = v :: aL) ⟨_,rfl⟩ (fun x=>.d (enc x)) p f (by simp) hz (fun x ρ N hx ⟨v,e⟩ k=>by
  subst e;rw[dz,List.set_cons_zero]
  exact k _ ⟨_,rfl⟩ (ht x hx) (he x hx)) (fun ρ _=>hk ρ)
structure Pq where
 a:Addr
 ns:List Int
 i:Int
 f:Int
 h0:0<=i
 hf:0<=f
 hn:ns.length<=63
inductive qD:List (TE×TE)->List Str->List AE->Prop
 |nil:qD [] [] []
 |cons {k:Str} {tv:TE} {tv':AE} {r:List (TE×TE)} {ks:List Str} {ts:List AE}:aY tv tv'->qD r ks ts->qD ((tC (.str k),tv)::r) (k::ks) (tv'::ts)
noncomputable def tx(l:List Nat):Str:=⟨l.toArray⟩
noncomputable def jn(s:List Nat):List (List Nat)->List Nat
 | []=>[]
 | [x]=>x
 |x::y::r=>x++s++jn s (y::r)
inductive PFs (X:Cx):List Expr->List TE->Prop
 |nil:PFs X [] []
 |cons {e:Expr} {t:TE} {es:List Expr} {ts:List TE}:PE X e t->PFs X es ts->PFs X (e::es) (t::ts)
inductive tO:List TE->List AE->Prop
 |nil:tO [] []
 |cons {t:TE} {t':AE} {ts:List TE} {ts':List AE}:aY t t'->tO ts ts'->tO (t::ts) (t'::ts')
theorem RVs.As{G:Hp}:∀ {xs:List AV} {us:List V} (j:Nat),RVs G xs us->RVs G (xs.eraseIdx j) (us.eraseIdx j)
 | [],us,j,h=>by cases h;exact rfl
 |x::xs,us,0,h=>by obtain⟨v,r,rfl,h1,h2⟩:=h;exact h2
 |x::xs,us,j+1,h=>by
  obtain⟨v,r,rfl,h1,h2⟩:=h;exact⟨v,_,rfl,h1,RVs.As j h2⟩
noncomputable def rM(to:AE)(t:AA):AE:=fun ρ ω Q=>to ρ ω fun x ω1=>∃l,x=.r (.ref l)/\(∃zs,ω1 l=some (.own zs))/\t ρ ω1 fun ys ω2=>∃(xs:List AV)(j:Nat)(y:AV),ys=[.d (.int j)]/\ω2 l=some (.own xs)/\xs.length<=1000000/\xs[j]?=some y/\Q y (ω2.put l (.own (xs.eraseIdx j)))
theorem jp(to:AE)(t:AA)(ρ:SA)(ω:Om)(Q:AV->Om->Prop):rM to t ρ ω Q=(to ρ ω fun x ω1=>∃l,x=.r (.ref l)/\(∃zs,ω1 l=some (.own zs))/\t ρ ω1 fun ys ω2=>∃(xs:List AV)(j:Nat)(y:AV),ys=[.d (.int j)]/\ω2 l=some (.own xs)/\xs.length<=1000000/\xs[j]?=some y/\Q y (ω2.put l (.own (xs.eraseIdx j)))):=rfl
section
variable{K:W.Frag}{to:TE}{to':AE}{t:TA}{t':AA}
theorem qc{j n:Nat}(h:j<n):seqIndex? (j:Int) n=some j:=by
 unfold seqIndex?;simp;omega
theorem gY(ho:aY to to')(ht:fP t t'):aY (tBM K "list" qx to t) (rM to' t'):=⟨fun F H ω σ ρ Q Q' rp rs w k=>
 ho.go rp rs w fun x ω1 v H1 rp1 fr1 rs1 rv1 ⟨l,e,⟨zs,hz⟩,q1⟩=>by
  subst e;cases (show v=.ref l from rv1)
  obtain⟨us,z1,_⟩:=rp1.own l zs hz;refine⟨.inl ⟨rfl,us,.inl (.inl z1)⟩,ht.go rp1 rs1 q1 fun ys ω2 vs H2 rp2 fr2 rs2 rv2 ⟨xs,j,y,e1,e2,e3,e4,q⟩=>?_⟩;subst e1;obtain⟨u,rfl,r⟩:=ip rv2;cases bb r;obtain⟨ws,z3,z4⟩:=rp2.own l xs e2;obtain⟨u2,g1,g2⟩:=z4.get e4;have hj:=(List.getElem?_eq_some_iff.mp g1).1;have hl:=z4.length;obtain⟨rp3,fr3⟩:=rp2.write (ys:=xs.eraseIdx j) (vs:=ws.eraseIdx j) e2 (z4.As j)
  exact⟨l,ws,j,j,u2,rfl,rfl,z3,by omega,by omega,qc hj,g1,k _ _ _ _ rp3 ((fr1.trans fr2).trans fr3) (g2.same fr3.same) q⟩⟩
end
end L2
namespace L2
open PySem PySem.Spec PyProof.Rows PySem.W
noncomputable def CXx(P:Program)(w:World):CXT:=fun outer H s E e s'=>∃(a C t:Addr)(H':Hp)(B:Heap),e=.ref a/\s'.os=s.os/\AllBare s'.gens/\Un (frs outer) [] H H' s.heap s'.heap/\HOk P w H' B /\
 Heap.FlyingW B outer a (.ref C) (.ref t) s'.heap/\(∀b o,s.heap.get? b=some o->H b=none->b ∉ frs outer->B.get? b=some o)/\(∀b o,s.heap.get? b=some o->b ∉ frs outer->∃o',B.get? b=some o')/\E (.ref a) (some C) H'
theorem j0{P:Program}{w:World}{H:Hp}{h:Heap}{a:Addr}{o:HO}(x:bj P w H h a o):∃u,h.get? a=some u:=by
 cases o with
 |lst xs=>obtain⟨_,_,_,_,e⟩:=x;exact⟨_,e⟩
 |tup xs=>obtain⟨_,_,_,⟨_,e,_⟩,_⟩:=x;exact⟨_,e⟩
 |dK kvs=>obtain⟨_,_,_,_,o,_,_,e,_⟩:=x;exact⟨_,e⟩
 |dT kvs=>obtain⟨_,_,_,_,o,_,_,e,_⟩:=x;exact⟨_,e⟩
 |set S n=>obtain⟨o,_,_,_,e,_⟩:=x;exact⟨_,e⟩
 |ins C dx fs=>obtain⟨_,_,_,e,_⟩:=x;exact⟨_,e⟩
 |own y=>obtain⟨_,e⟩:=x;exact⟨_,e⟩
 |xd fs=>obtain⟨_,⟨_,_,_,e,_⟩,_⟩:=x;exact⟨_,e⟩
 |rng lo hi=>obtain⟨_,_,_,e⟩:=x;exact⟨_,e⟩
 |frz ob u=>obtain⟨e,_⟩:=x;exact⟨_,e⟩
 |tbl ps=>obtain⟨qs,e,_⟩:=x;exact⟨_,e⟩
 |met f y=>exact⟨_,show h.get? a=some _ from x⟩
 |ext φ=>obtain⟨_,⟨_,e⟩,_⟩:=x;exact⟨_,e⟩
section
variable{P:Program}{w:World}{K:W.Frag}{mg:Str->Option Value}{base:Heap}{N:List Str}{qual:Str}{scope:Scope}{f:Addr}{cd:Value}{A:Around}{outer:List Env}{s₀:Shared}{H₀:Hp}{E:XK}
theorem j7{pins:List (Addr×Obj)}{σ:St}{H:Hp}{s1:Shared}{h':Heap}{e C:Addr}{vs:List Value}(I:Inv (fk (CXx P w) P w K mg base N qual scope f cd A outer s₀ H₀ E) pins σ H s1)(hx:Heap.MadeExcOf s1.heap h' e (.ref C) vs)(hE:E (.ref e) (some C) H):
  (fk (CXx P w) P w K mg base N qual scope f cd A outer s₀ H₀ E).xe (.ref e) { s1 with heap:=h' }:=by
 have hfr:=I.ok.frames;have hst:s1.heap.FunFrames base (envOfC qual scope s₀.heap.objs.size f cd::outer):=I.stack;have hin:∀env∈(envOfC qual scope s₀.heap.objs.size f cd::outer),∀b,env.frame=some b->b∈frs (envOfC qual scope s₀.heap.objs.size f cd::outer):=fun env he b hb=>List.mem_filterMap.mpr ⟨env,he,hb⟩
 have hfs:∀b,b∈frs (envOfC qual scope s₀.heap.objs.size f cd::outer)->b=s₀.heap.objs.size\/b∈frs outer:=fun b hb=>by
  obtain⟨env,he,hf⟩:=List.mem_filterMap.mp hb;rcases List.mem_cons.mp he with rfl|he
  ·exact .inl (Option.some.inj hf).symm
  ·exact .inr (List.mem_filterMap.mpr ⟨env,he,hf⟩)
 have hB:∀b o,s1.heap.get? b=some o->b≠s₀.heap.objs.size->b ∉ frs outer->(hideAll s1.heap (frs (envOfC qual scope s₀.heap.objs.size f cd::outer))).get? b=some o:=fun b o hb h1 h2=>hideAll_get _ hb fun hm=>(hfs b hm).elim h1 h2;have lt0:∀b o,s₀.heap.get? b=some o->b≠s₀.heap.objs.size:=fun b o hb=>Nat.ne_of_lt (Heap.lt_size hb);have nex:∀b:Addr,b ∉ (fk (CXx P w) P w K mg base N qual scope f cd A outer s₀ H₀ E).ex:=fun b z=>absurd (show b∈([]:List Addr) from z) (by simp)
 refine wpAny_leaves_madeW (base:=hideAll s1.heap (frs (envOfC qual scope s₀.heap.objs.size f cd::outer))) hfr rfl (fun b o q=>of_hideAll _ q) (funFrames_hide hst hin) hx fun h'' t x1 x2 x3 x4=>?_;have stay:=x1.1;have keep:∀b o,s₀.heap.get? b=some o->H₀ b=none->b ∉ frs outer->(hideAll s1.heap (frs (envOfC qual scope s₀.heap.objs.size f cd::outer))).get? b=some o:=fun b o hb hn ho=>hB b o (I.base.keep b o hb hn ho (nex b)) (lt0 b o hb) ho
 have there:∀b o,s₀.heap.get? b=some o->b ∉ frs outer->∃o',(hideAll s1.heap (frs (envOfC qual scope s₀.heap.objs.size f cd::outer))).get? b=some o':=fun b o hb ho=>by
  obtain⟨o',q⟩:=I.base.there b o hb (nex b);exact⟨o',hB b o' q (lt0 b o hb) ho⟩
 have slot:∀b o,s₀.heap.get? b=some o->H₀ b=none->b∈frs outer->∃sl,h''.get? b=some { o with slots:=sl }:=fun b o hb hn ho=>by
  obtain⟨sl,q⟩:=I.base.slot b o hb hn ho (nex b)
  obtain ⟨_,o2,q2,nf⟩:=hst.mem (b:=b) (by
   obtain⟨env,he,hf⟩:=List.mem_filterMap.mp ho
   exact List.mem_filterMap.mpr ⟨env,List.mem_cons_of_mem _ he,hf⟩)
  rw[q] at q2;cases q2;obtain⟨sl2,q3⟩:=x4 b _ (hx.keeps b _ q) nf;exact⟨sl2,q3⟩
 refine⟨e,C,t,H,_,rfl,I.os,I.bare,⟨fun b o hb hn ho _=>stay b o (keep b o hb hn ho),fun b o hb hn ho _=>slot b o hb hn ho,fun b o hb hn _=>I.base.free b o hb hn (nex b),fun b o hb _=>?_,I.base.tups,I.base.frzs,I.base.tbls⟩,?_,x1,keep,there,hE⟩
 ·by_cases ho:b∈frs outer
  ·by_cases hn:H₀ b=none
   ·obtain⟨sl,q⟩:=slot b o hb hn ho
    exact⟨_,q⟩
   ·exact absurd (I.ok.frf b ho) hn
  ·obtain⟨o',q⟩:=there b o hb ho
   exact⟨o',stay b o' q⟩
 ·intro a o ha
  have nf:∀b u,H b=some u->b ∉ frs (envOfC qual scope s₀.heap.objs.size f cd::outer):=fun b u hu hm=>by
   have:=I.Ah b hm;rw[hu] at this;cases this
  refine(I.hok a o ha).stay (fun b u hb q=>hideAll_get _ q ?_) (fun _ q=>q) (fun _ _ q=>q) fun _ _ _ q=>q;rcases hb with rfl|hb
  ·exact nf _ _ ha
  ·exact nf _ _ hb
end
noncomputable abbrev su:List Value:=[.type "ValueError",.type "Exception",.type "BaseException",.type "object"]
theorem uU{K:W.Frag}{h:Heap}{mg:Str->Option Value}{x:Str}{C:Addr}(X:K.In h)(b:mg x=some (.ref C))(z:excIn K C su "ValueError.__new__"=true):OwnCls x C su "ValueError.__new__" mg h:=by
 unfold excIn at z;split at z
 case h_2=>cases z
 case h_1 dd cd sl lk=>
  split at z
  case h_2=>cases z
  case h_1 C1 bm k0 k1 k2 k3 n k5 em es=>
   simp only[Bool.and_eq_true,beq_iff_eq,Bool.not_eq_true'] at z;obtain⟨⟨⟨⟨⟨e1,e2⟩,nodel⟩,tl⟩,nsok⟩,noinit⟩:=z;subst e1 e2;obtain⟨nm,bs,mro,ns,qn,hd,sn,sub,ab,col,del⟩:=cd;dsimp only at em nodel nsok noinit;subst em nodel;obtain⟨l⟩:=sl;simp only at es;subst es;exact⟨b,bm,ns,nm,qn,bs,hd,sn,sub,ab,col,dd,k0,k1,k2,k3,k5,_,X _ _ lk,.of_isNs (isNs_of_in X nsok),nsMap_none_of_in X nsok noinit,tail_of_in X tl⟩
noncomputable def rB(C:Addr)(E:XK)(t:TA):TS:=fun _ σ H=>t σ H fun vs H1=>vs.length<=1000/\∀e,E (.ref e) (some C) H1
section
variable{P:Program}{w:World}{K:W.Frag}{mg:Str->Option Value}{base:Heap}{N:List Str}{qual:Str}{scope:Scope}{f:Addr}{cd:Value}{A:Around}{outer:List Env}{s₀:Shared}{H₀:Hp}{E:XK}
theorem si{x:Str}{C:Addr}{e0:Expr}{es:List Expr}{t:TA}{np cpos pos:Pos}(hr:(A.deeper (envOfC qual scope s₀.heap.objs.size f cd)).handled=none)(hg:Gl (fk (CXx P w) P w K mg base N qual scope f cd A outer s₀ H₀ E) x)(hm:mg x=some (.ref C))(hC:excIn K C su "ValueError.__new__"=true)(ha:PA (fk (CXx P w) P w K mg base N qual scope f cd A outer s₀ H₀ E).nox (e0::es) t)(hdb:(x == ("__debug__":Str))=false:=by decide)(he:starEach (e0::es) (envOfC qual scope s₀.heap.objs.size f cd)=(false,eval e0 (envOfC qual scope s₀.heap.objs.size f cd))::starEach es (envOfC qual scope s₀.heap.objs.size f cd):=by rfl)(hpl:(backTo cpos (starEach es (envOfC qual scope s₀.heap.objs.size f cd))).any (·.1)=false:=by rfl):
  PS (fk (CXx P w) P w K mg base N qual scope f cd A outer s₀ H₀ E) (.Raise (some (.Call (.Name x np) (e0::es) [] cpos)) none pos) (rB C E t):=.mk <| by
 intro pins s σ H D I h;obtain⟨tl,NN,nm,q,bs,hdct,sn,sub,ab,col,dd,k0,k1,k2,k3,k5,mN,hCo,hN,hni,T⟩:=(uU (mg:=mg) I.ok.mod.kin hm hC).obj
 refine wpAny_Raise_call_subU (C:=C) (nm:=nm) (q:=q) (N:=NN) (bs:=bs) (bm:=tl) (hdct:=hdct) (sn:=sn) (sub:=sub) (ab:=ab) (col:=col) (dd:=dd) (k0:=k0) (k1:=k1) (k2:=k2) (k3:=k3) (k5:=k5)
  PySem.F.excBase_ValueError (by decide) PySem.F.excBase_ValueError (mN:=mN) (T.hasType PySem.F.excBase_ValueError.hasBase) hr ?_ hni (fD I hg hm ⟨rfl,?_⟩ hdb)
 ·show (backTo cpos (starEach (e0::es) (envOfC qual scope s₀.heap.objs.size f cd))).any (·.1)=false
  rw[he];show (false || (backTo cpos (starEach es (envOfC qual scope s₀.heap.objs.size f cd))).any (·.1))=false
  rw[hpl];rfl
 ·have ev:=ha cpos pins s σ H _ (I.wish _) h
  show wpAny _ _ (evalArgs (.ref C) true (backTo cpos (starEach (e0::es) (envOfC qual scope s₀.heap.objs.size f cd))) []) _ _ _;have ev:wpAny (model P w) (A.deeper (envOfC qual scope s₀.heap.objs.size f cd)) (spliced (backTo cpos (starEach (e0::es) (envOfC qual scope s₀.heap.objs.size f cd)))) _ _ s:=ev;rw[he] at ev ⊢;refine Calls.evalArgs_plain (wpAny_mono ev (fun us s2 hz=>?_) fun _ _ z=>False.elim z)
  obtain⟨vs,H1,I1,rv,hl,hE⟩:=hz;have I1:=I1.unwish;exact⟨rfl,by rw[←rv.length];exact Nat.le_of_lt (aR hl),I1.bk _ _ hCo,hN.keeps I1.bk,T.keeps I1.bk,fun h' e hx=>j7 I1 hx (hE e)⟩
end
end L2
namespace L2
open PySem PySem.Spec PySem.Calls PyProof.Rows PySem.W PySem.Builtin PySem.Builtin.ObjectAttr PySem.Builtin.Getset_descriptor
noncomputable def iG(K:W.Frag)(D:Addr):Bool:=(findIn K (.ref D) "__getattribute__" == some (some (.builtin "BaseException.__getattribute__")) && findIn K (.ref D) "__getattr__" == some none) && (clsIn K D).isSome && (findIn K (.ref D) "__class__" == some (some (.builtin "object.__class__"))) && (specialIn K (.builtin "object.__class__") "__get__" == some (some (.builtin "getset_descriptor.__get__"))) && (takesIn K (.builtin "object.__class__") == some true) && (mroIn K D (.type "object") == some true && mroIn K D (.type "BaseException") == some true)
noncomputable def gI(K:W.Frag)(D:Addr):Bool:=iG K D && excIn K D su "ValueError.__new__"
theorem rh{K:W.Frag}{D:Addr}(h:gI K D=true):iG K D=true:=(Bool.and_eq_true_iff.mp h).1
noncomputable def iF(x D:Addr)(h:Heap):Prop:=∃o,h.get? x=some o/\o.cls=.ref D
theorem iF.ty{x D:Addr}{h:Heap}(e:iF x D h)(M:Model):Looks M h (typeOf (.ref x)) (.ref D):=by
 obtain⟨o,h1,h2⟩:=e;exact h2 ▸ (Looks.ld h1).andThen .now
theorem mW{K:W.Frag}{M:Model}{h:Heap}(X:K.In h){x C:Addr}{name:Str}{a g:Value}(ha:findIn K (.ref C) name=some (some a))(hg:specialIn K a "__get__"=some (some g))(ht:takesIn K a=some true):Looks M h (find (.ref x) (.ref C) name) (.bind g a):=by
 refine(looks_findIn (M:=M) X ha).andThen ((looks_specialIn (M:=M) X hg).andThen ?_);have dd:Looks M h (dataDescriptor? (some a) (some g)) (some (g,a)):=(looks_takesIn (M:=M) X ht).andThen .now;exact dd.andThen (Looks.tag .now)
section
variable{prog:Program}{w:World}{A:Around}{E:Value->Shared->Prop}{s:Shared}{K:W.Frag}{x D:Addr}
theorem qb{Q:Option Value->Shared->Prop}(X:K.In s.heap)(e:iF x D s.heap)(ok:iG K D=true)(h:Q (some (.ref D)) { s with toks:=s.toks+1 }):wpAny (model prog w) A (getAttr? (.ref x) "__class__") Q E s:=by
 unfold iG at ok;simp only[Bool.and_eq_true,beq_iff_eq] at ok;obtain⟨⟨⟨⟨⟨⟨hga,hgn⟩,_⟩,ha⟩,hn⟩,htk⟩,hm,hmb⟩:=ok;obtain⟨hh,gs,dr,tt,os⟩:=s;have T0:=e.ty (model prog w);have T1:=looks_findIn (M:=model prog w) X hga;have T2:=mW (M:=model prog w) (x:=x) X ha hn htk;have T3:=looks_findIn (M:=model prog w) X hgn;have T4:=looks_mroIn (M:=model prog w) X hm;unfold getAttr? getAttrBy? getAttrBy;refine wpAny_bind (wpAny_mkText (wpAny_bind (wpAny_attempt (wpAny_holding (wpAny_bind (T0.at (wpAny_bind (T1.at ?_))))))))
 dsimp only;rw[if_neg (by rw[show (Value.builtin "BaseException.__getattribute__" == Value.builtin "object.__getattribute__")=false from by decide +kernel,Bool.and_false];exact Bool.false_ne_true)]
 have T5:=looks_mroIn (M:=model prog w) X hmb;unfold getAttrByItsOwn hookBefore callGetattribute boundAndCalled;show wpAny _ _ (typeLookup (.ref D) "__getattr__" >>= _) _ _ _;refine wpAny_bind (T3.at (wpAny_bind (wpAny_attempt (wpAny_holding ?_))));show wpAny _ _ (bindSpecial (.builtin "BaseException.__getattribute__") (.ref x) >>= _) _ _ _;refine wpAny_bind (wpAny_of_eq (PySem.F.attrBase_ValueError.ga.bind _) (wpAny_call (codeAny_call_builtin PySem.F.attrBase_ValueError.ga.plain PySem.F.entry_bexc_ga ?_)))
 have ck:∀ {Q:Unit->Shared->Prop} {E:Value->Shared->Prop} {A:Around} {nv:Value},Q () ⟨hh,gs,dr,tt+1,os⟩->wpAny (model prog w) A (checkBuiltinCall "BaseException.__getattribute__" ⟨[.ref x,nv],[]⟩) Q E ⟨hh,gs,dr,tt+1,os⟩:=fun {Q E A nv} q=>by
  have b1:builtinKind "BaseException.__getattribute__"=some .slot:=by decide +kernel
  have b2:splitId "BaseException.__getattribute__"=some ("BaseException","__getattribute__"):=by decide +kernel
  have b3:=F.args_bexc_ga (.ref x) nv;simp only[checkBuiltinCall,b1,b2];refine wpAny_bind ?_;unfold isInstance;refine wpAny_bind (T0.at (T5.at ?_));rw[if_neg (by decide)]
  unfold argsOk at b3
  first|(rw[b3];exact wpAny_pure q)|(refine wpAny_of_eq b3 q)
 refine ck ?_
 repeat (first|with_reducible refine wpAny_bind (T0.at ?_)|with_reducible refine T0.at ?_|with_reducible refine wpAny_bind (T2.at ?_)|with_reducible refine T2.at ?_|wp_step)
 refine codeAny_call_builtin KF.slot_gs.plain KF.entry_gs (KF.slot_gs.check _ _ _ _ _ _ _ _ KF.type_class (KF.args_gs _ _ _) ?_);unfold Builtin.«getset_descriptor.__get__» descrGet;rw[dga_obj];refine wpAny_bind (wpAny_pure ?_);unfold descrGetter descrCheckInstance descrNameAndClass isInstance;simp only[KF.owner_class]
 repeat lk
 refine⟨Code.quiet_builtin _ (by decide +kernel),codeAny_builtin KF.entry_class ?_⟩
 unfold Builtin.«object.__class__» shownTypeOf
 repeat lk
 first|exact h|(repeat (first|assumption|wp_step))
theorem lU(ok:iG K D=true):KitX K (.ref x) (.ref D) (iF x D) where
 ty:=fun M h _ e=>e.ty M
 it:=fun M h X _=>by
  unfold iG at ok;simp only[Bool.and_eq_true,beq_iff_eq] at ok;obtain⟨⟨⟨⟨⟨_,hc⟩,_⟩,_⟩,_⟩,_⟩:=ok;unfold clsIn at hc;split at hc
  ·rename_i c' d' cd' sl' lk
   intro A' Q' E' s' k q;unfold isType loadHead;exact wpAny_bind (wpAny_loadPart (k _ _ (X _ _ lk)) (wpAny_pure q))
  ·cases hc
 ne:=fun h tp dd its n sl X htp=>by
  unfold iG at ok;simp only[Bool.and_eq_true,beq_iff_eq] at ok;obtain⟨⟨⟨⟨⟨_,hc⟩,_⟩,_⟩,_⟩,_⟩:=ok;refine Bool.eq_false_iff.mpr fun q=>?_;have e:D=tp:=Value.ref.inj (beq_iff_eq.mp q);subst e;unfold clsIn at hc;split at hc
  ·rename_i c' d' cd' sl' lk
   have z:=(X _ _ lk).symm.trans htp;cases z
  ·cases hc
 ca:=fun X e k=>qb X e ok k
end
noncomputable def jW(a C:Addr):HO:=.ext (iF a C)
noncomputable def clV:V->Option Value
 |.ref a=>some (.ref a)
 |.ty n=>some (.type n)
 |_=>none
theorem sT{v:V}{u c:Value}(r:aF v u)(h:clV v=some c):u=c:=by
 cases v<;>simp[clV] at h<;>subst h<;>exact r
noncomputable def isX(K:W.Frag)(H:Hp)(f:Value->Option Bool)(x:V)(b:Bool):Prop:=(x=.non/\f (.type "NoneType")=some b)\/∃a C,x=.ref a/\H a=some (jW a C)/\gI K C=true/\f (.ref C)=some b
noncomputable def yO(K:W.Frag):List V->Hp->VK->Prop:=fun xs H Q=>∃x c cv b,xs=[x,c]/\clV c=some cv/\isX K H (fun t=>kitOne K t cv) x b/\Q (.bl b) H
theorem k7{X:Cx}(K:W.Frag)(hK:X.K=K):cy X (.builtin "isinstance") (yO K):=by
 subst hK;intro pins s σ H xs us Q I r h;obtain⟨x,c,cv,b,rfl,hc,hx,q⟩:=h;obtain⟨u1,u2,rfl,r1,r2⟩:=ar.two r;have e2:=sT r2 hc;subst e2;rcases hx with⟨rfl,hb⟩|⟨a,C,rfl,ha,ok,hb⟩
 ·obtain rfl:u1=Value.none:=r1
  exact kia_one kitx_none I.kIn trivial hb (by intro z;cases z) fun tk=>⟨.bl b,H,I.tok tk,rfl,q⟩
 ·obtain rfl:u1=Value.ref a:=r1
  exact kia_one (lU (rh ok)) I.kIn (I.hok a _ ha).1 hb (by intro z;cases z) fun tk=>⟨.bl b,H,I.tok tk,rfl,q⟩
noncomputable def pK:List V->Option (List Value)
 | []=>some []
 |v::r=>match clV v,pK r with
  |some c,some cs=>some (c::cs)
  |_,_=>none
theorem oX:∀ {vs:List V} {us cs:List Value},ar vs us->pK vs=some cs->us=cs
 | [],us,cs,r,h=>by cases r;cases h;rfl
 |v::vs,us,cs,r,h=>by
  cases r with
  |cons r1 rr=>
   simp only[pK] at h;split at h
   ·rename_i c cs' h1 h2
    cases h;rw[sT r1 h1,oX rr h2]
   ·cases h
noncomputable def vF(K:W.Frag):List V->Hp->VK->Prop:=fun xs H Q=>∃x tp cs cvs b,xs=[x,.ref tp]/\H tp=some (.tup cs)/\pK cs=some cvs/\isX K H (fun t=>kitAny K t cvs) x b/\Q (.bl b) H
theorem qp{X:Cx}(K:W.Frag)(hK:X.K=K):cy X (.builtin "isinstance") (vF K):=by
 subst hK;intro pins s σ H xs us Q I r h;obtain⟨x,tp,cs,cvs,b,rfl,ht,hc,hx,q⟩:=h;obtain⟨u1,u2,rfl,r1,r2⟩:=ar.two r;obtain rfl:u2=Value.ref tp:=r2;obtain⟨_,its,rv,⟨ot,e1,e2,e3⟩,_⟩:=I.hok tp _ ht;have e4:=oX rv hc;subst e4;obtain⟨n,e3⟩:=e3;obtain⟨oc,od,oda,osl⟩:=ot;dsimp only at e2 e3;subst e2 e3;rcases hx with⟨rfl,hb⟩|⟨a,C,rfl,ha,ok,hb⟩
 ·obtain rfl:u1=Value.none:=r1
  exact kia_tup kitx_none I.kIn trivial e1 hb (by intro z;cases z) fun tk=>⟨.bl b,H,I.tok tk,rfl,q⟩
 ·obtain rfl:u1=Value.ref a:=r1
  exact kia_tup (lU (rh ok)) I.kIn (I.hok a _ ha).1 e1 hb (by intro z;cases z) fun tk=>⟨.bl b,H,I.tok tk,rfl,q⟩
theorem Inv.track{X:Cx}{pins:List (Addr×Obj)}{σ:St}{H:Hp}{s:Shared}(J:Inv X pins σ H s){a:Addr}{o:HO}(hn:H a=none)(h0:X.s₀.heap.get? a=none)(hL:a≠X.env.locals)(hC:∀x c,X.env.cells.lookup x=some c->c≠a)(hp:∀p∈X.pn++pins,p.1≠a)(ho:bj X.prog X.w (upd H a o) s.heap a o):Inv X pins σ (upd H a o) s:=by
 have ne:∀b u,H b=some u->b≠a:=fun b u h z=>by subst z;rw[hn] at h;cases h
 refine⟨J.ok,J.os,J.bare,⟨J.base.keep,J.base.slot,fun b ob h1 h2 h3=>?_,J.base.there,fun b xs h=>?_,fun b ob u h=>?_,fun b ps h=>?_⟩,J.loc,J.cell,?_,fun x c h=>?_,fun p hm=>?_,fun b u h=>?_,J.len⟩
 ·rw[aq (fun z=>by subst z;rw[h0] at h1;cases h1)]
  exact J.base.free b ob h1 h2 h3
 ·have:=J.base.tups b xs h
  rw[aq (ne b _ this)];exact this
 ·have:=J.base.frzs b ob u h
  rw[aq (ne b _ this)];exact this
 ·obtain⟨more,this⟩:=J.base.tbls b ps h
  exact⟨more,by rw[aq (ne b _ this)];exact this⟩
 ·rw[aq (Ne.symm hL)];exact J.free
 ·rw[aq (hC x c h)];exact J.freeC x c h
 ·obtain⟨z1,z2,z3,z4,z5⟩:=J.pin p hm
  exact⟨z1,by rw[aq (hp p hm)];exact z2,z3,z4,z5⟩
 ·by_cases hb:b=a
  ·subst hb;rw[bu] at h;cases h;exact ho
  ·rw[aq hb] at h
   exact(J.hok b u h).stay (fun _ _ _ q=>q) (fun c q=>by rw[aq (ne c _ q)];exact q) (fun c xs q=>by rw[aq (ne c _ q)];exact q) fun c o' u' q=>by rw[aq (ne c _ q)];exact q
noncomputable def PEX(X:Cx)(CX:CXT)(e:Expr)(t:XK->TE):Prop:=∀(pins:List (Addr×Obj)) (s:Shared) (σ:St) (H:Hp) (Q:VK) (E:XK),Inv X pins σ H s->t E σ H Q ->
 wpAny (model X.prog X.w) X.A (eval e X.env) (EP X pins σ Q) (fun x s'=>∃H1 s1,Inv X pins σ H1 s1/\CX X.stack H1 s1 E x s') s
section
variable{X:Cx}{CX:CXT}{k:Nat}{f:Addr}{fd:FuncData}{ps:List Str}{sp:Sp}{x:Str}{p pos:Pos}{e:Expr}{es:List Expr}{t:TA}
theorem rH(F:bD X.prog X.w X.K X.mg X.base CX k f fd ps sp)(hr:cG k X.A)(hg:Gl X x)(hm:X.mg x=some (.ref f))(hk:W.keepIn X.K (.ref f)=true)(hb:cn X.K fd ps [])(ha:PA X.nox (e::es) t)(hdb:(x == ("__debug__":Str))=false:=by decide)(he:starEach (e::es) X.env=(false,eval e X.env)::starEach es X.env:=by rfl)(hpl:(backTo pos (starEach es X.env)).any (·.1)=false:=by rfl):
  PEX X CX (.Call (.Name x p) (e::es) [] pos) (fun E=>nU sp [] E t):=by
 intro pins s σ H Q E I h;refine wpAny_Call_Name_kw (fD I hg hm ?_ hdb);refine W.callWith_K (h₀:=X.base) I.ok.mod.kin hk (wpAny_mono (ha pos pins s σ H _ (I.wish _) h) (fun us s1 ⟨vs,H1,I1,r,q⟩=>⟨I1.kIn,?_⟩) fun _ _ z=>False.elim z) he hpl;have I1:=I1.unwish;have q:sp (vs++[]) H1 Q E:=q;rw[List.append_nil] at q;have hl:(us++[]).length=ps.length:=by rw[List.append_nil,←r.length];exact F.len _ _ _ _ q
 have hbb:=hb s1 us I1.kIn hl;rw[List.append_nil] at hbb;refine wpAny_call (codeAny_mono (F.run X.A X.stack s1 H1 ⟨us,[]⟩ us vs Q E hr I1.env0 hbb r q) fun r s' hq=>?_)
 cases r with
 |error e=>exact⟨H1,s1,I1,hq⟩
 |ok fl=>
  cases fl with
  |ret u=>exact I1.after hq
  |next=>exact False.elim hq
  |brk=>exact False.elim hq
  |cont=>exact False.elim hq
end
end L2
namespace L2
open PySem PySem.Spec PySem.Calls PyProof.Rows PySem.W
section
variable{X:Cx}{pins:List (Addr×Obj)}{σ:St}{H:Hp}{s:Shared}
theorem qi{M:Model}{A:Around}{E:Value->Shared->Prop}{i:Nat}{n:Str}{pos:Pos}{Q:Unit->Shared->Prop}(J:Inv X pins σ H s)(hN:X.N.Nodup)(hi:X.N[i]?=some n)(hl:X.env.scope.names.lookup n=some .local)(h:∀s',Inv X pins (σ.set i none) H s'->Q () s'):wpAny M A (do bindName X.env n .none;unbindBehindTheSuite X.env n pos) Q E s:=by
 have hcls:(X.env.scope.kind == .class || (X.env.scope.kind == .module && X.env.locals != X.env.globals))=false:=by rw[J.ok.kind];rfl
 obtain⟨m,hn,hk⟩:=J.loc;refine wpAny_nameGoes_keeps hl hn hcls fun h' v hn' hs=>h _ ?_;have at':∀b o,b≠X.env.locals->s.heap.get? b=some o->h'.get? b=some o:=fun b o hb q=>(hs.2 b hb).trans q;have ne0:∀b o,X.s₀.heap.get? b=some o->b≠X.env.locals:=fun b o e=>Nat.ne_of_lt (Nat.lt_of_lt_of_le (Heap.lt_size e) J.ok.above);have cel:∀x c v,X.env.cells.lookup x=some c->s.heap.IsCell c v->h'.IsCell c v:=fun x c v e ⟨o,q1,q2⟩=>⟨o,at' c o (J.cne x c e) q1,q2⟩
 refine⟨J.ok,J.os,J.bare,⟨fun b o e1 e2 e3 e4=>at' b o (ne0 b o e1) (J.base.keep b o e1 e2 e3 e4),fun b o e1 e2 e3 e4=>?_,J.base.free,fun b o e1 e2=>?_,J.base.tups,J.base.frzs,J.base.tbls⟩,⟨_,hn',fun j x w h1 h2 h3=>?_⟩,fun x c e=>?_,J.free,J.freeC,fun p hp=>?_,fun b o e=>?_,?_⟩
 ·obtain⟨sl,q⟩:=J.base.slot b o e1 e2 e3 e4
  exact⟨sl,at' b _ (ne0 b o e1) q⟩
 ·obtain⟨o',q⟩:=J.base.there b o e1 e2
  exact⟨o',at' b _ (ne0 b o e1) q⟩
 ·have hji:j≠i:=fun z=>by
   subst z;rw[List.getElem?_set] at h2;simp only[if_true] at h2;split at h2<;>cases h2
  rw[List.getElem?_set_ne (Ne.symm hji)] at h2;obtain⟨u,r,l⟩:=hk j x w h1 h2 h3
  have hxn:x≠n:=fun z=>by
   subst z;have b1:=List.getElem?_eq_some_iff.mp h1;have b2:=List.getElem?_eq_some_iff.mp hi;exact hji ((List.getElem_inj hN).mp (b1.2.trans b2.2.symm))
  refine⟨u,r,?_⟩;rcases l with⟨l1,l2⟩|⟨l1,c,l2,l3⟩
  ·exact .inl ⟨l1,by show (if x=n then v else m x)=some u;rw[if_neg hxn];exact l2⟩
  ·exact .inr ⟨l1,c,l2,cel x c _ l2 l3⟩
 ·obtain⟨v,q⟩:=J.cell x c e
  exact⟨v,cel x c v e q⟩
 ·obtain⟨z1,z2,z3,z4,z5⟩:=J.pin p hp
  exact⟨at' _ _ z3 z1,z2,z3,z4,z5⟩
 ·have nl:∀b u,H b=some u->b≠X.env.locals:=fun b u q z=>by subst z;rw[J.free] at q;cases q
  refine(J.hok b o e).stay (fun c u hc q=>at' c u ?_ q) (fun _ q=>q) (fun _ _ q=>q) fun _ _ _ q=>q;rcases hc with rfl|hc
  ·exact nl _ _ e
  ·exact nl _ _ hc
 ·rw[List.length_set];exact J.len
end
noncomputable def PSX(X:Cx)(CX:CXT)(st:Stmt)(t:XK->TS):Prop:=∀(pins:List (Addr×Obj)) (s:Shared) (σ:St) (H:Hp) (D:ee) (E:XK),Inv X pins σ H s->t E D σ H ->
 wpAny (model X.prog X.w) X.A (exec st X.env) (SP X pins D) (fun x s'=>∃H1 s1,Inv X pins σ H1 s1/\CX X.stack H1 s1 E x s') s
section
variable{X:Cx}{CX:CXT}{e:Expr}{te:XK->TE}{pos:Pos}
theorem qV(he:PEX X CX e te)(hs:swapsWith e none pos.line X.env=pure false:=by rfl):PSX X CX (.Expr e pos) (fun E=>pd (te E)):=by
 intro pins s σ H D E I h;exact wpAny_Expr_any (thn (he pins s σ H _ E I h) fun v s1 ⟨x,H1,I1,r1,q1⟩=>⟨σ,H1,I1,q1⟩) I.quiet hs
end
noncomputable def yA(K:W.Frag)(T:Addr)(i j:Nat)(tb:XK->TS):TS:=fun D σ H=>tb (fun x C H'=>∀a c,x=.ref a->C=some c->H' a=none->exmOne K (.ref c) (.ref T)=some true/\D.nx ((σ.set i none).set j (some (.ref a))) (upd H' a (jW a c))) D σ H
noncomputable def Cx.inX(X:Cx)(e:Value):Cx:={ X with A:=X.A.mark (some e),calm:=false,xe:=fun _ _=>False }
theorem Inv.inX{X:Cx}{pins:List (Addr×Obj)}{σ:St}{H:Hp}{s:Shared}(I:Inv X pins σ H s)(e:Value):Inv (X.inX e) pins σ H s:=
 ⟨⟨I.ok.mod,I.ok.kind,I.ok.glob,I.ok.blt,I.ok.above,I.ok.inj,I.ok.has,I.ok.cab,fun z=>(nomatch z),I.ok.frames,I.ok.stk,I.ok.exf,I.ok.bs,I.ok.bsz,I.ok.noex,I.ok.exfs,I.ok.funs,I.ok.frf,I.ok.tt⟩,I.os,I.bare,I.base,I.loc,I.cell,I.free,I.freeC,I.pin,I.hok,I.len⟩
theorem Inv.Az{X:Cx}{e:Value}{pins:List (Addr×Obj)}{σ:St}{H:Hp}{s:Shared}(ok:X.Ok)(I:Inv (X.inX e) pins σ H s):Inv X pins σ H s:=⟨ok,I.os,I.bare,I.base,I.loc,I.cell,I.free,I.freeC,I.pin,I.hok,I.len⟩
theorem v9{X:Cx}{st:Stmt}{tb:XK->TS}{T:Addr}{tn n z:Str}{i j:Nat}{tp np zp ap hp pos:Pos}(hS:X.stack=X.env::X.outer)(hF:X.env.frame=some X.env.locals)(hX:X.ex=[])(hb:PSX X (CXx X.prog X.w) st tb)(hg:Gl X tn)(hm:X.mg tn=some (.ref T))(hN:X.N.Nodup)(hi:X.N[i]?=some n)(hj:X.N[j]?=some z)(hij:i≠j)(hn:X.env.scope.names.lookup n=some .local)(hz:X.env.scope.names.lookup z=some .local)(hdb:(tn == ("__debug__":Str))=false:=by decide)(hdn:(n == ("__debug__":Str))=false:=by decide)(hcn:(n == ("__classdict__":Str))=false:=by decide)(hs:∀v:Value,swapsWith (.Name n np) (some (.Name z zp)) ap.line X.env=pure false:=by intro _;rfl):
  PS X (.Try [st] [.ExceptHandler (some (.Name tn tp)) (some n) [.Assign [.Name z zp] (.Name n np) ap] hp] [] [] pos) (yA X.K T i j tb):=.mk <| by
 intro pins s σ H D I h;refine wpAny_Try_except (wpAny_execs_cons (wpAny_mono (hb pins s σ H D _ I h) (fun f s1 q=>?_) fun x s' hx=>?_))
 ·cases f with
  |next=>exact wpAny_execs_nil (wpAny_execs_nil q)
  |ret v=>exact q
  |brk=>exact q
  |cont=>exact q
 obtain⟨H1,s1,I1,a,C,t,H',B,rfl,os,bare,un,hok,fl,keep,there,hE⟩:=hx;have hfr:X.A.frames=some (X.env::X.outer):=by rw[←hS];exact I1.ok.frames
 rw[hS] at un keep there fl;have hBa:B.get? a=none:=fl.2.1
 have hna:H' a=none:=by
  cases q:H' a with
  |none=>rfl
  |some u=>
   obtain⟨o,e⟩:=j0 (hok a u q);rw[hBa] at e;cases e
 obtain⟨hex,hnx⟩:=hE a C rfl rfl hna;have fst:=I1.stack;rw[hS] at fst
 have nonf:∀b o,s1.heap.get? b=some o->b∈frs (X.env::X.outer)->∀vs,o.data≠.fields vs:=fun b o hb ho=>by
  obtain⟨_,o2,q2,nf⟩:=fst.mem (b:=b) ho;rw[hb] at q2;cases q2;exact nf
 refine wpAny_looks_onW hfr hF fl fun h2 held up2=>wpAny_landsW held fun h3 fl3 up3=>?_
 have back:∀h4:Heap,Heap.FlyingW B (X.env::X.outer) a (.ref C) (.ref t) h4->s'.heap.UpToSlots h4->Inv X pins σ (upd H' a (jW a C)) { s' with heap:=h4 }:=fun h4 fl4 up4=>by
  have stay:=fl4.1
  have un4:Un (frs X.stack) [] H1 H' s1.heap h4:=by
   rw[hS]
   have slot:∀b o,s1.heap.get? b=some o->H1 b=none->b∈frs (X.env::X.outer)->∃sl,h4.get? b=some { o with slots:=sl }:=fun b o hb hn ho=>by
    obtain⟨sl1,q1⟩:=un.slot b o hb hn ho (by simp)
    obtain⟨sl2,q2⟩:=up4 b _ q1 (nonf b o hb ho);exact⟨sl2,q2⟩
   refine⟨fun b o hb hn ho _=>stay b o (keep b o hb hn ho),fun b o hb hn ho _=>slot b o hb hn ho,un.free,fun b o hb _=>?_,un.tups,un.frzs,un.tbls⟩;by_cases ho:b∈frs (X.env::X.outer)
   ·obtain⟨sl,q⟩:=slot b o hb (I1.Ah b (by rw[hS];exact ho)) ho
    exact⟨_,q⟩
   ·obtain⟨o',q⟩:=there b o hb ho
    exact⟨o',stay b o' q⟩
  have J:Inv X pins σ H' { s' with heap:=h4 }:=I1.call' (s':={ s' with heap:=h4 }) os un4 (hok.kept stay) bare (fun b z=>absurd z (by simp))
  have ex4:iF a C h4:=fl4.there
  have inB:∀b o,s1.heap.get? b=some o->b ∉ frs (X.env::X.outer)->b≠a:=fun b o hb ho z=>by
   subst z;obtain⟨o',q⟩:=there b o hb ho;rw[hBa] at q;cases q
  have fields:∃oe vs,h4.get? a=some oe/\oe.data=.fields vs:=by
   obtain⟨oe,vs,q1,_,q2,_⟩:=fl4.first;exact⟨oe,vs,q1,q2⟩
  have nfr:a ∉ frs (X.env::X.outer):=fun hm=>by
   obtain⟨_,o2,q2,nf⟩:=fl4.2.2.1.mem (b:=a) hm;obtain⟨oe,vs,q3,q4⟩:=fields;rw[q3] at q2;cases q2;exact nf vs q4
  have hL : a≠X.env.locals:=fun z=>nfr (by
   unfold frs;rw[List.filterMap_cons,hF]
   exact z ▸ List.mem_cons_self)
  have inS:∀b o,s1.heap.get? b=some o->b≠a:=fun b o hb=>by
   by_cases ho:b∈frs (X.env::X.outer)
   ·exact fun z=>nfr (z ▸ ho)
   ·exact inB b o hb ho
  refine J.track hna ?_ hL (fun x c hc=>?_) (fun p hp=>?_) ⟨ex4,?_,fun g1 g2 ⟨o,q1,q2⟩ k=>⟨o,k o q1,q2⟩⟩
  ·cases q:X.s₀.heap.get? a with
   |none=>rfl
   |some o=>
    obtain⟨o',q'⟩:=I1.base.there a o q (by rw[hX];simp)
    exact absurd rfl (inS a o' q')
  ·obtain⟨v,o,q,_⟩:=I1.cell x c hc
   exact inS c o q
  ·exact inS _ _ (I1.pin p hp).1
  ·obtain⟨o,q,_⟩:=ex4
   exact⟨o,q⟩
 have J3:=back h3 fl3 (up2.trans up3);refine wpAny_handleBy_cons (codeAny_handlers_test ?_) (by intro q;cases q)
 refine fD (X:=X.inX (.ref a)) (J3.inX _) hg hm ?_ hdb;refine(exm_one J3.kIn (iF.ty fl3.there _) hex).here ?_;show codeAny _ _ _ _ _;refine codeAny_handlers_suite_as ?_;refine wpAny_setFlight_noneW fl3.1 fl3.2.2.1 fl3.2.2.2 fun h5 k1 k2 k3 k4=>?_;have fl5:Heap.FlyingW B (X.env::X.outer) a (.ref C) (.ref t) h5:=⟨k1,hBa,k2,k3⟩;have J5:=back h5 fl5 ((up2.trans up3).trans fun b o hb hn=>⟨o.slots,k4 b o hb hn⟩)
 refine ic (X:=X.inX (.ref a)) (v:=.ref a) (J5.inX _) hN hi (.inl hn) rfl (fun s6 J6=>?_) (.inr hn);have ass:PS (X.inX (.ref a)) (.Assign [.Name z zp] (.Name n np) ap) (qz (tU i) (kI j)):=aU (X:=X.inX (.ref a)) hN hj (.inl hz) (sI (X:=X.inX (.ref a)) hi (.inl hn) hdn hcn) (hs .none) (.inr hz);refine wpAny_execs_cons (wpAny_mono (ass pins s6 (σ.set i (some (.ref a))) (upd H' a (jW a C)) { nx:=fun σ' H2=>σ'=(σ.set i (some (.ref a))).set j (some (.ref a))/\H2=upd H' a (jW a C),rt:=fun _ _=>False } J6 ?_) (fun f s7 q=>?_) fun _ _ z=>False.elim z)
 ·have hil:i<σ.length:=by rw[J5.len];exact(List.getElem?_eq_some_iff.mp hi).1
  exact⟨.ref a,by rw[List.getElem?_set];simp[hil],rfl,rfl⟩
 cases f with
 |ret v=>obtain⟨_,_,_,_,_,q⟩:=q;exact q.elim
 |brk=>obtain⟨_,_,_,q⟩:=q;exact q.elim
 |cont=>obtain⟨_,_,_,q⟩:=q;exact q.elim
 |next=>
  obtain⟨σ7,H7,J7,e7,e8⟩:=q;subst e7 e8;refine wpAny_execs_nil ?_;show wpAny _ _ _ _ _ _;refine qi (Inv.Az I1.ok J7) hN hi hn fun s8 J8=>?_;refine⟨_,_,J8,?_⟩;rw[List.set_comm _ _ (Ne.symm hij),List.set_set];exact hnx
end L2
namespace L2
open PySem PySem.Spec PyProof.Rows
noncomputable abbrev gM:=List AV->Om->(AV->Om->Prop)->(Addr->Om->Prop)->Prop
noncomputable def LX(F:Fs)(H:Hp)(ω:Om)(Ex:Addr->Om->Prop)(E:XK):Prop:=∀C ω' a H',Rep F H' ω'->Fr F H ω H' ω'->Ex C ω'->E (.ref a) (some C) H'
theorem LX.fr{F:Fs}{H H1:Hp}{ω ω1:Om}{Ex:Addr->Om->Prop}{E:XK}(k:LX F H ω Ex E)(f:Fr F H ω H1 ω1):LX F H1 ω1 Ex E:=fun C ω' a H' rp fr q=>k C ω' a H' rp (f.trans fr) q
noncomputable def og(sp:gM):Sp:=fun vs H Q E=>∃(F:Fs)(xs:List AV)(ω:Om)(Q':AV->Om->Prop)(Ex:Addr->Om->Prop),Rep F H ω/\RVs (cut F H ω) xs vs/\sp xs ω Q' Ex/\LP RV F H ω Q' Q/\LX F H ω Ex E
noncomputable def spN(sp:gM):ASp:=fun xs ω Q=>sp xs ω Q fun _ _=>False
theorem bD.calm{P:Program}{w:World}{K:W.Frag}{mg:Str->Option Value}{base:Heap}{k:Nat}{f:Addr}{fd:FuncData}{ps:List Str}{sp:gM}(F:bD P w K mg base (CXx P w) k f fd ps (og sp)):bD P w K mg base CX0 k f fd ps (fL (spN sp)):=by
 refine⟨fun vs H Q E h=>?_,fun A outer s H args us vs Q E hr he hb hv h=>?_⟩
 ·obtain⟨F',xs,ω,Q',rp,rv,h,kq⟩:=h
  exact F.len vs H Q (fun _ _ _=>False) ⟨F',xs,ω,Q',_,rp,rv,h,kq,fun _ _ _ _ _ _ z=>z⟩
 ·obtain⟨F',xs,ω,Q',rp,rv,h,kq⟩:=h
  refine codeAny_mono (F.run A outer s H args us vs Q (fun _ _ _=>False) hr he hb hv ⟨F',xs,ω,Q',_,rp,rv,h,kq,fun _ _ _ _ _ _ z=>z⟩) fun r s' q=>?_
  cases r with
  |error e=>
   obtain⟨_,_,_,_,_,_,_,_,_,_,_,_,_,z⟩:=q;exact z.elim
  |ok fl=>cases fl<;>exact q
noncomputable abbrev AXS:=bp->(Addr->Om->Prop)->SA->Om->Prop
structure fX(E:XK)(t:TS)(t':AXS):Prop where
 run:∀(F:Fs)(H:Hp)(ω:Om)(σ:St)(ρ:SA)(D:ee)(D':bp)(Ex:Addr->Om->Prop),Rep F H ω->RS (cut F H ω) ρ σ->t' D' Ex ρ ω->LE F H ω D' D->LX F H ω Ex E->t D σ H
noncomputable def yU(t:AS):AXS:=fun D _ ρ ω=>t D ρ ω
noncomputable def vD(t u:AXS):AXS:=fun D Ex ρ ω=>t { D with nx:=u D Ex } Ex ρ ω
noncomputable def yu(c:AT)(t u:AXS):AXS:=fun D Ex ρ ω=>c ρ ω fun b ω1=>if b=true then t D Ex ρ ω1 else u D Ex ρ ω1
noncomputable def oA(C:Addr)(ta:AA):AXS:=fun _ Ex ρ ω=>ta ρ ω fun xs ω1=>xs.length<=1000/\Ex C ω1
theorem nS(t:AS)(D:bp)(Ex:Addr->Om->Prop)(ρ:SA)(ω:Om):yU t D Ex ρ ω=t D ρ ω:=rfl
theorem qK(t u:AXS)(D:bp)(Ex:Addr->Om->Prop)(ρ:SA)(ω:Om):vD t u D Ex ρ ω=t { D with nx:=u D Ex } Ex ρ ω:=rfl
theorem nV(c:AT)(t u:AXS)(D:bp)(Ex:Addr->Om->Prop)(ρ:SA)(ω:Om):yu c t u D Ex ρ ω=c ρ ω fun b ω1=>if b=true then t D Ex ρ ω1 else u D Ex ρ ω1:=rfl
theorem ix(C:Addr)(ta:AA)(D:bp)(Ex:Addr->Om->Prop)(ρ:SA)(ω:Om):oA C ta D Ex ρ ω=ta ρ ω fun xs ω1=>xs.length<=1000/\Ex C ω1:=rfl
section
variable{E:XK}{t u:TS}{t' u':AXS}{ta:TA}{ta':AA}{tc:TT}{tc':AT}{sp:gM}{C:Addr}
theorem zd{a:AS}(h:eW t a):fX E t (yU a):=⟨fun F H ω σ ρ D D' Ex rp rs w k kx=>h.run F H ω σ ρ D D' rp rs w k⟩
theorem y9(h1:fX E t t')(h2:fX E u u'):fX E (wQ t u) (vD t' u'):=⟨fun F H ω σ ρ D D' Ex rp rs h k kx=>
 h1.run F H ω σ ρ _ _ Ex rp rs h ⟨fun ρ1 ω1 σ1 H1 rp1 fr1 rs1 q=>h2.run F H1 ω1 σ1 ρ1 D D' Ex rp1 rs1 q (k.fr fr1) (kx.fr fr1),k.rt,k.bk,k.ct⟩ kx⟩
theorem zC(hc:d9 tc tc')(h1:fX E t t')(h2:fX E u u'):fX E (v7 tc t u) (yu tc' t' u'):=⟨fun F H ω σ ρ D D' Ex rp rs w k kx=>
 hc.go rp rs w fun a ω1 v H1 rp1 fr1 rs1 rv q=>by
  cases (show a=v from rv)
  cases a with
  |true=>rw[if_pos rfl] at q ⊢;exact h1.run F H1 ω1 σ ρ D D' Ex rp1 rs1 q (k.fr fr1) (kx.fr fr1)
  |false=>rw[if_neg Bool.false_ne_true] at q ⊢;exact h2.run F H1 ω1 σ ρ D D' Ex rp1 rs1 q (k.fr fr1) (kx.fr fr1)⟩
theorem ue(ha:fP ta ta'):fX E (rB C E ta) (oA C ta'):=⟨fun F H ω σ ρ D D' Ex rp rs w k kx=>
 ha.go rp rs w fun xs ω1 vs H1 rp1 fr1 rs1 rv q=>⟨by rw[rv.length];exact q.1,fun e=>kx C ω1 e H1 rp1 fr1 q.2⟩⟩
end
theorem PS.nox{X:Cx}{st:Stmt}{t:TS}(h:PS X.nox st t):PS X st t:=.mk <| fun pins s σ H D I hw=>
 wpAny_mono (h pins s σ H D (I.wish _) hw) (fun _ _ q=>q.unwish) fun _ _ z=>False.elim z
noncomputable def pT(a C:Addr):AV:=.p (.ref a) (fun G=>G a=some (jW a C))
noncomputable def y3(K:W.Frag)(T:Addr)(i j:Nat)(y:Option Nat)(sp:gM)(ta:AA):AS:=fun D ρ ω=>ta ρ ω fun xs ω1=>sp xs ω1 (fun v ω2=>D.nx (match y with|none=>ρ|some k=>ρ.set k (some v)) ω2)
 (fun c ω2=>W.exmOne K (.ref c) (.ref T)=some true/\∀a,D.nx ((ρ.set i none).set j (some (pT a c))) ω2)
theorem lF(K:W.Frag)(T:Addr)(i j:Nat)(sp:gM)(ta:AA)(D:bp)(ρ:SA)(ω:Om):y3 K T i j none sp ta D ρ ω=ta ρ ω fun xs ω1=>sp xs ω1 (fun v ω2=>D.nx ρ ω2) (fun c ω2=>W.exmOne K (.ref c) (.ref T)=some true/\∀a,D.nx ((ρ.set i none).set j (some (pT a c))) ω2):=rfl
theorem RS.AB{G:Hp}{ρ:SA}{σ:St}{i:Nat}(h:RS G ρ σ):RS G (ρ.set i none) (σ.set i none):=by
 refine⟨by simp[h.1],fun j b e=>?_⟩
 by_cases hj:j=i
 ·subst hj
  rw[List.getElem?_set] at e;simp only[if_true] at e;split at e<;>cases e
 ·rw[List.getElem?_set_ne (Ne.symm hj)] at e
  rw[List.getElem?_set_ne (Ne.symm hj)];exact h.2 j b e
section
variable{K:W.Frag}{T:Addr}{i j:Nat}{sp:gM}{ta:TA}{ta':AA}
theorem LE.caught{F:Fs}{H H1:Hp}{ω ω1:Om}{σ:St}{ρ:SA}{D:ee}{D':bp}(k:LE F H ω D' D)(fr1:Fr F H ω H1 ω1)(rs1:RS (cut F H1 ω1) ρ σ):
  LX F H1 ω1 (fun c ω2=>W.exmOne K (.ref c) (.ref T)=some true/\∀a,D'.nx ((ρ.set i none).set j (some (pT a c))) ω2) (fun x C H'=>∀a c,x=.ref a->C=some c->H' a=none->W.exmOne K (.ref c) (.ref T)=some true/\D.nx ((σ.set i none).set j (some (.ref a))) (upd H' a (jW a c))):=by
 intro C ω2 a H2 rp2 fr2 q a' c' e1 e2 hn;cases e1;cases e2;obtain⟨rp3,fr3,hc⟩:=rp2.lay (o:=jW a C) hn;have rx:RV (cut F (upd H2 a (jW a C)) ω2) (pT a C) (.ref a):=⟨rfl,fun G' s=>s _ _ hc⟩;exact⟨q.1,k.nx _ ω2 _ _ rp3 ((fr1.trans fr2).trans fr3) (((rs1.same fr2.same).same fr3.same).AB.set rx) (q.2 a)⟩
theorem yH(ha:fP ta ta'):eW (yA K T i j fun E=>pd (nU (og sp) [] E ta)) (y3 K T i j none sp ta'):=⟨fun F H ω σ ρ D D' rp rs w k=>
 ha.go rp rs w fun xs ω1 vs H1 rp1 fr1 rs1 rv q=>by
  rw[List.append_nil]
  exact⟨F,xs,ω1,_,_,rp1,rv,q,fun a ω2 v H2 rp2 fr2 rv2 q2=>k.nx _ ω2 _ H2 rp2 (fr1.trans fr2) (rs1.same fr2.same) q2,k.caught fr1 rs1⟩⟩
end
noncomputable def mZ(K:W.Frag)(f:Value->Option Bool)(x:AV)(b:Bool):Prop:=(x=.d .non/\f (.type "NoneType")=some b)\/∃a C,x=pT a C/\gI K C=true/\f (.ref C)=some b
theorem mZ.of{K:W.Frag}{f:Value->Option Bool}{x:AV}{b:Bool}{F:Fs}{H:Hp}{ω:Om}{v:V}(h:mZ K f x b)(r:RV (cut F H ω) x v):isX K H f v b:=by
 rcases h with⟨rfl,hb⟩|⟨a,C,rfl,ok,hb⟩
 ·exact .inl ⟨xq r,hb⟩
 ·obtain⟨rfl,h2⟩:=r
  exact .inr ⟨a,C,rfl,(aJ.mp (h2 _ (bK.refl _))).2.2,ok,hb⟩
theorem iy{K:W.Frag}{f:Value->Option Bool}{b:Bool}{a C:Addr}(ok:gI K C=true)(h:f (.ref C)=some b):mZ K f (pT a C) b:=.inr ⟨a,C,rfl,ok,h⟩
noncomputable def xN(K:W.Frag):AC:=fun xs ω Q=>∃x c cv b,xs=[x,.r c]/\clV c=some cv/\mZ K (fun t=>W.kitOne K t cv) x b/\Q (.d (.bl b)) ω
theorem pE(K:W.Frag)(xs:List AV)(ω:Om)(Q:AV->Om->Prop):xN K xs ω Q=∃x c cv b,xs=[x,.r c]/\clV c=some cv/\mZ K (fun t=>W.kitOne K t cv) x b/\Q (.d (.bl b)) ω:=rfl
theorem vy{K:W.Frag}:ig (yO K) (xN K):=⟨fun F H ω vs xs Q Q' rp rv ⟨x,c,cv,b,e,h1,h2,q⟩ k=>by
 subst e;obtain⟨v,u,rfl,r1,r2⟩:=wK rv;have e2:u=c:=r2;rw[e2]
 exact⟨v,c,cv,b,rfl,h1,h2.of r1,k.bl rp q⟩⟩
noncomputable def vN(K:W.Frag)(tx:AE)(tcs:AA):AE:=fun ρ ω Q=>tx ρ ω fun x ω1=>tcs ρ ω1 fun cs ω2=>∃vs cvs b,cs=vs.map AV.r/\vs.length<=1000/\pK vs=some cvs/\mZ K (fun t=>W.kitAny K t cvs) x b/\Q (.d (.bl b)) ω2
theorem lR(K:W.Frag)(tx:AE)(tcs:AA)(ρ:SA)(ω:Om)(Q:AV->Om->Prop):vN K tx tcs ρ ω Q=tx ρ ω fun x ω1=>tcs ρ ω1 fun cs ω2=>∃vs cvs b,cs=vs.map AV.r/\vs.length<=1000/\pK vs=some cvs/\mZ K (fun t=>W.kitAny K t cvs) x b/\Q (.d (.bl b)) ω2:=rfl
theorem nN{G:Hp}:∀ {vs us:List V},RVs G (vs.map AV.r) us->us=vs
 | [],us,h=>h
 |v::vs,us,h=>by
  obtain⟨u,r,rfl,h1,h2⟩:=h;cases (show u=v from h1)
  rw[nN h2]
theorem wY{K:W.Frag}{tx:TE}{tx':AE}{tcs:TA}{tcs':AA}(hx:aY tx tx')(hc:fP tcs tcs'):aY (tCB (vF K) (jD tx (jD (xn tcs) xw))) (vN K tx' tcs'):=⟨fun F H ω σ ρ Q Q' rp rs w k=>
 hx.go rp rs w fun x ω1 v H1 rp1 fr1 rs1 rv1 q1=>hc.go rp1 rs1 q1 fun cs ω2 us H2 rp2 fr2 rs2 rv2 ⟨vs,cvs,b,e,hl,h1,h2,q⟩=>by
  subst e;cases nN rv2;refine⟨Nat.le_of_lt (aR hl),fun p hp=>?_⟩;obtain⟨rp3,fr3,hc3⟩:=rp2.lay (o:=.tup us) hp
  exact⟨v,p,us,cvs,b,rfl,bu,h1,h2.of (rv1.same (fr2.trans fr3).same),(k.fr ((fr1.trans fr2).trans fr3)).bl rp3 q⟩⟩
theorem wP{K:W.Frag}{D:Addr}(h:gI K D=true):W.excIn K D su "ValueError.__new__"=true:=by
 unfold gI at h;simp only[Bool.and_eq_true] at h;exact h.2
end L2
namespace L2
open PySem PySem.Spec PySem.Calls PyProof.Rows PySem.W
structure zY(P:Program)(w:World)(K:W.Frag)(mg:Str->Option Value)(base:Heap)(H₀:Hp)(k:Nat)(f:Addr)(n:Nat)(sp:Sp):Prop where
 fn:∃(oc:Value)(od:Option Addr)(fd:FuncData) (sl:Array (Option Value)) (u:HO),H₀ f=some (.frz ⟨oc,od,.func fd,sl⟩ u)
 len:∀vs H Q E,sp vs H Q E->vs.length=n
 run:∀(A:Around)(outer:List Env)(s:Shared)(H:Hp)(us:List Value)(vs:List V)(Q:VK)(E:XK),cG k A->mY P w K mg base A outer s H->Frz H₀ H->ar vs us->sp vs H Q E ->
  codeAny (model P w) A (.call (.ref f) ⟨us,[]⟩) (CR (CXx P w) outer P w H s Q E) s
end L2
namespace L2
open PySem PySem.Spec PySem.Calls PyProof.Rows
structure Ap3(z u o i j l p q r:Addr):Prop where
 uz:u≠z
 oz:o≠z
 iz:i≠z
 jz:j≠z
 lz:l≠z
 uo:u≠o
 ui:u≠i
 uj:u≠j
 ul:u≠l
 oi:o≠i
 oj:o≠j
 ol:o≠l
 ij:i≠j
 il:i≠l
 jl:j≠l
 np:∀c∈[z,u,o,i,j,l],p≠c
 nq:∀c∈[z,u,o,i,j,l],q≠c
 nr:∀c∈[z,u,o,i,j,l],r≠c
end L2
namespace L2
open PySem PySem.Spec PyProof.Rows
inductive O where
 |d (x:D)|box (b:Bool)|tup (os:List O)
noncomputable def Om.del(ω:Om)(l:Addr):Om:=fun b=>if b=l then none else ω b
end L2
namespace L2
open PySem PySem.Spec PyProof.Rows AutoSeq1
end L2
namespace L2
open PySem PySem.Spec PyProof PyProof.Rows PySem.SeqAt
open AutoSeq1 (wpAny_loadPart')
noncomputable def LtA(A:Around)(s:Shared)(x y:Value)(b:Bool):Prop:=∀(p:Program)(w:World)(E:Value->Shared->Prop)(Q:Value->Shared->Prop),Q (.bool b) s->wpAny (model p w) A (richCompare .Lt x y) Q E s
noncomputable def l8(A:Around)(s:Shared)(fin:Bool):List (Value×Value)->Bool->Prop
 | [],r=>r=fin
 |(p,q)::t,r=>∃b,EqAt A s p q b/\(b=true->l8 A s fin t r)/\(b=false->LtA A s p q r)
theorem pN(x y:Addr)(xs ys:Array Value)(n m:Nat)(dx dy:Option Addr)(sx sy:Array (Option Value))(r:Bool):
  Meets (Builtin.«tuple.__lt__» ⟨[.ref x,.ref y],[]⟩)
   (fun A R s=>s.heap.get? x=some { cls:=.type "tuple",dict:=dx,data:=.seq xs n,slots:=sx }/\s.heap.get? y=some { cls:=.type "tuple",dict:=dy,data:=.seq ys m,slots:=sy } /\
    l8 A.in1 s (decide (xs.size<ys.size)) (xs.toList.zip ys.toList) r/\R (.ok (.ret (.bool r))) s):=
 .of_wp fun prog w A R s h=>by
  obtain⟨hp,g,d,tk,os⟩:=s;obtain⟨hx,hy,he,h⟩:=h;have f2:=AutoSeq1.sub_tuple_tuple
  wp_walk using wpAny_loadPart' hx,wpAny_loadPart' hy,wpAny_forIn_list _ (fun aL b s'=>b.1=none/\s'=⟨hp,g,d,tk,os⟩/\l8 A.in1 ⟨hp,g,d,tk,os⟩ (decide (xs.size<ys.size)) aL r) _
  case turn=>
   rintro⟨p,q⟩ aL b s' ⟨hb,rfl,hL⟩;obtain⟨k,hk,h1,h2⟩:=hL;refine wpAny_bind (hk prog w _ _ ?_)
   cases k with
   |true=>
    wp_walk
    exact⟨rfl,rfl,h1 rfl⟩
   |false=>
    rw[if_pos (by rfl)]
    refine wpAny_bind (wpAny_rule (wpAny_bind (h2 rfl prog w _ _ ?_)))
    wp_walk
    exact⟨_,rfl,h⟩
  case fin=>
   rintro⟨b1,b2⟩ s' ⟨hb,rfl,hL⟩;simp only at hb;subst hb;have e:r=decide (xs.size<ys.size):=hL;subst e
   wp_walk
   exact⟨_,rfl,h⟩
  case h=>exact⟨rfl,rfl,he⟩
theorem LtA.tuples{A:Around}{s:Shared}{x y:Addr}{xs ys:Array Value}{r:Bool}(hx:s.heap.IsTuple x xs)(hy:s.heap.IsTuple y ys)(hu:A.units<cLine)(he:l8 A.in1 s (decide (xs.size<ys.size)) (xs.toList.zip ys.toList) r):LtA A s (.ref x) (.ref y) r:=fun p w E Q q=>by
 obtain⟨⟨c1,d1,t1,l1⟩,o1,hc1,n1,hd1⟩:=id hx;obtain⟨⟨c2,d2,t2,l2⟩,o2,hc2,n2,hd2⟩:=id hy;simp only at hc1 hd1 hc2 hd2;subst hc1 hd1 hc2 hd2;exact richCompare_meets_room (op:=.Lt) ⟨_,o1,rfl⟩ ⟨_,o2,rfl⟩ F.slot_tuple_lt F.entry_tuple_lt (F.args_tuple_lt_2 _ _) (pN x y xs ys n1 n2 d1 d2 l1 l2 r) ⟨o1,o2,he,show Value.bool r≠Value.notImplemented/\Q (.bool r) s from ⟨fun z=>(nomatch z),q⟩⟩ hu
mutual
noncomputable def ltD:D->D->Bool
 |.int a,.int b=>decide (a<b)
 |.str a,.str b=>decide (a.cps.toList<b.cps.toList)
 |.tup xs,.tup ys=>fc xs ys
 |_,_=>false
noncomputable def fc:List D->List D->Bool
 | [],[]=>false
 | [],_::_=>true
 |_::_,[]=>false
 |x::xs,y::ys=>if eqD x y then fc xs ys else ltD x y
end
mutual
noncomputable def cmD:D->D->Bool
 |.int _,.int _=>true
 |.str _,.str _=>true
 |.tup xs,.tup ys=>d5 xs ys
 |_,_=>false
noncomputable def d5:List D->List D->Bool
 |x::xs,y::ys=>if eqD x y then d5 xs ys else cmD x y
 |_,_=>true
end
section
variable{X:Cx}{pins:List (Addr×Obj)}{σ:St}{H:Hp}{s:Shared}
theorem qJ(I:Inv X pins σ H s){A:Around}{n:Nat}(hu:A.units+n<cLine)(lt:∀(d e:D)(x y:V)(v u:Value),dep d<=n->Dat H d x->Dat H e y->aF x v->aF y u->cmD d e=true->LtA A s v u (ltD d e)):
  ∀ {ds es:List D} {xs ys:List V} {vs us:List Value},bC ds<=n->aj H ds xs->aj H es ys->ar xs vs->ar ys us->d5 ds es=true->l8 A s (decide (vs.length<us.length)) (vs.zip us) (fc ds es)
 | [],[],xs,ys,vs,us,_,h1,h2,r1,r2,_=>by
  simp only[aj] at h1 h2;subst h1 h2;cases r1;cases r2;rfl
 | [],e::es,xs,ys,vs,us,_,h1,h2,r1,r2,_=>by
  simp only[aj] at h1 h2;obtain⟨y,yr,rfl,_,_⟩:=h2;subst h1;cases r1;cases r2;simp[l8,fc]
 |d::ds,[],xs,ys,vs,us,_,h1,h2,r1,r2,_=>by
  simp only[aj] at h1 h2;obtain⟨x,xr,rfl,_,_⟩:=h1;subst h2;cases r1;cases r2;simp[l8,fc]
 |d::ds,e::es,xs,ys,vs,us,hd,h1,h2,r1,r2,hc=>by
  simp only[aj] at h1 h2;obtain⟨x,xr,rfl,hx,hxr⟩:=h1;obtain⟨y,yr,rfl,hy,hyr⟩:=h2
  cases r1 with
  | @cons _ v _ vs rx rxr=>
  cases r2 with
  | @cons _ u _ us ry ryr=>
  have d1:dep d<=n:=Nat.le_trans (cV (List.mem_cons_self ..)) hd;have d2:bC ds<=n:=by simp only[bC] at hd;omega
  simp only[d5] at hc;simp only[List.zip_cons_cons,l8,fc];refine⟨eqD d e,(ie I n d e x y v u A d1 hu hx hy rx ry).2.1,fun q=>?_,fun q=>?_⟩
  ·rw[if_pos q] at hc ⊢
   have:=qJ I hu lt d2 hxr hyr rxr ryr hc;rw[show decide ((v::vs).length<(u::us).length)=decide (vs.length<us.length) from by simp]
   exact this
  ·rw[if_neg (by rw[q];decide)] at hc ⊢
   exact lt d e x y v u d1 hx hy rx ry hc
theorem vw(I:Inv X pins σ H s):∀(n:Nat)(A:Around)(d e:D)(x y:V)(v u:Value),A.units+n<cLine->dep d<=n->Dat H d x->Dat H e y->aF x v->aF y u->cmD d e=true->LtA A s v u (ltD d e):=fun n=>by
 induction n with
 |zero=>
  intro A d e x y v u hu hd hx hy rx ry hc
  cases d with
  |int a=>
   cases e<;>simp only[cmD,Bool.false_eq_true] at hc
   simp only[Dat] at hx hy;subst hx hy;obtain⟨t1,rfl⟩:=rx;obtain⟨t2,rfl⟩:=ry;exact fun p w E Q q=>lt_int q
  |str a=>
   cases e<;>simp only[cmD,Bool.false_eq_true] at hc
   simp only[Dat] at hx hy;subst hx hy;obtain⟨t1,rfl⟩:=rx;obtain⟨t2,rfl⟩:=ry;exact fun p w E Q q=>lt_str q
  |tup ds=>simp[dep] at hd
  |non=>cases e<;>simp[cmD] at hc
  |bl b=>cases e<;>simp[cmD] at hc
  |lst b=>cases e<;>simp[cmD] at hc
  |dk b=>cases e<;>simp[cmD] at hc
  |dt b=>cases e<;>simp[cmD] at hc
 |succ n ih=>
  intro A d e x y v u hu hd hx hy rx ry hc;by_cases h0:dep d<=n
  ·exact ih A d e x y v u (by omega) h0 hx hy rx ry hc
  have hin:A.in1.units+n<cLine:=by show A.units+1+n<cLine;omega
  cases d with
  |tup ds=>
   cases e<;>simp only[cmD,Bool.false_eq_true] at hc
   rename_i es
   simp only[Dat] at hx hy;obtain⟨a,xs,rfl,ha,hxs⟩:=hx;obtain⟨b,ys,rfl,hb,hys⟩:=hy;cases rx;cases ry;obtain⟨its,r1,p1⟩:=cW I ha;obtain⟨jts,r2,p2⟩:=cW I hb;have:=qJ I hin (fun d e x y v u q1 q2 q3 q4 q5 q6=>ih A.in1 d e x y v u hin q1 q2 q3 q4 q5 q6) (by simp only[dep] at hd;omega) hxs hys r1 r2 hc
   exact LtA.tuples p1 p2 (by omega) (by simpa[ltD] using this)
  |int a=>simp only[dep] at h0;omega
  |str a=>simp only[dep] at h0;omega
  |non=>cases e<;>simp[cmD] at hc
  |bl b=>cases e<;>simp[cmD] at hc
  |lst b=>cases e<;>simp[cmD] at hc
  |dk b=>cases e<;>simp[cmD] at hc
  |dt b=>cases e<;>simp[cmD] at hc
noncomputable def yl:R2:=fun x y H Q=>∃d e,Dat H d x/\Dat H e y/\dep d<=100/\cmD d e=true/\Q (.bl (ltD d e)) H
theorem w5(hu:X.A.units+100<cLine):OpR X (compareOp .Lt) yl:=by
 intro pins s σ H x y v u Q I rx ry h;obtain⟨d,e,hx,hy,hd,hc,q⟩:=h;exact vw I 100 X.A d e x y v u hu hd hx hy rx ry hc X.prog X.w _ _ ⟨.bl _,H,I,rfl,q⟩
end
noncomputable def yE:A2:=fun x y ω Q=>∃a b,aQ ω x=some a/\aQ ω y=some b/\dep a<=100/\cmD a b=true/\Q (.d (.bl (ltD a b))) ω
theorem uc(x y:AV)(ω:Om)(Q:AV->Om->Prop):yE x y ω Q=∃a b,aQ ω x=some a/\aQ ω y=some b/\dep a<=100/\cmD a b=true/\Q (.d (.bl (ltD a b))) ω:=rfl
theorem yh:eY yl yE:=⟨fun F H ω v u x y Q Q' rp h1 h2 ⟨a,b,e1,e2,s,c,q⟩ k=>⟨a,b,fA rp h1 e1,fA rp h2 e2,s,c,k.bl rp q⟩⟩
end L2
namespace L2
open PySem PySem.Spec PyProof PyProof.Rows PySem.SeqAt
end L2
namespace L2
open PySem PySem.Spec PySem.Calls PyProof PyProof.Rows PySem.SeqAt
section
variable{prog:Program}{w:World}{A:Around}{E:Value->Shared->Prop}{s:Shared}
theorem k8{a:Addr}{ob:Obj}{us:List Value}{m:Nat}{C:List Value->Shared->Prop}(g:s.heap.get? a=some ob)(gc:ob.cls=.type "list"\/ob.cls=.type "tuple")(gd:ob.data=.seq us.toArray m)(hz:us.length<=sizeLine)(q:C us { s with heap:=(s.heap.push (seqObj "list" #[] 0)).update s.heap.objs.size (Obj.mapSeq (·++us.toArray)) }):wpAny (model prog w) A (collect (.ref a)) C E s:=by
 rcases gc with gc|gc
 ·exact collect_list ⟨ob,g,gc,m,gd⟩ q hz
 unfold collect;refine wpAny_bind (wpAny_runValue (codeAny_builtin entry_proto_collect' ?_));show wpAny _ _ (do again (.builtin "list.__iadd__" ⟨[←newList [],.ref a],[]⟩)) _ _ s
 refine wpAny_bind (wpAny_newList (wpAny_pure ⟨Code.quiet_builtin _ (by decide +kernel),codeAny_builtin entry_list_iadd' ?_⟩))
 have gp:(s.heap.push (seqObj "list" #[] 0)).get? a=some ob:=Heap.get?_push_of_some _ g;show wpAny _ _ (Builtin.List.listExtendWith (.ref s.heap.objs.size) (.ref a) (.ref s.heap.objs.size)) _ _ { s with heap:=s.heap.push (seqObj "list" #[] 0) };unfold Builtin.List.listExtendWith;refine wpAny_bind (wpAny_typeOf (T:="tuple") ⟨ob,gp,gc⟩ ?_);have ht:(Value.type "tuple" == Value.type "tuple")=true:=by rfl
 rw[if_pos (by rw[ht];simp)]
 refine wpAny_bind (listItems_at gp gd (wpAny_bind (listItems_at (xs:=#[]) (n:=0) (Heap.get?_push_size _ rfl) rfl ?_)));rw[if_neg (by simp)]
 refine wpAny_bind (listUpdate_at (xs:=#[]) (n:=0) (Heap.get?_push_size _ rfl) rfl (wpAny_pure ?_) (Nat.zero_le _) (by show (#[]++us.toArray).size<=sizeLine+1;simp only[Array.size_append,List.size_toArray,List.length_nil];omega))
 show wpAny (model prog w) A (do
   let o ← load s.heap.objs.size
   match o.data with|.seq xs _=>pure xs.toList|_=>unsupported "internal:collect") C E { s with heap:=(s.heap.push (seqObj "list" #[] 0)).update s.heap.objs.size (Obj.mapSeq (·++us.toArray)) }
 refine wpAny_bind (wpAny_load (get?_update_seq (Heap.get?_push_size _ rfl) _) ?_);show wpAny _ _ (pure ((#[]:Array Value)++us.toArray).toList) C E _;rw[show ((#[]:Array Value)++us.toArray).toList=us by simp]
 exact wpAny_pure q
noncomputable def lp(h0 h:Heap):Prop:=∀x o,h0.get? x=some o->h.get? x=some o
structure qM(prog:Program)(w:World)(A:Around)(h0:Heap)(s:Shared)(vs:List Value)(c:Nat->Nat->Bool)(b:Bool):Prop where
 kind:∀h,lp h0 h->∃fs T,W.KatTups h vs fs/\fs.length=vs.length/\(∀v∈fs,W.Looks (model prog w) h (typeOf v) T)/\(T == T)=true/\(T != Value.type "tuple")=b
 ask:∀h,lp h0 h->∀i j,i<vs.length->j<vs.length->∀(C:Bool->Shared->Prop)(E:Value->Shared->Prop),C (c i j) { s with heap:=h }->wpAny (model prog w) A (keyLt' (tuples' b) (vs.getD i Value.none) (vs.getD j Value.none)) C E { s with heap:=h }
end
section
variable{X:Cx}{pins:List (Addr×Obj)}{σ:St}{H:Hp}{s:Shared}{A:Around}
noncomputable def tN:List D->List D->Bool
 |.str _::_,.str _::_=>true
 |.int _::_,.int _::_=>true
 |_,_=>false
theorem m9(I:Inv X pins σ H s){n:Nat}(hu:A.units+n<cLine){b:Bool}{Q:Bool->Shared->Prop}:
  ∀ {ds es:List D} {xs ys:List V} {vs us:List Value} (i:Nat),bC ds<=n->aj H ds xs->aj H es ys->ar xs vs->ar ys us->d5 ds es=true->((b && i == 0)=true->tN ds es=true)->Q (fc ds es) s ->
   W.KatLex X.prog X.w A b (decide (vs.length<us.length)) Q (vs.zip us) i s
 | [],[],xs,ys,vs,us,i,_,h1,h2,r1,r2,_,_,q=>by
  simp only[aj] at h1 h2;subst h1 h2;cases r1;cases r2;exact W.kat_nil q
 | [],e::es,xs,ys,vs,us,i,_,h1,h2,r1,r2,_,_,q=>by
  simp only[aj] at h1 h2;obtain⟨y,yr,rfl,_,_⟩:=h2;subst h1;cases r1;cases r2;exact W.kat_nil (by simpa[fc] using q)
 |d::ds,[],xs,ys,vs,us,i,_,h1,h2,r1,r2,_,_,q=>by
  simp only[aj] at h1 h2;obtain⟨x,xr,rfl,_,_⟩:=h1;subst h2;cases r1;cases r2;exact W.kat_nil (by simpa[fc] using q)
 |d::ds,e::es,xs,ys,vs,us,i,hd,h1,h2,r1,r2,hc,hk,q=>by
  simp only[aj] at h1 h2;obtain⟨x,xr,rfl,hx,hxr⟩:=h1;obtain⟨y,yr,rfl,hy,hyr⟩:=h2
  cases r1 with
  | @cons _ v _ vs rx rxr=>
  cases r2 with
  | @cons _ u _ us ry ryr=>
  have d1:dep d<=n:=Nat.le_trans (cV (List.mem_cons_self ..)) hd;have d2:bC ds<=n:=by simp only[bC] at hd;omega
  simp only[d5] at hc;simp only[fc] at q;rw[List.zip_cons_cons,show decide ((v::vs).length<(u::us).length)=decide (vs.length<us.length) from by simp]
  refine W.kat_cons ((ie I n d e x y v u A d1 hu hx hy rx ry).2.1 X.prog X.w _ _ ?_);by_cases h:eqD d e=true
  ·rw[h]
   rw[if_pos h] at hc q;exact W.kat_yes (m9 I hu (i+1) d2 hxr hyr rxr ryr hc (fun z=>by simp at z) q)
  ·rw[show eqD d e=false from by simpa using h]
   rw[if_neg h] at hc q;refine W.kat_no ?_
   cases hb:(b && i == 0) with
   |false=>exact W.kat_one _ _ (vw I n A d e x y v u hu d1 hx hy rx ry hc X.prog X.w _ _ q)
   |true=>
    have hk:=hk hb;cases d<;>cases e<;>simp only[tN,Bool.false_eq_true] at hk
    ·simp only[Dat] at hx hy
     subst hx hy;obtain⟨t1,rfl⟩:=rx;obtain⟨t2,rfl⟩:=ry;exact oneLt_int q
    ·simp only[Dat] at hx hy
     subst hx hy;obtain⟨t1,rfl⟩:=rx;obtain⟨t2,rfl⟩:=ry;exact oneLt_str q
noncomputable def j4(k:Bool)(d:D):Prop:=∃r,(k=true/\∃z,d=.tup (.str z::r))\/(k=false/\∃i,d=.tup (.int i::r))
theorem ji(I:Inv X pins σ H s){k:Bool}:∀ {W:List D} {xs:List V} {vs:List Value},(∀d∈W,j4 k d)->aj H W xs->ar xs vs->∃fs,PySem.W.KatTups s.heap vs fs/\fs.length=vs.length/\∀v∈fs,(k=true/\∃z t,v=.str z t)\/(k=false/\∃n t,v=.int n t)
 | [],xs,vs,_,h,r=>by
  simp only[aj] at h;subst h;cases r;exact⟨[],trivial,rfl,by simp⟩
 |d::W,xs,vs,hk,h,r=>by
  simp only[aj] at h;obtain⟨x,xr,rfl,hx,hxr⟩:=h
  cases r with
  | @cons _ v _ vs rx rxr=>
  obtain⟨fs,g1,g2,g3⟩:=ji I (fun e he=>hk e (List.mem_cons_of_mem _ he)) hxr rxr
  have mk:∀(f:D)(aL:List D),d=.tup (f::aL)->∃a o its n fv fx,v=.ref a/\s.heap.get? a=some o/\o.cls=.type "tuple"/\o.data=.seq its n/\its[0]?=some fv/\Dat H f fx/\aF fx fv:=fun f aL e=>by
   subst e;simp only[Dat] at hx;obtain⟨a,ys,rfl,ha,hys⟩:=hx;simp only[aj] at hys;obtain⟨fx,yr,rfl,hf,_⟩:=hys;cases rx;obtain⟨_,its,e4,⟨o,e5,e6,n,e7⟩,_⟩:=I.hok a _ ha
   cases e4 with
   | @cons _ fv _ vr rf _=>exact⟨a,o,_,n,fv,fx,rfl,e5,e6,e7,by simp,hf,rf⟩
  obtain⟨aL,⟨k1,z,e⟩|⟨k1,z,e⟩⟩:=hk d List.mem_cons_self
  ·obtain⟨a,o,its,n,fv,fx,rfl,e5,e6,e7,e8,hf,rf⟩:=mk _ _ e
   simp only[Dat] at hf;subst hf;obtain⟨t,rfl⟩:=rf;refine⟨_::fs,PySem.W.KatTups.cons e5 e6 e7 e8 g1,by simp[g2],fun v hv=>?_⟩
   rcases List.mem_cons.mp hv with rfl|hv
   ·exact .inl ⟨k1,z,t,rfl⟩
   ·exact g3 v hv
  ·obtain⟨a,o,its,n,fv,fx,rfl,e5,e6,e7,e8,hf,rf⟩:=mk _ _ e
   simp only[Dat] at hf;subst hf;obtain⟨t,rfl⟩:=rf;refine⟨_::fs,PySem.W.KatTups.cons e5 e6 e7 e8 g1,by simp[g2],fun v hv=>?_⟩
   rcases List.mem_cons.mp hv with rfl|hv
   ·exact .inr ⟨k1,z,t,rfl⟩
   ·exact g3 v hv
end
section
variable{X:Cx}{pins:List (Addr×Obj)}{σ:St}{H:Hp}{s:Shared}{A:Around}
theorem j4.same{k:Bool}{ds es:List D}(h1:j4 k (.tup ds))(h2:j4 k (.tup es)):tN ds es=true:=by
 obtain⟨r,⟨k1,z,e⟩|⟨k1,z,e⟩⟩:=h1
 ·obtain⟨r',⟨k2,z',e'⟩|⟨k2,z',e'⟩⟩:=h2
  ·cases e;cases e';rfl
  ·rw[k1] at k2;cases k2
 ·obtain⟨r',⟨k2,z',e'⟩|⟨k2,z',e'⟩⟩:=h2
  ·rw[k1] at k2;cases k2
  ·cases e;cases e';rfl
theorem j4.tup{k:Bool}{d:D}(h:j4 k d):∃ds,d=.tup ds:=by
 obtain⟨r,⟨_,z,e⟩|⟨_,z,e⟩⟩:=h
 ·exact⟨_,e⟩
 ·exact⟨_,e⟩
theorem wn(I:Inv X pins σ H s){n:Nat}(hu:A.units+n<cLine){k:Bool}{W:List D}{xs:List V}{vs:List Value}{c:Nat->Nat->Bool}(hk:∀d∈W,j4 k d)(hd:bC W<=n)(hx:aj H W xs)(r:ar xs vs)(hc:∀d∈W,∀e∈W,cmD d e=true)(hl:∀i j,i<W.length->j<W.length->c i j=ltD (W.getD i .non) (W.getD j .non)):qM X.prog X.w A s.heap s vs c true:=by
 have inv:∀h,lp s.heap h->Inv X pins σ H { s with heap:=h }:=fun h kh=>I.kept (t':=s.toks) fun b o e=>kh b o e;have hlen:vs.length=W.length:=by rw[←r.length,hx.length]
 refine⟨fun h kh=>?_,fun h kh i j hi hj C E q=>?_⟩
 ·obtain⟨fs,f1,f2,f3⟩:=ji (inv h kh) hk hx r
  cases k with
  |true=>
   refine⟨fs,.type "str",f1,f2,fun v hv=>?_,rfl,rfl⟩;rcases f3 v hv with⟨_,z,t,rfl⟩|⟨k1,_⟩
   ·exact PySem.W.Looks.now
   ·cases k1
  |false=>
   refine⟨fs,.type "int",f1,f2,fun v hv=>?_,rfl,rfl⟩;rcases f3 v hv with⟨k1,_⟩|⟨_,z,t,rfl⟩
   ·cases k1
   ·exact PySem.W.Looks.now
 ·have J:=inv h kh
  have at':∀i,i<vs.length->∃a ds ys its o m,W.getD i .non=.tup ds/\D.tup ds∈W/\vs.getD i Value.none=.ref a/\aj H ds ys/\ar ys its/\h.get? a=some o/\o.data=.seq its.toArray m:=fun i hi=>by
   have hw:i<W.length:=by omega
   have hm:W[i]∈W:=List.getElem_mem hw;obtain⟨ds,e⟩:=(hk _ hm).tup;obtain⟨x,ex,dx⟩:=hx.get (List.getElem?_eq_getElem hw);obtain⟨u,eu,ru⟩:=r.get ex;rw[e] at dx hm;simp only[Dat] at dx;obtain⟨a,ys,rfl,ha,hys⟩:=dx;cases ru;obtain⟨_,its,r4,⟨o,e5,e6,m,e7⟩,_⟩:=(show bj X.prog X.w H h a (.tup ys) from J.hok a _ ha)
   exact⟨a,ds,ys,its,o,m,by rw[List.getD_eq_getElem?_getD,List.getElem?_eq_getElem hw,e];rfl,hm,by rw[List.getD_eq_getElem?_getD,eu];rfl,hys,r4,e5,e7⟩
  obtain⟨a1,ds,ys,its,o1,m1,w1,i1,v1,d1,r1,g1,b1⟩:=at' i hi;obtain⟨a2,es,zs,jts,o2,m2,w2,i2,v2,d2,r2,g2,b2⟩:=at' j hj;rw[hl i j (by omega) (by omega),w1,w2] at q
  rw[v1,v2];refine PySem.W.kat_lt g1 b1 g2 b2 ?_
  have dd:bC ds<=n:=by
   have:=cV i1;simp only[dep] at this;omega
  have:=m9 (Q:=C) J hu (b:=true) 0 dd d1 d2 r1 r2 (hc _ i1 _ i2) (fun _=>(hk _ i1).same (hk _ i2)) q;simpa using this
end
theorem iS{H:Hp}{W:List D}{xs:List V}(h:aj H W xs):∀ {l:List Nat},(∀i∈l,i<W.length)->aj H (l.map fun i=>W.getD i .non) (l.map fun i=>xs.getD i .non)
 | [],_=>by simp[aj]
 |i::l,q=>by
  have hi:=q i (List.mem_cons_self ..);obtain⟨x,e,hx⟩:=h.get (List.getElem?_eq_getElem hi);simp only[List.map_cons,aj];refine⟨_,_,rfl,?_,iS h fun j hj=>q j (List.mem_cons_of_mem _ hj)⟩;rw[List.getD_eq_getElem?_getD,List.getD_eq_getElem?_getD,e,List.getElem?_eq_getElem hi];exact hx
structure Srt(W:List D)(key:D->List Int)(k:Bool):Prop where
 row:∀d∈W,j4 k d
 cmp:∀d∈W,∀e∈W,cmD d e=true
 lt:∀d∈W,∀e∈W,ltD d e=bi (key d) (key e)
theorem oI:∀a b:List Int,d5 (a.map D.int) (b.map D.int)=true
 | [],_=>by simp[d5]
 |_::_,[]=>by simp[d5]
 |x::xs,y::ys=>by
  simp only[List.map_cons,d5];split
  ·exact oI xs ys
  ·rfl
end L2
namespace L2
open PySem PySem.Spec PyProof PyProof.Rows PySem.SeqAt
section
variable{K:W.Frag}{x qual:Str}{st:Stmt}{f:Addr}{fd:FuncData}
theorem Fun.Af{p0:Str}(F:Fun K x qual st f fd)(h:∀(kV doc pm:Value)(an:Option Addr)(cdv ct:Value)(u0:Value),bindArgs (W.fnOf x qual (defArgs st) (defBody st) (defScope st) .none kV doc pm an cdv ct) ⟨[u0],[]⟩=pure ([p0].zip [u0])):cn K fd [p0] []:=
 F.binds fun a b c d e g us hl=>match us,hl with | [u0],_=>h a b c d e g u0
theorem Fun.Ak{p0 p1:Str}(F:Fun K x qual st f fd)(h:∀(kV doc pm:Value)(an:Option Addr)(cdv ct:Value)(u0 u1:Value),bindArgs (W.fnOf x qual (defArgs st) (defBody st) (defScope st) .none kV doc pm an cdv ct) ⟨[u0,u1],[]⟩=pure ([p0,p1].zip [u0,u1])):cn K fd [p0,p1] []:=
 F.binds fun a b c d e g us hl=>match us,hl with | [u0,u1],_=>h a b c d e g u0 u1
end
end L2
namespace L2
open PySem PySem.Spec PyProof.Rows
end L2
namespace L2
open PySem PySem.Spec PySem.Calls PyProof.Rows PySem.W
end L2
namespace L2
open PySem PySem.Spec PyProof.Rows
structure iX(K:W.Frag)(x:Str)(st:Stmt)(a:Addr)(fd:FuncData):Prop where
 g:W.nsIn K mainGlobals x=some (some (.ref a))
 f:Fun K x x st a fd
 e:W.keepIn K (.ref a)=true
theorem xP{K:W.Frag}{x:Str}{st:Stmt}{a:Addr}{oc:Value}{od an:Option Addr}{osl:Array (Option Value)}{kV doc pm cdv ct:Value}(g:W.nsIn K mainGlobals x=some (some (.ref a)))(l:K.lookup a=some ⟨oc,od,.func (W.fnOf x x (defArgs st) (defBody st) (defScope st) .none kV doc pm an cdv ct),osl⟩)(c:W.codeIn K cdv x=true)(e:W.keepIn K (.ref a)=true):iX K x st a (W.fnOf x x (defArgs st) (defBody st) (defScope st) .none kV doc pm an cdv ct):=⟨g,rJ l c e,e⟩
theorem fsc{N P:List Str}{sc:Scope}(a:sc.kind=.function)(b:sc.isCoroutine=false)(c:sc.isGenerator=false)(h:N.Nodup/\N.take P.length=P/\(∀x∈P,sc.names.lookup x=some .local\/sc.names.lookup x=some .cell)/\∀y∈sc.names,y.2≠.free):aX N P sc:=⟨a,b,c,h.1,h.2.1,h.2.2.1,h.2.2.2⟩
end L2
namespace L2
open PySem PySem.Spec PyProof.Rows
open AutoSeq1 (wpAny_loadPart')
end L2
namespace L2
open PySem PySem.Spec PyProof.Rows
section
open PySem.SeqAt
open PySem.AutoSeq1 (wpAny_loadPart')
open PySem.MeetsSeq PySem.MeetsSeq2 PySem.MeetsSeq3
open HT
end
end L2
namespace L2
open PySem PySem.Spec PyProof.Rows
open PySem.Builtin.Str
end L2
namespace L2
open PySem PySem.Spec PyProof.Rows
end L2
namespace L2
open PySem PySem.Spec PySem.Calls PyProof.Rows PySem.W PySem.Builtin PySem.Builtin.ObjectAttr
section
variable{prog:Program}{w:World}{A:Around}{E:Value->Shared->Prop}{s:Shared}{K:Frag}{x C:Addr}{o:Obj}{name:Str}{v:Value}
structure zy(h h':Heap)(e:Addr)(o:Obj)(v:Value):Prop where
 at_:∃dx,h'.get? e=some { o with dict:=some dx }/\h'.Ns1 dx (fun y=>if y=("at":Str) then some v else none)/\h.get? dx=none/\h.objs.size<=dx
 keep:∀b u,b≠e->h.get? b=some u->h'.get? b=some u
end
end L2
namespace L2
open PySem PySem.Spec PyProof.Rows PySem.W
noncomputable def enC(C n:Nat):Nat:=(C+n)*(C+n)+n
noncomputable def atM(n:Nat)(tk:Tok):Str->Option Value:=fun y=>if y=("at":Str) then some (.int n tk) else none
structure yV(h:Heap)(e dx:Addr)(n:Nat):Prop where
 ob:∃o,h.get? e=some o/\o.dict=some dx
 ns:∃tk,h.Ns1 dx (atM n tk)
noncomputable def CXn(P:Program)(w:World):CXT:=fun outer H s E e s'=>∃(a C t n dx:Addr)(H':Hp)(B:Heap),e=.ref a/\s'.os=s.os/\AllBare s'.gens/\Un (frs outer) [] H H' s.heap s'.heap/\HOk P w H' B /\
 Heap.FlyingW B outer a (.ref C) (.ref t) s'.heap/\(∀b o,s.heap.get? b=some o->H b=none->b ∉ frs outer->B.get? b=some o)/\(∀b o,s.heap.get? b=some o->b ∉ frs outer->∃o',B.get? b=some o')/\yV s'.heap a dx n/\B.get? dx=none/\dx ∉ frs outer/\E (.ref a) (some (enC C n)) H'
structure zS(h h':Heap)(e C t n dx:Addr):Prop where
 keeps:∀b o,h.get? b=some o->h'.get? b=some o
 new:h.get? e=none
 there:h'.get? e=some ⟨.ref C,some dx,.fields #[.ref t,.none,.none,.none,.bool false,.none],#[]⟩
 dnew:h.get? dx=none
 ns:∃tk,h'.Ns1 dx (atM n tk)
end L2
namespace L2
open PySem PySem.Spec PySem.Calls PyProof.Rows PySem.W
end L2
namespace L2
open PySem PySem.Spec PySem.Calls PyProof.Rows PySem.W PySem.Builtin PySem.Builtin.ObjectAttr PySem.Builtin.Getset_descriptor
end L2
namespace L2
open PySem PySem.Spec PyProof.Rows
structure zX(E:XK){α β:Type}(R:Hp->α->β->Prop)(t:St->Hp->(β->Hp->Prop)->Prop)(t':SA->Om->(α->Om->Prop)->(Addr->Om->Prop)->Prop):Prop where
 run:∀(F:Fs)(H:Hp)(ω:Om)(σ:St)(ρ:SA)(Q:β->Hp->Prop)(Q':α->Om->Prop)(Ex:Addr->Om->Prop),Rep F H ω->RS (cut F H ω) ρ σ->t' ρ ω Q' Ex->LP R F H ω Q' Q->LX F H ω Ex E->t σ H Q
noncomputable abbrev AEX:=SA->Om->(AV->Om->Prop)->(Addr->Om->Prop)->Prop
noncomputable abbrev AAX:=SA->Om->(List AV->Om->Prop)->(Addr->Om->Prop)->Prop
end L2
namespace L2
open PySem PySem.Spec PySem.Calls PyProof.Rows PySem.W
structure zW(P:Program)(w:World)(K:W.Frag)(mg:Str->Option Value)(base:Heap)(H₀:Hp)(k:Nat)(f:Addr)(n:Nat)(sp:Sp):Prop where
 fn:∃(oc:Value)(od:Option Addr)(fd:FuncData) (sl:Array (Option Value)) (u:HO),H₀ f=some (.frz ⟨oc,od,.func fd,sl⟩ u)
 len:∀vs H Q E,sp vs H Q E->vs.length=n
 run:∀(A:Around)(outer:List Env)(s:Shared)(H:Hp)(us:List Value)(vs:List V)(Q:VK)(E:XK),cG k A->mY P w K mg base A outer s H->Frz H₀ H->ar vs us->sp vs H Q E ->
  codeAny (model P w) A (.call (.ref f) ⟨us,[]⟩) (CR (CXn P w) outer P w H s Q E) s
end L2
namespace L2
open PySem PySem.Spec PyProof.Rows
open PySem.Builtin.Str
end L2
namespace L2
open PySem PySem.Spec PyProof.Rows
end L2
namespace L2
open PySem
open PySem.SetTable (below insertAt has runEnd leap bits turns)
noncomputable def zz(xs:Array Nat):Prop:=xs.toList.Pairwise (· < ·)
open PySem.SetTable in
noncomputable def yN(m:Nat)(p:SetTable.Probe):SetTable.Probe:=
 if p.more>0 then { p with j:=p.j+1,more:=p.more-1 } else
 { p with j:=(leap m p.i p.perturb).1,more:=runEnd m (leap m p.i p.perturb).1-(leap m p.i p.perturb).1,i:=(leap m p.i p.perturb).1,perturb:=(leap m p.i p.perturb).2 }
noncomputable def wR(m:Nat)(h:Int):SetTable.Probe:={ j:=bits h%(m+1),more:=runEnd m (bits h%(m+1))-bits h%(m+1),i:=bits h%(m+1),perturb:=bits h,dummy:=none }
noncomputable def lB(m:Nat)(h:Int):Nat->SetTable.Probe
 |0=>wR m h
 |n+1=>yN m (lB m h n)
noncomputable def f5(m i:Nat):Nat:=(i*5+1)%(m+1)
noncomputable def x5:List Nat:=[7,31,127]
end L2
namespace L2
open PySem
open PySem.SetTable (below insertAt has runEnd leap bits turns)
structure Tb(t:SetTable)(hs:List Int):Prop where
 ris:zz t.place
 dum:t.dummies=#[]
 siz:t.place.size=hs.length
 msk:t.mask∈x5
 le:∀j∈t.place.toList,j<=t.mask
 few:hs.length*5<t.mask*3
 rch:∀(i j:Nat)(h:Int),t.place[i]?=some j->hs[i]?=some h->∃n,(lB t.mask h n).j=j/\∀q,q<n->(lB t.mask h q).j∈t.place.toList
end L2
namespace L2
open PySem
open PySem.SetTable (below insertAt has runEnd leap bits turns layClean)
noncomputable def xI(o:Array (Option Nat))(j:Nat):Prop:=∃k,o[j]?=some (some k)
structure Own(m:Nat)(hs:List Int)(o:Array (Option Nat)):Prop where
 siz:o.size=m+1
 prm:(o.toList.filterMap id).Perm (List.range hs.length)
 rch:∀(j k:Nat)(h:Int),o[j]?=some (some k)->hs[k]?=some h->∃n,(lB m h n).j=j/\∀q,q<n->xI o (lB m h q).j
end L2
namespace L2
open PySem PySem.Spec PyProof.Rows
open PySem.SetTable (below insertAt turns)
structure SK(prog:Program)(w:World)(K:Type)[DecidableEq K] where
 is:Heap->K->Addr->Prop
 hash:K->Int
 draws:K->Nat
 frame:∀ {h h':Heap} {k:K} {b:Addr},is h k b->(∀c o,h.get? c=some o->o.cls=.type "tuple"->h'.get? c=some o)->is h' k b
 pyHash:∀ {A:Around} {E:Value->Shared->Prop} {s:Shared} {Q:Int->Shared->Prop} {k:K} {b:Addr},A.units+100<cLine->is s.heap k b->Q (hash k) { s with toks:=s.toks+draws k }->wpAny (model prog w) A (pyHash (.ref b)) Q E s
 eqBool:∀ {A:Around} {E:Value->Shared->Prop} {s:Shared} {Q:Bool->Shared->Prop} {k l:K} {a b:Addr},A.units+100<cLine->is s.heap k a->is s.heap l b->Q (decide (k=l)) s->wpAny (model prog w) A (PySem.eqBool (.ref a) (.ref b)) Q E s
 quiet:∀ {A:Around} {E:Value->Shared->Prop} {s:Shared} {Q:Bool->Shared->Prop} {k:K} {b:Addr},is s.heap k b->Q true s->wpAny (model prog w) A (eqIsQuiet 8 (.ref b)) Q E s
 noCl:∀ {A:Around} {E:Value->Shared->Prop} {s:Shared} {Q:Bool->Shared->Prop} {k:K} {b:Addr},is s.heap k b->Q false s->wpAny (model prog w) A (ofAClassStatement 8 (.ref b)) Q E s
 byV:∀ {A:Around} {E:Value->Shared->Prop} {s:Shared} {Q:Bool->Shared->Prop} {k:K} {b:Addr},is s.heap k b->Q true s->wpAny (model prog w) A (hashByValue 8 (.ref b)) Q E s
section
variable{prog:Program}{w:World}{K:Type}[DecidableEq K](knd:SK prog w K)
inductive Els (h:Heap):List (Int×Value)->List K->Prop
 |nil:Els h [] []
 |cons {k:K} {b:Addr} {l:List (Int×Value)} {ks:List K}:knd.is h k b->Els h l ks->Els h ((knd.hash k,.ref b)::l) (k::ks)
variable{knd}
variable(knd) in
variable{A:Around}{E:Value->Shared->Prop}{s:Shared}
end
end L2
set_option maxRecDepth 1000000
set_option maxHeartbeats 4000000
namespace L2
open PySem PySem.Spec PyProof.Rows
open PySem.SetTable (below)
end L2
namespace L2
open PySem PySem.Spec PyProof.Rows
end L2
set_option maxHeartbeats 8000000
namespace L2
open PySem PySem.Spec PyProof.Rows
end L2
set_option maxHeartbeats 4000000
namespace L2
open PySem PySem.Spec PyProof.Rows
end L2
set_option maxRecDepth 100000
set_option maxHeartbeats 1000000
namespace L2
open PySem PySem.Spec PySem.Calls PyProof PyProof.Rows
section
variable{prog:Program}{w:World}{A:Around}{E:Value->Shared->Prop}{s:Shared}{κ:SortKind}{it:Array Keyed}{c:Nat->Nat->Bool}{n:Nat}
noncomputable def gf(prog:Program)(w:World)(A:Around)(s:Shared)(κ:SortKind)(it:Array Keyed)(n:Nat)(c:Nat->Nat->Bool):Prop:=
 ∀i j,i<n->j<n->∀(C:Bool->Shared->Prop)(E:Value->Shared->Prop),C (c i j) s->wpAny (model prog w) A (keyLt' κ (W.kas_item it i).1 (W.kas_item it j).1) C E s
structure Stt(κ:SortKind)(it:Array Keyed)(p:Array Nat)(st:SortSt):Prop where
 k:kindOf st=κ
 a:arrOf st=p.map (W.kas_item it)
 f:failedOf st=none
theorem lc(hA:gf prog w A s κ it n c){i j:Nat}(hi:i<n)(hj:j<n){st:SortSt}{Q:Option Bool->SortSt->Prop}(hk:kindOf st=κ)(h:Q (some (c i j)) st):
  wpS (model prog w) A E s (lt' (W.kas_item it i) (W.kas_item it j)) Q st:=by
 rw[lt'_eq];refine wpS_bind (wpS_get ?_);rw[hk];refine wpS_bind (wpS_lift (wpAny_attempt (hA i j hi hj _ _ ⟨rfl,?_⟩)));exact wpS_pure h
theorem fR{q:Array Nat}{i:Nat}{st:SortSt}{Q:Keyed->SortSt->Prop}(hi:i<q.size)(h:Q (W.kas_item it (q.getD i 0)) st):
  wpS (model prog w) A E s (elem' (q.map (W.kas_item it)) i) Q st:=by
 rw[elem'_eq,Array.getElem?_map,Array.getElem?_eq_getElem hi,show q[i]=q.getD i 0 by simp[Array.getD,hi]]
 exact wpS_pure h
noncomputable def yf:Bool->Keyed->Array Keyed->Nat->Nat->Nat->StateT SortSt Sem (Option Nat):=sortPriv% PySem.Builtin.gallop
noncomputable def gB(c:Nat->Nat->Bool)(left:Bool)(x:Nat)(q:Array Nat)(base i:Nat):Bool:=if left then c (q.getD (base+i) 0) x else !c x (q.getD (base+i) 0)
theorem pY(hA:gf prog w A s κ it n c){left:Bool}{x:Nat}{q:Array Nat}{base i:Nat}{st:SortSt}{Q:Option Bool->SortSt->Prop}(hk:kindOf st=κ)(hx:x<n)(hq:∀i,i<q.size->q.getD i 0<n)(hi:base+i<q.size)(h:Q (some (gB c left x q base i)) st):wpS (model prog w) A E s (elem' (q.map (W.kas_item it)) (base+i) >>= fun y=>if left=true then lt' y (W.kas_item it x) else lt' (W.kas_item it x) y >>= fun r=>pure (Option.map (fun b=>!b) r)) Q st:=by
 refine wpS_bind (fR hi ?_);unfold gB at h
 cases left with
 |true=>exact lc hA (hq _ hi) hx hk h
 |false=>exact wpS_bind (lc hA hx (hq _ hi) hk (wpS_pure h))
theorem gk(hA:gf prog w A s κ it n c){left:Bool}{x:Nat}{q:Array Nat}{base m hint:Nat}{st:SortSt}{Q:Option Nat->SortSt->Prop}(hk:kindOf st=κ)(hx:x<n)(hq:∀i,i<q.size->q.getD i 0<n)(hz:base+m<=q.size)(hh:hint<m)(mono:∀i j,i<=j->j<m->gB c left x q base j=true->gB c left x q base i=true)(h:∀k,k<=m->(∀j,j<k->gB c left x q base j=true)->(∀j,k<=j->j<m->gB c left x q base j=false)->Q (some k) st):
  wpS (model prog w) A E s (yf left (W.kas_item it x) (q.map (W.kas_item it)) base m hint) Q st:=by
 have ask:∀i,i<m->∀ {Q:Option Bool->SortSt->Prop},Q (some (gB c left x q base i)) st->wpS (model prog w) A E s (elem' (q.map (W.kas_item it)) (base+i) >>= fun y=>if left=true then lt' y (W.kas_item it x) else lt' (W.kas_item it x) y >>= fun r=>pure (Option.map (fun b=>!b) r)) Q st:=
  fun i hi Q q=>pY hA hk hx hq (by omega) q
 generalize gB c left x q base=B at *
 have neg:∀i j,i<=j->j<m->B i=false->B j=false:=fun i j h1 h2 h3=>by
  cases hB:B j with
  |false=>rfl
  |true=>rw[mono i j h1 h2 hB] at h3;exact h3
 refine wpS_bind (ask hint hh ?_);dsimp only;cases hB:B hint
 case' true=>
  rw[if_pos rfl];refine wpS_bind (wpS_mono (wpS_forRange (a:=0) (b:=m) (I:=fun i r st'=>st'=st/\∃l o,r=(none,l,o)/\l<o/\i+1<=o/\hint+l<m/\B (hint+l)=true) (Q:=fun r st'=>st'=st/\∃l o,r=(none,l,o)/\l<o/\hint+l<m/\B (hint+l)=true/\(m-hint<=o\/B (hint+o)=false)) ?_ ?_ ⟨rfl,0,1,rfl,by omega,by omega,by omega,hB⟩) ?_)
  ·rintro i r st' _ him ⟨rfl,l,o,rfl,b1,b2,b3,b4⟩
   dsimp only;by_cases ho:o ≥ m-hint
   ·rw[if_pos ho]
    exact wpS_pure ⟨rfl,l,o,rfl,b1,b3,b4,.inl ho⟩
   ·rw[if_neg ho]
    refine wpS_bind (ask _ (by omega) ?_)
    dsimp only
    cases hC:B (hint+o) with
    |true=>
     rw[if_neg (by decide)]
     exact wpS_pure ⟨rfl,o,2*o+1,rfl,by omega,by omega,by omega,hC⟩
    |false=>
     rw[if_pos (by decide)]
     exact wpS_pure ⟨rfl,l,o,rfl,b1,b3,b4,.inr hC⟩
  ·rintro r st' ⟨rfl,l,o,rfl,b1,b2,b3,b4⟩
   exact⟨rfl,l,o,rfl,b1,b3,b4,.inl (by omega)⟩
  rintro _ st' ⟨rfl,l,o,rfl,b1,b3,b4,b5⟩
  obtain⟨L,H,eL,eH,c1,c2,c3,c4⟩:∃L H,hint+l+1=L/\hint+min o (m-hint)=H/\L<=H/\H<=m/\(∀j,j<L->B j=true)/\(∀j,H<=j->j<m->B j=false):=⟨_,_,rfl,rfl,by omega,by omega,fun j hj=>mono j _ (by omega) b3 b4,fun j hj hm=>by
   rcases b5 with b5|b5
   ·omega
   ·exact neg _ j (by omega) hm b5⟩
  dsimp only;rw[eL,eH]
 case' false=>
  rw[if_neg Bool.false_ne_true];refine wpS_bind (wpS_mono (wpS_forRange (a:=0) (b:=m) (I:=fun i r st'=>st'=st/\∃l o,r=(none,l,o)/\l<o/\i+1<=o/\l<=hint/\B (hint-l)=false) (Q:=fun r st'=>st'=st/\∃l o,r=(none,l,o)/\l<o/\l<=hint/\B (hint-l)=false/\(hint+1<=o\/B (hint-o)=true)) ?_ ?_ ⟨rfl,0,1,rfl,by omega,by omega,by omega,hB⟩) ?_)
  ·rintro i r st' _ him ⟨rfl,l,o,rfl,b1,b2,b3,b4⟩
   dsimp only;by_cases ho:o ≥ hint+1
   ·rw[if_pos ho]
    exact wpS_pure ⟨rfl,l,o,rfl,b1,b3,b4,.inl ho⟩
   ·rw[if_neg ho]
    refine wpS_bind (ask _ (by omega) ?_)
    dsimp only
    cases hC:B (hint-o) with
    |false=>
     rw[if_neg Bool.false_ne_true];exact wpS_pure ⟨rfl,o,2*o+1,rfl,by omega,by omega,by omega,hC⟩
    |true=>
     rw[if_pos rfl];exact wpS_pure ⟨rfl,l,o,rfl,b1,b3,b4,.inr hC⟩
  ·rintro r st' ⟨rfl,l,o,rfl,b1,b2,b3,b4⟩
   exact⟨rfl,l,o,rfl,b1,b3,b4,.inl (by omega)⟩
  rintro _ st' ⟨rfl,l,o,rfl,b1,b3,b4,b5⟩
  obtain⟨L,H,eL,eH,c1,c2,c3,c4⟩:∃L H,hint+1-min o (hint+1)=L/\hint-l=H/\L<=H/\H<=m/\(∀j,j<L->B j=true)/\(∀j,H<=j->j<m->B j=false):=⟨_,_,rfl,rfl,by omega,by omega,fun j hj=>by
   rcases b5 with b5|b5
   ·omega
   ·exact mono j _ (by omega) (by omega) b5,fun j hj hm=>neg _ j hj hm b4⟩
  dsimp only;rw[eL,eH]
 all_goals
  clear eL eH b1 b3 b4 b5;refine wpS_bind (wpS_mono (wpS_forRange (a:=0) (b:=m) (I:=fun i r st''=>st''=st'/\∃lo hi,r=(none,lo,hi)/\lo<=hi/\hi<=m/\hi-lo<=m-i/\(∀j,j<lo->B j=true)/\(∀j,hi<=j->j<m->B j=false)) (Q:=fun r st''=>st''=st'/\∃k,r=(none,k,k)/\k<=m/\(∀j,j<k->B j=true)/\(∀j,k<=j->j<m->B j=false)) ?_ ?_ ⟨rfl,L,H,rfl,c1,c2,by omega,c3,c4⟩) ?_)
  ·rintro i r st'' _ him ⟨rfl,lo,hi,rfl,b1,b2,b3,b4,b5⟩
   dsimp only;by_cases hlt:lo ≥ hi
   ·rw[if_pos hlt]
    obtain rfl:lo=hi:=by omega
    exact wpS_pure ⟨rfl,lo,rfl,b2,b4,b5⟩
   ·rw[if_neg hlt]
    refine wpS_bind (ask _ (by omega) ?_)
    dsimp only
    cases hC:B (lo+(hi-lo) / 2) with
    |true=>
     rw[if_pos rfl];exact wpS_pure ⟨rfl,_,_,rfl,by omega,b2,by omega,fun j hj=>mono j _ (by omega) (by omega) hC,b5⟩
    |false=>
     rw[if_neg Bool.false_ne_true];exact wpS_pure ⟨rfl,_,_,rfl,by omega,by omega,by omega,b4,fun j hj hm=>neg _ j hj hm hC⟩
  ·rintro r st'' ⟨rfl,lo,hi,rfl,b1,b2,b3,b4,b5⟩
   obtain rfl:lo=hi:=by omega
   exact⟨rfl,lo,rfl,b2,b4,b5⟩
  rintro _ st'' ⟨rfl,k,rfl,k1,k2,k3⟩;exact wpS_pure (h k k1 k2 k3)
end
section
variable{prog:Program}{w:World}{A:Around}{E:Value->Shared->Prop}{s:Shared}{κ:SortKind}{it:Array Keyed}{c:Nat->Nat->Bool}{n:Nat}
noncomputable def Sg(c:Nat->Nat->Bool)(p:Array Nat)(a b:Nat):Prop:=∀i j,a<=i->i<=j->j<b->c (p.getD j 0) (p.getD i 0)=false
noncomputable def Dg(c:Nat->Nat->Bool)(p:Array Nat)(a b:Nat):Prop:=∀i j,a<=i->i<=j->j<b->c (p.getD i 0) (p.getD j 0)=false
theorem bW.self(L:bW c)(i:Nat):c i i=false:=by
 cases h:c i i with
 |false=>rfl
 |true=>rw[L.as i i h] at h;cases h
theorem Sg.one(L:bW c){p:Array Nat}{a:Nat}:Sg c p a (a+1):=fun i j h1 h2 h3=>by
 obtain rfl:i=j:=by omega
 exact L.self _
theorem Sg.next(L:bW c){p:Array Nat}{a b:Nat}(h:Sg c p a b)(h1:a<b)(h2:c (p.getD b 0) (p.getD (b-1) 0)=false):Sg c p a (b+1):=fun i j hi hij hj=>by
 by_cases e:j<b
 ·exact h i j hi hij e
 ·obtain rfl:j=b:=by omega
  by_cases e2:i=j
  ·subst e2;exact L.self _
  ·exact L.tr _ _ _ (h i (j-1) hi (by omega) (by omega)) h2
theorem Dg.next(L:bW c){p:Array Nat}{a b:Nat}(h:Dg c p a b)(h1:a<b)(h2:c (p.getD (b-1) 0) (p.getD b 0)=false):Dg c p a (b+1):=fun i j hi hij hj=>by
 by_cases e:j<b
 ·exact h i j hi hij e
 ·obtain rfl:j=b:=by omega
  by_cases e2:i=j
  ·subst e2;exact L.self _
  ·exact L.tr _ _ _ h2 (h i (j-1) hi (by omega) (by omega))
theorem Sg.eq{p q:Array Nat}{a b:Nat}(h:Sg c p a b)(e:∀k,a<=k->k<b->q.getD k 0=p.getD k 0):Sg c q a b:=fun i j hi hij hj=>by
 rw[e i hi (by omega),e j (by omega) hj]
 exact h i j hi hij hj
theorem aZ{p:Array Nat}(h:Ord n p):p.size=n:=by simpa using h.size_eq
structure Nx(κ:SortKind)(it:Array Keyed)(n lo:Nat)(p:Array Nat)(st:SortSt)(p':Array Nat)(st':SortSt):Prop where
 o:Ord n p'
 s:Stt κ it p' st'
 d:pendingOf st'=pendingOf st
 l:∀k,k<lo->p'.getD k 0=p.getD k 0
theorem Nx.refl{lo:Nat}{p:Array Nat}{st:SortSt}(h:Ord n p)(hS:Stt κ it p st):Nx κ it n lo p st p st:=⟨h,hS,rfl,fun _ _=>rfl⟩
theorem eT(hA:gf prog w A s κ it n c){p:Array Nat}{st:SortSt}(ho:Ord n p)(hS:Stt κ it p st){i j:Nat}{Q:Option Bool->SortSt->Prop}(hi:i<n)(hj:j<n)(h:Q (some (c (p.getD i 0) (p.getD j 0))) st):wpS (model prog w) A E s (ltAt' i j) Q st:=by
 have hz:=aZ ho;rw[ltAt'_eq];refine wpS_bind (wpS_get ?_);show wpS _ _ _ _ (do let x ← elem' (arrOf st) i;let y ← elem' (arrOf st) j;lt' x y) Q st
 rw[hS.a];exact wpS_bind (fR (by omega) (wpS_bind (fR (by omega) (lc hA (ho.lt (by omega) _) (ho.lt (by omega) _) hS.k h))))
theorem j9{lo:Nat}{p p':Array Nat}{st st':SortSt}(hN:Nx κ it n lo p st p' st'){i j:Nat}{Q:Unit->SortSt->Prop}(hi:lo<=i)(hj:j<=n)(h:∀st'',Nx κ it n lo p st (W.kas_rev p' i j) st''->Q () st''):wpS (model prog w) A E s (reverseSlice' i j) Q st':=by
 have hz:=aZ hN.o;rw[reverseSlice'_eq];refine wpS_modify (h _ ⟨hN.o.rev,⟨hN.s.k,?_,hN.s.f⟩,hN.d,fun k hk=>?_⟩)
 ·show mirror (arrOf st') i j _=_
  rw[hN.s.a];exact W.kas_swaps_map (W.kas_item it) (fun k=>i+k) (fun k=>j-1-k) _ p'
 ·rw[aO (by omega),if_neg (by omega)]
  exact hN.l k hk
theorem rK(L:bW c)(hA:gf prog w A s κ it n c){p:Array Nat}{st:SortSt}{lo a nrem:Nat}(f:Nat->AscSt->StateT SortSt Sem (ForInStep AscSt))(h1:1<=a)(ha:a<=nrem)(hs:Sg c p lo (lo+a))(hf:∀i m (Q:ForInStep AscSt->SortSt->Prop),m<nrem->(c (p.getD (lo+m) 0) (p.getD (lo+m-1) 0)=true->Q (.done (none,m)) st)->(c (p.getD (lo+m) 0) (p.getD (lo+m-1) 0)=false->Q (.yield (none,m+1)) st)->wpS (model prog w) A E s (f i (none,m)) Q st):
  wpS (model prog w) A E s (forIn [a:nrem] ((none,a):AscSt) f) (fun r st'=>st'=st/\∃m,r=(none,m)/\a<=m/\m<=nrem/\Sg c p lo (lo+m)/\(m=nrem\/c (p.getD (lo+m) 0) (p.getD (lo+m-1) 0)=true)) st:=by
 refine wpS_forRange (I:=fun x r st'=>st'=st/\r=(none,x)/\Sg c p lo (lo+x)) ?_ ?_ ⟨rfl,rfl,hs⟩
 ·rintro x r st' hax hx ⟨rfl,rfl,hs⟩
  refine hf _ _ _ hx (fun e=>⟨rfl,x,rfl,hax,by omega,hs,.inr e⟩) fun e=>⟨rfl,rfl,hs.next L (by omega) e⟩
 ·rintro r st' ⟨rfl,rfl,hs⟩
  rw[show max a nrem=nrem by omega] at hs ⊢
  exact⟨rfl,nrem,rfl,ha,Nat.le_refl _,hs,.inl rfl⟩
theorem sN(L:bW c)(hA:gf prog w A s κ it n c){p:Array Nat}{st:SortSt}{lo nrem:Nat}{Q:Option Nat->SortSt->Prop}(h1:1<=nrem)(hz:lo+nrem<=n)(ho:Ord n p)(hS:Stt κ it p st)(h:∀m p' st',Nx κ it n lo p st p' st'->1<=m->m<=nrem->Sg c p' lo (lo+m)->Q (some m) st'):wpS (model prog w) A E s (countRun' lo nrem) Q st:=by
 refine wpS_bind (wpS_mono (rK (E:=E) L hA (p:=p) (st:=st) (lo:=lo) (a:=1) (nrem:=nrem) _ (Nat.le_refl _) h1 (Sg.one L) fun i m Q hm q1 q2=>?_) ?_)
 ·refine wpS_bind (eT hA ho hS (by omega) (by omega) ?_)
  dsimp only
  cases e:c (p.getD (lo+m) 0) (p.getD (lo+m-1) 0) with
  |true=>rw[if_pos rfl];exact wpS_pure (q1 e)
  |false=>rw[if_neg Bool.false_ne_true];exact wpS_pure (q2 e)
 rintro _ st' ⟨rfl,m,rfl,m1,m2,hs,hm⟩;dsimp only;by_cases hmn:m=nrem
 ·rw[if_pos (by simpa using hmn)]
  exact wpS_pure (h m p st' (.refl ho hS) m1 m2 hs)
 rw[if_neg (by simpa using hmn)]
 have hm:=hm.resolve_left hmn;by_cases hm1:m>1
 case' pos=>
  rw[if_pos hm1];refine wpS_bind (eT hA ho hS (by omega) (by omega) ?_)
  dsimp only;cases hr:c (p.getD lo 0) (p.getD (lo+m-1) 0)
  case true=>
   rw[if_pos rfl];exact wpS_pure (h m p st' (.refl ho hS) m1 m2 hs)
  rw[if_neg Bool.false_ne_true];refine wpS_bind (j9 (.refl ho hS) (Nat.le_refl _) (by omega:lo+m<=n) fun st1 hN1=>?_)
  have hD:Dg c (W.kas_rev p lo (lo+m)) lo (lo+(m+1)):=fun i j hi hij hj=>by
   have all:∀k,lo<=k->k<lo+m->∀k',lo<=k'->k'<lo+m->c (p.getD k 0) (p.getD k' 0)=false:=fun k k1 k2 k' k3 k4=>
    L.tr _ _ _ (L.tr _ _ _ (hs k' (lo+m-1) k3 (by omega) (by omega)) hr) (hs lo k (Nat.le_refl _) k1 k2)
   rw[aO (by rw[aZ ho];omega),aO (by rw[aZ ho];omega)]
   by_cases e:j<lo+m
   ·rw[if_pos ⟨hi,by omega⟩,if_pos ⟨by omega,e⟩]
    exact all _ (by omega) (by omega) _ (by omega) (by omega)
   ·obtain rfl:j=lo+m:=by omega
    by_cases e2:i=lo+m
    ·subst e2;rw[if_neg (by omega)];exact L.self _
    ·rw[if_pos ⟨hi,by omega⟩,if_neg (by omega)]
     exact L.tr _ _ _ (L.as _ _ hm) (all _ (by omega) (by omega) _ (by omega) (by omega))
  clear hr hm1;generalize W.kas_rev p lo (lo+m)=p1 at *
 case' neg=>
  rw[if_neg hm1]
  obtain⟨p1,hN1,hD⟩:∃p1,Nx κ it n lo p st' p1 st'/\Dg c p1 lo (lo+(m+1)):=⟨_,.refl ho hS,fun i j hi hij hj=>by
   by_cases e:i=j
   ·subst e;exact L.self _
   ·have e1:i=lo:=by omega
    have e2:j=lo+m:=by omega
    have e3:m=1:=by omega
    subst e1 e2 e3
    exact L.as _ _ hm⟩
  clear hm1
 all_goals
  refine wpS_bind (wpS_lift (wpAny_rule ⟨rfl,?_⟩))
  refine wpS_bind (wpS_mono (wpS_forRange (a:=m+1) (b:=nrem) (I:=fun x r st2=>∃q p2,r=(none,x,q)/\Nx κ it n lo p st' p2 st2/\Dg c p2 lo (lo+x)/\q+1<=x/\(∀i j,lo+x-(q+1)<=i->i<lo+x->lo+x-(q+1)<=j->j<lo+x->c (p2.getD i 0) (p2.getD j 0)=false))
   (Q:=fun r st2=>∃x q p2,r=(none,x,q)/\m+1<=x/\x<=nrem/\Nx κ it n lo p st' p2 st2/\Dg c p2 lo (lo+x)/\q+1<=x/\(∀i j,lo+x-(q+1)<=i->i<lo+x->lo+x-(q+1)<=j->j<lo+x->c (p2.getD i 0) (p2.getD j 0)=false)) ?_ ?_ ⟨0,p1,rfl,hN1,hD,by omega,fun i j b1 b2 b3 b4=>by
    obtain rfl:i=j:=by omega
    exact L.self _⟩) ?_)
  ·rintro x r st2 hx1 hx2 ⟨q,p2,rfl,hN2,hD2,hq,hE⟩
   dsimp only;have sz:=aZ hN2.o;refine wpS_bind (eT hA hN2.o hN2.s (by omega) (by omega) ?_)
   dsimp only
   cases e:c (p2.getD (lo+x) 0) (p2.getD (lo+x-1) 0) with
   |true=>
    rw[if_pos rfl];have hD3:=hD2.next L (by omega) (L.as _ _ e)
    have one:∀i j,lo+(x+1)-(0+1)<=i->i<lo+(x+1)->lo+(x+1)-(0+1)<=j->j<lo+(x+1)->i=j:=fun i j b1 b2 b3 b4=>by omega
    by_cases hq0:q>0
    ·rw[if_pos hq0]
     refine wpS_bind (j9 hN2 (by omega) (by omega) fun st3 hN3=>wpS_pure ⟨0,_,rfl,hN3,fun i j b1 b2 b3=>?_,by omega,fun i j b1 b2 b3 b4=>by rw[one i j b1 b2 b3 b4];exact L.self _⟩)
     have eqv:∀k,lo<=k->c ((W.kas_rev p2 (lo+x-(q+1)) (lo+x)).getD k 0) (p2.getD k 0)=false/\c (p2.getD k 0) ((W.kas_rev p2 (lo+x-(q+1)) (lo+x)).getD k 0)=false:=fun k _=>by
      rw[aO (by omega)]
      split
      ·exact⟨hE _ _ (by omega) (by omega) (by omega) (by omega),hE _ _ (by omega) (by omega) (by omega) (by omega)⟩
      ·exact⟨L.self _,L.self _⟩
     exact L.tr _ _ _ (eqv j (by omega)).2 (L.tr _ _ _ (hD3 i j b1 b2 b3) (eqv i b1).1)
    ·rw[if_neg hq0]
     exact wpS_pure ⟨0,p2,rfl,hN2,hD3,by omega,fun i j b1 b2 b3 b4=>by rw[one i j b1 b2 b3 b4];exact L.self _⟩
   |false=>
    rw[if_neg Bool.false_ne_true];refine wpS_bind (eT hA hN2.o hN2.s (by omega) (by omega) ?_)
    dsimp only
    cases e2:c (p2.getD (lo+x-1) 0) (p2.getD (lo+x) 0) with
    |true=>
     rw[if_pos rfl];exact wpS_pure ⟨x,q,p2,rfl,hx1,by omega,hN2,hD2,hq,hE⟩
    |false=>
     rw[if_neg Bool.false_ne_true];refine wpS_pure ⟨q+1,p2,rfl,hN2,hD2.next L (by omega) e2,by omega,fun i j b1 b2 b3 b4=>?_⟩
     have last:∀k,lo+x-(q+1)<=k->k<=lo+x->c (p2.getD k 0) (p2.getD (lo+x-1) 0)=false/\c (p2.getD (lo+x-1) 0) (p2.getD k 0)=false:=fun k k1 k2=>by
      by_cases hk:k=lo+x
      ·subst hk;exact⟨e,e2⟩
      ·exact⟨hE _ _ k1 (by omega) (by omega) (by omega),hE _ _ (by omega) (by omega) k1 (by omega)⟩
     exact L.tr _ _ _ (last j (by omega) (by omega)).2 (last i (by omega) (by omega)).1
  ·rintro r st2 ⟨q,p2,rfl,hN2,hD2,hq,hE⟩
   rw[show max (m+1) nrem=nrem by omega] at hD2 hq hE ⊢
   exact⟨nrem,q,p2,rfl,by omega,Nat.le_refl _,hN2,hD2,hq,hE⟩
  rintro _ st2 ⟨x,q,p2,rfl,x1,x2,hN2,hD2,hq,hE⟩;dsimp only;have sz:=aZ hN2.o;by_cases hq0:q>0
  case' pos=>
   rw[if_pos hq0];refine wpS_bind (j9 hN2 (by omega) (by omega) fun st3 hN3=>?_)
   have hD3:Dg c (W.kas_rev p2 (lo+x-(q+1)) (lo+x)) lo (lo+x):=fun i j b1 b2 b3=>by
    have eqv:∀k,lo<=k->c ((W.kas_rev p2 (lo+x-(q+1)) (lo+x)).getD k 0) (p2.getD k 0)=false/\c (p2.getD k 0) ((W.kas_rev p2 (lo+x-(q+1)) (lo+x)).getD k 0)=false:=fun k _=>by
     rw[aO (by omega)]
     split
     ·exact⟨hE _ _ (by omega) (by omega) (by omega) (by omega),hE _ _ (by omega) (by omega) (by omega) (by omega)⟩
     ·exact⟨L.self _,L.self _⟩
    exact L.tr _ _ _ (eqv j (by omega)).2 (L.tr _ _ _ (hD2 i j b1 b2 b3) (eqv i b1).1)
   generalize W.kas_rev p2 (lo+x-(q+1)) (lo+x)=p3 at *
  case' neg=>
   rw[if_neg hq0];obtain⟨p3,hN3,hD3⟩:∃p3,Nx κ it n lo p st' p3 st2/\Dg c p3 lo (lo+x):=⟨_,hN2,hD2⟩
  all_goals
   have sz:=aZ hN3.o;refine wpS_bind (j9 hN3 (Nat.le_refl _) (by omega) fun st4 hN4=>?_)
   have hs4:Sg c (W.kas_rev p3 lo (lo+x)) lo (lo+x):=fun i j hi hij hj=>by
    rw[aO (by omega),aO (by omega),if_pos ⟨by omega,hj⟩,if_pos ⟨hi,by omega⟩]
    exact hD3 _ _ (by omega) (by omega) (by omega)
   generalize W.kas_rev p3 lo (lo+x)=p4 at *;refine wpS_bind (wpS_mono (rK (E:=E) L hA (p:=p4) (st:=st4) (lo:=lo) _ (by omega) x2 hs4 fun i m Q hm q1 q2=>?_) ?_)
   ·refine wpS_bind (eT hA hN4.o hN4.s (by omega) (by omega) ?_)
    dsimp only
    cases e:c (p4.getD (lo+m) 0) (p4.getD (lo+m-1) 0) with
    |true=>rw[if_pos rfl];exact wpS_pure (q1 e)
    |false=>rw[if_neg Bool.false_ne_true];exact wpS_pure (q2 e)
   ·rintro _ st5 ⟨rfl,m',rfl,k1,k2,hs,_⟩
    exact wpS_pure (h m' p4 st5 hN4 (by omega) k2 hs)
end
section
variable{prog:Program}{w:World}{A:Around}{E:Value->Shared->Prop}{s:Shared}{κ:SortKind}{it:Array Keyed}{c:Nat->Nat->Bool}{n:Nat}
theorem uJ{lo:Nat}{p p':Array Nat}{st st':SortSt}(hN:Nx κ it n lo p st p' st'){i j:Nat}{Q:Unit->SortSt->Prop}(hj:lo<=j)(hij:j<=i)(hi:i<n)(h:∀st'',Nx κ it n lo p st (bubble p' i (i-j)) st''->Q () st''):wpS (model prog w) A E s (moveDown' i j) Q st':=by
 have hz:=aZ hN.o;rw[moveDown'_eq];refine wpS_modify (h _ ⟨hN.o.bub,⟨hN.s.k,?_,hN.s.f⟩,hN.d,fun k hk=>?_⟩)
 ·show bubble (arrOf st') i _=_
  rw[hN.s.a];exact W.kas_swaps_map (W.kas_item it) (fun k=>i-k) (fun k=>i-k-1) _ p'
 ·rw[ez (by omega) (by omega),if_neg (by omega),if_neg (by omega)]
  exact hN.l k hk
theorem xi(L:bW c)(hA:gf prog w A s κ it n c){p:Array Nat}{st:SortSt}{lo m ok:Nat}{Q:Bool->SortSt->Prop}(h1:1<=ok)(hm:ok<=m)(hz:lo+m<=n){p0:Array Nat}{st0:SortSt}(hN:Nx κ it n lo p0 st0 p st)(hs:Sg c p lo (lo+ok))(h:∀p' st',Nx κ it n lo p0 st0 p' st'->Sg c p' lo (lo+m)->Q true st'):wpS (model prog w) A E s (binarySort' lo m ok) Q st:=by
 refine wpS_bind (wpS_mono (wpS_forRange (a:=max ok 1) (b:=m) (I:=fun k r st'=>r=(none,())/\∃p',Nx κ it n lo p0 st0 p' st'/\Sg c p' lo (lo+k)) (Q:=fun r st'=>r=(none,())/\∃p',Nx κ it n lo p0 st0 p' st'/\Sg c p' lo (lo+m)) ?_ ?_ ⟨rfl,p,hN,by rw[show max ok 1=ok by omega];exact hs⟩) ?_)
 ·rintro k r st' hk1 hk2 ⟨rfl,p',hN',hs'⟩
  have sz:=aZ hN'.o
  refine wpS_bind (wpS_mono (wpS_forRange (a:=0) (b:=k) (I:=fun x r st''=>st''=st'/\∃l u,r=(none,l,u)/\l<=u/\u<=k/\u-l<=k-x/\(∀i,i<l->c (p'.getD (lo+k) 0) (p'.getD (lo+i) 0)=false)/\(∀i,u<=i->i<k->c (p'.getD (lo+i) 0) (p'.getD (lo+k) 0)=false))
   (Q:=fun r st''=>st''=st'/\∃l u,r=(none,l,u)/\l<=k/\(∀i,i<l->c (p'.getD (lo+k) 0) (p'.getD (lo+i) 0)=false)/\(∀i,l<=i->i<k->c (p'.getD (lo+i) 0) (p'.getD (lo+k) 0)=false)) ?_ ?_ ⟨rfl,0,k,rfl,by omega,by omega,by omega,fun i hi=>by omega,fun i _ _=>by omega⟩) ?_)
  ·rintro x r st'' _ hxk ⟨rfl,l,u,rfl,b1,b2,b3,b4,b5⟩
   dsimp only;by_cases hge:l ≥ u
   ·rw[if_pos hge]
    obtain rfl:l=u:=by omega
    exact wpS_pure ⟨rfl,l,l,rfl,b2,b4,b5⟩
   ·rw[if_neg hge]
    refine wpS_bind (eT hA hN'.o hN'.s (by omega) (by omega) ?_)
    dsimp only
    cases e:c (p'.getD (lo+k) 0) (p'.getD (lo+(l+u) / 2) 0) with
    |true=>
     rw[if_pos rfl];exact wpS_pure ⟨rfl,l,(l+u) / 2,rfl,by omega,by omega,by omega,b4,fun i c1 c2=>L.tr _ _ _ (L.as _ _ e) (hs' (lo+(l+u) / 2) (lo+i) (by omega) (by omega) (by omega))⟩
    |false=>
     rw[if_neg Bool.false_ne_true];exact wpS_pure ⟨rfl,(l+u) / 2+1,u,rfl,by omega,by omega,by omega,fun i c1=>L.tr _ _ _ (hs' (lo+i) (lo+(l+u) / 2) (by omega) (by omega) (by omega)) e,b5⟩
  ·rintro r st'' ⟨rfl,l,u,rfl,b1,b2,b3,b4,b5⟩
   obtain rfl:l=u:=by omega
   exact⟨rfl,l,l,rfl,b2,b4,b5⟩
  rintro _ st'' ⟨rfl,l,u,rfl,b2,b4,b5⟩;dsimp only;refine wpS_bind (uJ hN' (by omega) (by omega) (by omega) fun st3 hN3=>wpS_pure ⟨rfl,_,hN3,fun i j c1 c2 c3=>?_⟩)
  rw[ez (by omega) (by omega),ez (by omega) (by omega),show lo+k-(lo+k-(lo+l))=lo+l by omega]
  have at4:∀i,lo<=i->i<lo+l->c (p'.getD (lo+k) 0) (p'.getD i 0)=false:=fun i d1 d2=>by
   have:=b4 (i-lo) (by omega)
   rwa [show lo+(i-lo)=i by omega] at this
  have at5:∀i,lo+l<=i->i<lo+k->c (p'.getD i 0) (p'.getD (lo+k) 0)=false:=fun i d1 d2=>by
   have:=b5 (i-lo) (by omega) (by omega)
   rwa [show lo+(i-lo)=i by omega] at this
  repeat' split
  all_goals first
   |(exfalso;omega)
   |exact L.self _
   |exact at4 _ (by omega) (by omega)
   |exact at5 _ (by omega) (by omega)
   |exact hs' _ _ (by omega) (by omega) (by omega)
 ·rintro r st' ⟨rfl,p',hN',hs'⟩
  rw[show max (max ok 1) m=m by omega] at hs'
  exact⟨rfl,p',hN',hs'⟩
 ·rintro _ st' ⟨rfl,p',hN',hs'⟩
  exact wpS_pure (h p' st' hN' hs')
end
section
variable{c:Nat->Nat->Bool}
noncomputable abbrev Up2(c:Nat->Nat->Bool)(l:List Nat):Prop:=l.Pairwise fun x y=>c y x=false
noncomputable def Bel(c:Nat->Nat->Bool)(l m:List Nat):Prop:=∀x∈l,∀y∈m,c y x=false
structure ML(c:Nat->Nat->Bool)(a b out:List Nat)(ia ib:Nat):Prop where
 pm:(out++(a.drop ia++b.drop ib)).Perm (a++b)
 so:Up2 c out
 la:Bel c out (a.drop ia)
 lb:Bel c out (b.drop ib)
noncomputable def Res(c:Nat->Nat->Bool)(a b res:List Nat):Prop:=res.Perm (a++b)/\Up2 c res
theorem j6{a:List Nat}{i:Nat}(h:i<a.length):a.drop i=a.getD i 0::a.drop (i+1):=by
 rw[List.drop_eq_getElem_cons h];simp[h]
theorem bx{a:List Nat}(h:Up2 c a){i j:Nat}(hij:i<=j)(hj:j<a.length)(L:bW c):c (a.getD j 0) (a.getD i 0)=false:=by
 by_cases e:i=j
 ·subst e;exact L.self _
 ·have:=List.pairwise_iff_getElem.mp h i j (by omega) hj (by omega)
  simpa[hj,show i<a.length by omega] using this
theorem eD{a:List Nat}{i:Nat}{z:Nat}(h:z∈a.drop i):∃j,i<=j/\j<a.length/\z=a.getD j 0:=by
 obtain⟨k,hk,rfl⟩:=List.mem_iff_getElem.mp h;rw[List.length_drop] at hk;exact⟨i+k,by omega,by omega,by simp[show i+k<a.length by omega]⟩
theorem ML.len{a b out:List Nat}{ia ib:Nat}(h:ML c a b out ia ib)(ha:ia<=a.length)(hb:ib<=b.length):out.length+(a.length-ia)+(b.length-ib)=a.length+b.length:=by
 have:=h.pm.length_eq;simp only[List.length_append,List.length_drop] at this;omega
theorem ML.Ad{a b out:List Nat}{ia ib:Nat}(h:ML c a b out ia ib)(L:bW c)(ua:Up2 c a)(hi:ia<a.length)(hz:∀j,ib<=j->j<b.length->c (b.getD j 0) (a.getD ia 0)=false):ML c a b (out++[a.getD ia 0]) (ia+1) ib:=by
 obtain⟨h1,h2,h3,h4⟩:=h;have e:=j6 hi;rw[e] at h1 h3;refine⟨?_,?_,?_,?_⟩
 ·rw[List.append_assoc]
  exact h1
 ·refine List.pairwise_append.mpr ⟨h2,List.pairwise_singleton _ _,fun x hx y hy=>?_⟩
  rw[List.mem_singleton.mp hy];exact h3 x hx _ (List.mem_cons_self ..)
 ·intro x hx y hy
  rcases List.mem_append.mp hx with hx|hx
  ·exact h3 x hx y (List.mem_cons_of_mem _ hy)
  ·rw[List.mem_singleton.mp hx]
   obtain⟨j,j1,j2,rfl⟩:=eD hy;exact bx ua (by omega) j2 L
 ·intro x hx y hy
  rcases List.mem_append.mp hx with hx|hx
  ·exact h4 x hx y hy
  ·rw[List.mem_singleton.mp hx]
   obtain⟨j,j1,j2,rfl⟩:=eD hy;exact hz j j1 j2
theorem ML.sym{a b out:List Nat}{ia ib:Nat}(h:ML c a b out ia ib):ML c b a out ib ia:=
 ⟨(List.perm_append_comm.append_left out).trans (h.pm.trans List.perm_append_comm),h.so,h.lb,h.la⟩
theorem ML.At{a b out:List Nat}{ia ib:Nat}(h:ML c a b out ia ib)(L:bW c)(ub:Up2 c b)(hi:ib<b.length)(hz:∀j,ia<=j->j<a.length->c (a.getD j 0) (b.getD ib 0)=false):ML c a b (out++[b.getD ib 0]) ia (ib+1):=
 (h.sym.Ad L ub hi hz).sym
theorem ML.Ag{a b out:List Nat}{ia ib:Nat}(h:ML c a b out ia ib)(L:bW c)(ua:Up2 c a):∀(k:Nat),ia+k<=a.length->(∀i,i<k->∀j,ib<=j->j<b.length->c (b.getD j 0) (a.getD (ia+i) 0)=false)->ML c a b (out++(a.drop ia).take k) (ia+k) ib
 |0,_,_=>by simpa using h
 |k+1,hk,hz=>by
  have ih:=ML.Ag h L ua k (by omega) fun i hi=>hz i (by omega)
  have:=ih.Ad L ua (by omega) (hz k (by omega))
  rw[List.append_assoc] at this;rw[List.take_succ,List.getElem?_drop,List.getElem?_eq_getElem (by omega:ia+k<a.length)]
  simpa[show ia+k<a.length by omega,Nat.add_assoc] using this
theorem ML.Ay{a b out:List Nat}{ia ib:Nat}(h:ML c a b out ia ib)(L:bW c)(ub:Up2 c b)(k:Nat)(hk:ib+k<=b.length)(hz:∀i,i<k->∀j,ia<=j->j<a.length->c (a.getD j 0) (b.getD (ib+i) 0)=false):ML c a b (out++(b.drop ib).take k) ia (ib+k):=
 (h.sym.Ag L ub k hk hz).sym
theorem ML.done{a b out:List Nat}{ia ib:Nat}(h:ML c a b out ia ib)(ua:Up2 c a)(ub:Up2 c b)(e:b.length<=ib\/a.length<=ia):Res c a b (out++a.drop ia++b.drop ib):=by
 refine⟨by rw[List.append_assoc];exact h.pm,?_⟩
 rcases e with e|e
 ·rw[List.drop_eq_nil_of_le e,List.append_nil]
  exact List.pairwise_append.mpr ⟨h.so,ua.sublist (List.drop_sublist _ _),h.la⟩
 ·rw[List.drop_eq_nil_of_le e,List.append_nil]
  exact List.pairwise_append.mpr ⟨h.so,ub.sublist (List.drop_sublist _ _),h.lb⟩
theorem ML.Am{a b out:List Nat}{ia ib:Nat}(h:ML c a b out ia ib)(ub:Up2 c b)(e:ia+1=a.length)(hl:∀y∈b,c (a.getD (a.length-1) 0) y=false):Res c a b (out++b.drop ib++a.drop ia):=by
 refine⟨by rw[List.append_assoc];exact(List.perm_append_comm.append_left out).trans h.pm,?_⟩
 refine List.pairwise_append.mpr ⟨List.pairwise_append.mpr ⟨h.so,ub.sublist (List.drop_sublist _ _),h.lb⟩,?_,fun x hx y hy=>?_⟩
 ·rw[j6 (by omega),e,List.drop_length]
  exact List.pairwise_singleton _ _
 ·rcases List.mem_append.mp hx with hx|hx
  ·exact h.la x hx y hy
  ·obtain⟨j,j1,j2,rfl⟩:=eD hy
   obtain rfl:j=a.length-1:=by omega
   exact hl x (List.mem_of_mem_drop hx)
theorem ML.start{a b:List Nat}(L:bW c)(ub:Up2 c b)(hb:0<b.length)(h0:∀x∈a,c x (b.getD 0 0)=false):ML c a b [b.getD 0 0] 0 1:=
 (show ML c a b [] 0 0 from ⟨.refl _,.nil,fun x hx=>(nomatch hx),fun x hx=>(nomatch hx)⟩).At L ub hb fun j _ hj=>h0 _ (by simp[hj])
end
section
variable{prog:Program}{w:World}{A:Around}{E:Value->Shared->Prop}{s:Shared}{κ:SortKind}{it:Array Keyed}{c:Nat->Nat->Bool}{n:Nat}
noncomputable def zt:Array Keyed->Array Keyed->StateT SortSt Sem (Array Keyed):=sortPriv% PySem.Builtin.mergeLo
noncomputable def zQ:Array Keyed->Array Keyed->StateT SortSt Sem (Array Keyed):=sortPriv% PySem.Builtin.mergeHi
structure Sm(st st':SortSt):Prop where
 k:kindOf st'=kindOf st
 a:arrOf st'=arrOf st
 d:pendingOf st'=pendingOf st
 f:failedOf st'=failedOf st
noncomputable abbrev aG(it:Array Keyed)(l:List Nat):Array Keyed:=(l.map (W.kas_item it)).toArray
theorem aK{l:List Nat}{i:Nat}{st:SortSt}{Q:Keyed->SortSt->Prop}(hi:i<l.length)(h:Q (W.kas_item it (l.getD i 0)) st):
  wpS (model prog w) A E s (elem' (aG it l) i) Q st:=by
 rw[elem'_eq,show (aG it l)[i]?=some (W.kas_item it (l.getD i 0)) by simp[aG,hi]]
 exact wpS_pure h
theorem cb(l:List Nat)(x:Nat):(aG it l).push (W.kas_item it x)=aG it (l++[x]):=by simp[aG]
theorem bt(l m:List Nat):aG it l++aG it m=aG it (l++m):=by simp[aG]
theorem gr(l:List Nat):(aG it l).size=l.length:=by simp[aG]
theorem gq(l:List Nat)(i:Nat):(aG it l).extract i l.length=aG it (l.drop i):=by
 apply Array.ext';simp only[aG,List.extract_toArray,List.extract_eq_drop_take,List.map_drop];rw[List.take_of_length_le (by simp)]
theorem pI(l:List Nat)(i k:Nat):(aG it l).extract i (i+k)=aG it ((l.drop i).take k):=by
 apply Array.ext';simp[aG,List.map_drop,List.map_take]
theorem qy(l:List Nat):aG it l=(l.toArray).map (W.kas_item it):=by simp[aG]
theorem g7(hA:gf prog w A s κ it n c){left:Bool}{x:Nat}{l:List Nat}{base m hint:Nat}{st:SortSt}{Q:Option Nat->SortSt->Prop}(hk:kindOf st=κ)(hx:x<n)(hq:∀i∈l,i<n)(hz:base+m<=l.length)(hh:hint<m)(B:Nat->Bool)(hB:∀i,i<m->B i=if left then c (l.getD (base+i) 0) x else !c x (l.getD (base+i) 0))(mono:∀i j,i<=j->j<m->B j=true->B i=true)(h:∀k,k<=m->(∀j,j<k->B j=true)->(∀j,k<=j->j<m->B j=false)->Q (some k) st):
  wpS (model prog w) A E s (yf left (W.kas_item it x) (aG it l) base m hint) Q st:=by
 rw[qy]
 have e:∀i,i<m->gB c left x l.toArray base i=B i:=fun i hi=>by
  rw[hB i hi];unfold gB;simp[Array.getD_eq_getD_getElem?]
 refine gk hA hk hx (fun i hi=>?_) (by simpa using hz) hh (fun i j h1 h2 h3=>?_) fun k h1 h2 h3=>h k h1 (fun j hj=>?_) fun j hj hm=>?_
 ·rw[show (l.toArray).getD i 0=l[i]'(by simpa using hi) by simp[Array.getD,show i<l.length by simpa using hi]]
  exact hq _ (List.getElem_mem _)
 ·rw[e i (by omega)]
  rw[e j h2] at h3;exact mono i j h1 h2 h3
 ·rw[←e j (by omega)]
  exact h2 j hj
 ·rw[←e j hm]
  exact h3 j hj hm
theorem hJ{g:Nat}{st0 st:SortSt}{Q:Unit->SortSt->Prop}(h:Sm st0 st)(q:∀st',Sm st0 st'->Q () st'):wpS (model prog w) A E s ((sortPriv% PySem.Builtin.setMinGallop) g) Q st:=
 wpS_modify (q _ ⟨h.k,h.a,h.d,h.f⟩)
theorem bT{l:List Nat}{i:Nat}(h:i<l.length):l.getD i 0∈l:=by simp[h]
theorem xF(L:bW c)(hA:gf prog w A s κ it n c){a b:List Nat}{st:SortSt}{Q:Array Keyed->SortSt->Prop}(hk:kindOf st=κ)(ua:Up2 c a)(ub:Up2 c b)(an:∀i∈a,i<n)(bn:∀i∈b,i<n)(ha:0<a.length)(hb:0<b.length)(h0:∀x∈a,c x (b.getD 0 0)=false)(hl:∀y∈b,c (a.getD (a.length-1) 0) y=false)(h:∀res st',Sm st st'->Res c a b res->Q (aG it res) st'):
  wpS (model prog w) A E s (zt (aG it a) (aG it b)) Q st:=by
 refine wpS_bind (wpS_lift (wpAny_rule ⟨rfl,?_⟩));refine wpS_bind (aK hb ?_);have M0:ML c a b [b.getD 0 0] 0 1:=.start L ub hb h0;have e0:(#[W.kas_item it (b.getD 0 0)]:Array Keyed)=aG it [b.getD 0 0]:=by simp[aG]
 dsimp only;rw[e0];simp only[gr,gq,bt];by_cases h1:1=b.length
 ·rw[if_pos (by simpa using h1)]
  exact wpS_pure (h _ st ⟨rfl,rfl,rfl,rfl⟩ (M0.done ua ub (.inl (by omega))))
 rw[if_neg (by simpa using h1)]
 by_cases h2:0+1=a.length
 ·rw[if_pos (by simpa using h2)]
  exact wpS_pure (h _ st ⟨rfl,rfl,rfl,rfl⟩ (M0.Am ub h2 hl))
 rw[if_neg (by simpa using h2)]
 refine wpS_bind (wpS_get ?_)
 refine wpS_bind (wpS_mono (wpS_forRange (a:=0) (b:=a.length+b.length) (I:=fun x r st'=>∃out ia ib g,r=(none,aG it out,ia,ib,g)/\ML c a b out ia ib/\ia+1<a.length/\ib<b.length/\x+1<=out.length/\Sm st st')
  (Q:=fun r st'=>∃res y,r=(some (aG it res),y)/\Res c a b res/\Sm st st') ?_ ?_ ⟨_,_,_,_,rfl,M0,by omega,by omega,by simp,rfl,rfl,rfl,rfl⟩) ?_)
 rotate_left
 ·rintro r st' ⟨out,ia,ib,g,rfl,M,c1,c2,c3,_⟩
  have:=M.len (by omega) (by omega)
  omega
 ·rintro _ st' ⟨res,y,rfl,hr,hs⟩
  exact wpS_pure (h res st' hs hr)
 rintro x r st1 _ _ ⟨out,ia,ib,g,rfl,M,c1,c2,c3,hs1⟩;dsimp only;have hk1:kindOf st1=κ:=hs1.k.trans hk
 refine wpS_bind (wpS_mono (wpS_forRange (a:=0) (b:=a.length+b.length) (I:=fun y r st'=>st'=st1/\∃out ia ib ac bc,r=(none,aG it out,ia,ib,ac,bc)/\ML c a b out ia ib/\ia+1<a.length/\ib<b.length/\x+1+y<=out.length)
  (Q:=fun r st'=>st'=st1/\((∃res y,r=(some (aG it res),y)/\Res c a b res)\/∃out ia ib ac bc,r=(none,aG it out,ia,ib,ac,bc)/\ML c a b out ia ib/\ia+1<a.length/\ib<b.length/\x+2<=out.length)) ?_ ?_ ⟨rfl,_,_,_,_,_,rfl,M,c1,c2,c3⟩) ?_)
 ·rintro y r st' _ _ ⟨rfl,out,ia,ib,ac,bc,rfl,M,c1,c2,c3⟩
  dsimp only;refine wpS_bind (aK c2 (wpS_bind (aK (by omega) (wpS_bind (lc hA (bn _ (bT c2)) (an _ (bT (by omega))) hk1 ?_)))))
  dsimp only
  cases e:c (b.getD ib 0) (a.getD ia 0) with
  |true=>
   rw[if_pos rfl];refine wpS_bind (aK c2 ?_);have M2:=M.At L ub c2 fun j j1 j2=>L.tr _ _ _ (L.as _ _ e) (bx ua j1 j2 L);simp only[cb,gq,bt];by_cases e1:ib+1=b.length
   ·rw[if_pos (by simpa using e1)]
    exact wpS_pure ⟨rfl,.inl ⟨_,_,rfl,M2.done ua ub (.inl (by omega))⟩⟩
   ·rw[if_neg (by simpa using e1)]
    split
    ·exact wpS_pure ⟨rfl,.inr ⟨_,_,_,_,_,rfl,M2,c1,by omega,by simp;omega⟩⟩
    ·exact wpS_pure ⟨rfl,_,_,_,_,_,rfl,M2,c1,by omega,by simp;omega⟩
  |false=>
   rw[if_neg Bool.false_ne_true];refine wpS_bind (aK (by omega) ?_)
   have M2:=M.Ad L ua (by omega) fun j j1 j2=>L.tr _ _ _ e (bx ub j1 j2 L)
   simp only[cb,gq,bt];by_cases e1:ia+1+1=a.length
   ·rw[if_pos (by simpa using e1)]
    exact wpS_pure ⟨rfl,.inl ⟨_,_,rfl,M2.Am ub e1 hl⟩⟩
   ·rw[if_neg (by simpa using e1)]
    split
    ·exact wpS_pure ⟨rfl,.inr ⟨_,_,_,_,_,rfl,M2,by omega,c2,by simp;omega⟩⟩
    ·exact wpS_pure ⟨rfl,_,_,_,_,_,rfl,M2,by omega,c2,by simp;omega⟩
 ·rintro r st' ⟨rfl,out,ia,ib,ac,bc,rfl,M,c1,c2,c3⟩
  exact⟨rfl,.inr ⟨_,_,_,_,_,rfl,M,c1,c2,by rw[show max 0 (a.length+b.length)=a.length+b.length by omega] at c3;omega⟩⟩
 clear M c1 c2 c3 out ia ib;rintro _ st' ⟨rfl,⟨res,y,rfl,hr⟩|⟨out,ia,ib,ac,bc,rfl,M,c1,c2,c3⟩⟩
 ·exact wpS_pure ⟨_,_,rfl,hr,hs1⟩
 dsimp only;refine wpS_bind (wpS_lift (wpAny_rule ⟨rfl,?_⟩))
 refine wpS_bind (wpS_mono (wpS_forRange (a:=0) (b:=a.length+b.length) (I:=fun y r st'=>Sm st st'/\∃out ia ib g ac bc,r=(none,aG it out,ia,ib,g,ac,bc)/\ML c a b out ia ib/\ia+1<a.length/\ib<b.length/\x+2<=out.length)
  (Q:=fun r st'=>Sm st st'/\((∃res y,r=(some (aG it res),y)/\Res c a b res)\/∃out ia ib g ac bc,r=(none,aG it out,ia,ib,g,ac,bc)/\ML c a b out ia ib/\ia+1<a.length/\ib<b.length/\x+2<=out.length)) ?_ ?_ ⟨hs1,_,_,_,_,_,_,rfl,M,c1,c2,c3⟩) ?_)
 rotate_left
 ·rintro r st' ⟨h1,out,ia,ib,g,ac,bc,rfl,M⟩
  exact⟨h1,.inr ⟨_,_,_,_,_,_,rfl,M⟩⟩
 ·rintro _ st' ⟨hs2,⟨res,y,rfl,hr⟩|⟨out,ia,ib,g,ac,bc,rfl,M,c1,c2,c3⟩⟩
  ·exact wpS_pure ⟨_,_,rfl,hr,hs2⟩
  ·exact wpS_bind (hJ hs2 fun st3 hs3=>wpS_pure ⟨_,_,_,_,rfl,M,c1,c2,c3,hs3⟩)
 clear M c1 c2 c3 out ia ib;rintro y r st2 _ _ ⟨hs2,out,ia,ib,g,ac,bc,rfl,M,c1,c2,c3⟩;dsimp only;by_cases hg:g>1
 case' pos=>
  rw[if_pos hg];generalize g-1=g
 case' neg=>rw[if_neg hg]
 all_goals
  clear hg;refine wpS_bind (hJ hs2 fun st3 hs3=>?_);have hk3:kindOf st3=κ:=hs3.k.trans hk;refine wpS_bind (aK c2 ?_);refine wpS_bind (g7 hA hk3 (bn _ (bT c2)) an (by omega) (by omega) (fun i=>!c (b.getD ib 0) (a.getD (ia+i) 0)) (fun _ _=>rfl) (fun i j h1 h2 h3=>?_) fun k k1 k2 k3=>?_)
  ·have e:c (b.getD ib 0) (a.getD (ia+j) 0)=false:=by simpa using h3
   have:=L.tr _ _ _ (bx ua (show ia+i<=ia+j by omega) (by omega) L) e
   simp only[this,Bool.not_false]
  dsimp only
  have M2:=M.Ag L ua k (by omega) fun i hi j j1 j2=>by
   have e:c (b.getD ib 0) (a.getD (ia+i) 0)=false:=by simpa using k2 i hi
   exact L.tr _ _ _ e (bx ub j1 j2 L)
  have below:∀j,ia+k<=j->j<a.length->c (a.getD j 0) (b.getD ib 0)=false:=fun j j1 j2=>by
   have e:=k3 (j-ia) (by omega) (by omega)
   rw[show ia+(j-ia)=j by omega] at e
   exact L.as _ _ (by simpa using e)
  have c4:x+2<=(out++(a.drop ia).take k).length:=by simp;omega
  simp only[pI,bt];clear k2 k3 c3;by_cases hk0:k>0
  case' pos=>
   rw[if_pos hk0];by_cases e1:ia+k+1=a.length
   case pos=>
    rw[if_pos (by simpa using e1)]
    exact wpS_pure ⟨hs3,.inl ⟨_,_,rfl,M2.Am ub e1 hl⟩⟩
   rw[if_neg (by simpa using e1)]
   by_cases e2:ia+k=a.length
   case pos=>
    rw[if_pos (by simpa using e2)]
    exact wpS_pure ⟨hs3,.inl ⟨_,_,rfl,M2.done ua ub (.inr (by omega))⟩⟩
   rw[if_neg (by simpa using e2)]
   have c5:ia+k+1<a.length:=by omega
   clear e1 e2 hk0 M c1;generalize out++(a.drop ia).take k=out2 at *;generalize ia+k=ia2 at *
  case' neg=>
   rw[if_neg hk0];obtain rfl:k=0:=by omega
   have c5:=c1;simp only[Nat.add_zero,List.take_zero,List.append_nil] at M2 below c4;clear M c1 hk0;generalize out=out2 at *;generalize ia=ia2 at *
  all_goals
   refine wpS_bind (aK c2 ?_);have M3:=M2.At L ub c2 below;simp only[cb,bt];by_cases e3:ib+1=b.length
   case pos=>
    rw[if_pos (by simpa using e3)]
    exact wpS_pure ⟨hs3,.inl ⟨_,_,rfl,M3.done ua ub (.inl (by omega))⟩⟩
   rw[if_neg (by simpa using e3)]
   refine wpS_bind (aK (by omega) ?_)
   refine wpS_bind (g7 hA hk3 (an _ (bT (by omega))) bn (by omega) (by omega) (fun i=>c (b.getD (ib+1+i) 0) (a.getD ia2 0)) (fun _ _=>rfl) (fun i j h1 h2 h3=>?_) fun q q1 q2 q3=>?_)
   ·cases e:c (b.getD (ib+1+i) 0) (a.getD ia2 0) with
    |true=>rfl
    |false=>
     have:=L.tr _ _ _ e (bx ub (show ib+1+i<=ib+1+j by omega) (by omega) L)
     rw[this] at h3;exact h3
   dsimp only;have M4:=M3.Ay L ub q (by omega) fun i hi j j1 j2=>L.tr _ _ _ (L.as _ _ (q2 i hi)) (bx ua j1 j2 L)
   have above:∀j,ib+1+q<=j->j<b.length->c (b.getD j 0) (a.getD ia2 0)=false:=fun j j1 j2=>by
    have e:=q3 (j-(ib+1)) (by omega) (by omega)
    rw[show ib+1+(j-(ib+1))=j by omega] at e
    exact e
   have c6:x+2<=(out2++[b.getD ib 0]++(b.drop (ib+1)).take q).length:=by simp;omega
   clear q2 q3;by_cases hq0:q>0
   case' pos=>
    rw[if_pos hq0];by_cases e4:ib+1+q=b.length
    case pos=>
     rw[if_pos (by simpa using e4)]
     exact wpS_pure ⟨hs3,.inl ⟨_,_,rfl,M4.done ua ub (.inl (by omega))⟩⟩
    rw[if_neg (by simpa using e4)]
    have c7:ib+1+q<b.length:=by omega
    clear e4 hq0 M3;generalize out2++[b.getD ib 0]++(b.drop (ib+1)).take q=out3 at *;generalize ib+1+q=ib2 at *
   case' neg=>
    rw[if_neg hq0];obtain rfl:q=0:=by omega
    have c7:ib+1<b.length:=by omega
    simp only[Nat.add_zero,List.take_zero,List.append_nil] at M4 above c6;clear hq0 M3;generalize out2++[b.getD ib 0]=out3 at *;generalize ib+1=ib2 at *
   all_goals
    refine wpS_bind (aK (by omega) ?_)
    have M5:=M4.Ad L ua (by omega) above
    simp only[cb,bt];by_cases e5:ia2+1+1=a.length
    ·rw[if_pos (by simpa using e5)]
     exact wpS_pure ⟨hs3,.inl ⟨_,_,rfl,M5.Am ub e5 hl⟩⟩
    ·rw[if_neg (by simpa using e5)]
     split
     ·exact wpS_pure ⟨hs3,.inr ⟨_,_,_,_,_,_,rfl,M5,by omega,c7,by simp;omega⟩⟩
     ·exact wpS_pure ⟨hs3,_,_,_,_,_,_,rfl,M5,by omega,c7,by simp;omega⟩
end
section
variable{c:Nat->Nat->Bool}
noncomputable abbrev flp(c:Nat->Nat->Bool):Nat->Nat->Bool:=fun x y=>c y x
theorem bW.flip(L:bW c):bW (flp c):=⟨fun i j h=>L.as j i h,fun i j k h1 h2=>L.tr k j i h2 h1⟩
theorem kG{a:List Nat}(h:Up2 c a):Up2 (flp c) a.reverse:=List.pairwise_reverse.mpr h
theorem mD{a:List Nat}{i:Nat}(h:i<a.length):a.reverse.getD i 0=a.getD (a.length-1-i) 0:=by
 simp[List.getElem?_reverse h]
theorem oq{a b res:List Nat}(h:Res (flp c) a.reverse b.reverse res):Res c a b res.reverse:=
 ⟨(List.reverse_perm res).trans (h.1.trans ((List.reverse_perm a).append (List.reverse_perm b))),List.pairwise_reverse.mpr h.2⟩
theorem o7{a b res:List Nat}(h:Res c a b res):Res c b a res:=⟨h.1.trans List.perm_append_comm,h.2⟩
structure MH(c:Nat->Nat->Bool)(a b out:List Nat)(na nb:Nat):Prop where
 m:ML (flp c) a.reverse b.reverse out (a.length-na) (b.length-nb)
 ha:na<=a.length
 hb:nb<=b.length
theorem MH.len{a b out:List Nat}{na nb:Nat}(h:MH c a b out na nb):out.length+na+nb=a.length+b.length:=by
 have:=h.m.len (by simp) (by simp)
 simp only[List.length_reverse] at this;have:=h.ha;have:=h.hb;omega
theorem MH.sym{a b out:List Nat}{na nb:Nat}(h:MH c a b out na nb):MH c b a out nb na:=⟨h.m.sym,h.hb,h.ha⟩
theorem MH.Ag{a b out:List Nat}{na nb:Nat}(h:MH c a b out na nb)(L:bW c)(ua:Up2 c a)(i:Nat)(hi:i<=na)(hz:∀k,i<=k->k<na->∀j,j<nb->c (a.getD k 0) (b.getD j 0)=false):MH c a b (out++((a.drop i).take (na-i)).reverse) i nb:=by
 have ha:=h.ha;have hb:=h.hb
 have:=h.m.Ag L.flip (kG ua) (na-i) (by simp;omega) fun k hk j j1 j2=>by
  rw[List.length_reverse] at j2;rw[mD (by omega),mD (by omega)]
  exact hz _ (by omega) (by omega) _ (by omega)
 rw[List.drop_reverse,show a.length-(a.length-na)=na by omega,List.take_reverse,List.length_take,show min na a.length-(na-i)=i by omega,List.drop_take,show a.length-na+(na-i)=a.length-i by omega] at this
 exact⟨this,by omega,hb⟩
theorem MH.Ad{a b out:List Nat}{na nb:Nat}(h:MH c a b out na nb)(L:bW c)(ua:Up2 c a)(hn:0<na)(hz:∀j,j<nb->c (a.getD (na-1) 0) (b.getD j 0)=false):MH c a b (out++[a.getD (na-1) 0]) (na-1) nb:=by
 have ha:=h.ha
 have:=h.Ag L ua (na-1) (by omega) fun k k1 k2 j hj=>by
  obtain rfl:k=na-1:=by omega
  exact hz j hj
 rw[show na-(na-1)=1 by omega,j6 (by omega)] at this
 exact this
theorem MH.done{a b out:List Nat}{na nb:Nat}(h:MH c a b out na nb)(ua:Up2 c a)(ub:Up2 c b)(e:na=0\/nb=0):Res c a b (a.take na++b.take nb++out.reverse):=by
 have ha:=h.ha;have hb:=h.hb;have:=oq (o7 (h.m.sym.done (kG ub) (kG ua) (by simp only[List.length_reverse];omega)))
 rw[List.drop_reverse,List.drop_reverse,show a.length-(a.length-na)=na by omega,show b.length-(b.length-nb)=nb by omega] at this
 simpa using this
theorem MH.Al{a b out:List Nat}{na nb:Nat}(h:MH c a b out na nb)(ua:Up2 c a)(e:nb=1)(h0:∀x∈a,c x (b.getD 0 0)=false):Res c a b (b.take nb++a.take na++out.reverse):=by
 have ha:=h.ha;have hb:=h.hb
 have:=oq (o7 (h.m.sym.Am (kG ua) (by simp only [List.length_reverse];omega) fun y hy=>by
  rw[mD (by simp;omega),List.length_reverse,show b.length-1-(b.length-1)=0 by omega]
  exact h0 y (List.mem_reverse.mp hy)))
 rw[List.drop_reverse,List.drop_reverse,show a.length-(a.length-na)=na by omega,show b.length-(b.length-nb)=nb by omega] at this
 simpa using this
theorem MH.start{a b:List Nat}(L:bW c)(ua:Up2 c a)(ha:0<a.length)(hl:∀y∈b,c (a.getD (a.length-1) 0) y=false):MH c a b [a.getD (a.length-1) 0] (a.length-1) b.length:=
 (show MH c a b [] a.length b.length from ⟨by
  rw[Nat.sub_self,Nat.sub_self]
  exact⟨.refl _,.nil,fun x hx=>(nomatch hx),fun x hx=>(nomatch hx)⟩,Nat.le_refl _,Nat.le_refl _⟩).Ad L ua ha fun j hj=>hl _ (bT hj)
end
section
variable{prog:Program}{w:World}{A:Around}{E:Value->Shared->Prop}{s:Shared}{κ:SortKind}{it:Array Keyed}{c:Nat->Nat->Bool}{n:Nat}
theorem mB(l:List Nat)(i j:Nat):(aG it l).extract i j=aG it ((l.drop i).take (j-i)):=by
 apply Array.ext';simp[aG,List.map_drop,List.map_take]
theorem jb(l:List Nat)(j:Nat):(aG it l).extract 0 j=aG it (l.take j):=by rw[mB];rfl
theorem dq(l:List Nat):(aG it l).reverse=aG it l.reverse:=by simp[aG]
theorem xa(L:bW c)(hA:gf prog w A s κ it n c){a b:List Nat}{st:SortSt}{Q:Array Keyed->SortSt->Prop}(hk:kindOf st=κ)(ua:Up2 c a)(ub:Up2 c b)(an:∀i∈a,i<n)(bn:∀i∈b,i<n)(ha:0<a.length)(hb:0<b.length)(h0:∀x∈a,c x (b.getD 0 0)=false)(hl:∀y∈b,c (a.getD (a.length-1) 0) y=false)(h:∀res st',Sm st st'->Res c a b res->Q (aG it res) st'):
  wpS (model prog w) A E s (zQ (aG it a) (aG it b)) Q st:=by
 refine wpS_bind (wpS_lift (wpAny_rule ⟨rfl,?_⟩));rw[gr,gr];refine wpS_bind (aK (by omega) ?_)
 have M0:MH c a b [a.getD (a.length-1) 0] (a.length-1) b.length:=.start L ua ha hl;have e0:(#[W.kas_item it (a.getD (a.length-1) 0)]:Array Keyed)=aG it [a.getD (a.length-1) 0]:=by simp[aG]
 dsimp only;rw[e0];simp only[jb,dq,bt];by_cases h1:a.length-1=0
 ·rw[if_pos (by simpa using h1)]
  exact wpS_pure (h _ st ⟨rfl,rfl,rfl,rfl⟩ (M0.done ua ub (.inl h1)))
 rw[if_neg (by simpa using h1)]
 by_cases h2:b.length=1
 ·rw[if_pos (by simpa using h2)]
  exact wpS_pure (h _ st ⟨rfl,rfl,rfl,rfl⟩ (M0.Al ua h2 h0))
 rw[if_neg (by simpa using h2)]
 refine wpS_bind (wpS_get ?_)
 refine wpS_bind (wpS_mono (wpS_forRange (a:=0) (b:=a.length+b.length) (I:=fun x r st'=>∃out na nb g,r=(none,na,nb,aG it out,g)/\MH c a b out na nb/\0<na/\1<nb/\x+1<=out.length/\Sm st st')
  (Q:=fun r st'=>∃res y,r=(some (aG it res),y)/\Res c a b res/\Sm st st') ?_ ?_ ⟨_,_,_,_,rfl,M0,by omega,by omega,by simp,rfl,rfl,rfl,rfl⟩) ?_)
 rotate_left
 ·rintro r st' ⟨out,na,nb,g,rfl,M,c1,c2,c3,_⟩
  have:=M.len;omega
 ·rintro _ st' ⟨res,y,rfl,hr,hs⟩
  exact wpS_pure (h res st' hs hr)
 rintro x r st1 _ _ ⟨out,na,nb,g,rfl,M,c1,c2,c3,hs1⟩;dsimp only;have hk1:kindOf st1=κ:=hs1.k.trans hk
 refine wpS_bind (wpS_mono (wpS_forRange (a:=0) (b:=a.length+b.length) (I:=fun y r st'=>st'=st1/\∃out na nb ac bc,r=(none,na,nb,aG it out,ac,bc)/\MH c a b out na nb/\0<na/\1<nb/\x+1+y<=out.length)
  (Q:=fun r st'=>st'=st1/\((∃res y,r=(some (aG it res),y)/\Res c a b res)\/∃out na nb ac bc,r=(none,na,nb,aG it out,ac,bc)/\MH c a b out na nb/\0<na/\1<nb/\x+2<=out.length)) ?_ ?_ ⟨rfl,_,_,_,_,_,rfl,M,c1,c2,c3⟩) ?_)
 ·rintro y r st' _ _ ⟨rfl,out,na,nb,ac,bc,rfl,M,c1,c2,c3⟩
  have na1:=M.ha;have nb1:=M.hb;dsimp only;refine wpS_bind (aK (by omega) (wpS_bind (aK (by omega) (wpS_bind (lc hA (bn _ (bT (by omega))) (an _ (bT (by omega))) hk1 ?_)))))
  dsimp only
  cases e:c (b.getD (nb-1) 0) (a.getD (na-1) 0) with
  |true=>
   rw[if_pos rfl];refine wpS_bind (aK (by omega) ?_)
   have M2:=M.Ad L ua c1 fun j hj=>L.tr _ _ _ (bx ub (show j<=nb-1 by omega) (by omega) L) (L.as _ _ e)
   simp only[cb,dq,bt];by_cases e1:na-1=0
   ·rw[if_pos (by simpa using e1)]
    exact wpS_pure ⟨rfl,.inl ⟨_,_,rfl,M2.done ua ub (.inl e1)⟩⟩
   ·rw[if_neg (by simpa using e1)]
    split
    ·exact wpS_pure ⟨rfl,.inr ⟨_,_,_,_,_,rfl,M2,by omega,c2,by simp;omega⟩⟩
    ·exact wpS_pure ⟨rfl,_,_,_,_,_,rfl,M2,by omega,c2,by simp;omega⟩
  |false=>
   rw[if_neg Bool.false_ne_true];refine wpS_bind (aK (by omega) ?_)
   have M2:=(M.sym.Ad L ub (by omega) fun j hj=>L.tr _ _ _ (bx ua (show j<=na-1 by omega) (by omega) L) e).sym
   simp only[cb,dq,bt];by_cases e1:nb-1=1
   ·rw[if_pos (by simpa using e1)]
    exact wpS_pure ⟨rfl,.inl ⟨_,_,rfl,M2.Al ua e1 h0⟩⟩
   ·rw[if_neg (by simpa using e1)]
    split
    ·exact wpS_pure ⟨rfl,.inr ⟨_,_,_,_,_,rfl,M2,c1,by omega,by simp;omega⟩⟩
    ·exact wpS_pure ⟨rfl,_,_,_,_,_,rfl,M2,c1,by omega,by simp;omega⟩
 ·rintro r st' ⟨rfl,out,na,nb,ac,bc,rfl,M,c1,c2,c3⟩
  exact⟨rfl,.inr ⟨_,_,_,_,_,rfl,M,c1,c2,by rw[show max 0 (a.length+b.length)=a.length+b.length by omega] at c3;omega⟩⟩
 clear M c1 c2 c3 out na nb;rintro _ st' ⟨rfl,⟨res,y,rfl,hr⟩|⟨out,na,nb,ac,bc,rfl,M,c1,c2,c3⟩⟩
 ·exact wpS_pure ⟨_,_,rfl,hr,hs1⟩
 dsimp only;refine wpS_bind (wpS_lift (wpAny_rule ⟨rfl,?_⟩))
 refine wpS_bind (wpS_mono (wpS_forRange (a:=0) (b:=a.length+b.length) (I:=fun y r st'=>Sm st st'/\∃out na nb g ac bc,r=(none,na,nb,aG it out,g,ac,bc)/\MH c a b out na nb/\0<na/\1<nb/\x+2<=out.length)
  (Q:=fun r st'=>Sm st st'/\((∃res y,r=(some (aG it res),y)/\Res c a b res)\/∃out na nb g ac bc,r=(none,na,nb,aG it out,g,ac,bc)/\MH c a b out na nb/\0<na/\1<nb/\x+2<=out.length)) ?_ ?_ ⟨hs1,_,_,_,_,_,_,rfl,M,c1,c2,c3⟩) ?_)
 rotate_left
 ·rintro r st' ⟨h1,out,na,nb,g,ac,bc,rfl,M⟩
  exact⟨h1,.inr ⟨_,_,_,_,_,_,rfl,M⟩⟩
 ·rintro _ st' ⟨hs2,⟨res,y,rfl,hr⟩|⟨out,na,nb,g,ac,bc,rfl,M,c1,c2,c3⟩⟩
  ·exact wpS_pure ⟨_,_,rfl,hr,hs2⟩
  ·exact wpS_bind (hJ hs2 fun st3 hs3=>wpS_pure ⟨_,_,_,_,rfl,M,c1,c2,c3,hs3⟩)
 clear M c1 c2 c3 out na nb;rintro y r st2 _ _ ⟨hs2,out,na,nb,g,ac,bc,rfl,M,c1,c2,c3⟩;have na1:=M.ha;have nb1:=M.hb;dsimp only;by_cases hg:g>1
 case' pos=>
  rw[if_pos hg];generalize g-1=g
 case' neg=>rw[if_neg hg]
 all_goals
  clear hg;refine wpS_bind (hJ hs2 fun st3 hs3=>?_);have hk3:kindOf st3=κ:=hs3.k.trans hk;refine wpS_bind (aK (by omega) ?_)
  refine wpS_bind (g7 hA hk3 (bn _ (bT (by omega))) an (by omega) (by omega) (fun i=>!c (b.getD (nb-1) 0) (a.getD i 0)) (fun _ _=>by simp) (fun i j h1 h2 h3=>?_) fun k k1 k2 k3=>?_)
  ·have e:c (b.getD (nb-1) 0) (a.getD j 0)=false:=by simpa using h3
   have:=L.tr _ _ _ (bx ua h1 (by omega) L) e
   simp only[this,Bool.not_false]
  dsimp only
  have M2:=M.Ag L ua k k1 fun i i1 i2 j hj=>by
   have e:c (b.getD (nb-1) 0) (a.getD i 0)=true:=by simpa using k3 i i1 i2
   exact L.tr _ _ _ (bx ub (show j<=nb-1 by omega) (by omega) L) (L.as _ _ e)
  have below:∀j,j<k->c (b.getD (nb-1) 0) (a.getD j 0)=false:=fun j hj=>by simpa using k2 j hj
  have c4:x+2<=(out++((a.drop k).take (na-k)).reverse).length:=by simp;omega
  simp only[mB,jb,dq,bt];clear k2 k3 c3;by_cases hk0:na-k>0
  case' pos=>
   rw[if_pos hk0];by_cases e1:k=0
   case pos=>
    rw[if_pos (by simpa using e1)]
    exact wpS_pure ⟨hs3,.inl ⟨_,_,rfl,M2.done ua ub (.inl e1)⟩⟩
   rw[if_neg (by simpa using e1)]
   have c5:0<k:=by omega
   generalize na-k=kk at *;clear e1 hk0 M c1;generalize out++((a.drop k).take kk).reverse=out2 at *;generalize k=na2 at *
  case' neg=>
   rw[if_neg hk0];obtain rfl:k=na:=by omega
   have c5:=c1;simp only[Nat.sub_self,List.take_zero,List.reverse_nil,List.append_nil] at M2 c4;generalize k-k=kk at *;clear M c1 hk0;generalize out=out2 at *;generalize k=na2 at *
  all_goals
   have na1:=M2.ha;refine wpS_bind (aK (by omega) ?_)
   have M3:=(M2.sym.Ad L ub (by omega) below).sym
   simp only[cb,dq,bt];by_cases e3:nb-1=1
   case pos=>
    rw[if_pos (by simpa using e3)]
    exact wpS_pure ⟨hs3,.inl ⟨_,_,rfl,M3.Al ua e3 h0⟩⟩
   rw[if_neg (by simpa using e3)]
   refine wpS_bind (aK (by omega) ?_)
   refine wpS_bind (g7 hA hk3 (an _ (bT (by omega))) bn (by omega) (by omega) (fun i=>c (b.getD i 0) (a.getD (na2-1) 0)) (fun _ _=>by simp) (fun i j h1 h2 h3=>?_) fun q q1 q2 q3=>?_)
   ·cases e:c (b.getD i 0) (a.getD (na2-1) 0) with
    |true=>rfl
    |false=>
     have:=L.tr _ _ _ e (bx ub h1 (by omega) L)
     rw[this] at h3;exact h3
   dsimp only;have M4:=(M3.sym.Ag L ub q q1 fun i i1 i2 j hj=>L.tr _ _ _ (bx ua (show j<=na2-1 by omega) (by omega) L) (q3 i i1 i2)).sym
   have above:∀j,j<q->c (a.getD (na2-1) 0) (b.getD j 0)=false:=fun j hj=>L.as _ _ (q2 j hj);have c6:x+2<=(out2++[b.getD (nb-1) 0]++((b.drop q).take (nb-1-q)).reverse).length:=by simp;omega
   clear q2 q3;by_cases hq0:nb-1-q>0
   case' pos=>
    rw[if_pos hq0];by_cases e4:q=1
    case pos=>
     rw[if_pos (by simpa using e4)]
     exact wpS_pure ⟨hs3,.inl ⟨_,_,rfl,M4.Al ua e4 h0⟩⟩
    rw[if_neg (by simpa using e4)]
    by_cases e5:q=0
    case pos=>
     rw[if_pos (by simpa using e5)]
     exact wpS_pure ⟨hs3,.inl ⟨_,_,rfl,M4.done ua ub (.inr e5)⟩⟩
    rw[if_neg (by simpa using e5)]
    have c7:1<q:=by omega
    clear e4 e5 hq0 M3;generalize nb-1-q=qq at *;generalize out2++[b.getD (nb-1) 0]++((b.drop q).take qq).reverse=out3 at *
   case' neg=>
    rw[if_neg hq0];obtain rfl:q=nb-1:=by omega
    have c7:1<nb-1:=by omega
    simp only[Nat.sub_self,List.take_zero,List.reverse_nil,List.append_nil] at M4 c6;generalize nb-1-(nb-1)=qq at *;clear hq0 M3;generalize out2++[b.getD (nb-1) 0]=out3 at *;generalize nb-1=q at *
   all_goals
    refine wpS_bind (aK (by omega) ?_)
    have M5:=M4.Ad L ua c5 above;simp only[cb,dq,bt];by_cases e5:na2-1=0
    ·rw[if_pos (by simpa using e5)]
     exact wpS_pure ⟨hs3,.inl ⟨_,_,rfl,M5.done ua ub (.inl e5)⟩⟩
    ·rw[if_neg (by simpa using e5)]
     split
     ·exact wpS_pure ⟨hs3,.inr ⟨_,_,_,_,_,_,rfl,M5,by omega,c7,by simp;omega⟩⟩
     ·exact wpS_pure ⟨hs3,_,_,_,_,_,_,rfl,M5,by omega,c7,by simp;omega⟩
end
section
variable{α:Type}
theorem vT(sa:Nat):∀(l:List α)(s:Nat)(a:Array α),sa+s+l.length<=a.size->∀k,((l.zipIdx s).foldl (fun a (x:α×Nat)=>a.setIfInBounds (sa+x.2) x.1) a)[k]?=if sa+s<=k/\k<sa+s+l.length then l[k-(sa+s)]? else a[k]?
 | [],s,a,_,k=>by
  rw[if_neg (by simp)]
  rfl
 |x::l,s,a,h,k=>by
  simp only[List.length_cons] at h;rw[List.zipIdx_cons,List.foldl_cons,vT sa l (s+1) _ (by simp;omega) k]
  simp only[List.length_cons];by_cases e:k=sa+s
  ·subst e
   rw[if_neg (by omega),if_pos (by omega),Nat.sub_self,Array.getElem?_setIfInBounds,if_pos rfl,if_pos (by omega)]
   rfl
  ·by_cases e2:sa+s<=k/\k<sa+s+(l.length+1)
   ·rw[if_pos (by omega),if_pos e2]
    obtain⟨j,rfl⟩:∃j,k=sa+s+1+j:=⟨k-(sa+s+1),by omega⟩
    rw[show sa+s+1+j-(sa+(s+1))=j by omega,show sa+s+1+j-(sa+s)=j+1 by omega]
    rfl
   ·rw[if_neg (by omega),if_neg e2,Array.getElem?_setIfInBounds,if_neg (by omega)]
end
noncomputable def f6(p:Array Nat)(sa:Nat)(res:List Nat):Array Nat:=(p.toList.take sa++(res++p.toList.drop (sa+res.length))).toArray
theorem pF{p:Array Nat}{sa:Nat}{res:List Nat}(h:sa+res.length<=p.size)(k:Nat):(f6 p sa res)[k]?=if sa<=k/\k<sa+res.length then res[k-sa]? else p[k]?:=by
 unfold f6;rw[List.getElem?_toArray,List.getElem?_append,List.length_take,List.getElem?_append,Array.length_toList,Nat.min_eq_left (by omega)]
 by_cases e:k<sa
 ·rw[if_pos e,if_neg (by omega),List.getElem?_take,if_pos e,Array.getElem?_toList]
 ·rw[if_neg e]
  by_cases e2:k-sa<res.length
  ·rw[if_pos e2,if_pos (by omega)]
  ·rw[if_neg e2,if_neg (by omega),List.getElem?_drop,Array.getElem?_toList]
   congr 1
   omega
theorem sJ{p:Array Nat}{sa:Nat}{res:List Nat}(h:sa+res.length<=p.size)(k:Nat):(f6 p sa res).getD k 0=if sa<=k/\k<sa+res.length then res.getD (k-sa) 0 else p.getD k 0:=by
 rw[Array.getD_eq_getD_getElem?,pF h,Array.getD_eq_getD_getElem?];split<;>simp
theorem uD{it:Array Keyed}{p:Array Nat}{sa:Nat}{res:List Nat}(h:sa+res.length<=p.size):List.foldl (fun a (x:Keyed×Nat)=>a.setIfInBounds (sa+x.2) x.1) (p.map (W.kas_item it)) (aG it res).toList.zipIdx=(f6 p sa res).map (W.kas_item it):=by
 apply Array.ext_getElem?;intro k;have:=vT sa ((res.map (W.kas_item it))) 0 (p.map (W.kas_item it)) (by simp;omega) k
 rw[this,Nat.add_zero,List.length_map,show ((f6 p sa res).map (W.kas_item it))[k]?=((f6 p sa res)[k]?).map (W.kas_item it) from Array.getElem?_map ..,pF h]
 split<;>simp
theorem qd(p:Array Nat){a b d:Nat}(h1:a<=b)(h2:b<=d):p.toList.take a++(((p.toList.drop a).take (b-a)++(p.toList.drop b).take (d-b))++p.toList.drop d)=p.toList:=by
 have e1:(p.toList.drop b).take (d-b)++p.toList.drop d=p.toList.drop b:=by
  have:=List.take_append_drop (d-b) (p.toList.drop b)
  rwa [List.drop_drop,show b+(d-b)=d by omega] at this
 have e2:(p.toList.drop a).take (b-a)++p.toList.drop b=p.toList.drop a:=by
  have:=List.take_append_drop (b-a) (p.toList.drop a)
  rwa [List.drop_drop,show a+(b-a)=b by omega] at this
 rw[List.append_assoc,e1,e2,List.take_append_drop]
theorem iA{p:Array Nat}{a b k:Nat}(hb:b<=p.size)(hk:k<b-a):((p.toList.drop a).take (b-a)).getD k 0=p.getD (a+k) 0:=by
 simp[List.getElem?_take,hk,Array.getD_eq_getD_getElem?]
theorem gO{p:Array Nat}{a b:Nat}(hb:b<=p.size):((p.toList.drop a).take (b-a)).length=b-a:=by
 simp;omega
theorem on{p:Array Nat}{a b z:Nat}(hb:b<=p.size)(h:z∈(p.toList.drop a).take (b-a)):∃t,a<=t/\t<b/\z=p.getD t 0:=by
 obtain⟨k,hk,rfl⟩:=List.mem_iff_getElem.mp h;have hk2:=hk;rw[gO hb] at hk2;refine⟨a+k,by omega,by omega,?_⟩
 rw[←iA hb hk2,List.getD_eq_getElem?_getD,List.getElem?_eq_getElem hk]
 rfl
theorem sQ{c:Nat->Nat->Bool}{p:Array Nat}{a b:Nat}(hb:b<=p.size)(h:Sg c p a b):Up2 c ((p.toList.drop a).take (b-a)):=by
 refine List.pairwise_iff_getElem.mpr fun i j hi hj hij=>?_;have hi2:=hi;have hj2:=hj;rw[gO hb] at hi2 hj2;have ei:=iA hb hi2;have ej:=iA hb hj2;rw[List.getD_eq_getElem?_getD,List.getElem?_eq_getElem hi] at ei;rw[List.getD_eq_getElem?_getD,List.getElem?_eq_getElem hj] at ej;simp only[Option.getD_some] at ei ej;rw[ei,ej];exact h _ _ (by omega) (by omega) (by omega)
section
variable{prog:Program}{w:World}{A:Around}{E:Value->Shared->Prop}{s:Shared}{κ:SortKind}{it:Array Keyed}{c:Nat->Nat->Bool}{n:Nat}
theorem tu{σ:Type}{M:Model}{st' st:σ}{Q:PUnit->σ->Prop}(h:Q ⟨⟩ st'):wpS M A E s (set st':StateT σ Sem PUnit) Q st:=by
 unfold wpS;rw[StateT.run_set];exact wpAny_pure ⟨rfl,h⟩
structure Mg(κ:SortKind)(it:Array Keyed)(n:Nat)(c:Nat->Nat->Bool)(p p':Array Nat)(st':SortSt)(a b:Nat):Prop where
 o:Ord n p'
 s:Stt κ it p' st'
 lo:∀k,k<a->p'.getD k 0=p.getD k 0
 hi:∀k,b<=k->p'.getD k 0=p.getD k 0
 g:Sg c p' a b
noncomputable def yI:Nat->StateT SortSt Sem Bool:=sortPriv% PySem.Builtin.mergeAt
theorem wx(L:bW c)(hA:gf prog w A s κ it n c){p:Array Nat}{st:SortSt}{i sa na pw nb pw2:Nat}{Q:Bool->SortSt->Prop}(ho:Ord n p)(hS:Stt κ it p st)(e1:(pendingOf st)[i]?=some (sa,na,pw))(e2:(pendingOf st)[i+1]?=some (sa+na,nb,pw2))(ha:1<=na)(hb:1<=nb)(hz:sa+na+nb<=n)(ga:Sg c p sa (sa+na))(gb:Sg c p (sa+na) (sa+na+nb))(h:∀p' st',Mg κ it n c p p' st' sa (sa+na+nb)->pendingOf st'=((pendingOf st).setIfInBounds i (sa,na+nb,pw)).eraseIdxIfInBounds (i+1)->Q true st'):wpS (model prog w) A E s (yI i) Q st:=by
 have sz:=aZ ho;have hp0:∀k,p.getD k 0<n:=fun k=>ho.lt (by omega) k
 refine wpS_bind (wpS_get ?_);have e1':((sortPriv% PySem.Builtin.SortState.pending) st)[i]?=some (sa,na,pw):=e1;have e2':((sortPriv% PySem.Builtin.SortState.pending) st)[i+1]?=some (sa+na,nb,pw2):=e2;have ea:(sortPriv% PySem.Builtin.SortState.a) st=p.map (W.kas_item it):=hS.a;rw[e1',e2',ea];dsimp only;refine wpS_bind (tu ?_);obtain⟨st1,hS1,hd1,est⟩:∃st1,Stt κ it p st1/\pendingOf st1=((pendingOf st).setIfInBounds i (sa,na+nb,pw)).eraseIdxIfInBounds (i+1)/\st1=SortSt.mk' (kindOf st) (p.map (W.kas_item it)) (((pendingOf st).setIfInBounds i (sa,na+nb,pw)).eraseIdxIfInBounds (i+1)) (gallopOf st) (failedOf st):=⟨SortSt.mk' (kindOf st) (p.map (W.kas_item it)) (((pendingOf st).setIfInBounds i (sa,na+nb,pw)).eraseIdxIfInBounds (i+1)) (gallopOf st) (failedOf st),⟨hS.k,rfl,hS.f⟩,rfl,rfl⟩
 change wpS _ _ _ _ _ Q (SortSt.mk' (kindOf st) (p.map (W.kas_item it)) (((pendingOf st).setIfInBounds i (sa,na+nb,pw)).eraseIdxIfInBounds (i+1)) (gallopOf st) (failedOf st));rw[←est]
 clear est e1' e2' ea;refine wpS_bind (fR (by omega) ?_)
 refine wpS_bind (gk hA hS1.k (hp0 _) (fun i _=>hp0 i) (by omega) (by omega) (fun i j h1 h2 h3=>?_) fun k k1 k2 k3=>?_)
 ·simp only[gB,Bool.false_eq_true,if_false,Bool.not_eq_true'] at h3 ⊢
  exact L.tr _ _ _ (ga (sa+i) (sa+j) (by omega) (by omega) (by omega)) h3
 simp only[gB,Bool.false_eq_true,if_false,Bool.not_eq_true',Bool.not_eq_false'] at k2 k3;dsimp only
 have lowA:∀i j,sa<=i->i<sa+k->sa+na<=j->j<sa+na+nb->c (p.getD j 0) (p.getD i 0)=false:=fun i j b1 b2 b3 b4=>by
  have:=k2 (i-sa) (by omega)
  rw[show sa+(i-sa)=i by omega] at this
  exact L.tr _ _ _ this (gb _ j (Nat.le_refl _) b3 b4)
 by_cases e3:na-k=0
 ·rw[if_pos (by simpa using e3)]
  refine wpS_pure (h p st1 ⟨ho,hS1,fun _ _=>rfl,fun _ _=>rfl,fun i j b1 b2 b3=>?_⟩ hd1);by_cases f1:j<sa+na
  ·exact ga i j b1 b2 f1
  ·by_cases f2:i<sa+na
   ·exact lowA i j b1 (by omega) (by omega) b3
   ·exact gb i j (by omega) b2 b3
 rw[if_neg (by simpa using e3)]
 rw[show sa+k+(na-k)-1=sa+na-1 by omega]
 refine wpS_bind (fR (by omega) ?_)
 refine wpS_bind (gk hA hS1.k (hp0 _) (fun i _=>hp0 i) (by omega) (by omega) (fun i j h1 h2 h3=>?_) fun q q1 q2 q3=>?_)
 ·simp only[gB,if_true] at h3 ⊢
  cases e:c (p.getD (sa+na+i) 0) (p.getD (sa+na-1) 0) with
  |true=>rfl
  |false=>
   have:=L.tr _ _ _ e (gb (sa+na+i) (sa+na+j) (by omega) (by omega) (by omega))
   rw[this] at h3;exact h3
 simp only[gB,if_true] at q2 q3;dsimp only
 have highB:∀i j,sa<=i->i<sa+na->sa+na+q<=j->j<sa+na+nb->c (p.getD j 0) (p.getD i 0)=false:=fun i j b1 b2 b3 b4=>by
  have:=q3 (j-(sa+na)) (by omega) (by omega)
  rw[show sa+na+(j-(sa+na))=j by omega] at this
  exact L.tr _ _ _ (ga i (sa+na-1) b1 (by omega) (by omega)) this
 by_cases e4:q=0
 ·rw[if_pos (by simpa using e4)]
  refine wpS_pure (h p st1 ⟨ho,hS1,fun _ _=>rfl,fun _ _=>rfl,fun i j b1 b2 b3=>?_⟩ hd1);by_cases f1:j<sa+na
  ·exact ga i j b1 b2 f1
  ·by_cases f2:i<sa+na
   ·exact highB i j b1 f2 (by omega) b3
   ·exact gb i j (by omega) b2 b3
 rw[if_neg (by simpa using e4)]
 have cut:∀i j,(p.map (W.kas_item it)).extract i j=aG it ((p.toList.drop i).take (j-i)):=fun i j=>by
  apply Array.ext';simp[aG,List.map_drop,List.map_take]
 rw[cut,cut];generalize hxs:(p.toList.drop (sa+k)).take (sa+na-(sa+k))=xs;generalize hys:(p.toList.drop (sa+na)).take (sa+na+q-(sa+na))=ys;have lx:xs.length=na-k:=by rw[←hxs,gO (by omega)];omega
 have ly:ys.length=q:=by rw[←hys,gO (by omega)];omega
 have ux:Up2 c xs:=hxs ▸ sQ (by omega) fun i j b1 b2 b3=>ga i j (by omega) b2 b3
 have uy:Up2 c ys:=hys ▸ sQ (by omega) fun i j b1 b2 b3=>gb i j b1 b2 (by omega)
 have mx:∀z∈xs,∃t,sa+k<=t/\t<sa+na/\z=p.getD t 0:=fun z hz=>on (by omega) (hxs ▸ hz)
 have my:∀z∈ys,∃t,sa+na<=t/\t<sa+na+q/\z=p.getD t 0:=fun z hz=>on (by omega) (hys ▸ hz)
 have nx:∀z∈xs,z<n:=fun z hz=>by obtain⟨t,_,_,rfl⟩:=mx z hz;exact hp0 t
 have ny:∀z∈ys,z<n:=fun z hz=>by obtain⟨t,_,_,rfl⟩:=my z hz;exact hp0 t
 have h0:∀x∈xs,c x (ys.getD 0 0)=false:=fun z hz=>by
  obtain⟨t,t1,t2,rfl⟩:=mx z hz;rw[←hys,iA (by omega) (by omega),Nat.add_zero]
  have:=k3 (t-sa) (by omega) (by omega)
  rw[show sa+(t-sa)=t by omega] at this
  exact L.as _ _ this
 have hl:∀y∈ys,c (xs.getD (xs.length-1) 0) y=false:=fun z hz=>by
  obtain⟨t,t1,t2,rfl⟩:=my z hz;rw[lx,←hxs,iA (by omega) (by omega),show sa+k+(na-k-1)=sa+na-1 by omega]
  have:=q2 (t-(sa+na)) (by omega)
  rw[show sa+na+(t-(sa+na))=t by omega] at this
  exact L.as _ _ this
 have fin:∀(res:List Nat),Res c xs ys res->Ord n (f6 p (sa+k) res)/\(∀k',k'<sa->(f6 p (sa+k) res).getD k' 0=p.getD k' 0)/\(∀k',sa+na+nb<=k'->(f6 p (sa+k) res).getD k' 0=p.getD k' 0)/\Sg c (f6 p (sa+k) res) sa (sa+na+nb)/\sa+k+res.length<=p.size:=fun res hr=>by
  have lr:res.length=na-k+q:=by rw[hr.1.length_eq,List.length_append,lx,ly]
  have hz2:sa+k+res.length<=p.size:=by omega
  have at2:=sJ (p:=p) (sa:=sa+k) (res:=res) hz2
  have mr:∀t,sa+k<=t->t<sa+na+q->∃u,sa+k<=u/\u<sa+na+q/\(f6 p (sa+k) res).getD t 0=p.getD u 0:=fun t t1 t2=>by
   rw[at2,if_pos (by omega)]
   rcases List.mem_append.mp (hr.1.mem_iff.mp (bT (show t-(sa+k)<res.length by omega))) with hm|hm
   ·obtain⟨u,u1,u2,e⟩:=mx _ hm
    exact⟨u,u1,by omega,e⟩
   ·obtain⟨u,u1,u2,e⟩:=my _ hm
    exact⟨u,by omega,u2,e⟩
  refine⟨?_,fun k' hk'=>by rw[at2,if_neg (by omega)],fun k' hk'=>by rw[at2,if_neg (by omega)],fun i j b1 b2 b3=>?_,hz2⟩
  ·refine Array.perm_iff_toList_perm.mpr (List.Perm.trans ?_ (Array.perm_iff_toList_perm.mp ho))
   unfold f6;have:=qd p (a:=sa+k) (b:=sa+na) (d:=sa+na+q) (by omega) (by omega)
   rw[hxs,hys] at this
   conv=>rhs;rw[←this]
   rw[show sa+k+res.length=sa+na+q by omega]
   exact(hr.1.append_right _).append_left _
  ·by_cases f1:j<sa+k
   ·rw[at2,at2,if_neg (by omega),if_neg (by omega)]
    exact ga i j b1 b2 (by omega)
   ·by_cases f2:j<sa+na+q
    ·by_cases f3:i<sa+k
     ·obtain⟨u,u1,u2,eu⟩:=mr j (by omega) f2
      rw[eu,at2,if_neg (by omega)]
      by_cases f4:u<sa+na
      ·exact ga i u b1 (by omega) f4
      ·exact lowA i u b1 f3 (by omega) (by omega)
     ·rw[at2,at2,if_pos (by omega),if_pos (by omega)]
      exact bx hr.2 (by omega) (by omega) L
    ·rw[at2 j,if_neg (by omega)]
     by_cases f3:i<sa+k
     ·rw[at2,if_neg (by omega)]
      exact lowA i j b1 f3 (by omega) b3
     ·by_cases f4:i<sa+na+q
      ·obtain⟨u,u1,u2,eu⟩:=mr i (by omega) f4
       rw[eu];by_cases f5:u<sa+na
       ·exact highB u j (by omega) f5 (by omega) b3
       ·exact gb u j (by omega) (by omega) b3
      ·rw[at2,if_neg (by omega)]
       exact gb i j (by omega) b2 b3
 by_cases e5:na-k<=q
 case' pos=>
  rw[if_pos e5];refine wpS_bind (xF L hA hS1.k ux uy nx ny (by omega) (by omega) h0 hl fun res st2 hm hr=>?_)
 case' neg=>
  rw[if_neg e5];refine wpS_bind (xa L hA hS1.k ux uy nx ny (by omega) (by omega) h0 hl fun res st2 hm hr=>?_)
 all_goals
  obtain⟨f1,f2,f3,f4,f5⟩:=fin res hr;have e6:(sortPriv% PySem.Builtin.SortState.a) st2=p.map (W.kas_item it):=hm.a.trans hS1.a;refine wpS_bind (wpS_modify ?_);refine wpS_bind (wpS_get ?_);have e7:(failedOf st2).isNone=true:=by rw[hm.f,hS1.f];rfl
  refine wpS_pure ?_
  have key:∀b,b=true->∀st3,Stt κ it (f6 p (sa+k) res) st3->pendingOf st3=pendingOf st2->Q b st3:=fun b hb st3 h1 h2=>by
   subst hb;exact h _ st3 ⟨f1,h1,f2,f3,f4⟩ (h2.trans (hm.d.trans hd1))
  refine key _ e7 _ ⟨hm.k.trans hS1.k,?_,hm.f.trans hS1.f⟩ rfl;exact(congrArg (fun a=>List.foldl (fun a (x:Keyed×Nat)=>a.setIfInBounds (sa+k+x.2) x.1) a (aG it res).toList.zipIdx) e6).trans (uD f5)
end
section
variable{c:Nat->Nat->Bool}
noncomputable def bU(c:Nat->Nat->Bool)(p:Array Nat):List (Nat×Nat×Nat)->Nat->Nat->Prop
 | [],a,b=>a=b
 |x::r,a,b=>x.1=a/\1<=x.2.1/\Sg c p a (a+x.2.1)/\bU c p r (a+x.2.1) b
theorem bU.le{p:Array Nat}:∀ {l:List (Nat×Nat×Nat)} {a b:Nat},bU c p l a b->a+l.length<=b
 | [],a,b,h=>by simp only[bU] at h;simp;omega
 |x::r,a,b,⟨_,h1,_,h2⟩=>by
  have:=bU.le h2;simp only[List.length_cons];omega
theorem bU.eq{p q:Array Nat}:∀ {l:List (Nat×Nat×Nat)} {a b:Nat},bU c p l a b->(∀k,a<=k->k<b->q.getD k 0=p.getD k 0)->bU c q l a b
 | [],a,b,h,_=>h
 |x::r,a,b,⟨h0,h1,h2,h3⟩,e=>by
  have:=bU.le h3;exact⟨h0,h1,h2.eq fun k k1 k2=>e k k1 (by omega),bU.eq h3 fun k k1 k2=>e k (by omega) k2⟩
theorem bU.snoc{p:Array Nat}{m w:Nat}:∀ {l:List (Nat×Nat×Nat)} {a b:Nat},bU c p l a b->1<=m->Sg c p b (b+m)->bU c p (l++[(b,m,w)]) a (b+m)
 | [],a,b,h,hm,hs=>by
  simp only[bU] at h;subst h;exact⟨rfl,hm,hs,rfl⟩
 |x::r,a,b,⟨h0,h1,h2,h3⟩,hm,hs=>⟨h0,h1,h2,bU.snoc h3 hm hs⟩
theorem bU.powr{p:Array Nat}(f:Nat×Nat×Nat->Nat×Nat×Nat)(hf:∀x,(f x).1=x.1/\(f x).2.1=x.2.1):∀ {l:List (Nat×Nat×Nat)} {a b:Nat} (i:Nat),bU c p l a b->bU c p (l.modify i f) a b
 | [],a,b,i,h=>by cases i<;>exact h
 |x::r,a,b,0,⟨h0,h1,h2,h3⟩=>by
  show bU c p (f x::r) a b;obtain⟨e1,e2⟩:=hf x;simp only[bU,e1,e2];exact⟨h0,h1,h2,h3⟩
 |x::r,a,b,i+1,⟨h0,h1,h2,h3⟩=>⟨h0,h1,h2,bU.powr f hf i h3⟩
theorem bU.two{p:Array Nat}:∀ {l:List (Nat×Nat×Nat)} {a b:Nat} (i:Nat),bU c p l a b->i+1<l.length->∃sa na pw nb pw2,l[i]?=some (sa,na,pw)/\l[i+1]?=some (sa+na,nb,pw2)/\1<=na/\1<=nb/\a<=sa/\sa+na+nb<=b/\Sg c p sa (sa+na)/\Sg c p (sa+na) (sa+na+nb) /\
   ∀q:Array Nat,(∀k,k<sa->q.getD k 0=p.getD k 0)->(∀k,sa+na+nb<=k->q.getD k 0=p.getD k 0)->Sg c q sa (sa+na+nb)->bU c q ((l.set i (sa,na+nb,pw)).eraseIdx (i+1)) a b
 |x::y::r,a,b,0,⟨h0,h1,h2,h3,h4,h5,h6⟩,_=>by
  obtain⟨sa,na,pw⟩:=x;obtain⟨sb,nb,pw2⟩:=y;simp only at h0 h1 h2 h3 h4 h5 h6;subst h0 h3;have:=bU.le h6;refine⟨_,_,_,_,_,rfl,rfl,h1,h4,Nat.le_refl _,by omega,h2,h5,fun q q1 q2 q3=>?_⟩
  show bU c q ((_,_,_)::r) _ _;refine⟨rfl,by show 1<=na+nb;omega,by rw[←Nat.add_assoc];exact q3,?_⟩
  show bU c q r (sa+(na+nb)) b;rw[←Nat.add_assoc]
  exact h6.eq fun k k1 k2=>q2 k k1
 |x::r,a,b,i+1,⟨h0,h1,h2,h3⟩,hl=>by
  simp only[List.length_cons] at hl;obtain⟨sa,na,pw,nb,pw2,e1,e2,b1,b2,b3,b4,b5,b6,k⟩:=bU.two i h3 (by omega)
  refine⟨sa,na,pw,nb,pw2,e1,e2,b1,b2,by omega,b4,b5,b6,fun q q1 q2 q3=>?_⟩
  exact⟨h0,h1,h2.eq fun k k1 k2=>q1 k (by omega),k q q1 q2 q3⟩
 | [],_,_,_,_,hl=>by simp at hl
 | [x],_,_,0,_,hl=>by simp at hl
end
section
variable{prog:Program}{w:World}{A:Around}{E:Value->Shared->Prop}{s:Shared}{κ:SortKind}{it:Array Keyed}{c:Nat->Nat->Bool}{n:Nat}
structure Rn(κ:SortKind)(it:Array Keyed)(n:Nat)(c:Nat->Nat->Bool)(p:Array Nat)(l:List (Nat×Nat×Nat))(lo:Nat)(st:SortSt):Prop where
 o:Ord n p
 s:Stt κ it p st
 d:pendingOf st=l.toArray
 r:bU c p l 0 lo
theorem oR(L:bW c)(hA:gf prog w A s κ it n c){p:Array Nat}{l:List (Nat×Nat×Nat)}{lo i:Nat}{st:SortSt}{Q:Bool->SortSt->Prop}(h:Rn κ it n c p l lo st)(hlo:lo<=n)(hi:i+1<l.length)(q:∀p' l' st',Rn κ it n c p' l' lo st'->l'.length+1=l.length->(∀k,lo<=k->p'.getD k 0=p.getD k 0)->Q true st'):wpS (model prog w) A E s (yI i) Q st:=by
 obtain⟨sa,na,pw,nb,pw2,e1,e2,b1,b2,b3,b4,b5,b6,k⟩:=bU.two i h.r hi;refine wx L hA h.o h.s (by rw[h.d];simpa using e1) (by rw[h.d];simpa using e2) b1 b2 (by omega) b5 b6 fun p' st' hm hd=>q p' _ st' ⟨hm.o,hm.s,?_,k p' hm.lo hm.hi hm.g⟩ ?_ fun k hk=>hm.hi k (by omega)
 ·rw[hd,h.d]
  simp[Array.eraseIdxIfInBounds,show i+1<l.length from hi]
 ·rw[List.length_eraseIdx_of_lt (by rw[List.length_set];exact hi),List.length_set]
  omega
noncomputable def zI:StateT SortSt Sem Unit:=sortPriv% PySem.Builtin.sortRuns
theorem t8(L:bW c)(hA:gf prog w A s κ it n c){p:Array Nat}{st:SortSt}{Q:Unit->SortSt->Prop}(ho:Ord n p)(hS:Stt κ it p st)(hd:pendingOf st=#[])(h:∀p' st',Ord n p'->Stt κ it p' st'->Sg c p' 0 n->Q () st'):wpS (model prog w) A E s zI Q st:=by
 have hz:((sortPriv% PySem.Builtin.SortState.a) st).size=n:=by
  have:(arrOf st).size=n:=by rw[hS.a,Array.size_map,aZ ho]
  exact this
 refine wpS_bind (wpS_get ?_);rw[hz];dsimp only;generalize (sortPriv% PySem.Builtin.minRun) n n 0=mr;have R0:Rn κ it n c p [] 0 st:=⟨ho,hS,hd,rfl⟩;refine wpS_bind (wpS_mono (wpS_forRange (a:=0) (b:=n) (I:=fun x r st'=>∃lo p l,r=(none,lo)/\Rn κ it n c p l lo st'/\x<=lo/\lo<=n) (Q:=fun r st'=>∃p l,r=(none,n)/\Rn κ it n c p l n st') ?_ ?_ ⟨0,p,[],rfl,R0,Nat.le_refl _,Nat.zero_le _⟩) ?_)
 rotate_left
 ·rintro r st' ⟨lo,p,l,rfl,hR,h1,h2⟩
  obtain rfl:lo=n:=by omega
  exact⟨p,l,rfl,hR⟩
 ·rintro _ st' ⟨p,l,rfl,hR⟩
  dsimp only;refine wpS_bind (wpS_mono (wpS_forRange (a:=0) (b:=n) (I:=fun x r st'=>∃p l,r=(none,())/\Rn κ it n c p l n st'/\l.length+x<=n) (Q:=fun r st'=>∃p l,r=(none,())/\Rn κ it n c p l n st'/\l.length<=1) ?_ ?_ ⟨p,l,rfl,hR,by have:=hR.r.le;omega⟩) ?_)
  ·rintro x r st2 _ hx ⟨p,l,rfl,hR,hl⟩
   refine wpS_bind (wpS_get ?_);have ed:(sortPriv% PySem.Builtin.SortState.pending) st2=l.toArray:=hR.d;rw[ed];by_cases e1:l.toArray.size<=1
   ·rw[if_pos e1]
    exact wpS_pure ⟨p,l,rfl,hR,by simpa using e1⟩
   ·rw[if_neg e1]
    simp only[List.size_toArray] at e1 ⊢;refine wpS_bind (oR L hA hR (Nat.le_refl _) ?_ fun p' l' st' h1 h2 _=>?_)
    ·have:∀(d:Bool)(i:Nat),i+1<l.length->(if d=true then i-1 else i)+1<l.length:=fun d i h=>by cases d<;>simp<;>omega
     exact this _ _ (by omega)
    ·rw[if_neg (by decide)]
     exact wpS_pure ⟨p',l',rfl,h1,by omega⟩
  ·rintro r st2 ⟨p,l,rfl,hR,hl⟩
   exact⟨p,l,rfl,hR,by omega⟩
  ·rintro _ st2 ⟨p,l,rfl,hR,hl⟩
   refine wpS_pure (h p st2 hR.o hR.s ?_)
   match l,hR.r,hl with
   | [],h0,_=>
    simp only[bU] at h0;subst h0;exact fun i j _ _ hj=>by omega
   | [x],⟨_,_,h2,h3⟩,_=>
    simp only[bU] at h3;rw[←h3]
    exact h2
   |_::_::_,_,hl=>simp at hl
 clear R0 hd hS ho hz;rintro x r st1 _ hx ⟨lo,p,l,rfl,hR,h1,h2⟩;dsimp only;by_cases hlo:lo ≥ n
 ·rw[if_pos hlo]
  obtain rfl:lo=n:=by omega
  exact wpS_pure ⟨p,l,rfl,hR⟩
 rw[if_neg hlo];refine wpS_bind (sN L hA (nrem:=n-lo) (by omega) (by omega) hR.o hR.s fun m p2 st2 hN m1 m2 hs=>?_)
 dsimp only;have hR2:Rn κ it n c p2 l lo st2:=⟨hN.o,hN.s,hN.d.trans hR.d,hR.r.eq fun k _ k2=>hN.l k k2⟩;by_cases hm:m<mr
 case' pos=>
  rw[if_pos hm];refine wpS_bind (wpS_lift (wpAny_rule ⟨rfl,?_⟩));refine wpS_bind (xi L hA m1 (show m<=min (n-lo) mr by omega) (by omega) (.refl hN.o hN.s) hs fun p3 st3 hN3 hs3=>?_)
  rw[if_neg (by decide)]
  have hR3:Rn κ it n c p3 l lo st3:=⟨hN3.o,hN3.s,hN3.d.trans hR2.d,hR2.r.eq fun k _ k2=>hN3.l k k2⟩;have g1:1<=min (n-lo) mr:=by omega
  have g2:lo+min (n-lo) mr<=n:=by omega
  generalize min (n-lo) mr=f at *;clear hs hm hN3
 case' neg=>
  rw[if_neg hm];obtain⟨p3,hR3,hs3⟩:∃p3,Rn κ it n c p3 l lo st2/\Sg c p3 lo (lo+m):=⟨p2,hR2,hs⟩;have g1:1<=m:=m1;have g2:lo+m<=n:=by omega
  generalize m=f at *;generalize st2=st3 at *;clear hs hm
 all_goals
  clear hR2 hN hR;refine wpS_bind (wpS_get ?_);have ed:(sortPriv% PySem.Builtin.SortState.pending) st3=l.toArray:=hR3.d;rw[ed]
  have last:∀(p4:Array Nat) (l4:List (Nat×Nat×Nat)) (st4:SortSt),Rn κ it n c p4 l4 lo st4->Sg c p4 lo (lo+f)->wpS (model prog w) A E s (modify (fun s=>SortSt.mk' (kindOf s) (arrOf s) ((pendingOf s).push (lo,f,0)) (gallopOf s) (failedOf s)) >>= fun _=>pure (ForInStep.yield ((none,lo+f):Option Unit×Nat))) (fun r st'=>match r with
    |.done c'=>∃p l,c'=(none,n)/\Rn κ it n c p l n st'
    |.yield c'=>∃lo p l,c'=(none,lo)/\Rn κ it n c p l lo st'/\x+1<=lo/\lo<=n) st4:=fun p4 l4 st4 hR4 hs4=>by
   refine wpS_bind (wpS_modify (wpS_pure ⟨_,p4,l4++[(lo,f,0)],rfl,⟨hR4.o,⟨hR4.s.k,hR4.s.a,hR4.s.f⟩,?_,hR4.r.snoc g1 hs4⟩,by omega,g2⟩))
   show (pendingOf st4).push (lo,f,0)=_;rw[hR4.d];simp
  cases hb:l.toArray.back? with
  |none=>exact last p3 l st3 hR3 hs3
  |some y=>
   obtain⟨s1,n1,w1⟩:=y;dsimp only;generalize (sortPriv% PySem.Builtin.power) n (2*s1+n1) (2*s1+n1+n1+f) n=pw;refine wpS_bind (wpS_mono (wpS_forRange (a:=0) (b:=n) (I:=fun _ r st'=>∃p l,r=(none,())/\Rn κ it n c p l lo st'/\Sg c p lo (lo+f)) (Q:=fun r st'=>∃p l,r=(none,())/\Rn κ it n c p l lo st'/\Sg c p lo (lo+f)) ?_ (fun _ _ h=>h) ⟨p3,l,rfl,hR3,hs3⟩) ?_)
   ·rintro _ r st4 _ _ ⟨p4,l4,rfl,hR4,hs4⟩
    refine wpS_bind (wpS_get ?_);have ed:(sortPriv% PySem.Builtin.SortState.pending) st4=l4.toArray:=hR4.d;rw[ed];by_cases e1:l4.toArray.size>1
    ·rw[if_pos e1]
     cases e2:l4.toArray[l4.toArray.size-2]? with
     |none=>exact wpS_pure ⟨p4,l4,rfl,hR4,hs4⟩
     |some y=>
      dsimp only;split
      ·exact wpS_pure ⟨p4,l4,rfl,hR4,hs4⟩
      ·simp only[List.size_toArray] at e1 ⊢
       refine wpS_bind (oR L hA hR4 h2 (by omega) fun p' l' st' k1 k2 k3=>?_)
       rw[if_neg (by decide)]
       exact wpS_pure ⟨p',l',rfl,k1,hs4.eq fun k q1 _=>k3 k q1⟩
    ·rw[if_neg e1]
     exact wpS_pure ⟨p4,l4,rfl,hR4,hs4⟩
   ·rintro _ st4 ⟨p4,l4,rfl,hR4,hs4⟩
    dsimp only;refine wpS_bind (wpS_modify ?_);refine last p4 (l4.modify (l4.length-1) fun x=>(x.1,x.2.1,pw)) _ ⟨hR4.o,⟨hR4.s.k,hR4.s.a,hR4.s.f⟩,?_,hR4.r.powr (fun x=>(x.1,x.2.1,pw)) (fun x=>⟨rfl,rfl⟩) _⟩ hs4;show (pendingOf st4).modify ((pendingOf st4).size-1) (fun x=>(x.1,x.2.1,pw))=_;rw[hR4.d];simp
end
end L2
namespace L2
open PySem PySem.Spec PySem.Calls PyProof PyProof.Rows PySem.SeqAt
section
variable{prog:Program}{w:World}{A:Around}{E:Value->Shared->Prop}{s:Shared}
noncomputable def i3(vs:List Value)(p:Array Nat):Array Value:=List.toArray (p.toList.map fun i=>vs.getD i Value.none)
noncomputable abbrev ky(vs:List Value):Array Keyed:=vs.toArray.zip vs.toArray
theorem gU{vs:List Value}{i:Nat}(h:i<vs.length):W.kas_item (ky vs) i=(vs.getD i Value.none,vs.getD i Value.none):=by
 unfold W.kas_item;simp[Array.getD_eq_getD_getElem?,h]
theorem lv(vs:List Value):ky vs=((List.range vs.length).toArray).map (W.kas_item (ky vs)):=by
 apply Array.ext_getElem?;intro i;by_cases h:i<vs.length
 ·rw[show (((List.range vs.length).toArray).map (W.kas_item (ky vs)))[i]?=some (W.kas_item (ky vs) i) by simp[h],gU h]
  simp[h]
 ·rw[Array.getElem?_eq_none (by simp;omega),Array.getElem?_eq_none (by simp;omega)]
theorem lI{n:Nat}{vs:List Value}{p:Array Nat}(h:Ord n p):(i3 vs p).size=n:=by
 have:=aZ h;simp[i3,this]
theorem lT{vs:List Value}{p:Array Nat}(h:Ord vs.length p):(p.map (W.kas_item (ky vs))).map (·.2)=i3 vs p:=by
 apply Array.ext';simp only[i3,Array.toList_map,List.map_map];refine List.map_congr_left fun i hi=>?_;rw[Function.comp_apply,gU (h.mem hi)]
theorem rF{a:Addr}{vs:List Value}{c:Nat->Nat->Bool}{b:Bool}{k:Nat}{h0:Heap}{P:PySem.Fin->Shared->Prop}(g:s.heap.get? a=some (seqObj "list" vs.toArray k))(kp:∀x o,h0.get? x=some o->x≠a/\s.heap.get? x=some o)(S:2<=vs.length->qM prog w A h0 s vs c b)(L:bW c)(hs:vs.length<=sizeLine)(q:∀p,Ord vs.length p->Sg c p 0 vs.length->P (.done (.ret .none)) { s with heap:=sortedHeap s.heap a vs (i3 vs p) }):wpAny (model prog w) A (Builtin.«list.sort» ⟨[.ref a],[]⟩) P E s:=by
 have zv:vs.toArray.size<=sizeLine:=by rw[List.size_toArray];exact hs
 rw[list_sort_plain];obtain⟨e1,g1⟩:∃e1,(s.heap.update a (Obj.mapSeq fun _=>(#[]:Array Value))).get? a=some (seqObj "list" #[] e1):=⟨_,get?_update_seq g fun _=>#[]⟩;refine wpAny_bind (listItems_at g rfl (wpAny_bind (listUpdate_at g rfl (wpAny_bind (seqEpoch_at g1 rfl (wpAny_bind (wpAny_newTuple (wpAny_bind (wpAny_newList (wpAny_holding ?_) (Nat.zero_le _))) ?_)))) zv (Nat.zero_le _))))
 case refine_2=>show vs.length<=_;omega
 have g3:(((s.heap.update a (Obj.mapSeq fun _=>(#[]:Array Value))).push (seqObj "tuple" vs.toArray 0)).push (seqObj "list" #[] 0)).get? a=some (seqObj "list" #[] e1):=Heap.get?_push_of_some _ (Heap.get?_push_of_some _ g1)
 have k3:lp h0 (((s.heap.update a (Obj.mapSeq fun _=>(#[]:Array Value))).push (seqObj "tuple" vs.toArray 0)).push (seqObj "list" #[] 0)):=fun x o e=>by
  obtain⟨nx,ex⟩:=kp x o e;exact Heap.get?_push_of_some _ (Heap.get?_push_of_some _ ((Heap.get?_update_ne _ _ _ _ nx).trans ex))
 show wpAny (model prog w) A _ P E { s with heap:=((s.heap.update a (Obj.mapSeq fun _=>(#[]:Array Value))).push (seqObj "tuple" vs.toArray 0)).push (seqObj "list" #[] 0) }
 have fin:∀(p:Array Nat)(out:Array Value),Ord vs.length p->Sg c p 0 vs.length->out=i3 vs p->P (.done (.ret .none)) { s with heap:=(((s.heap.update a (Obj.mapSeq fun _=>(#[]:Array Value))).push (seqObj "tuple" vs.toArray 0)).push (seqObj "list" #[] 0)).update a (Obj.mapSeq fun _=>out) }:=fun p out h1 h2 e=>by
  subst e;exact q p h1 h2
 generalize hh:((s.heap.update a (Obj.mapSeq fun _=>(#[]:Array Value))).push (seqObj "tuple" vs.toArray 0)).push (seqObj "list" #[] 0)=hp at g3 k3 fin ⊢;dsimp only;by_cases h2:vs.toArray.size<2
 ·rw[if_pos h2,if_pos h2]
  refine wpAny_bind (wpAny_pure ?_);rw[StateT.run_pure];refine wpAny_bind (wpAny_pure ?_);dsimp only
  have e2:(arrOf (SortSt.mk' general' (vs.toArray.zip vs.toArray) #[] 7 none)).map (·.2)=i3 vs (List.range vs.length).toArray:=by
   show (ky vs).map (·.2)=_
   rw[lv];exact lT (.refl _)
  rw[e2];refine wpAny_bind (seqEpoch_at g3 rfl (wpAny_bind (listUpdate_at g3 rfl ?_ (Nat.zero_le _) (by rw[lI (.refl _)];omega))))
  simp only[bne_self_eq_false,Bool.false_eq_true,if_false];refine wpAny_pure (fin _ _ (.refl _) (fun i j _ h3 h4=>?_) rfl);rw[List.size_toArray] at h2;obtain rfl:i=j:=by omega
  exact L.self _
 ·rw[if_neg h2,if_neg h2]
  rw[List.size_toArray] at h2;have S:=S (by omega)
  obtain⟨fs,T,t1,t2,t3,t4,t5⟩:=S.kind hp k3;refine wpAny_bind (W.kat_kind (T:=T) t1 (by omega) t3 t4 ?_)
  rw[t5];refine wpAny_bind (wpAny_mono (t8 (prog:=prog) (w:=w) (A:=A) (E:=E) (s:={ s with heap:=hp }) (κ:=tuples' b) (it:=ky vs) (c:=c) (n:=vs.length) (p:=(List.range vs.length).toArray) (Q:=fun _ st'=>∃p,Ord vs.length p/\Stt (tuples' b) (ky vs) p st'/\Sg c p 0 vs.length) L (fun i j hi hj C E' hC=>?_) (.refl _) ⟨rfl,lv vs,rfl⟩ rfl fun p st' h1 h2 h3=>⟨p,h1,h2,h3⟩) ?_ fun _ _ e=>e)
  ·rw[gU hi,gU hj]
   exact S.ask hp k3 i j hi hj C _ hC
  ·rintro⟨⟨⟩,st'⟩ s' ⟨rfl,p,b1,b2,b3⟩
   dsimp only at b1 b2 ⊢;have e2:(arrOf st').map (·.2)=i3 vs p:=by rw[b2.a];exact lT b1
   rw[e2];refine wpAny_bind (seqEpoch_at g3 rfl (wpAny_bind (listUpdate_at g3 rfl ?_ (Nat.zero_le _) (by rw[lI b1];omega))))
   rw[b2.f];simp only[bne_self_eq_false,Bool.false_eq_true,if_false];exact wpAny_pure (fin p _ b1 b3 rfl)
theorem mI{l:Addr}{ob:Obj}{vs:List Value}{m:Nat}{c:Nat->Nat->Bool}{b:Bool}{Q:Value->Shared->Prop}(g:s.heap.get? l=some ob)(gc:ob.cls=.type "list"\/ob.cls=.type "tuple")(gd:ob.data=.seq vs.toArray m)(S:2<=vs.length->∀A':Around,A'.units<=A.units+3->qM prog w A' s.heap s vs c b)(L:bW c)(hs:vs.length<=sizeLine)(q:∀p,Ord vs.length p->Sg c p 0 vs.length->Q (.ref (s.heap.objs.size+1)) { s with heap:=sortedAll s.heap vs (i3 vs p) }):wpAny (model prog w) A (call (.builtin "sorted") [.ref l]) Q E s:=by
 refine Calls.call_function_entry kind_sorted plain_sorted entry_sorted (args_sorted1 _) ?_;unfold Builtin.«sorted»;have n1:((s.heap.push (seqObj "list" #[] 0)).update s.heap.objs.size (Obj.mapSeq (·++vs.toArray))).objs.size=s.heap.objs.size+1:=by rw[Heap.size_update,size_push']
 refine wpAny_bind (m:=checkCount "sorted" 1 1 _) (wpAny_pure (wpAny_bind (k8 g gc gd hs (wpAny_bind (wpAny_newList ?_ (by omega))))))
 have g2:(((s.heap.push (seqObj "list" #[] 0)).update s.heap.objs.size (Obj.mapSeq (·++vs.toArray))).push (seqObj "list" vs.toArray 0)).get? (s.heap.objs.size+1)=some (seqObj "list" vs.toArray 0):=by
  rw[←n1];exact Heap.get?_push_size _ rfl
 have kp:∀x o,s.heap.get? x=some o->x≠s.heap.objs.size+1/\(((s.heap.push (seqObj "list" #[] 0)).update s.heap.objs.size (Obj.mapSeq (·++vs.toArray))).push (seqObj "list" vs.toArray 0)).get? x=some o:=fun x o e=>by
  have lt:=Heap.lt_size e;exact⟨Nat.ne_of_lt (Nat.lt_succ_of_lt lt),Heap.get?_push_of_some _ ((Heap.get?_update_ne _ _ _ _ (Nat.ne_of_lt lt)).trans (Heap.get?_push_of_some _ e))⟩
 show wpAny _ _ _ _ _ { s with heap:=((s.heap.push (seqObj "list" #[] 0)).update s.heap.objs.size (Obj.mapSeq (·++vs.toArray))).push (seqObj "list" vs.toArray 0) }
 rw[n1];refine wpAny_bind (wpAny_holding (wpAny_call_entry slot_list_sort ⟨_,g2,rfl⟩ entry_list_sort (rF (c:=c) (b:=b) g2 kp (fun h2=>?_) L hs fun p h1 h2=>⟨_,rfl,wpAny_pure ⟨_,rfl,q p h1 h2⟩⟩) (args_list_sort _)));have S1:=S h2 A.in1.in1 (by show A.units+1+1<=A.units+3;omega)
 exact⟨S1.kind,fun h kh i j hi hj C E' hC=>S1.ask h kh i j hi hj C E' hC⟩
end
mutual
noncomputable def enc:D->List Int
 |.int i=>[i]
 |.tup ds=>mm ds
 |_=>[]
noncomputable def mm:List D->List Int
 | []=>[0]
 |d::ds=>1::(enc d++mm ds)
end
mutual
noncomputable def nu:D->Bool
 |.int _=>true
 |.tup ds=>nus ds
 |_=>false
noncomputable def nus:List D->Bool
 | []=>true
 |d::ds=>nu d && nus ds
end
mutual
theorem pB:∀(a b:D),nu a=true->nu b=true->eqD a b=true->a=b
 |.int i,.int j,_,_,h=>by rw[hG] at h;simp at h;rw[h]
 |.tup xs,.tup ys,h1,h2,h=>by
  simp only[nu] at h1 h2;rw[r6 xs ys h1 h2 (by simpa only[eqD] using h)]
 |.int _,.tup _,_,_,h=>by simp[eqD] at h
 |.tup _,.int _,_,_,h=>by simp[eqD] at h
 |.non,_,h,_,_=>by simp[nu] at h
 |.bl _,_,h,_,_=>by simp[nu] at h
 |.str _,_,h,_,_=>by simp[nu] at h
 |.lst _,_,h,_,_=>by simp[nu] at h
 |.dk _,_,h,_,_=>by simp[nu] at h
 |.dt _,_,h,_,_=>by simp[nu] at h
 |_,.non,_,h,_=>by simp[nu] at h
 |_,.bl _,_,h,_=>by simp[nu] at h
 |_,.str _,_,h,_=>by simp[nu] at h
 |_,.lst _,_,h,_=>by simp[nu] at h
 |_,.dk _,_,h,_=>by simp[nu] at h
 |_,.dt _,_,h,_=>by simp[nu] at h
theorem r6:∀(a b:List D),nus a=true->nus b=true->bP a b=true->a=b
 | [],[],_,_,_=>rfl
 | [],_::_,_,_,h=>by simp[bP] at h
 |_::_,[],_,_,h=>by simp[bP] at h
 |x::xs,y::ys,h1,h2,h=>by
  simp only[nus,bP,Bool.and_eq_true] at h1 h2 h;rw[pB x y h1.1 h2.1 h.1,r6 xs ys h1.2 h2.2 h.2]
end
mutual
theorem uX:∀(a:D),nu a=true->cmD a a=true
 |.int i,_=>rfl
 |.tup xs,h=>by
  simp only[nu] at h;simp only[cmD];exact k6 xs h
 |.non,h=>by simp[nu] at h
 |.bl _,h=>by simp[nu] at h
 |.str _,h=>by simp[nu] at h
 |.lst _,h=>by simp[nu] at h
 |.dk _,h=>by simp[nu] at h
 |.dt _,h=>by simp[nu] at h
theorem k6:∀(a:List D),nus a=true->d5 a a=true
 | [],_=>rfl
 |x::xs,h=>by
  simp only[nus,Bool.and_eq_true] at h;simp only[d5,dF,if_true];exact k6 xs h.2
end
mutual
theorem h7:∀(a b:D),nu a=true->nu b=true->cmD a b=true->∀s t,bi (enc a++s) (enc b++t)=if eqD a b=true then bi s t else ltD a b
 |.int i,.int j,_,_,_,s,t=>by
  simp only[enc,List.cons_append,List.nil_append,bi,hG,ltD,beq_iff_eq]
 |.tup xs,.tup ys,h1,h2,h3,s,t=>by
  simp only[nu] at h1 h2;simp only[cmD] at h3;simp only[enc,eqD,ltD];exact nL xs ys h1 h2 h3 s t
 |.int _,.tup _,_,_,h,_,_=>by simp[cmD] at h
 |.tup _,.int _,_,_,h,_,_=>by simp[cmD] at h
 |.non,_,h,_,_,_,_=>by simp[nu] at h
 |.bl _,_,h,_,_,_,_=>by simp[nu] at h
 |.str _,_,h,_,_,_,_=>by simp[nu] at h
 |.lst _,_,h,_,_,_,_=>by simp[nu] at h
 |.dk _,_,h,_,_,_,_=>by simp[nu] at h
 |.dt _,_,h,_,_,_,_=>by simp[nu] at h
 |_,.non,_,h,_,_,_=>by simp[nu] at h
 |_,.bl _,_,h,_,_,_=>by simp[nu] at h
 |_,.str _,_,h,_,_,_=>by simp[nu] at h
 |_,.lst _,_,h,_,_,_=>by simp[nu] at h
 |_,.dk _,_,h,_,_,_=>by simp[nu] at h
 |_,.dt _,_,h,_,_,_=>by simp[nu] at h
theorem nL:∀(a b:List D),nus a=true->nus b=true->d5 a b=true->∀s t,bi (mm a++s) (mm b++t)=if bP a b=true then bi s t else fc a b
 | [],[],_,_,_,s,t=>by simp[mm,bi,bP]
 | [],_::_,_,_,_,s,t=>by simp[mm,bi,bP,fc]
 |_::_,[],_,_,_,s,t=>by simp[mm,bi,bP,fc]
 |x::xs,y::ys,h1,h2,h3,s,t=>by
  simp only[nus,Bool.and_eq_true] at h1 h2;simp only[d5] at h3;simp only[mm,List.cons_append,List.append_assoc,bi,if_true,bP,fc,Bool.and_eq_true];by_cases e:eqD x y=true
  ·obtain rfl:=pB x y h1.1 h2.1 e
   rw[if_pos e] at h3;rw[h7 x x h1.1 h2.1 (uX x h1.1),if_pos e,nL xs ys h1.2 h2.2 h3,if_pos e];simp[e]
  ·rw[if_neg e] at h3
   rw[h7 x y h1.1 h2.1 h3,if_neg e,if_neg e,if_neg (fun z=>e z.1)]
end
theorem s0{a b:D}(h1:nu a=true)(h2:nu b=true)(h3:cmD a b=true):ltD a b=bi (enc a) (enc b):=by
 have e0:=h7 a b h1 h2 h3 [] [];rw[List.append_nil,List.append_nil] at e0;rw[e0];by_cases e:eqD a b=true
 ·obtain rfl:=pB a b h1 h2 e
  rw[if_pos e];exact lt_self a h1
 ·rw[if_neg e]
where
 lt_self:∀(a:D),nu a=true->ltD a a=false
 |.int i,_=>by simp[ltD]
 |.tup xs,h=>by simp only[nu] at h;simp only[ltD];exact lts_self xs h
 |.non,h=>by simp[nu] at h
 |.bl _,h=>by simp[nu] at h
 |.str _,h=>by simp[nu] at h
 |.lst _,h=>by simp[nu] at h
 |.dk _,h=>by simp[nu] at h
 |.dt _,h=>by simp[nu] at h
 lts_self:∀(a:List D),nus a=true->fc a a=false
 | [],_=>rfl
 |x::xs,h=>by
  simp only[nus,Bool.and_eq_true] at h
  simp only[fc,dF,if_true]
  exact lts_self xs h.2
theorem oM{a b:D}(h1:nu a=true)(h2:nu b=true)(h3:cmD a b=true)(e:enc a=enc b):a=b:=by
 by_cases h:eqD a b=true
 ·exact pB a b h1 h2 h
 ·have l1:=h7 a b h1 h2 h3 [0] [1]
  have l2:=h7 a b h1 h2 h3 [1] [0];rw[if_neg h,e] at l1 l2
  have s1:∀x:List Int,bi (x++[0]) (x++[1])=true:=fun x=>by
   induction x with
   |nil=>rfl
   |cons a x ih=>simpa[bi] using ih
  have s2:∀x:List Int,bi (x++[1]) (x++[0])=false:=fun x=>by
   induction x with
   |nil=>rfl
   |cons a x ih=>simpa[bi] using ih
  rw[s1] at l1;rw[s2,←l1] at l2
  cases l2
noncomputable def xu(d:D):Prop:=∃ds r,d=.tup (.tup ds::r)
section
variable{X:Cx}{pins:List (Addr×Obj)}{σ:St}{H:Hp}{s:Shared}{A:Around}
theorem sZ(I:Inv X pins σ H s):∀ {W:List D} {xs:List V} {vs:List Value},(∀d∈W,xu d)->aj H W xs->ar xs vs->∃fs,PySem.W.KatTups s.heap vs fs/\fs.length=vs.length/\∀v∈fs,∃a o,v=.ref a/\s.heap.get? a=some o/\o.cls=.type "tuple"
 | [],xs,vs,_,h,r=>by
  simp only[aj] at h;subst h;cases r;exact⟨[],trivial,rfl,by simp⟩
 |d::W,xs,vs,hk,h,r=>by
  simp only[aj] at h;obtain⟨x,xr,rfl,hx,hxr⟩:=h
  cases r with
  | @cons _ v _ vs rx rxr=>
  obtain⟨fs,g1,g2,g3⟩:=sZ I (fun e he=>hk e (List.mem_cons_of_mem _ he)) hxr rxr;obtain⟨ds,aL,e⟩:=hk d List.mem_cons_self;subst e;simp only[Dat] at hx;obtain⟨a,ys,rfl,ha,hys⟩:=hx;simp only[aj] at hys;obtain⟨fx,yr,rfl,hf,_⟩:=hys;simp only[Dat] at hf;obtain⟨b,zs,rfl,hb,_⟩:=hf;cases rx;obtain⟨_,its,e4,⟨o,e5,e6,n,e7⟩,_⟩:=I.hok a _ ha;obtain⟨_,_,_,⟨o2,e8,e9,_⟩,_⟩:=I.hok b _ hb
  cases e4 with
  | @cons _ fv _ vr rf _=>
   cases rf;refine⟨.ref b::fs,PySem.W.KatTups.cons e5 e6 e7 (by simp) g1,by simp[g2],fun v hv=>?_⟩
   rcases List.mem_cons.mp hv with rfl|hv
   ·exact⟨b,o2,rfl,e8,e9⟩
   ·exact g3 v hv
theorem xh(I:Inv X pins σ H s){n:Nat}(hu:A.units+n<cLine){W:List D}{xs:List V}{vs:List Value}{c:Nat->Nat->Bool}(hk:∀d∈W,xu d)(hd:bC W<=n)(hx:aj H W xs)(r:ar xs vs)(hc:∀d∈W,∀e∈W,cmD d e=true)(hl:∀i j,i<W.length->j<W.length->c i j=ltD (W.getD i .non) (W.getD j .non)):qM X.prog X.w A s.heap s vs c false:=by
 have inv:∀h,lp s.heap h->Inv X pins σ H { s with heap:=h }:=fun h kh=>I.kept (t':=s.toks) fun b o e=>kh b o e;have hlen:vs.length=W.length:=by rw[←r.length,hx.length]
 refine⟨fun h kh=>?_,fun h kh i j hi hj C E q=>?_⟩
 ·obtain⟨fs,f1,f2,f3⟩:=sZ (inv h kh) hk hx r
  refine⟨fs,.type "tuple",f1,f2,fun v hv=>?_,rfl,rfl⟩;obtain⟨a,o,rfl,e1,e2⟩:=f3 v hv;exact e2 ▸ (PySem.W.Looks.ld e1).andThen .now
 ·have J:=inv h kh
  have at':∀i,i<vs.length->∃a ds ys its o m,W.getD i .non=.tup ds/\D.tup ds∈W/\vs.getD i Value.none=.ref a/\aj H ds ys/\ar ys its/\h.get? a=some o/\o.data=.seq its.toArray m:=fun i hi=>by
   have hw:i<W.length:=by omega
   have hm:W[i]∈W:=List.getElem_mem hw;obtain⟨ds,aL,e⟩:=hk _ hm;obtain⟨x,ex,dx⟩:=hx.get (List.getElem?_eq_getElem hw);obtain⟨u,eu,ru⟩:=r.get ex;rw[e] at dx hm;simp only[Dat] at dx;obtain⟨a,ys,rfl,ha,hys⟩:=dx;cases ru;obtain⟨_,its,r4,⟨o,e5,e6,m,e7⟩,_⟩:=(show bj X.prog X.w H h a (.tup ys) from J.hok a _ ha)
   exact⟨a,_,ys,its,o,m,by rw[List.getD_eq_getElem?_getD,List.getElem?_eq_getElem hw,e];rfl,hm,by rw[List.getD_eq_getElem?_getD,eu];rfl,hys,r4,e5,e7⟩
  obtain⟨a1,ds,ys,its,o1,m1,w1,i1,v1,d1,r1,g1,b1⟩:=at' i hi;obtain⟨a2,es,zs,jts,o2,m2,w2,i2,v2,d2,r2,g2,b2⟩:=at' j hj;rw[hl i j (by omega) (by omega),w1,w2] at q
  rw[v1,v2];refine PySem.W.kat_lt g1 b1 g2 b2 ?_
  have dd:bC ds<=n:=by
   have:=cV i1;simp only[dep] at this;omega
  have:=m9 (Q:=C) J hu (b:=false) 0 dd d1 d2 r1 r2 (hc _ i1 _ i2) (fun z=>by simp at z) q
  simpa using this
end
structure Rows(W:List D):Prop where
 nu:∀d∈W,nu d=true
 cm:∀d∈W,∀e∈W,cmD d e=true
 kd:(∀d∈W,j4 false d)\/∀d∈W,xu d
noncomputable def pP(R:List D):Prop:=R.Pairwise fun a b=>bi (enc b) (enc a)=false
theorem n6{W:List D}(h:Rows W):∀ {A B:List D},(∀d∈A,d∈W)->A.Perm B->pP A->pP B->A=B
 | [],B,_,p,_,_=>by rw[List.nil_perm.mp p]
 |a::A,[],_,p,_,_=>by simp at p
 |a::A,b::B,s,p,h1,h2=>by
  have ma:a∈b::B:=p.mem_iff.mp (List.mem_cons_self ..);have mb:b∈a::A:=p.mem_iff.mpr (List.mem_cons_self ..)
  have e:a=b:=by
   rcases List.mem_cons.mp ma with h|h'
   ·exact h
   ·rcases List.mem_cons.mp mb with h|h''
    ·exact h.symm
    ·have wa:=s a (List.mem_cons_self ..)
     have wb:=s b mb;exact oM (h.nu a wa) (h.nu b wb) (h.cm a wa b wb) (mU _ _ (List.rel_of_pairwise_cons h1 h'') (List.rel_of_pairwise_cons h2 h'))
  subst e;rw[n6 h (fun d hd=>s d (List.mem_cons_of_mem _ hd)) (List.Perm.cons_inv p) h1.of_cons h2.of_cons]
noncomputable def cE(W:List D):Nat->Nat->Bool:=fun i j=>bi (enc (W.getD i .non)) (enc (W.getD j .non))
theorem wv(W:List D):bW (cE W):=⟨fun i j h=>mP _ _ h,fun i j k h1 h2=>ng _ _ _ h1 h2⟩
theorem Rows.at'{W:List D}(h:Rows W):∀i j,i<W.length->j<W.length->cE W i j=ltD (W.getD i .non) (W.getD j .non):=fun i j hi hj=>by
 have g:∀i,i<W.length->W.getD i .non∈W:=fun i hi=>by rw[List.getD_eq_getElem?_getD,List.getElem?_eq_getElem hi];exact List.getElem_mem hi
 exact(s0 (h.nu _ (g i hi)) (h.nu _ (g j hj)) (h.cm _ (g i hi) _ (g j hj))).symm
noncomputable def no(xs:List V)(p:Array Nat):List V:=p.toList.map fun i=>xs.getD i .non
noncomputable def nj(W:List D)(p:Array Nat):List D:=p.toList.map fun i=>W.getD i .non
theorem jy{W:List D}{p:Array Nat}(h:Ord W.length p):(nj W p).Perm W:=by
 have h':p.toList.Perm (List.range W.length):=by simpa using h.toList
 refine(h'.map fun i=>W.getD i .non).trans (.of_eq ?_);apply List.ext_getElem?;intro i;by_cases hi:i<W.length
 ·rw[List.getElem?_map,List.getElem?_range hi,List.getElem?_eq_getElem hi]
  simp[hi]
 ·rw[List.getElem?_eq_none (by simpa using hi),List.getElem?_eq_none (by simpa using hi)]
theorem qF{W:List D}{p:Array Nat}(h:Ord W.length p)(hs:Sg (cE W) p 0 W.length):pP (nj W p):=by
 have hz:=aZ h;refine List.pairwise_iff_getElem.mpr fun i j hi hj hij=>?_;have hl:(nj W p).length=W.length:=(jy h).length_eq
 have at_:∀k (hk:k<(nj W p).length),(nj W p)[k]=W.getD (p.getD k 0) .non:=fun k hk=>by
  simp[nj,Array.getD_eq_getD_getElem?,show k<p.size by omega]
 rw[at_ i hi,at_ j hj];exact hs i j (Nat.zero_le _) (by omega) (by omega)
noncomputable def sF(K:PySem.W.Frag):List V->Hp->VK->Prop:=fun xs H Q=>∃(q:Addr)(ys:List V)(W:List D),xs=[.ref q]/\(SqL K H q ys\/SqT K H q ys)/\aj H W ys/\(2<=W.length->Rows W)/\bC W<=90 /\
 ∀p l,Ord W.length p->Sg (cE W) p 0 W.length->H l=none->Q (.ref l) (upd H l (.lst (no ys p)))
theorem kr{X:Cx}(K:PySem.W.Frag)(hK:X.K=K)(hu:X.A.units+100<cLine):cy X (.builtin "sorted") (sF K):=by
 subst hK;intro pins s σ H xs us Q I r h;obtain⟨a,ys,W,rfl,hq,hd,hr,hdp,q⟩:=h;obtain⟨u,rfl,rx⟩:=jF r;cases rx
 obtain⟨its,ob,m,r',g,gc,gd,hz⟩:∃its ob m,ar ys its/\s.heap.get? a=some ob/\(ob.cls=.type "list"\/ob.cls=.type "tuple")/\ob.data=.seq its.toArray m/\ys.length<=sizeLine:=by
  rcases hq with hq|hq
  ·obtain⟨its,r',pl,hz⟩:=I.list hq
   obtain⟨ob,g,gc,m,gd⟩:=pl.isList;exact⟨its,ob,m,r',g,.inl gc,gd,hz⟩
  ·obtain⟨its,r',pl,hz⟩:=I.tuple hq
   obtain⟨ob,g,gc,m,gd⟩:=pl;exact⟨its,ob,m,r',g,.inr gc,gd,hz⟩
 have e1:its.length=W.length:=by rw[←r'.length,hd.length]
 have e2:ys.length=its.length:=r'.length
 have fin:∀b,(2<=its.length->∀A':Around,A'.units<=X.A.units+3->qM X.prog X.w A' s.heap s its (cE W) b)->wpAny (model X.prog X.w) X.A (call (.builtin "sorted") [.ref a]) (fun v s1=>∃x H1,Inv X pins σ H1 s1/\aF x v/\Q x H1) X.xe s:=fun b S=>by
  refine mI (c:=cE W) (b:=b) g gc gd S (wv W) (by omega) fun p h1 h2=>?_
  obtain⟨e,he⟩:=sortedAll_at s.heap its (i3 its p)
  have hv:ar (no ys p) (p.toList.map fun i=>its.getD i Value.none):=by
   unfold no;refine ir fun i hi=>?_;have hi':=h1.mem hi;obtain⟨u,hu,ru⟩:=r'.get (List.getElem?_eq_getElem (by omega:i<ys.length))
   rw[List.getD_eq_getElem?_getD,List.getD_eq_getElem?_getD,hu,List.getElem?_eq_getElem (by omega:i<ys.length)]
   exact ru
  have hl2:(no ys p).length<=sizeLine:=by
   have a:=aZ h1;simp[no];omega
  rw[e1] at h1 h2;exact⟨.ref (s.heap.objs.size+1),_,I.laid (t':=s.toks) (fun b o e=>sortedAll_old e) (Nat.le_succ _) (show bj X.prog X.w _ _ _ (.lst (no ys p)) from ⟨hl2,_,e,hv,he⟩),rfl,q p _ h1 h2 (I.hok.fresh (Nat.le_succ _))⟩
 by_cases h2:2<=W.length
 ·have R:=hr h2
  rcases R.kd with hk|hk
  ·refine fin true fun _ A' hA=>?_
   exact wn I (n:=90) (by omega) hk hdp hd r' R.cm R.at'
  ·refine fin false fun _ A' hA=>?_
   exact xh I (n:=90) (by omega) hk hdp hd r' R.cm R.at'
 ·exact fin true fun h=>absurd h (by omega)
theorem q8{H:Hp}{W:List D}{xs:List V}(h:aj H W xs){p:Array Nat}(hp:Ord W.length p):aj H (nj W p) (no xs p):=iS h fun i hi=>hp.mem hi
noncomputable def pp:AC:=fun xs ω Q=>∃(x:AV)(W:List D),xs=[x]/\(x=.d (.tup W)\/aQ ω x=some (.lst W))/\(2<=W.length->Rows W)/\bC W<=90/\∀R l,R.Perm W->pP R->ω l=none->Q (.r (.ref l)) (ω.put l (.own (R.map AV.d)))
theorem mG(xs:List AV)(ω:Om)(Q:AV->Om->Prop):pp xs ω Q=∃(x:AV)(W:List D),xs=[x]/\(x=.d (.tup W)\/aQ ω x=some (.lst W))/\(2<=W.length->Rows W)/\bC W<=90/\∀R l,R.Perm W->pP R->ω l=none->Q (.r (.ref l)) (ω.put l (.own (R.map AV.d))):=rfl
theorem xz{F:Fs}{H:Hp}{ω:Om}{x:AV}{v:V}{W:List D}{K:PySem.W.Frag}(rp:Rep F H ω)(r:RV (cut F H ω) x v)(h:x=.d (.tup W)\/aQ ω x=some (.lst W)):∃a us,v=.ref a/\(SqL K H a us\/SqT K H a us)/\aj (cut F H ω) W us:=by
 rcases h with rfl|h
 ·simp only[RV,Dat] at r
  obtain⟨a,us,rfl,z1,z2⟩:=r;exact⟨a,us,rfl,.inr (.inl (.inl (az _ _ z1))),z2⟩
 ·obtain⟨a,us,rfl,z1,z2⟩:=dc rp r h
  exact⟨a,us,rfl,.inl (.inl (.inl z1)),z2⟩
theorem rW{K:PySem.W.Frag}:ig (sF K) pp:=⟨fun F H ω vs xs Q Q' rp rv ⟨x,W,e1,e2,e3,e4,q⟩ k=>by
 subst e1;obtain⟨v,rfl,r⟩:=ip rv;obtain⟨a,us,rfl,z1,z2⟩:=xz (K:=K) rp r e2
 exact⟨a,us,W,rfl,z1,z2.same az,e3,e4,fun p l h1 h2 hl=>k.own rp (RVs.dats.mpr (q8 z2 h1)) (fun l hl=>q _ l (jy h1) (qF h1 h2) hl) l hl⟩⟩
end L2
namespace L2
open PySem PySem.Spec PyProof PyProof.Rows
theorem Fun.AD{P:Program}{w:World}{K:W.Frag}{mg:Str->Option Value}{base:Heap}{x qual:Str}{st:Stmt}{f:Addr}{fd:FuncData}{N ps:List Str}{k:Nat}{sp:gM}(F:Fun K x qual st f fd)(S:aX N ps (defScope st))(len:∀xs ω Q Ex,sp xs ω Q Ex->xs.length=ps.length)
  (hbody:∀(cdv:Value)(A:Around)(outer:List Env)(s:Shared)(H:Hp)(E:XK),cG k (A.deeper (envOfC qual (defScope st) s.heap.objs.size f cdv)) ->
   ∃t t',PSs (fk (CXx P w) P w K mg base N qual (defScope st) f cdv A outer s H E) (defBody st) t/\fX E t t'/\∀xs ω Q' Ex,sp xs ω Q' Ex->t' { nx:=fun _ ω'=>Q' (.d .non) ω',rt:=Q' } (fun C ω'=>Ex C (ω'.only ω)) (eK N xs) ω):bD P w K mg base (CXx P w) (k+1) f fd ps (og sp):=by
 obtain⟨oc,od,kV,doc,pm,an,cdv,ct,osl,rfl,lk,hcd⟩:=F.ex;refine vA lk hcd S (fun vs H Q E h=>?_) (fun A outer s H vs Q E hr h=>?_)
 ·obtain⟨F',xs,ω,Q',Ex,rp,rv,h,_⟩:=h
  rw[rv.length,len xs ω Q' Ex h]
 ·obtain⟨t,t',h1,h2,h3⟩:=hbody cdv A outer s H E hr
  obtain⟨F',xs,ω,Q',Ex,rp,rv,h,kq,kx⟩:=h;refine⟨t,h1,h2.run F' H ω _ _ _ _ _ rp (RS.start rv) (h3 xs ω Q' Ex h) ⟨?_,kq,fun _ _ _ _ _ _ _ z=>z.elim,fun _ _ _ _ _ _ _ z=>z.elim⟩ ?_⟩
  ·exact fun ρ' ω' σ' H' e1 e2 e3 q=>kq (.d .non) ω' .non H' e1 e2 (by simp[RV,Dat]) q
  ·exact fun C ω' a H' e1 e2 q=>kx C (ω'.only ω) a H' e1.only.1 e2.only q
end L2
set_option maxHeartbeats 4000000
namespace My
open PySem PySem.Spec L2
noncomputable def top(i:Nat):Stmt:=PySem.Challenge.pw_unlikeplace_k37_boxes_told.main.body.getD i (.Pass ⟨0,0,0,0⟩)
noncomputable abbrev fm:Stmt:=top 12
noncomputable abbrev gN:Stmt:=top 13
noncomputable abbrev eM:Stmt:=top 14
noncomputable abbrev kl:Stmt:=top 16
noncomputable abbrev h9:Stmt:=top 17
noncomputable abbrev gP:Stmt:=top 18
noncomputable abbrev eJ:Stmt:=top 24
noncomputable abbrev c9:Stmt:=top 25
noncomputable abbrev eG:Stmt:=top 26
noncomputable abbrev jr:Stmt:=top 27
theorem lO:aX ["box"] ["box"] (defScope fm):=fsc rfl rfl rfl (by decide +kernel)
theorem qG:aX ["case"] ["case"] (defScope gN):=fsc rfl rfl rfl (by decide +kernel)
theorem dZ:aX ["words","ways","word"] ["words"] (defScope eM):=fsc rfl rfl rfl (by decide +kernel)
theorem eo:aX ["_law_script","_law_at","_law_cell","_law_far"] ["_law_script","_law_at"] (defScope kl):=fsc rfl rfl rfl (by decide +kernel)
theorem cK:aX ["_law_pen_here","_law_many_here","_law_digit","_law_turn","_law_mixed"] ["_law_pen_here","_law_many_here"] (defScope h9):=fsc rfl rfl rfl (by decide +kernel)
theorem dB:aX ["_law_pen_here","_law_most","_law_places","_law_left","_law_yes","_law_no","_law_k"] ["_law_pen_here","_law_most"] (defScope gP):=fsc rfl rfl rfl (by decide +kernel)
theorem dD:aX ["_law_pen_here","_law_places","_law_left","_law_some","_law_at"] ["_law_pen_here"] (defScope eJ):=fsc rfl rfl rfl (by decide +kernel)
theorem ka:aX ["_law_some","_law_words"] ["_law_some","_law_words"] (defScope c9):=fsc rfl rfl rfl (by decide +kernel)
theorem dQ:aX ["_law_case_here","_law_caught","e"] ["_law_case_here"] (defScope eG):=fsc rfl rfl rfl (by decide +kernel)
theorem fw:aX ["_law_script","_law_at","_law_pen_here","_law_case_here","_law_told","_law_kept","_law_k"] ["_law_script"] (defScope jr):=fsc rfl rfl rfl (by decide +kernel)
set_option genInjectivity false in
structure Adr where
 bY:Addr
 fq:FuncData
 cZ:Addr
 g6:FuncData
 cr:Addr
 gl:FuncData
 dL:Addr
 jZ:FuncData
 cS:Addr
 iP:FuncData
 dP:Addr
 kC:FuncData
 cU:Addr
 iL:FuncData
 bA:Addr
 eC:FuncData
 bz:Addr
 eB:FuncData
 fS:Addr
 nY:FuncData
 cH:Tok
 cf:Addr
 bO:Addr
 ba:Addr
 bI:Addr
 bQ:Addr
 ak:Addr
 cu:Addr
 bJ:Addr
 bN:Addr
structure Txt(K:W.Frag)(mg:Str->Option Value)(t:Adr):Prop where
 mQ:mg "is_small"=some (.ref t.bY)
 mE:Fun K "is_small" "is_small" fm t.bY t.fq
 nk:W.keepIn K (.ref t.bY)=true
 mS:cn K t.fq ["box"] []
 jU:mg "boxes"=some (.ref t.cZ)
 tX:Fun K "boxes" "boxes" gN t.cZ t.g6
 kj:W.keepIn K (.ref t.cZ)=true
 kf:cn K t.g6 ["case"] []
 jA:mg "some_of"=some (.ref t.cr)
 pJ:Fun K "some_of" "some_of" eM t.cr t.gl
 jo:W.keepIn K (.ref t.cr)=true
 jf:cn K t.gl ["words"] []
 t6:mg "_law_pen"=some (.ref t.dL)
 t0:Fun K "_law_pen" "_law_pen" kl t.dL t.jZ
 uF:W.keepIn K (.ref t.dL)=true
 uG:cn K t.jZ ["_law_script","_law_at"] []
 bV:mg "_law_pick"=some (.ref t.cS)
 sk:Fun K "_law_pick" "_law_pick" h9 t.cS t.iP
 bL:W.keepIn K (.ref t.cS)=true
 bR:cn K t.iP ["_law_pen_here","_law_many_here"] []
 uk:mg "_law_few"=some (.ref t.dP)
 uK:Fun K "_law_few" "_law_few" gP t.dP t.kC
 u5:W.keepIn K (.ref t.dP)=true
 tY:cn K t.kC ["_law_pen_here","_law_most"] []
 rQ:mg "_law_many"=some (.ref t.cU)
 qL:Fun K "_law_many" "_law_many" eJ t.cU t.iL
 rY:W.keepIn K (.ref t.cU)=true
 tq:cn K t.iL ["_law_pen_here"] []
 gw:mg "_law_is_part"=some (.ref t.bA)
 lj:Fun K "_law_is_part" "_law_is_part" c9 t.bA t.eC
 gu:W.keepIn K (.ref t.bA)=true
 gG:cn K t.eC ["_law_some","_law_words"] []
 lZ:mg "_law_refused"=some (.ref t.bz)
 ml:Fun K "_law_refused" "_law_refused" eG t.bz t.eB
 k9:W.keepIn K (.ref t.bz)=true
 lQ:cn K t.eB ["_law_case_here"] []
 yc:mg "law"=some (.ref t.fS)
 ze:Fun K "law" "law" jr t.fS t.nY
 zT:W.keepIn K (.ref t.fS)=true
 zU:cn K t.nY ["_law_script"] []
 wW:∀(s:Shared)(v:Value),BindsTo s t.nY ⟨[v],[]⟩ [("_law_script",v)]
 jT:mg "ValueError"=none
 zi:mg "abs"=none
 bF:mg "isinstance"=none
 cx:mg "len"=none
 rN:mg "list"=none
 yd:mg "max"=none
 vp:mg "min"=none
 c8:mg "range"=none
 eh:mg "sorted"=none
 cB:mg "tuple"=none
 kB:mg "MOST_WORDS"=some (.int 8 t.cH)
 kX:mg "TalkError"=some (.ref t.cf)
 rk:mg "NoCase"=some (.ref t.bO)
 nA:mg "NoSaying"=some (.ref t.ba)
 rO:mg "NoTalk"=some (.ref t.bI)
 qY:mg "NoRise"=some (.ref t.bQ)
 jc:mg "TooMany"=some (.ref t.ak)
 uH:mg "NoRow"=some (.ref t.cu)
 sO:mg "NoWord"=some (.ref t.bJ)
 tG:mg "NoText"=some (.ref t.bN)
 b8:gI K t.ak=true
 be:W.kitOne K (.ref t.ak) (.ref t.bO)=some false
 bg:W.kitOne K (.ref t.ak) (.ref t.bQ)=some false
 bv:W.kitOne K (.ref t.ak) (.ref t.cu)=some false
 aT:W.kitOne K (.ref t.ak) (.ref t.ba)=some false
 bd:W.kitOne K (.ref t.ak) (.ref t.bI)=some false
 bh:W.kitOne K (.ref t.ak) (.ref t.bN)=some false
 bf:W.kitOne K (.ref t.ak) (.ref t.bJ)=some false
 a7:W.kitOne K (.ref t.ak) (.ref t.ak)=some true
 aP:W.kitOne K (.ref t.ak) (.type "ValueError")=some true
 aS:W.exmOne K (.ref t.ak) (.ref t.cf)=some true
 fH:W.kitOne K (.type "NoneType") (.ref t.bO)=some false
 fV:W.kitOne K (.type "NoneType") (.ref t.bQ)=some false
 g5:W.kitOne K (.type "NoneType") (.ref t.cu)=some false
 dJ:W.kitOne K (.type "NoneType") (.ref t.ba)=some false
 fT:W.kitOne K (.type "NoneType") (.ref t.bI)=some false
 fY:W.kitOne K (.type "NoneType") (.ref t.bN)=some false
 fU:W.kitOne K (.type "NoneType") (.ref t.bJ)=some false
 eU:W.kitOne K (.type "NoneType") (.ref t.ak)=some false
 cF:W.kitOne K (.type "NoneType") (.type "ValueError")=some false
set_option hygiene false
local macro_rules | `(tactic| walk_at "ab")=>`(tactic| simp only[mw,oJ,lY,oD,nP,n8,dz,oZ,dW,eA,lN,nJ,vb,sf,pe,lu,px,pb,lq,mi,o9,kY,mf,pD,qA,pj,o0,om,rL,vE,oY,sD,qU,nO,s9,sA,jg,iO,jq,kK,ju,i7,iq,ja,nS,nV,ix,lF,pE,lR,jp,iM,pq,lm,mo,lg,mj,i9,sC,lX,ln,ox,lD,kQ,qR,nH,pz,tf,rE,sU,tK,tD,rP,rd,qP,qw,sr,lJ,nR,bX,nh,sw,rl,qN,r9,eK,i4,Om.Aa,Om.Ab,sz1,sz2,sz3,sz6,Int.toNat_natCast,sR,rD,vq,vd,va,hG,oN,Nat.zero_le,AV.d.injEq,AV.r.injEq,D.int.injEq,D.bl.injEq,D.tup.injEq,D.lst.injEq,OC.own.injEq,V.ref.injEq,V.ty.injEq,List.map_cons,List.map_nil,List.cons_append,List.nil_append,List.length_cons,List.length_nil,List.length_map,List.length_append,List.replicate,List.getElem?_cons_zero,List.getElem?_cons_succ,List.set_cons_zero,List.set_cons_succ,Option.some.injEq,Option.map_some,Option.join_some,exists_eq',exists_eq_left',List.cons.injEq,and_true,true_and,and_assoc,exists_and_left,exists_and_right,Nat.sub_self,Nat.reduceAdd,Nat.reduceSub,Nat.reduceLeDiff,Int.reduceLT,Int.reduceSub,Int.reduceToNat,decide_eq_true_eq,Bool.not_true,Bool.not_false,if_true,if_false,Bool.false_eq_true,reduceCtorEq,false_and,and_false,or_false,false_or,beq_iff_eq,ne_eq,Bool.true_eq_false])
local macro_rules | `(tactic| walk_at "a1")=>`(tactic| simp only[mw,lY,oD,nP,n8,dz,oZ,dW,eA,lN,nJ,vb,sf,pe,lu,px,pb,lq,mi,o9,kY,mf,pD,qA,pj,o0,om,rL,vE,oY,sD,qU,nO,s9,sA,jg,iO,jq,kK,ju,i7,iq,ja,nS,nV,ix,lF,pE,lR,jp,iM,pq,lm,mo,lg,mj,i9,sC,lX,ln,ox,lD,kQ,qR,nH,pz,tf,rE,sU,tK,tD,rP,rd,qP,qw,sr,lJ,nR,bX,nh,sw,rl,qN,r9,eK,i4,Om.Aa,Om.Ab,sz1,sz2,sz3,sz6,Int.toNat_natCast,sR,rD,vq,vd,va,hG,oN,Nat.zero_le,AV.d.injEq,AV.r.injEq,D.int.injEq,D.bl.injEq,D.tup.injEq,D.lst.injEq,OC.own.injEq,V.ref.injEq,V.ty.injEq,List.map_cons,List.map_nil,List.cons_append,List.nil_append,List.length_cons,List.length_nil,List.length_map,List.length_append,List.replicate,List.getElem?_cons_zero,List.getElem?_cons_succ,List.set_cons_zero,List.set_cons_succ,Option.some.injEq,Option.map_some,Option.join_some,exists_eq',exists_eq_left',List.cons.injEq,and_true,true_and,and_assoc,exists_and_left,exists_and_right,Nat.sub_self,Nat.reduceAdd,Nat.reduceSub,Nat.reduceLeDiff,Int.reduceLT,Int.reduceSub,Int.reduceToNat,decide_eq_true_eq,Bool.not_true,Bool.not_false,if_true,if_false,Bool.false_eq_true,reduceCtorEq,false_and,and_false,or_false,false_or,beq_iff_eq,ne_eq,Bool.true_eq_false])
local macro_rules | `(tactic| walk_at "s1")=>`(tactic| (try walk_at "a1");(first|rw[oJ]|rw[qK]);walk_at "a1")
set_option hygiene true
section
variable{P:Program}{w:World}{K:W.Frag}{mg:Str->Option Value}{base:Heap}{t:Adr}
noncomputable def Cn(c:Pn)(b:Nat):Prop:=0<=c.i/\c.i<=b
noncomputable def iV(ω:Om)(p:Addr)(b:Nat):Prop:=∃c,Cn c b/\ω p=some (bH c)
theorem lh{ω:Om}{p:Addr}{b:Nat}{c:Pn}(h:Cn c b):iV (ω.put p (bH c)) p b:=⟨c,h,Om.Aa⟩
theorem iV.ne{ω:Om}{p l:Addr}{b:Nat}(h:iV ω p b)(hl:ω l=none):p≠l:=fun e=>by subst e;obtain⟨c,_,e⟩:=h;rw[e] at hl;cases hl
theorem iV.other{ω:Om}{p l:Addr}{b:Nat}{o:OC}(h:iV ω p b)(e:p≠l):iV (ω.put l o) p b:=by
 obtain⟨c,h1,h2⟩:=h;exact⟨c,h1,by rw[Om.z9 e];exact h2⟩
theorem uE{ns:List Int}{i:Int}(h0:0<=i)(h1:i<ns.length):∃x,atI ns i=some x:=by
 obtain⟨x,_,hx,_⟩:=t9 (f:=fun z:Int=>AV.d (.int z)) (xs:=ns) h0 h1;exact⟨x,dM i.toNat (by omega) hx⟩
noncomputable def wX(K:W.Frag):ASp:=fun xs ω Q=>∃(a:Addr)(ns:List Int)(i:Int),xs=[gg K a ns,.d (.int i)]/\0<=i/\∀p c,Cn c 0->ω p=none->Q (.r (.ref p)) (ω.put p (bH c))
theorem xp(T:Txt K mg t):bD P w K mg base CX0 1 t.dL t.jZ ["_law_script","_law_at"] (fL (wX K)):=by
 refine T.t0.okA eo (fun xs ω Q h=>by obtain⟨a,ns,i,rfl,_⟩:=h;rfl) (fun cdv A outer s H E hr=>⟨_,_,(am (aU (i:=2) eo.nd rfl (Or.inl rfl) ah)
   (am (ff (cC vo (pv 1) (au (aA K rfl) (by rfl) T.cx (by kernel_rfl) (aa (pv 0) ag)) (cQ _)) (aB (aU (i:=2) eo.nd rfl (Or.inl rfl) (bw (aD K rfl) (pv 0) (pv 1) (fun _ _=>rfl)))) cw)
   (am (aU (i:=3) eo.nd rfl (Or.inl rfl) (au tB (by rfl) T.zi (by kernel_rfl) (aa (pv 2) ag)))
   (am (ff (cC vo (pv 3) (ax wI ah ah) (cQ _)) (aB (aU (i:=3) eo.nd rfl (Or.inl rfl) ah)) cw)
   (aB (bB (gh (aa (pv 3) (aa (ax ft (ax (aw b7 (aw bq b0)) (ax (aw b7 (aw bq b0)) (ax (aw di dg) (ax ft (pv 2) ah) ah) (ax (aw di dg) ah (pv 1))) ah) ah) (a8 ah ag)))))))))),(aM (bo ao ay)
   (aM (jR (dY (av jv af (br rR (ae af ai)))) (bo (av zg af af) ay) df)
   (aM (bo (br zF (ae af ai)) ay)
   (aM (jR (dY (av jv af (av eX ao ao))) (bo ao ay) df)
   (cz (ki (ae af (ae (av eX (av cP (av cP (av fh (av eX af ao) ao) (av fh ao af)) ao) ao) (ae ao ai))))))))),fun xs ω Q h=>?_⟩)
 obtain⟨a,ns,i,rfl,hi,k⟩:=h;walk_at "s1";refine oP (fun ρ' ω'=>ω'=ω/\∃x:Int,ρ'=[some (gg K a ns),some (.d (.int i)),some (.d (.int x)),none]) (fun M kM=>?_) ?_
 ·walk_at "a1"
  refine⟨_,_,rfl,uY (fun h=>?_) (fun h=>kM _ _ ⟨rfl,_,rfl⟩)⟩;obtain⟨x,ex⟩:=uE (ns:=ns) hi (by omega)
  exact⟨_,_,rfl,_,ex,kM _ _ ⟨rfl,_,rfl⟩⟩
 rintro ρ' ω' ⟨rfl,x,rfl⟩;have absn:∀z:Int,0<=(if z<0 then -z else z):=fun z=>by split<;>omega
 walk_at "s1";refine oP (fun ρ' ω2=>ω2=ω'/\∃y:Int,0<=y/\ρ'=[some (gg K a ns),some (.d (.int i)),some (.d (.int x)),some (.d (.int y))]) (fun M kM=>?_) ?_
 ·walk_at "a1"
  exact⟨⟨by decide,by decide,by decide⟩,uY (fun h=>kM _ _ ⟨rfl,0,Int.le_refl _,rfl⟩) (fun h=>kM _ _ ⟨rfl,_,absn x,rfl⟩)⟩
 rintro ρ' ω2 ⟨rfl,y,hy,rfl⟩;walk_at "a1";exact⟨iQ (by decide) (by decide),gn (by decide),fun p hp=>k p ⟨y,_,0,hy⟩ ⟨Int.le_refl _,Int.le_refl _⟩ hp⟩
noncomputable def u4:ASp:=fun xs ω Q=>∃(p:Addr)(m:Int)(b:Nat),xs=[.r (.ref p),.d (.int m)]/\iV ω p b/\b<1000000/\0<m/\m<1073741824/\∀(r:Int)(c:Pn),Cn c (b+1)->0<=r->r<m->Q (.d (.int r)) (ω.put p (bH c))
theorem nK(T:Txt K mg t):bD P w K mg base CX0 1 t.cS t.iP ["_law_pen_here","_law_many_here"] (fL u4):=by
 refine T.sk.okA cK (fun xs ω Q h=>by obtain⟨p,m,b,rfl,_⟩:=h;rfl) (fun cdv A outer s H E hr=>⟨_,_,(am (ff (cC qC (bw (aD K rfl) (pv 0) ah (fun _ _=>rfl)) ah (cQ _)) (am (aU (i:=2) cK.nd rfl (Or.inl rfl) (ax ft (bw (aD K rfl) (pv 0) ah (fun _ _=>rfl)) (pv 1)))
   (am (tE (ax o5 (bw (aD K rfl) (pv 0) ah (fun _ _=>rfl)) (pv 1)) (qT (pv 0) ah lV))
   (aB (bB (pv 2))))) cw)
   (am (aU (i:=3) cK.nd rfl (Or.inl rfl) (ax (aw b7 (aw bq b0)) (bw (aD K rfl) (pv 0) ah (fun _ _=>rfl)) ah))
   (am (tE (pv 3) (qT (pv 0) ah lV))
   (am (aU (i:=4) cK.nd rfl (Or.inl rfl) (ax ft (ax (aw b7 (aw bq b0)) (ax (aw b7 (aw bq b0)) (bw (aD K rfl) (pv 0) ah (fun _ _=>rfl)) (ax (aw di dg) (ax (aw di dg) ah (pv 3)) (pv 3))) (ax (aw di dg) ah (pv 3))) ah))
   (am (aU (i:=4) cK.nd rfl (Or.inl rfl) (ax ft (ax (aw b7 (aw bq b0)) (ax (aw b7 (aw bq b0)) (ax (aw di dg) (pv 4) (pv 4)) (ax (aw di dg) ah (pv 4))) (pv 3)) ah))
   (am (aU (i:=4) cK.nd rfl (Or.inl rfl) (ax ft (ax (aw b7 (aw bq b0)) (ax (aw di dg) (pv 4) (pv 4)) (ax (aw di dg) ah (pv 4))) ah))
   (aB (bB (ax ft (ax o5 (pv 4) ah) (pv 1)))))))))),(aM (jR (dY (av jv (av cO af ao) ao)) (aM (bo (av eX (av cO af ao) af) ay)
   (aM (bo (av eX (av cO af ao) af) (vH af ao))
   (cz af))) df)
   (aM (bo (av cP (av cO af ao) ao) ay)
   (aM (bo af (vH af ao))
   (aM (bo (av eX (av cP (av cP (av cO af ao) (av fh (av fh ao af) af)) (av fh ao af)) ao) ay)
   (aM (bo (av eX (av cP (av cP (av fh af af) (av fh ao af)) af) ao) ay)
   (aM (bo (av eX (av cP (av fh af af) (av fh ao af)) ao) ay)
   (cz (av eX (av eX af ao) af)))))))),fun xs ω Q h=>?_⟩)
 obtain⟨p,m,b,rfl,⟨c,⟨c0,c1⟩,hp⟩,hb,hm,hm2,k⟩:=h;have fin:∀(r:Int)(c:Pn),Cn c (b+1)->Q (.d (.int (r%m))) (ω.put p (bH c)):=fun r c hc=>k _ c hc (Int.emod_nonneg _ (by omega)) (Int.emod_lt_of_pos _ hm)
 unfold bH at hp;walk_at "s1";simp only[hp];walk_at "a1";refine uY (fun h1=>?_) (fun h1=>?_)
 ·walk_at "ab"
  simp only[hp];walk_at "ab";exact⟨hm,⟨hm,hm2⟩,fin _ ⟨c.f / m,c.x,c.i,Int.ediv_nonneg c.h (by omega)⟩ ⟨c0,by simp only[];omega⟩⟩
 ·walk_at "s1"
  simp only[hp];walk_at "a1";walk_at "s1";simp only[hp];walk_at "s1";refine⟨gn (by decide),xC ⟨by omega,by omega⟩,gn (by decide),?_⟩
  walk_at "ab";exact⟨iQ (by decide) (by decide),gn (by decide),iQ (by decide) (by decide),gn (by decide),⟨by decide,by decide⟩,hm,fin _ ⟨c.f,c.x,c.i+1,c.h⟩ ⟨by simp only[];omega,by simp only[];omega⟩⟩
theorem p5{H:Hp}{a:Addr}{ns:List Int}(h:SqL K H a (ns.map V.int)):RV (cut (fun _=>false) H (fun _=>none)) (gg K a ns) (.ref a):=by
 refine⟨rfl,fun G' s=>?_⟩;have s2:bK H G':=fun b o e=>s b o (aJ.mpr ⟨rfl,rfl,e⟩);rcases h with(h|⟨o,h⟩)|h
 ·exact .inl (.inl (s2 _ _ h))
 ·exact .inl (.inr ⟨o,s2 _ _ h⟩)
 ·exact .inr h
theorem zL{H:Hp}:Rep (fun _=>false) H (fun _=>none):=⟨fun _ _ h=>by simp at h,fun _ _ h=>by simp at h,fun _ h=>by simp at h,fun _ _ h=>by simp at h⟩
noncomputable def uM(K:W.Frag):ASp:=fun xs ω Q=>∃(a:Addr)(ns:List Int),xs=[gg K a ns]/\ns.length<=63/\ω=(fun _=>none)/\∀ω',Q (.d (.bl true)) ω'
noncomputable def nw(K:W.Frag):Sp:=fL (uM K)
theorem qt{K:W.Frag}{H:Hp}{a:Addr}{ns:List Int}(hl:ns.length<=63)(hO:yK H)(hS:SqL K H a (ns.map V.int)):nw K [.ref a] H (fun v _=>v=.bl true) fun _ _ _=>False:=
 ⟨fun _=>false,[gg K a ns],fun _=>none,fun a _=>a=.d (.bl true),zL,⟨_,_,rfl,p5 hS,rfl⟩,⟨a,ns,rfl,hl,rfl,fun _=>rfl⟩,fun a ω' v H' _ _ rv q=>by subst q;exact xL rv⟩
noncomputable def mJ(n m:Nat):List Int:=(List.range n).map fun k:Nat=>Builtin.bitAnd ((0+(m:Int)) / 2^((n:Int)-1-(0+(k:Int))).toNat) 1
theorem vR:∀n:Fin 6,wl n.val=(List.range (2^n.val)).map (mJ n.val):=by decide +kernel
theorem pw5(q:Nat):(1*2^q:Int)=((2^q:Nat):Int):=by rw[Int.one_mul,Int.natCast_pow];rfl
theorem yZ{q:Nat}(h:q<=5):2^q<=32:=Nat.pow_le_pow_right (by decide) h
noncomputable abbrev oW(ws:List (List Int)):OC:=.own ((ws.map wdD).map AV.d)
theorem mH{α β:Type}(f:α->β):∀(L:List α)(j:Nat),(L.map f).eraseIdx j=(L.eraseIdx j).map f
 | [],_=>rfl
 |_::_,0=>rfl
 |x::L,j+1=>by simp[mH f L j]
theorem kJ{L:List (List Int)}{j:Nat}:OC.own (((L.map wdD).map AV.d).eraseIdx j)=oW (L.eraseIdx j):=by
 rw[oW,mH,mH]
theorem kz{α:Type}:∀ {L:List α} {j:Nat} {v:α},L[j]?=some v->(v::L.eraseIdx j).Perm L
 | [],_,_,h=>by simp at h
 |x::L,0,v,h=>by simp at h;subst h;exact .refl _
 |x::L,j+1,v,h=>by
  have:=kz (L:=L) (j:=j) (v:=v) (by simpa using h)
  exact(List.Perm.swap x v _).trans (this.cons x)
theorem oE{α:Type}{L:List α}{j:Nat}{v:α}:(L.take j++v::L.drop j).Perm (v::L):=List.perm_middle.trans (by rw[List.take_append_drop])
structure Sx(n:Nat)(L Y Z:List (List Int)):Prop where
 nd:(L++(Y++Z)).Nodup
 inn:∀v∈L++(Y++Z),v∈wl n
theorem Sx.perm{n:Nat}{L Y Z L' Y' Z':List (List Int)}(h:Sx n L Y Z)(p:(L'++(Y'++Z')).Perm (L++(Y++Z))):Sx n L' Y' Z':=
 ⟨p.nodup_iff.mpr h.nd,fun v hv=>h.inn v (p.mem_iff.mp hv)⟩
theorem Sx.toY{n:Nat}{L Y Z:List (List Int)}(h:Sx n L Y Z){j r:Nat}{v:List Int}(hv:L[j]?=some v):Sx n (L.eraseIdx j) (Y.take r++v::Y.drop r) Z:=
 h.perm (((oE.append_right Z).append_left _).trans ((List.perm_middle (a:=v) (l₁:=L.eraseIdx j) (l₂:=Y++Z)).trans ((kz hv).append_right (Y++Z))))
theorem Sx.toZ{n:Nat}{L Y Z:List (List Int)}(h:Sx n L Y Z){j r:Nat}{v:List Int}(hv:L[j]?=some v):Sx n (L.eraseIdx j) Y (Z.take r++v::Z.drop r):=by
 refine h.perm (((oE.append_left Y).append_left _).trans ?_);refine((List.perm_middle (a:=v) (l₁:=Y) (l₂:=Z)).append_left _).trans ?_;exact(List.perm_middle (a:=v) (l₁:=L.eraseIdx j) (l₂:=Y++Z)).trans ((kz hv).append_right (Y++Z))
structure Fw(n:Nat)(ω ω':Om)(p l y z:Addr)(c:Pn)(L Y Z:List (List Int)):Prop where
 ex:Ex (ω.put p (bH c)) ω'
 at_p:ω' p=some (bH c)
 at_l:ω' l=some (oW L)
 at_y:ω' y=some (oW Y)
 at_z:ω' z=some (oW Z)
 l0:ω l=none
 y0:ω y=none
 z0:ω z=none
 ne:Ne4 p l y z
 sx:Sx n L Y Z
 yn:Y≠[]
 zn:Z≠[]
theorem Fw.pen{n:Nat}{ω ω':Om}{p l y z:Addr}{c c':Pn}{L Y Z:List (List Int)}(h:Fw n ω ω' p l y z c L Y Z):Fw n ω (ω'.put p (bH c')) p l y z c' L Y Z:=
 ⟨h.ex.put2,Om.Aa,by rw[Om.z9 (Ne.symm h.ne.p1)];exact h.at_l,by rw[Om.z9 (Ne.symm h.ne.p2)];exact h.at_y,by rw[Om.z9 (Ne.symm h.ne.p3)];exact h.at_z,h.l0,h.y0,h.z0,h.ne,h.sx,h.yn,h.zn⟩
theorem Fw.new{n:Nat}{ω ω':Om}{p l y z q:Addr}{c:Pn}{L Y Z:List (List Int)}{o:OC}(h:Fw n ω ω' p l y z c L Y Z)(hq:ω' q=none):Fw n ω (ω'.put q o) p l y z c L Y Z:=by
 have e1:p≠q:=fun e=>by rw[←e,h.at_p] at hq;cases hq
 have e2:l≠q:=fun e=>by rw[←e,h.at_l] at hq;cases hq
 have e3:y≠q:=fun e=>by rw[←e,h.at_y] at hq;cases hq
 have e4:z≠q:=fun e=>by rw[←e,h.at_z] at hq;cases hq
 exact⟨h.ex.new hq,by rw[Om.z9 e1];exact h.at_p,by rw[Om.z9 e2];exact h.at_l,by rw[Om.z9 e3];exact h.at_y,by rw[Om.z9 e4];exact h.at_z,h.l0,h.y0,h.z0,h.ne,h.sx,h.yn,h.zn⟩
theorem Sx.AF{n:Nat}{L Y Z:List (List Int)}(h:Sx n L Y Z){j:Nat}{v:List Int}(hv:L[j]?=some v):Sx n (L.eraseIdx j) (Y++[v]) Z:=by
 have:=h.toY (r:=Y.length) hv
 rwa [List.take_length,List.drop_length] at this
theorem Sx.AH{n:Nat}{L Y Z:List (List Int)}(h:Sx n L Y Z){j:Nat}{v:List Int}(hv:L[j]?=some v):Sx n (L.eraseIdx j) Y (Z++[v]):=by
 have:=h.toZ (r:=Z.length) hv
 rwa [List.take_length,List.drop_length] at this
theorem Fw.toY{n:Nat}{ω ω':Om}{p l y z:Addr}{c:Pn}{L Y Z:List (List Int)}{j:Nat}{v:List Int}(h:Fw n ω ω' p l y z c L Y Z)(hv:L[j]?=some v):Fw n ω ((ω'.put l (oW (L.eraseIdx j))).put y (oW (Y++[v]))) p l y z c (L.eraseIdx j) (Y++[v]) Z:=
 ⟨(h.ex.over (by rw[Om.z9 (Ne.symm h.ne.p1)];exact h.l0)).over (by rw[Om.z9 (Ne.symm h.ne.p2)];exact h.y0),by rw[Om.z9 h.ne.p2,Om.z9 h.ne.p1];exact h.at_p,by rw[Om.z9 h.ne.a,Om.Aa],Om.Aa,by rw[Om.z9 (Ne.symm h.ne.c),Om.z9 (Ne.symm h.ne.b)];exact h.at_z,h.l0,h.y0,h.z0,h.ne,h.sx.AF hv,by simp,h.zn⟩
theorem Fw.toZ{n:Nat}{ω ω':Om}{p l y z:Addr}{c:Pn}{L Y Z:List (List Int)}{j:Nat}{v:List Int}(h:Fw n ω ω' p l y z c L Y Z)(hv:L[j]?=some v):Fw n ω ((ω'.put l (oW (L.eraseIdx j))).put z (oW (Z++[v]))) p l y z c (L.eraseIdx j) Y (Z++[v]):=
 ⟨(h.ex.over (by rw[Om.z9 (Ne.symm h.ne.p1)];exact h.l0)).over (by rw[Om.z9 (Ne.symm h.ne.p3)];exact h.z0),by rw[Om.z9 h.ne.p3,Om.z9 h.ne.p1];exact h.at_p,by rw[Om.z9 h.ne.b,Om.Aa],by rw[Om.z9 h.ne.c,Om.z9 (Ne.symm h.ne.a)];exact h.at_y,Om.Aa,h.l0,h.y0,h.z0,h.ne,h.sx.AH hv,h.yn,by simp⟩
structure Few(n:Nat)(ys zs:List (List Int)):Prop where
 wy:Wds n ys
 wz:Wds n zs
 ry:Ris ys
 rz:Ris zs
 yn:ys≠[]
 zn:zs≠[]
 few:ys.length+zs.length<=8
noncomputable def wT:ASp:=fun xs ω Q=>∃(p:Addr),xs=[.r (.ref p),.d (.int 8)]/\iV ω p 0/\∀(n:Nat) (ys zs:List (List Int)) (c:Pn),Cn c 16->1<=n->n<=5->Few n ys zs->Q (.d (csD n ys zs)) (ω.put p (bH c))
theorem wD(T:Txt K mg t):bD P w K mg base CX0 2 t.dP t.kC ["_law_pen_here","_law_most"] (fL wT):=by
 have G_l_pick:bD P w K mg base _ _ _ _ _ _:=nK T
 refine T.uK.okD dB (fun xs ω Q h=>by obtain ⟨p,rfl,_⟩:=h;rfl) (fun cdv A outer s H E hr=>⟨_,_,(am (aU (i:=2) dB.nd rfl (Or.inr rfl) (bw (aD K rfl) (gh (a8 ah (a8 ah (a8 ah (a8 ah (a8 ah (a8 ah ag))))))) (aN G_l_pick (hr.mono (by omega)) (by rfl) T.bV T.bL T.bR .nil bM (aa (pv 0) (a8 ah ag))) (fun _ _=>rfl)))
   (am (o6 (i:=3) dB.nd rfl (Or.inl rfl) (N:=(["_law_number","_law_places"] : List Str)) (src:=[none,some 2]) rfl (by show d8 _ (defScope gP) _ _ (["_law_pen_here","_law_most","_law_places","_law_left","_law_yes","_law_no","_law_k"] : List Str) = true;decide +kernel) (by intro g' h;cases h) (ci rfl T.c8 (aa (ax jP ah (pv 2)) ag)) (fun _ _ _ _ _ _=>(bE (i:=0) (show (["_law_number","_law_places"] : List Str).Nodup by decide +kernel) rfl (Or.inr rfl))) (fun _ _ _ _ _ _=>da) (fun _ _ _ _ _ _=>(cY rfl rfl (b9 (aV K rfl) (by rfl) T.cB (by kernel_rfl) (aa (eO (N:=(["_law_k","_law_number","_law_places"] : List Str)) (src:=[none,some 0,some 1]) rfl (by with_unfolding_all rfl) (by intro g' h;cases h) (ci rfl T.c8 (aa (pv 1) ag)) (fun _ _ _ _ _ _=>(bE (i:=0) (show (["_law_k","_law_number","_law_places"] : List Str).Nodup by decide +kernel) rfl (Or.inl rfl))) (fun _ _ _ _ _ _=>da) (fun _ _ _ _ _ _=>(cY rfl rfl (ax tI (ax ss (pv 1) (ax de (ax de (pv 2) ah) (pv 0))) ah)))) ag)))))
   (am (aU (i:=4) dB.nd rfl (Or.inl rfl) (gh (aa (md PySem.F.plainAttrs_list PySem.F.slot_list_pop PySem.F.type_list_pop fC (pv 3) (aa (aN G_l_pick (hr.mono (by omega)) (by rfl) T.bV T.bL T.bR .nil bM (aa (pv 0) (aa (au (aA K rfl) (by rfl) T.cx (by kernel_rfl) (aa (pv 3) ag)) ag))) ag)) ag)))
   (am (aU (i:=5) dB.nd rfl (Or.inl rfl) (gh (aa (md PySem.F.plainAttrs_list PySem.F.slot_list_pop PySem.F.type_list_pop fC (pv 3) (aa (aN G_l_pick (hr.mono (by omega)) (by rfl) T.bV T.bL T.bR .nil bM (aa (pv 0) (aa (au (aA K rfl) (by rfl) T.cx (by kernel_rfl) (aa (pv 3) ag)) ag))) ag)) ag)))
   (am (kF PassesOwn.never rfl (ci rfl T.c8 (aa (aN G_l_pick (hr.mono (by omega)) (by rfl) T.bV T.bL T.bR .nil bM (aa (pv 0) (aa (au (js rfl) (by rfl) T.vp (by kernel_rfl) (aa (ax de (pv 1) ah) (aa (ax (aw b7 (aw bq b0)) (au (aA K rfl) (by rfl) T.cx (by kernel_rfl) (aa (pv 3) ag)) ah) ag))) ag))) ag)) (bE (i:=6) dB.nd rfl (Or.inl rfl)) (aB (oH (md PySem.F.plainAttrs_list PySem.F.slot_list_append PySem.F.type_list_append jm (bw (aD K rfl) (gh (aa (pv 4) (aa (pv 5) ag))) (aN G_l_pick (hr.mono (by omega)) (by rfl) T.bV T.bL T.bR .nil bM (aa (pv 0) (a8 ah ag))) (fun _ _=>rfl)) (aa (md PySem.F.plainAttrs_list PySem.F.slot_list_pop PySem.F.type_list_pop fC (pv 3) (aa (aN G_l_pick (hr.mono (by omega)) (by rfl) T.bV T.bL T.bR .nil bM (aa (pv 0) (aa (au (aA K rfl) (by rfl) T.cx (by kernel_rfl) (aa (pv 3) ag)) ag))) ag)) ag)))))
   (aB (bB (f8 (aa (pv 2) (aa (b9 (aV K rfl) (by rfl) T.cB (by kernel_rfl) (aa (au db (by rfl) T.eh (by kernel_rfl) (aa (pv 4) ag)) ag)) (aa (b9 (aV K rfl) (by rfl) T.cB (by kernel_rfl) (aa (au db (by rfl) T.eh (by kernel_rfl) (aa (pv 5) ag)) ag)) ag))))))))))),(aM (bo (av cO (vt (ae ao (ae ao (ae ao (ae ao (ae ao (ae ao ai))))))) (a9 (ae af (ae ao ai)))) ay)
   (aM (bo (n9 (eF (ae (av eX ao af) ai)) ay lK (eg (br dN (ae (gm (eF (ae af ai)) ay lK (eg (av d7 (av eX af (av d7 (av d7 af ao) af)) ao))) ai)))) ay)
   (aM (bo (ki (ae (gY af (ae (a9 (ae af (ae (br cM (ae af ai)) ai))) ai)) ai)) ay)
   (aM (bo (ki (ae (gY af (ae (a9 (ae af (ae (br cM (ae af ai)) ai))) ai)) ai)) ay)
   (aM (oO (eF (ae (a9 (ae af (ae (br xv (ae (av d7 af ao) (ae (av cP (br cM (ae af ai)) ao) ai))) ai))) ai)) ay (q9 (tz (av cO (ki (ae af (ae af ai))) (a9 (ae af (ae ao ai)))) (ae (gY af (ae (a9 (ae af (ae (br cM (ae af ai)) ai))) ai)) ai))))
   (cz (kO (ae af (ae (br dN (ae (br fG (ae af ai)) ai)) (ae (br dN (ae (br fG (ae af ai)) ai)) ai)))))))))),fun xs ω Q h=>?_⟩)
 obtain⟨p,rfl,⟨c0,hc0,hp⟩,k⟩:=h;walk_at "s1";refine⟨p,6,0,rfl,⟨c0,hc0,hp⟩,by decide,by decide,by decide,fun r c1 hc1 r0 r1=>⟨r,rfl,?_⟩⟩
 obtain⟨n,en,hn1,hn⟩:∃n:Nat,atI [AV.d (D.int 1),AV.d (D.int 2),AV.d (D.int 3),AV.d (D.int 3),AV.d (D.int 4),AV.d (D.int 5)] r=some (.d (.int n))/\1<=n/\n<=5:=by
  rcases(by omega:r=0\/r=1\/r=2\/r=3\/r=4\/r=5) with rfl|rfl|rfl|rfl|rfl|rfl
  ·exact⟨1,rfl,by decide,by decide⟩
  ·exact⟨2,rfl,by decide,by decide⟩
  ·exact⟨3,rfl,by decide,by decide⟩
  ·exact⟨3,rfl,by decide,by decide⟩
  ·exact⟨4,rfl,by decide,by decide⟩
  ·exact⟨5,rfl,by decide,by decide⟩
 refine⟨_,en,?_⟩;clear en r0 r1;have h32:=yZ hn;have hwa:=vR ⟨n,by omega⟩
 dsimp only at hwa;have hL0:(wl n).length=2^n:=kD n;have hL2:2<=(wl n).length:=by rw[hL0];exact Nat.pow_le_pow_right (n:=2) (by decide) hn1
 have hnd:=(Wds.sub (List.Sublist.refl (wl n)) hn).1;have hwl:=vK hn;walk_at "s1";rw[pw5];generalize hz:2^n=z at h32 hwa ⊢;refine⟨⟨by omega,by omega,by decide⟩,by omega,by omega,?_⟩
 rw[Int.toNat_natCast];refine fJ (rs:=(wl n).map wdD) (by rw[hwa];simp[cX]) (Nat.le_of_lt (aR (by simp[cX];omega))) (fun i a r ha hr' Q q=>?_) (fun ρ l hl=>?_)
 ·rw[hwa] at hr'
  simp only[cX,List.getElem?_map,Option.map_eq_some_iff] at ha hr';obtain⟨i',h1,rfl⟩:=ha;obtain⟨v,⟨i2,h2,rfl⟩,rfl⟩:=hr';rw[h1] at h2;cases h2;walk_at "a1";refine⟨by omega,by omega,?_⟩
  refine fJ (rs:=(mJ n i').map D.int) (by simp[cX,mJ]) (Nat.le_of_lt (aR (by simp[cX];omega))) (fun j a r ha hr' Q q=>?_) (fun ρ=>⟨_,bX _,?_⟩)
  ·simp only[cX,mJ,List.getElem?_map,Option.map_eq_some_iff] at ha hr'
   obtain⟨k',h1,rfl⟩:=ha;obtain⟨v,⟨k2,h2,rfl⟩,rfl⟩:=hr';rw[h1] at h2;cases h2
   have hk:k'<n:=by
    have:=List.mem_range.mp (List.mem_of_getElem? h1);simpa using this
   walk_at "a1";exact⟨by omega,q⟩
  ·exact q
 clear hwa h32 hz;have hpl:p≠l:=fun e=>by subst e;rw[Om.Aa] at hl;cases hl
 rw[Om.z9 (Ne.symm hpl)] at hl;walk_at "s1";refine⟨p,_,1,rfl,⟨c1,hc1,by rw[Om.z9 hpl,Om.Aa]⟩,by decide,by omega,by omega,fun r c2 hc2 r0 r1=>?_⟩
 obtain⟨j,rfl⟩:=Int.eq_ofNat_of_zero_le r0;rw[Om.Ae hpl,Om.Ab];have hj:j<(wl n).length:=by omega
 refine⟨_,j,rfl,Om.Aa,by simp;omega,AV.d (wdD (wl n)[j]),by simp[hj],fun y hy=>?_⟩
 rw[kJ,Om.Ab] at hy ⊢;have vj:(wl n)[j]?=some (wl n)[j]:=List.getElem?_eq_getElem hj;have S1:Sx n ((wl n).eraseIdx j) [(wl n)[j]] []:=(⟨by simpa using hnd,fun v hv=>by simpa using hv⟩:Sx n (wl n) [] []).toY (r:=0) vj
 have hl1:((wl n).eraseIdx j).length=(wl n).length-1:=by rw[List.length_eraseIdx,if_pos hj]
 generalize (wl n).eraseIdx j=L1 at *;generalize (wl n)[j]=v1 at *;have hyl:y≠l:=fun e=>by subst e;rw[Om.Aa] at hy;cases hy
 rw[Om.z9 hyl] at hy;have hyp:p≠y:=fun e=>by subst e;rw[Om.Aa] at hy;cases hy
 rw[Om.z9 (Ne.symm hyp)] at hy;have o3:((ω.put p (bH c2)).put l (oW L1)).put y (OC.own [AV.d (wdD v1)])=om3 ω p l y (bH c2) (oW L1) (oW [v1]):=rfl;rw[o3];walk_at "s1";rw[rA (Ne.symm hyl)];refine⟨⟨_,rfl⟩,_,rfl,p,_,2,rfl,⟨c2,hc2,vz hpl hyp⟩,by omega,by simp;omega,by simp;omega,fun r c3 hc3 r0 r1=>?_⟩
 obtain⟨j2,rfl⟩:=Int.eq_ofNat_of_zero_le r0;rw[w4 hpl hyp];have hj2:j2<L1.length:=by simp at r1;omega
 refine⟨_,j2,rfl,rA (Ne.symm hyl),by simp;omega,AV.d (wdD L1[j2]),by simp[hj2],fun z hz=>?_⟩
 rw[kJ,wF (Ne.symm hyl)] at hz ⊢;have vj2:L1[j2]?=some L1[j2]:=List.getElem?_eq_getElem hj2;have S2:Sx n (L1.eraseIdx j2) [v1] [L1[j2]]:=S1.toZ (r:=0) vj2;have hl2:(L1.eraseIdx j2).length=L1.length-1:=by rw[List.length_eraseIdx,if_pos hj2]
 generalize L1.eraseIdx j2=L2' at *;generalize L1[j2]=v2 at *;have hzy:z≠y:=fun e=>by subst e;rw[xO] at hz;cases hz
 have hzl:z≠l:=fun e=>by subst e;rw[rA (Ne.symm hyl)] at hz;cases hz
 have hzp:z≠p:=fun e=>by subst e;rw[vz hpl hyp] at hz;cases hz
 have hz0:ω z=none:=by rw[om3,Om.z9 hzy,Om.z9 hzl,Om.z9 hzp] at hz;exact hz
 have h4:Ne4 p l y z:=⟨hpl,hyp,Ne.symm hzp,Ne.symm hyl,Ne.symm hzl,Ne.symm hzy⟩
 have F0:Fw n ω (om4 ω p l y z (bH c3) (oW L2') (oW [v1]) (oW [v2])) p l y z c3 L2' [v1] [v2]:=
  ⟨(((Ex.refl _).new (by rw[Om.z9 (Ne.symm hpl)];exact hl)).new (by rw[Om.z9 hyl,Om.z9 (Ne.symm hyp)];exact hy)).new (by rw[Om.z9 hzy,Om.z9 hzl,Om.z9 hzp];exact hz0),yP h4,yb h4,xU h4,xR h4,hl,hy,hz0,h4,S2,by simp,by simp⟩
 have o4:(om3 ω p l y (bH c3) (oW L2') (oW [v1])).put z (OC.own [AV.d (wdD v2)])=om4 ω p l y z (bH c3) (oW L2') (oW [v1]) (oW [v2]):=rfl;rw[o4];generalize om4 ω p l y z (bH c3) (oW L2') (oW [v1]) (oW [v2])=ω1 at *;have hL2l:L2'.length<=30:=by omega
 walk_at "s1";rw[F0.at_l];refine⟨_,rfl,p,_,3,rfl,⟨c3,hc3,F0.at_p⟩,by decide,?_,?_,fun r c4 hc4 r0 r1=>?_⟩
 ·simp only[List.length_map]
  split<;>omega
 ·simp only[List.length_map]
  split<;>omega
 have hr1:r<=6/\r<=L2'.length:=by
  simp only[List.length_map] at r1;split at r1<;>omega
 clear r1;obtain⟨m,rfl⟩:=Int.eq_ofNat_of_zero_le r0;refine⟨m,rfl,by omega,by omega,?_⟩
 rw[Int.toNat_natCast];refine jO (fun i ρ ω'=>∃(c:Pn) (L Y Z:List (List Int)) (v6:Option AV),Cn c (4+2*i)/\L.length+i=L2'.length/\Y.length+Z.length=2+i/\Fw n ω ω' p l y z c L Y Z/\ρ=[some (AV.r (V.ref p)),some (AV.d (D.int 8)),some (AV.d (D.int n)),some (AV.r (V.ref l)),some (AV.r (V.ref y)),some (AV.r (V.ref z)),v6]) ⟨c4,L2',[v1],[v2],_,hc4,rfl,rfl,F0.pen,rfl⟩ ?_ ?_
 ·rintro i ρ ω' N hi ⟨c,L,Y,Z,v6,hc,hLi,hYZ,hF,rfl⟩ kN
  walk_at "a1";intro q hq;have F1:=hF.new (o:=.own [AV.r (V.ref y),AV.r (V.ref z)]) hq;have hqp:q≠p:=fun e=>by subst e;rw[hF.at_p] at hq;cases hq
  refine⟨p,2,4+2*i,rfl,⟨c,hc,F1.at_p⟩,by omega,by decide,by decide,fun r c5 hc5 r0 r1=>?_⟩
  have F2:=F1.pen (c':=c5);have atq:((ω'.put q (.own [AV.r (V.ref y),AV.r (V.ref z)])).put p (bH c5)) q=some (.own [AV.r (V.ref y),AV.r (V.ref z)]):=by rw[Om.z9 hqp,Om.Aa]
  generalize (ω'.put q (.own [AV.r (V.ref y),AV.r (V.ref z)])).put p (bH c5)=ω2 at *;have hLp:0<L.length:=by omega
  have aL:∀c6 j v,Cn c6 (4+2*i+2)->L[j]?=some v->(N [some (AV.r (V.ref p)),some (AV.d (D.int 8)),some (AV.d (D.int n)),some (AV.r (V.ref l)),some (AV.r (V.ref y)),some (AV.r (V.ref z)),some (AV.d (D.int (0+(i:Int))))] (((ω2.put p (bH c6)).put l (oW (L.eraseIdx j))).put y (oW (Y++[v])))) /\
    (N [some (AV.r (V.ref p)),some (AV.d (D.int 8)),some (AV.d (D.int n)),some (AV.r (V.ref l)),some (AV.r (V.ref y)),some (AV.r (V.ref z)),some (AV.d (D.int (0+(i:Int))))] (((ω2.put p (bH c6)).put l (oW (L.eraseIdx j))).put z (oW (Z++[v])))):=fun c6 j v hc6 hv=>by
   have hj:=(List.getElem?_eq_some_iff.mp hv).1;have el:(L.eraseIdx j).length=L.length-1:=by rw[List.length_eraseIdx,if_pos hj]
   exact⟨kN _ _ ⟨c6,_,_,_,_,⟨hc6.1,by have:=hc6.2;omega⟩,by omega,by simp;omega,F2.pen.toY hv,rfl⟩,kN _ _ ⟨c6,_,_,_,_,⟨hc6.1,by have:=hc6.2;omega⟩,by omega,by simp;omega,F2.pen.toZ hv,rfl⟩⟩
  have ap:∀W:List (List Int),∀v,OC.own ((W.map wdD).map AV.d++[AV.d (wdD v)])=oW (W++[v]):=fun W v=>by simp[oW]
  dsimp only;rw[atq];rcases(by omega:r=0\/r=1) with rfl|rfl
  ·refine⟨_,rfl,0,rfl,_,rfl,y,rfl,⟨_,F2.at_y⟩,⟨_,F2.at_l⟩,_,by rw[F2.at_l];rfl,p,_,4+2*i+1,rfl,⟨c5,hc5,F2.at_p⟩,by omega,by simp;omega,by simp;omega,fun r c6 hc6 r0 r1=>?_⟩
   obtain⟨j,rfl⟩:=Int.eq_ofNat_of_zero_le r0;have hj:j<L.length:=by simp at r1;omega
   refine⟨_,j,rfl,F2.pen.at_l,by simp;omega,AV.d (wdD L[j]),by simp[hj],_,by rw[Om.z9 (Ne.symm h4.a)];exact F2.pen.at_y,aR (by simp;omega),?_⟩
   rw[kJ,ap];exact(aL c6 j _ hc6 (List.getElem?_eq_getElem hj)).1
  ·refine⟨_,rfl,1,rfl,_,rfl,z,rfl,⟨_,F2.at_z⟩,⟨_,F2.at_l⟩,_,by rw[F2.at_l];rfl,p,_,4+2*i+1,rfl,⟨c5,hc5,F2.at_p⟩,by omega,by simp;omega,by simp;omega,fun r c6 hc6 r0 r1=>?_⟩
   obtain⟨j,rfl⟩:=Int.eq_ofNat_of_zero_le r0;have hj:j<L.length:=by simp at r1;omega
   refine⟨_,j,rfl,F2.pen.at_l,by simp;omega,AV.d (wdD L[j]),by simp[hj],_,by rw[Om.z9 (Ne.symm h4.b)];exact F2.pen.at_z,aR (by simp;omega),?_⟩
   rw[kJ,ap];exact(aL c6 j _ hc6 (List.getElem?_eq_getElem hj)).2
 ·rintro ρ ω' ⟨c,L,Y,Z,v6,hc,hLi,hYZ,hF,rfl⟩
  have hYW:Wds n Y:=⟨(List.nodup_append.mp (List.nodup_append.mp hF.sx.nd).2.1).1,fun v hv=>hF.sx.inn v (List.mem_append_right _ (List.mem_append_left _ hv))⟩;have hZW:Wds n Z:=⟨(List.nodup_append.mp (List.nodup_append.mp hF.sx.nd).2.1).2.1,fun v hv=>hF.sx.inn v (List.mem_append_right _ (List.mem_append_right _ hv))⟩
  have ne0:∀W:List (List Int),Wds n W->∀v∈W,¬v=[]:=fun W hW v hv e=>by
   have:=(mO (hW.2 v hv)).1;rw[e] at this;simp at this;omega
  walk_at "a1";rw[hF.at_y,hF.at_z];refine⟨Y,by simp only[bX];rfl,ne0 Y hYW,by omega,Z,by simp only[bX];rfl,ne0 Z hZW,by omega,?_⟩
  rw[lL hF.ex (by rw[hp];rfl)]
  refine k n (fi Y) (fi Z) c ⟨hc.1,by have:=hc.2;omega⟩ hn1 hn ⟨hYW.perm (fZ Y),hZW.perm (fZ Z),lS Y,lS Z,fun e=>?_,fun e=>?_,?_⟩
  ·have:=cR Y
   rw[e] at this;exact hF.yn (List.length_eq_zero_iff.mp this.symm)
  ·have:=cR Z
   rw[e] at this;exact hF.zn (List.length_eq_zero_iff.mp this.symm)
  ·rw[cR,cR]
   omega
noncomputable abbrev Wo:=List (List Int)
noncomputable def wsD(ws:Wo):D:=.tup (ws.map wdD)
theorem fz:∀ {a ws:Wo},a.Sublist ws->ws.Nodup->(ws.filter fun v=>decide (v∈a))=a
 |_,[],h,_=>by rw[List.sublist_nil.mp h];rfl
 |a,x::ws,h,hn=>by
  have hx:x ∉ ws:=(List.nodup_cons.mp hn).1;have hn':=(List.nodup_cons.mp hn).2
  cases h with
  |cons _ h=>
   rw[List.filter_cons,if_neg (by simp;exact fun m=>hx (h.mem m))]
   exact fz h hn'
  |cons_cons _ h=>
   rw[List.filter_cons,if_pos (by simp)]
   congr 1
   conv=>rhs;rw[←fz h hn']
   refine List.filter_congr fun v hv=>?_;have:v≠x:=fun e=>hx (e ▸ hv);simp[this]
noncomputable def pU:ASp:=fun xs ω Q=>∃(n:Nat)(a ws:Wo),xs=[.d (wsD a),.d (wsD ws)]/\a.Sublist ws/\ws.Nodup/\a≠[]/\ws.length<=8/\Q (.d (.bl true)) ω
theorem qf(T:Txt K mg t):bD P w K mg base CX0 1 t.bA t.eC ["_law_some","_law_words"] (fL pU):=by
 refine T.lj.okD ka (fun xs ω Q h=>by obtain⟨n,a,ws,rfl,_⟩:=h;rfl) (fun cdv A outer s H E hr=>⟨_,_,(aB (bB (nG K rfl (au hV (by rfl) T.bF (by kernel_rfl) (aa (pv 0) (aa (g9 (v:=.ty "tuple") (by rfl) T.cB (by kernel_rfl) (by rfl)) ag))) (nG K rfl (j3 (wd hr.An) (pv 0) (b9 (aV K rfl) (by rfl) T.cB (by kernel_rfl) (aa (eO (N:=(["_law_word","_law_some"]:List Str)) (src:=[none,some 0]) rfl (by show d8 _ (defScope c9) _ _ (["_law_some","_law_words"]:List Str)=true;decide +kernel) (by intro g' h;cases h) (ik K rfl (pv 1)) (fun _ _ _ _ _ _=>(bE (i:=0) (show (["_law_word","_law_some"]:List Str).Nodup by decide +kernel) rfl (Or.inl rfl))) (fun _ _ _ _ _ _=>(ur (cC (wZ hr.An) (pv 0) (pv 1) (by with_unfolding_all rfl)))) (fun _ _ _ _ _ _=>(cY rfl rfl (pv 0)))) ag)) (cQ _)) (wm (j3 qC (au (aA K rfl) (by rfl) T.cx (by kernel_rfl) (aa (pv 0) ag)) ah (cQ _))))))),(cz (qI (br qS (ae af (ae d6 ai))) (qI (av nM af (br dN (ae (gm (lW af) ay (dY (av zo af af)) (eg af)) ai))) (av jv (br cM (ae af ai)) ao)))),fun xs ω Q h=>?_⟩)
 obtain⟨n,a,ws,rfl,hs,hn,h0,h8,k⟩:=h;have hpos:=List.length_pos_iff.mpr h0;simp only[wsD];walk_at "a1";refine⟨by decide,?_⟩
 rw[if_pos (show isD "tuple" (D.tup (List.map wdD a))=true from rfl)]
 have hal:=hs.length_le;refine u3 wdD (fun v=>decide (v∈a)) wdD (Nat.le_of_lt (aR (by omega))) (fun v hv Q q=>?_) (fun v hv _ Q q=>?_) (fun ρ=>⟨_,bX _,?_⟩)
 ·walk_at "a1"
  refine⟨by have:=dA a;omega,?_⟩
  rw[v8];exact q
 ·walk_at "a1"
  exact q
 rw[fz hs hn];refine⟨by have:=dA a;simp only[dep];omega,?_⟩
 rw[if_pos (dF _),du,decide_eq_true (by omega)]
 exact k
noncomputable def rV:ASp:=fun xs ω Q=>∃(ys zs:Wo),xs=[.d (.tup [wsD ys,wsD zs])]/\Q (.d (.bl (decide (ys.length+zs.length<=8)))) ω
theorem rZ(T:Txt K mg t):bD P w K mg base CX0 1 t.bY t.fq ["box"] (fL rV):=by
 refine T.mE.okD lO (fun xs ω Q h=>by obtain⟨ys,zs,rfl,_⟩:=h;rfl) (fun cdv A outer s H E hr=>⟨_,_,(aB (bB (j3 y6 (ax (aw b7 (aw bq b0)) (au (aA K rfl) (by rfl) T.cx (by kernel_rfl) (aa (bw (aD K rfl) (pv 0) ah (fun _ _=>rfl)) ag)) (au (aA K rfl) (by rfl) T.cx (by kernel_rfl) (aa (bw (aD K rfl) (pv 0) ah (fun _ _=>rfl)) ag))) (cD (v:=.int 8) rfl T.kB ⟨_,rfl⟩) (cQ _)))),(cz (av jv (av cP (br cM (ae (av cO af ao) ai)) (br cM (ae (av cO af ao) ai))) ao)),fun xs ω Q h=>?_⟩)
 obtain⟨ys,zs,rfl,k⟩:=h;simp only[wsD];walk_at "a1";rw[du,show decide ((ys.length:Int)+zs.length<=8)=decide (ys.length+zs.length<=8) from decide_eq_decide.mpr (by omega)]
 exact k
noncomputable def bG(ws:Wo):List Wo:=ws.foldl (fun S w=>S++S.map (·++[w])) [[]]
theorem dC{ws:Wo}{i:Nat}{v:List Int}(h:ws[i]?=some v):bG (ws.take (i+1))=bG (ws.take i)++(bG (ws.take i)).map (·++[v]):=by
 unfold bG;rw[List.take_succ,h,Option.toList_some,List.foldl_append];rfl
theorem ii(ws:Wo):(bG ws).length=2^ws.length:=by
 have key:∀i,i<=ws.length->(bG (ws.take i)).length=2^i:=fun i=>by
  induction i with
  |zero=>intro _;rfl
  |succ i ih=>
   intro hi;rw[dC (List.getElem?_eq_getElem (by omega:i<ws.length)),List.length_append,List.length_map,ih (by omega),Nat.pow_succ]
   omega
 have:=key ws.length (Nat.le_refl _)
 rwa [List.take_length] at this
theorem jx(ws:Wo):bG ws=[]::(bG ws).tail:=by
 have key:∀i,i<=ws.length->∃r,bG (ws.take i)=[]::r:=fun i=>by
  induction i with
  |zero=>exact fun _=>⟨[],rfl⟩
  |succ i ih=>
   intro hi;obtain⟨r,e⟩:=ih (by omega)
   rw[dC (List.getElem?_eq_getElem (by omega:i<ws.length)),e]
   exact⟨_,rfl⟩
 obtain⟨r,e⟩:=key ws.length (Nat.le_refl _);rw[List.take_length] at e;rw[e];rfl
theorem io{ws:Wo}:∀ {s:Wo},s∈bG ws->s.Sublist ws:=by
 have key:∀i,i<=ws.length->∀s∈bG (ws.take i),s.Sublist (ws.take i):=fun i=>by
  induction i with
  |zero=>intro _ s hs;simp[bG] at hs;subst hs;exact List.nil_sublist _
  |succ i ih=>
   intro hi s hs;have hv:=List.getElem?_eq_getElem (by omega:i<ws.length)
   rw[dC hv] at hs;rw[List.take_succ,hv];rcases List.mem_append.mp hs with hs|hs
   ·exact(ih (by omega) s hs).trans (List.sublist_append_left _ _)
   ·obtain⟨u,hu,rfl⟩:=List.mem_map.mp hs
    exact(ih (by omega) u hu).append (List.Sublist.refl _)
 intro s hs;have:=key ws.length (Nat.le_refl _) s (by rwa [List.take_length])
 rwa [List.take_length] at this
noncomputable def sbs(ws:Wo):List Wo:=(bG ws).tail
theorem oV(ws:Wo):(sbs ws).length=2^ws.length-1:=by rw[sbs,List.length_tail,ii]
noncomputable def pO:ASp:=fun xs ω Q=>∃(ws:Wo),xs=[.d (wsD ws)]/\ws.length<=8/\Q (.d (.lst ((sbs ws).map wsD))) ω
theorem qu(T:Txt K mg t):bD P w K mg base CX0 1 t.cr t.gl ["words"] (fL pO):=by
 refine T.pJ.okD dZ (fun xs ω Q h=>by obtain⟨ws,rfl,_⟩:=h;rfl) (fun cdv A outer s H E hr=>⟨_,_,(am (aU (i:=1) dZ.nd rfl (Or.inl rfl) (gh (mn (f8 ag) ag)))
   (am (kF PassesOwn.never rfl (ik K rfl (pv 0)) (bE (i:=2) dZ.nd rfl (Or.inr rfl)) (aB (aU (i:=1) dZ.nd rfl (Or.inl rfl) (ax (aw b7 (aw bq b0)) (pv 1) (eO (N:=(["way","word"] : List Str)) (src:=[none,some 2]) rfl (by show d8 _ (defScope eM) _ _ (["words","ways","word"] : List Str) = true;decide +kernel) (by intro g' h;cases h) (ik K rfl (pv 1)) (fun _ _ _ _ _ _=>(bE (i:=0) (show (["way","word"] : List Str).Nodup by decide +kernel) rfl (Or.inl rfl))) (fun _ _ _ _ _ _=>da) (fun _ _ _ _ _ _=>(cY rfl rfl (ax (aw b7 (aw bq b0)) (pv 0) (f8 (aa (pv 1) ag))))))))))
   (aB (bB (fK (kb K rfl) (pv 1) (g8 ah) gR))))),(aM (bo (vt (ae (kO ai) ai)) ay)
   (aM (oO (lW af) ay (bo (av cP af (gm (lW af) ay lK (eg (av cP af (kO (ae af ai)))))) ay))
   (cz (ud af (j5 ao) ke)))),fun xs ω Q h=>?_⟩)
 obtain⟨ws,rfl,h8,k⟩:=h;simp only[wsD];have p256:∀i,i<=8->2^i<=256:=fun i hi=>Nat.pow_le_pow_right (n:=2) (by decide) hi
 walk_at "s1";walk_at "s1";refine x6 (fun i ρ ω'=>ω'=ω/\∃v2,ρ=[some (.d (.tup (ws.map wdD))),some (.d (.lst ((bG (ws.take i)).map wsD))),v2]) ⟨rfl,_,rfl⟩ ?_ ?_
 ·rintro i d ρ ω' N hd ⟨rfl,v2,rfl⟩ kN
  obtain⟨v,hv,rfl⟩:=ko hd;have hi:i<ws.length:=(List.getElem?_eq_some_iff.mp hv).1;have hl:(bG (ws.take i)).length<=256:=by rw[ii,List.length_take,Nat.min_eq_left (by omega)];exact p256 i (by omega)
  have hT:=dC hv;walk_at "a1";refine fJ (rs:=((bG (ws.take i)).map (·++[v])).map wsD) (by simp) (Nat.le_of_lt (aR (by simp;omega))) (fun j a r h1 h2 Q q=>?_) (fun ρ=>⟨_,bX _,Nat.le_of_lt (aR (by simp;omega)),?_⟩)
  ·simp only[List.map_map,List.getElem?_map,Option.map_eq_some_iff] at h1 h2
   obtain⟨u,hu,rfl⟩:=h1;obtain⟨u',hu',rfl⟩:=h2;rw[hu] at hu';cases hu';have hul:=(io (List.mem_of_getElem? hu)).length_le;simp only[List.length_take] at hul;simp only[Function.comp_apply,wsD] at q ⊢;walk_at "a1";refine⟨Nat.le_of_lt (aR (by omega)),?_⟩
   rw[List.map_append] at q;exact q
  ·refine kN _ _ ⟨rfl,some (.d (wdD v)),?_⟩
   rw[hT,List.map_append]
 ·rintro ρ ω' ⟨rfl,v2,rfl⟩
  walk_at "a1";rw[List.take_length,du]
  rw[show dG ((bG ws).map wsD) (some 1) none=(sbs ws).map wsD from by
   unfold dG sbs
   rw[show HT.sIx ((bG ws).map wsD).length 0 (some 1)=1 from by
    have:1<=(bG ws).length:=by rw[ii];exact Nat.one_le_two_pow
    unfold HT.sIx;simp
    omega,HT.sIx_none,List.take_of_length_le (by simp),List.drop_one,List.map_tail]]
  exact k
noncomputable def er(ys zs:Wo):List D:=(sbs ys).flatMap fun a=>(sbs zs).map fun b=>D.tup [wsD a,wsD b]
theorem jd(ys zs:Wo):(er ys zs).length=(2^ys.length-1)*(2^zs.length-1):=by
 unfold er;rw[List.length_flatMap];simp[oV,List.map_const',List.sum_replicate_nat]
theorem qo:∀a∈List.range 9,∀b∈List.range 9,a+b<=8->(2^a-1)*(2^b-1)<=225:=by decide
theorem li{ys zs:Wo}(h:ys.length+zs.length<=8):(er ys zs).length<=225:=by
 rw[jd];exact qo _ (List.mem_range.mpr (by omega)) _ (List.mem_range.mpr (by omega)) h
theorem m6:∀a b:Wo,d5 (a.map wdD) (b.map wdD)=true
 | [],_=>by simp[d5]
 |_::_,[]=>by simp[d5]
 |x::a,y::b=>by
  simp only[List.map_cons,d5];split
  ·exact m6 a b
  ·exact oI x y
theorem lE:∀v:List Int,nus (v.map D.int)=true
 | []=>rfl
 |x::v=>by simp[nus,nu,lE v]
theorem oh:∀a:Wo,nus (a.map wdD)=true
 | []=>rfl
 |x::a=>by simp[nus,nu,wdD,lE,oh a]
theorem hZ(ys zs:Wo):Rows (er ys zs):=by
 have row:∀d∈er ys zs,∃a b,d=D.tup [wsD a,wsD b]:=fun d hd=>by
  obtain⟨a,_,hd⟩:=List.mem_flatMap.mp hd;obtain⟨b,_,rfl⟩:=List.mem_map.mp hd;exact⟨a,b,rfl⟩
 refine⟨fun d hd=>?_,fun d hd e he=>?_,.inr fun d hd=>?_⟩
 ·obtain⟨a,b,rfl⟩:=row d hd
  simp[nu,nus,wsD,oh]
 ·obtain⟨a,b,rfl⟩:=row d hd
  obtain⟨a',b',rfl⟩:=row e he;simp only[cmD,d5,wsD];split
  ·split
   ·rfl
   ·exact m6 _ _
  ·exact m6 _ _
 ·obtain⟨a,b,rfl⟩:=row d hd
  exact⟨_,_,rfl⟩
theorem je(ys zs:Wo):bC (er ys zs)<=90:=by
 refine Nat.le_trans (fN (n:=50) fun d hd=>?_) (by decide)
 obtain⟨a,_,hd⟩:=List.mem_flatMap.mp hd;obtain⟨b,_,rfl⟩:=List.mem_map.mp hd;have h1:=dA a;have h2:=dA b;simp only[dep,bC,wsD];omega
noncomputable def kW(t:Adr):gM:=fun xs ω Q Ex=>∃(n:Nat)(ys zs:Wo),xs=[.d (csD n ys zs)]/\(ys.length+zs.length<=8->∀R l,R.Perm (er ys zs)->pP R->ω l=none->Q (.r (.ref l)) (ω.put l (.own (R.map AV.d))))/\(¬ ys.length+zs.length<=8->Ex t.ak ω)
theorem mh(T:Txt K mg t):bD P w K mg base (CXx P w) 2 t.cZ t.g6 ["case"] (og (kW t)):=by
 have G_is_small:bD P w K mg base _ _ _ _ _ _:=rZ T;have G_some_of:bD P w K mg base _ _ _ _ _ _:=qu T
 refine T.tX.AD qG (fun xs ω Q Ex h=>by obtain ⟨n,ys,zs,rfl,_⟩:=h;rfl) (fun cdv A outer s H E hr=>⟨_,_,(am (ff (PT.nox (dO (cc K rfl (aN G_is_small (hr.mono (by omega)) (by rfl) T.mQ T.nk T.mS .nil bM (aa (fK (kb K rfl) (pv 0) (g8 ah) gR) ag)) (fun _=>rfl)))) (aB (si hr.hd (by rfl) T.jc (wP T.b8) (a8 wE ag))) cw)
   (aB (PS.nox (bB (au (kr K rfl hr.An) (by rfl) T.eh (by kernel_rfl) (aa (eO (N:=(["yes","no","case"]:List Str)) (src:=[none,none,some 0]) rfl (by show d8 _ (defScope gN) _ _ (["case"]:List Str)=true;decide +kernel) (by intro g' h;cases h;rfl) (ik K rfl (aN G_some_of (hr.mono (by omega)) (by rfl) T.jA T.jo T.jf .nil bM (aa (bw (aD K rfl) (pv 0) ah (fun _ _=>rfl)) ag))) (fun _ _ _ _ _ _=>(bE (i:=0) (show (["yes","no","case"]:List Str).Nodup by decide +kernel) rfl (Or.inl rfl))) (fun _ _ _ _ _ _=>da) (fun _ _ _ _ _ _=>(xk rfl rfl rfl (by intro g' h;cases h) (ik K rfl (aN G_some_of (hr.mono (by omega)) (by rfl) T.jA T.jo T.jf .nil bM (aa (bw (aD K rfl) (pv 2) ah (fun _ _=>rfl)) ag))) (bE (i:=1) (show (["yes","no","case"]:List Str).Nodup by decide +kernel) rfl (Or.inl rfl)) da (cY rfl rfl (f8 (aa (pv 0) (aa (pv 1) ag))))))) ag)))))),(y9 (zC (fE (gH (a9 (ae (ud af (j5 ao) ke) ai)))) (ue (ae zm ai)) (zd df))
   (zd (cz (br rW (ae (gm (lW (a9 (ae (av cO af ao) ai))) ay lK (yi (lW (a9 (ae (av cO af ao) ai))) ay lK (eg (kO (ae af (ae af ai)))))) ai))))),fun xs ω Q Ex h=>?_⟩)
 obtain⟨n,ys,zs,rfl,kq,kx⟩:=h;simp only[csD];walk_at "s1";rw[show dG [D.int n,D.tup (ys.map wdD),D.tup (zs.map wdD)] (some 1) none=[D.tup (ys.map wdD),D.tup (zs.map wdD)] from rfl]
 refine⟨ys,zs,rfl,_,rfl,?_⟩;by_cases hs:ys.length+zs.length<=8
 case neg=>
  rw[decide_eq_false hs,if_pos (by decide),du]
  exact kx hs
 rw[decide_eq_true hs,if_neg (by decide)]
 refine⟨ys,rfl,by omega,?_⟩
 walk_at "a1"
 have flat_at:∀ {i:Nat} {a:Wo},(sbs ys)[i]?=some a->((sbs ys).take (i+1)).flatMap (fun a=>(sbs zs).map fun b=>D.tup [wsD a,wsD b])=((sbs ys).take i).flatMap (fun a=>(sbs zs).map fun b=>D.tup [wsD a,wsD b])++(sbs zs).map fun b=>D.tup [wsD a,wsD b]:=fun h=>by
  rw[List.take_succ,h,Option.toList_some,List.flatMap_append,List.flatMap_singleton]
 have hle:=li hs
 have part:∀i,(((sbs ys).take i).flatMap fun a=>(sbs zs).map fun b=>D.tup [wsD a,wsD b]).length<=225:=fun i=>by
  refine Nat.le_trans (List.Sublist.length_le ?_) hle;unfold er
  conv=>rhs;rw[←List.take_append_drop i (sbs ys),List.flatMap_append]
  exact List.sublist_append_left _ _
 refine sW (fun i xs ρ ω'=>ω'=ω/\(∃v0 v1,ρ=[v0,v1,some (.d (D.tup [D.int n,D.tup (ys.map wdD),D.tup (zs.map wdD)]))])/\xs=(((sbs ys).take i).flatMap fun a=>(sbs zs).map fun b=>D.tup [wsD a,wsD b]).map AV.d) ⟨rfl,⟨_,_,rfl⟩,rfl⟩ ?_ ?_
 ·rintro i d xs ρ ω' N hdi ⟨rfl,⟨v0,v1,rfl⟩,rfl⟩ kN
  obtain⟨a,hai,rfl⟩:=ko hdi;walk_at "a1";refine⟨zs,rfl,by omega,?_⟩
  walk_at "a1";refine sW (fun j xs ρ ω''=>ω''=ω'/\(∃v1,ρ=[some (.d (wsD a)),v1,some (.d (D.tup [D.int n,D.tup (ys.map wdD),D.tup (zs.map wdD)]))])/\xs=((((sbs ys).take i).flatMap fun a=>(sbs zs).map fun b=>D.tup [wsD a,wsD b])++((sbs zs).take j).map fun b=>D.tup [wsD a,wsD b]).map AV.d) ⟨rfl,⟨_,rfl⟩,by simp⟩ ?_ ?_
  ·rintro j d2 xs ρ ω'' M hd2 ⟨rfl,⟨v1,rfl⟩,rfl⟩ kM
   obtain⟨b,hbj,rfl⟩:=ko hd2;walk_at "a1";have:=part i
   have hb:(sbs zs).length<=255:=by
    rw[oV];have p8:2^zs.length<=2^8:=Nat.pow_le_pow_right (by decide) (by omega)
    omega
   have hj:=List.length_take_le j (sbs zs);refine⟨aR (by simp only[List.length_map,List.length_append,List.length_take] at *;omega),kM _ _ _ ⟨rfl,⟨_,rfl⟩,?_⟩⟩
   rw[List.take_succ,hbj];simp
  ·rintro xs ρ ω'' ⟨rfl,⟨v1,rfl⟩,rfl⟩
   refine kN _ _ _ ⟨rfl,⟨_,_,rfl⟩,?_⟩;rw[flat_at hai];simp
 ·rintro xs ρ ω' ⟨rfl,⟨v0,v1,rfl⟩,rfl⟩
  refine⟨_,bX _,?_⟩;rw[List.length_map,List.take_length,mG];exact⟨_,er ys zs,rfl,.inr rfl,fun _=>hZ ys zs,je ys zs,fun R l h1 h2 h3=>kq hs R l h1 h2 h3⟩
theorem rU{β:Type}{te:AE}{as:List AV}{v0:Option AV}{aL:SA}{ω:Om}{K:List AV->SA->Om->Prop}(S:Nat->Om->Prop)(enc:β->D)(R:β->Prop)(h0:S 0 ω)(hz:as.length<=sizeLine)(he:∀(i:Nat)(a:AV),i<as.length->∀ω,S i ω->∀Q:AV->Om->Prop,(∀b ω',R b->S (i+1) ω'->Q (.d (enc b)) ω')->te (some a::aL) ω Q)(hk:∀(bs:List β)(ρ:SA)(ω':Om),bs.length=as.length->(∀b∈bs,R b)->S as.length ω'->K ((bs.map enc).map AV.d) ρ ω'):ce (iK 0) fW (iE te) as [] (v0::aL) ω K:=by
 refine gW (fun i xs ρ ω'=>∃v bs,S i ω'/\ρ=v::aL/\xs=(bs.map enc).map AV.d/\bs.length=i/\∀b∈bs,R b) ⟨_,[],h0,rfl,rfl,rfl,fun b h=>by simp at h⟩ ?_ ?_
 ·rintro i a xs ρ ω' N ha ⟨v,bs,hS,rfl,rfl,hl,hR⟩ kN
  have hi:=(List.getElem?_eq_some_iff.mp ha).1;rw[dz,List.set_cons_zero,dW,if_pos rfl,eA];refine he i a hi _ hS _ fun b ω2 hb hS2=>⟨by rw[List.length_map,List.length_map];omega,kN _ _ _ ⟨_,bs++[b],hS2,rfl,by simp,by simp[hl],fun b' hj=>?_⟩⟩
  rcases List.mem_append.mp hj with h|h
  ·exact hR b' h
  ·cases List.mem_singleton.mp h
   exact hb
 ·rintro xs ρ ω' ⟨v,bs,hS,rfl,rfl,hl,hR⟩
  exact hk bs _ _ hl hR hS
theorem xo{α:Type}(xs:List α)(k:Nat):dG xs none (some (k:Int))=xs.take k:=by
 unfold dG;rw[HT.sIx_none,HT.sIx_nat,List.drop_zero,Nat.sub_zero];by_cases h:k<=xs.length
 ·rw[Nat.min_eq_left h]
 ·rw[Nat.min_eq_right (by omega),List.take_length,List.take_of_length_le (by omega)]
theorem wU{α:Type}(xs:List α)(k:Nat):dG xs (some (k:Int)) none=xs.drop k:=by
 unfold dG;rw[HT.sIx_none,HT.sIx_nat];by_cases h:k<=xs.length
 ·rw[Nat.min_eq_left h,List.take_of_length_le (by simp)]
 ·rw[Nat.min_eq_right (by omega),List.drop_length,List.drop_eq_nil_of_le (by omega),List.take_nil]
noncomputable def uR(t:Adr):ASp:=fun xs ω Q=>∃(n:Nat)(ys zs:Wo),xs=[.d (csD n ys zs)]/\¬ ys.length+zs.length<=8/\Q (.d (.bl true)) ω
theorem tT(T:Txt K mg t):bD P w K mg base CX0 3 t.bz t.eB ["_law_case_here"] (fL (uR t)):=by
 have GX_boxes:bD P w K mg base _ _ _ _ _ _:=mh T
 refine T.ml.okD dQ (fun xs ω Q h=>by obtain⟨n,ys,zs,rfl,_⟩:=h;rfl) (fun cdv A outer s H E hr=>⟨_,_,(am (aU (i:=1) dQ.nd rfl (Or.inl rfl) xG)
   (am (v9 (i:=2) (j:=1) rfl rfl rfl (qV (rH GX_boxes (hr.mono (by omega)) (by rfl) T.jU T.kj T.kf (aa (pv 0) ag))) (by rfl) T.kX dQ.nd rfl rfl (by decide) rfl rfl)
   (am (ff (PW.pt (lA (dO (cc K rfl (au (k7 K rfl) (by rfl) T.bF (by kernel_rfl) (aa (pv 1) (aa (cD (v:=.ref t.ak) rfl T.jc rfl) ag))) (fun _=>rfl))) (kH (dO (cc K rfl (au (k7 K rfl) (by rfl) T.bF (by kernel_rfl) (aa (pv 1) (aa (g9 (v:=.ty "ValueError") (by rfl) T.jT (by kernel_rfl) (by rfl)) ag))) (fun _=>rfl)))))) (aB (bB iH)) cw)
   (aB (bB (tV K rfl (au (qp K rfl) (by rfl) T.bF (by kernel_rfl) (aa (pv 1) (mn (f8 (aa (cD (v:=.ref t.bO) rfl T.rk rfl) (aa (cD (v:=.ref t.bQ) rfl T.qY rfl) (aa (cD (v:=.ref t.cu) rfl T.uH rfl) (aa (cD (v:=.ref t.ba) rfl T.nA rfl) (aa (cD (v:=.ref t.bI) rfl T.rO rfl) (aa (cD (v:=.ref t.bN) rfl T.tG rfl) (aa (cD (v:=.ref t.bJ) rfl T.sO rfl) ag)))))))) ag))))))))),(aM (bo yG ay)
   (aM (yH (ae af ai))
   (aM (jR (rX (fE (gH (br vy (ae af (ae d6 ai))))) (fE (gH (br vy (ae af (ae d6 ai)))))) (cz m4) df)
   (cz (wt (wY af (ae d6 (ae d6 (ae d6 (ae d6 (ae d6 (ae d6 (ae d6 ai))))))))))))),fun xs ω Q h=>?_⟩)
 obtain⟨n,ys,zs,rfl,hs,k⟩:=h;walk_at "s1";walk_at "s1";refine⟨n,ys,zs,rfl,fun z=>absurd z hs,fun _=>⟨T.aS,fun a=>?_⟩⟩;walk_at "s1";refine⟨_,rfl,true,iy T.b8 T.a7,?_⟩;rw[if_neg (by decide)]
 refine⟨_,rfl,true,iy T.b8 T.aP,?_⟩;rw[if_neg (by decide)]
 refine⟨[.ref t.bO,.ref t.bQ,.ref t.cu,.ref t.ba,.ref t.bI,.ref t.bN,.ref t.bJ],rfl,by simp,_,rfl,false,iy T.b8 (by simp only[W.kitAny,T.be,T.bg,T.bv,T.aT,T.bd,T.bh,T.bf]),?_⟩
 rw[du];exact k
noncomputable def sE:ASp:=fun xs ω Q=>∃(p:Addr)(b:Nat),xs=[.r (.ref p)]/\iV ω p b/\b<=1000/\∀(n:Nat)(ys zs:Wo)(c:Pn),¬ ys.length+zs.length<=8->Q (.d (csD n ys zs)) (ω.put p (bH c))
theorem tR(T:Txt K mg t):bD P w K mg base CX0 2 t.cU t.iL ["_law_pen_here"] (fL sE):=by
 have G_l_pick:bD P w K mg base _ _ _ _ _ _:=nK T
 refine T.qL.okD dD (fun xs ω Q h=>by obtain ⟨p,b,rfl,_⟩:=h;rfl) (fun cdv A outer s H E hr=>⟨_,_,(am (aU (i:=1) dD.nd rfl (Or.inr rfl) (ax (aw b7 (aw bq b0)) ah (aN G_l_pick (hr.mono (by omega)) (by rfl) T.bV T.bL T.bR .nil bM (aa (pv 0) (a8 ah ag)))))
   (am (aU (i:=2) dD.nd rfl (Or.inr rfl) (eO (N:=(["_law_number","_law_places"] : List Str)) (src:=[none,some 1]) rfl (by show d8 _ (defScope eJ) _ _ (["_law_pen_here","_law_places","_law_left","_law_some","_law_at"] : List Str) = true;decide +kernel) (by intro g' h;cases h) (ci rfl T.c8 (aa (ax jP ah (pv 1)) ag)) (fun _ _ _ _ _ _=>(bE (i:=0) (show (["_law_number","_law_places"] : List Str).Nodup by decide +kernel) rfl (Or.inr rfl))) (fun _ _ _ _ _ _=>da) (fun _ _ _ _ _ _=>(cY rfl rfl (b9 (aV K rfl) (by rfl) T.cB (by kernel_rfl) (aa (eO (N:=(["_law_k","_law_number","_law_places"] : List Str)) (src:=[none,some 0,some 1]) rfl (by with_unfolding_all rfl) (by intro g' h;cases h) (ci rfl T.c8 (aa (pv 1) ag)) (fun _ _ _ _ _ _=>(bE (i:=0) (show (["_law_k","_law_number","_law_places"] : List Str).Nodup by decide +kernel) rfl (Or.inl rfl))) (fun _ _ _ _ _ _=>da) (fun _ _ _ _ _ _=>(cY rfl rfl (ax tI (ax ss (pv 1) (ax de (ax de (pv 2) ah) (pv 0))) ah)))) ag))))))
   (am (o6 (i:=3) dD.nd rfl (Or.inl rfl) (N:=(["_law_k","_law_pen_here","_law_left"] : List Str)) (src:=[none,some 0,some 2]) rfl (by show d8 _ (defScope eJ) _ _ (["_law_pen_here","_law_places","_law_left","_law_some","_law_at"] : List Str) = true;decide +kernel) (by intro g' h;cases h) (ci rfl T.c8 (aa (ax (aw b7 (aw bq b0)) ah (aN G_l_pick (hr.mono (by omega)) (by rfl) T.bV T.bL T.bR .nil bM (aa (pv 0) (aa (ax de (au (aA K rfl) (by rfl) T.cx (by kernel_rfl) (aa (pv 2) ag)) ah) ag)))) ag)) (fun _ _ _ _ _ _=>(bE (i:=0) (show (["_law_k","_law_pen_here","_law_left"] : List Str).Nodup by decide +kernel) rfl (Or.inl rfl))) (fun _ _ _ _ _ _=>da) (fun _ _ _ _ _ _=>(cY rfl rfl (md PySem.F.plainAttrs_list PySem.F.slot_list_pop PySem.F.type_list_pop fC (pv 2) (aa (aN G_l_pick (hr.mono (by omega)) (by rfl) T.bV T.bL T.bR .nil bM (aa (pv 1) (aa (au (aA K rfl) (by rfl) T.cx (by kernel_rfl) (aa (pv 2) ag)) ag))) ag)))))
   (am (aU (i:=4) dD.nd rfl (Or.inl rfl) (ax (aw b7 (aw bq b0)) ah (aN G_l_pick (hr.mono (by omega)) (by rfl) T.bV T.bL T.bR .nil bM (aa (pv 0) (aa (ax de (au (aA K rfl) (by rfl) T.cx (by kernel_rfl) (aa (pv 3) ag)) ah) ag)))))
   (aB (bB (f8 (aa (pv 1) (aa (b9 (aV K rfl) (by rfl) T.cB (by kernel_rfl) (aa (au db (by rfl) T.eh (by kernel_rfl) (aa (fK (kb K rfl) (pv 3) gR (g8 (pv 4))) ag)) ag)) (aa (b9 (aV K rfl) (by rfl) T.cB (by kernel_rfl) (aa (au db (by rfl) T.eh (by kernel_rfl) (aa (fK (kb K rfl) (pv 3) (g8 (pv 4)) gR) ag)) ag)) ag)))))))))),(aM (bo (av cP ao (a9 (ae af (ae ao ai)))) ay)
   (aM (bo (n9 (eF (ae (av eX ao af) ai)) ay lK (eg (br dN (ae (gm (eF (ae af ai)) ay lK (eg (av d7 (av eX af (av d7 (av d7 af ao) af)) ao))) ai)))) ay)
   (aM (bo (gm (eF (ae (av cP ao (a9 (ae af (ae (av d7 (br cM (ae af ai)) ao) ai)))) ai)) ay lK (eg (gY af (ae (a9 (ae af (ae (br cM (ae af ai)) ai))) ai)))) ay)
   (aM (bo (av cP ao (a9 (ae af (ae (av d7 (br cM (ae af ai)) ao) ai)))) ay)
   (cz (kO (ae af (ae (br dN (ae (br fG (ae (ud af ke (j5 af)) ai)) ai)) (ae (br dN (ae (br fG (ae (ud af (j5 af) ke) ai)) ai)) ai))))))))),fun xs ω Q h=>?_⟩)
 obtain⟨p,b,rfl,⟨c0,hc0,hp⟩,hb,k⟩:=h;walk_at "s1";refine⟨p,2,b,rfl,⟨c0,hc0,hp⟩,by omega,by decide,by decide,fun r c1 hc1 r0 r1=>⟨r,rfl,?_⟩⟩
 obtain⟨n,hn,hn4,hn5⟩:∃n:Nat,4+r=(n:Int)/\4<=n/\n<=5:=⟨(4+r).toNat,by omega,by omega,by omega⟩
 rw[hn];clear hn r0 r1;walk_at "s1";have h32:=yZ hn5;have hwa:=vR ⟨n,by omega⟩
 dsimp only at hwa;have hL0:(wl n).length=2^n:=kD n;have hL2:16<=(wl n).length:=by rw[hL0];exact Nat.pow_le_pow_right (n:=2) (by decide) hn4
 have hwl:=vK hn5;rw[pw5];generalize hz:2^n=z at h32 hwa ⊢;refine⟨⟨by omega,by omega,by decide⟩,by omega,by omega,?_⟩
 rw[Int.toNat_natCast];refine fJ (rs:=(wl n).map wdD) (by rw[hwa];simp[cX]) (Nat.le_of_lt (aR (by simp[cX];omega))) (fun i a r ha hr' Q q=>?_) (fun ρ l hl=>?_)
 ·rw[hwa] at hr'
  simp only[cX,List.getElem?_map,Option.map_eq_some_iff] at ha hr';obtain⟨i',h1,rfl⟩:=ha;obtain⟨v,⟨i2,h2,rfl⟩,rfl⟩:=hr';rw[h1] at h2;cases h2;walk_at "a1";refine⟨by omega,by omega,?_⟩
  refine fJ (rs:=(mJ n i').map D.int) (by simp[cX,mJ]) (Nat.le_of_lt (aR (by simp[cX];omega))) (fun j a r ha hr' Q q=>?_) (fun ρ=>⟨_,bX _,?_⟩)
  ·simp only[cX,mJ,List.getElem?_map,Option.map_eq_some_iff] at ha hr'
   obtain⟨k',h1,rfl⟩:=ha;obtain⟨v,⟨k2,h2,rfl⟩,rfl⟩:=hr';rw[h1] at h2;cases h2
   have hk:k'<n:=by
    have:=List.mem_range.mp (List.mem_of_getElem? h1);simpa using this
   walk_at "a1";exact⟨by omega,q⟩
  ·exact q
 clear hwa h32 hz;have hpl:p≠l:=fun e=>by subst e;rw[Om.Aa] at hl;cases hl
 rw[Om.z9 (Ne.symm hpl)] at hl
 have hne:∀v∈wl n,v≠[]:=fun v hv e=>by
  have:=(mO hv).1;rw[e] at this;simp at this;omega
 have hex:Ex (ω.put p (bH c1)) ((ω.put p (bH c1)).put l (oW (wl n))):=(Ex.refl _).new (by rw[Om.z9 (Ne.symm hpl)];exact hl)
 have h1p:((ω.put p (bH c1)).put l (oW (wl n))) p=some (bH c1):=by rw[Om.z9 hpl,Om.Aa]
 have h1l:((ω.put p (bH c1)).put l (oW (wl n))) l=some (oW (wl n)):=Om.Aa;show uf _ _ _ _ ((ω.put p (bH c1)).put l (oW (wl n)));generalize (ω.put p (bH c1)).put l (oW (wl n))=ω1 at *;walk_at "s1";have hN:∀(L:Wo),((L.map wdD).map AV.d).length=L.length:=fun L=>by simp
 rw[h1l];refine⟨_,rfl,p,_,b+1,rfl,⟨c1,hc1,h1p⟩,by omega,by rw[hN];omega,by rw[hN];omega,fun r c2 hc2 r0 r1=>⟨r,rfl,by omega,?_⟩⟩
 rw[hN] at r1;obtain⟨m,hm,hm9,hml⟩:∃m:Nat,9+r=(m:Int)/\9<=m/\m<=(wl n).length:=⟨(9+r).toNat,by omega,by omega,by omega⟩
 rw[hm,Int.toNat_natCast];refine⟨by omega,?_⟩
 have hml2:(cX 0 m).length=m:=by simp[cX]
 refine rU (fun i ω'=>∃c L,Cn c (b+2+i)/\Ex (ω.put p (bH c)) ω'/\ω' p=some (bH c)/\ω' l=some (oW L)/\L.length+i=(wl n).length/\∀v∈L,v∈wl n) wdD (fun v=>v∈wl n) ⟨c2,wl n,hc2,hex.put2,Om.Aa,by rw[Om.z9 (Ne.symm hpl)];exact h1l,by omega,fun v h=>h⟩ (Nat.le_of_lt (aR (by rw[hml2];omega))) (fun i a hi ω' hS Q q=>?_) (fun ws ρ ω' hwl2 hR hS=>⟨_,bX _,?_⟩)
 ·rw[hml2] at hi
  obtain⟨c,L,hc,he,hp1,hl1,hLi,hLw⟩:=hS;walk_at "a1";refine⟨⟨_,hl1⟩,_,by rw[hl1];rfl,p,_,b+2+i,rfl,⟨c,hc,hp1⟩,by omega,by rw[hN];omega,by rw[hN];omega,fun r c3 hc3 r0 r1=>?_⟩
  rw[hN] at r1;obtain⟨j,rfl⟩:=Int.eq_ofNat_of_zero_le r0;have hj:j<L.length:=by omega
  have hvj:=List.getElem?_eq_getElem hj;have hl2:(ω'.put p (bH c3)) l=some (oW L):=by rw[Om.z9 (Ne.symm hpl)];exact hl1
  refine⟨_,j,rfl,hl2,by rw[hN];omega,AV.d (wdD L[j]),by simp[hj],?_⟩
  rw[kJ];refine q _ _ (hLw _ (List.getElem_mem hj)) ⟨c3,L.eraseIdx j,hc3,he.put2.over (by rw[Om.z9 (Ne.symm hpl)];exact hl),by rw[Om.z9 hpl,Om.Aa],Om.Aa,by rw[List.length_eraseIdx,if_pos hj];omega,fun v hv=>hLw v ((List.eraseIdx_sublist L j).mem hv)⟩
 rw[hml2] at hwl2 hS;obtain⟨c,L,hc,he,hp1,hl1,hLi,hLw⟩:=hS;walk_at "s1";refine⟨p,_,b+2+m,rfl,⟨c,hc,hp1⟩,by omega,by omega,by omega,fun r c3 hc3 r0 r1=>⟨r,rfl,?_⟩⟩
 obtain⟨j,hj,hj1,hj2⟩:∃j:Nat,1+r=(j:Int)/\1<=j/\j<ws.length:=⟨(1+r).toNat,by omega,by omega,by omega⟩
 rw[hj];have hwn:∀v∈ws,¬ v=[]:=fun v hv=>hne v (hR v hv);have l1:(ws.take j).length+(ws.drop j).length=ws.length:=by simp;omega
 refine⟨ws.take j,by rw[xo,List.map_take],fun y hy=>hwn y (List.mem_of_mem_take hy),by omega,ws.drop j,by rw[wU,List.map_drop],fun y hy=>hwn y (List.mem_of_mem_drop hy),by omega,?_⟩
 rw[lL he.put2 (by rw[hp];rfl)]
 exact k n _ _ c3 (by rw[cR,cR];omega)
theorem uA{ws:Wo}(hn:ws.Nodup):(bG ws).Nodup:=by
 have key:∀i,i<=ws.length->(bG (ws.take i)).Nodup:=fun i=>by
  induction i with
  |zero=>exact fun _=>by simp[bG]
  |succ i ih=>
   intro hi;have hv:=List.getElem?_eq_getElem (by omega:i<ws.length)
   have h1:=ih (by omega)
   rw[dC hv];refine List.nodup_append.mpr ⟨h1,List.pairwise_map.mpr (h1.imp fun hne e=>hne (List.append_cancel_right e)),fun x hx y hy e=>?_⟩;obtain⟨u,_,rfl⟩:=List.mem_map.mp hy;subst e;have hm:=(io hx).mem (List.mem_append_right u (List.mem_singleton.mpr rfl));obtain⟨k,hk,ek⟩:=List.mem_iff_getElem.mp hm;rw[List.length_take] at hk;rw[List.getElem_take] at ek;have:=(List.pairwise_iff_getElem.mp hn) k i (by omega) (by omega) (by omega)
   exact this ek
 have:=key ws.length (Nat.le_refl _)
 rwa [List.take_length] at this
theorem kE{ws:Wo}(hn:ws.Nodup):(sbs ws).Nodup/\[] ∉ sbs ws:=by
 have:=uA hn;rw[jx] at this;exact⟨(List.nodup_cons.mp this).2,(List.nodup_cons.mp this).1⟩
theorem oU{ws s:Wo}(h:s∈sbs ws):s.Sublist ws:=io (by rw[jx];exact List.mem_cons_of_mem _ h)
theorem u8{a b:List Int}(h:wdD a=wdD b):a=b:=by
 have:=mX a b;rw[h,dF] at this;simpa using this.symm
theorem ou{a b:Wo}(h:wsD a=wsD b):a=b:=by
 simp only[wsD,D.tup.injEq] at h;exact List.map_inj_right (fun _ _ e=>u8 e) |>.mp h
theorem tS{ys zs:Wo}(hy:ys.Nodup)(hz:zs.Nodup):(er ys zs).Nodup:=by
 unfold er;refine List.pairwise_flatMap.mpr ⟨fun a _=>List.pairwise_map.mpr ((kE hz).1.imp fun hne e=>hne ?_),(kE hy).1.imp fun {a b} hne x hx y hy e=>hne ?_⟩
 ·simp only[D.tup.injEq,List.cons.injEq,and_true,true_and] at e
  exact ou e
 ·obtain⟨u,_,rfl⟩:=List.mem_map.mp hx
  obtain⟨v,_,rfl⟩:=List.mem_map.mp hy;simp only[D.tup.injEq,List.cons.injEq,and_true] at e;exact ou e.1
theorem wc(T:Txt K mg t):bD P w K mg base CX0 30 t.fS t.nY ["_law_script"] (nw K):=by
 have G_l_pen:bD P w K mg base _ _ _ _ _ _:=xp T;have G_l_few:bD P w K mg base _ _ _ _ _ _:=wD T;have G_boxes:bD P w K mg base CX0 2 t.cZ t.g6 ["case"] (fL (spN (kW t))):=(mh T).calm;have G_l_is_part:bD P w K mg base _ _ _ _ _ _:=qf T;have G_l_many:bD P w K mg base _ _ _ _ _ _:=tR T;have G_l_refused:bD P w K mg base _ _ _ _ _ _:=tT T
 refine T.ze.okA fw (fun xs ω Q h=>by obtain ⟨a,ns,rfl,_⟩:=h;rfl) (fun cdv A outer s H E hr=>⟨_,_,(am (kF PassesOwn.never rfl (ci rfl T.c8 (aa (au (qh rfl) (by rfl) T.yd (by kernel_rfl) (a8 ah (aa (au (js rfl) (by rfl) T.vp (by kernel_rfl) (a8 ah (aa (au (aA K rfl) (by rfl) T.cx (by kernel_rfl) (aa (pv 0) ag)) ag))) ag))) ag)) (bE (i:=1) fw.nd rfl (Or.inl rfl)) (am (aU (i:=2) fw.nd rfl (Or.inl rfl) (aN G_l_pen (hr.mono (by omega)) (by rfl) T.t6 T.uF T.uG .nil bM (aa (pv 0) (aa (pv 1) ag))))
   (am (aU (i:=3) fw.nd rfl (Or.inl rfl) (aN G_l_few (hr.mono (by omega)) (by rfl) T.uk T.u5 T.tY .nil bM (aa (pv 2) (a8 ah ag))))
   (am (aU (i:=4) fw.nd rfl (Or.inl rfl) (aN G_boxes (hr.mono (by omega)) (by rfl) T.jU T.kj T.kf .nil bM (aa (pv 3) ag)))
   (am (ff (dO (cc K rfl (au hV (by rfl) T.bF (by kernel_rfl) (aa (pv 4) (aa (g9 (v:=.ty "list") (by rfl) T.rN (by kernel_rfl) (by rfl)) ag))) (fun _=>rfl))) (aB (bB iH)) cw)
   (am (aU (i:=5) fw.nd rfl (Or.inl rfl) (b9 (i0 K rfl) (by rfl) T.rN (by kernel_rfl) (aa (pv 4) ag)))
   (am (kF PassesOwn.never rfl (ci rfl T.c8 (aa (au (aA K rfl) (by rfl) T.cx (by kernel_rfl) (aa (pv 5) ag)) ag)) (bE (i:=6) fw.nd rfl (Or.inl rfl)) (am (ff (PW.pt (lA (dO (cc K rfl (au hV (by rfl) T.bF (by kernel_rfl) (aa (bw (aD K rfl) (pv 5) (pv 6) (fun _ _=>rfl)) (aa (g9 (v:=.ty "tuple") (by rfl) T.cB (by kernel_rfl) (by rfl)) ag))) (fun _=>rfl))) (lA (cC (mR hr.An) (au (aA K rfl) (by rfl) T.cx (by kernel_rfl) (aa (bw (aD K rfl) (pv 5) (pv 6) (fun _ _=>rfl)) ag)) ah (cQ _)) (kH (PW.pt (wV (cC qC (pv 6) ah (cQ _)) (uQ (dO (cC (w5 hr.An) (bw (aD K rfl) (pv 5) (ax de (pv 6) ah) (fun _ _=>rfl)) (bw (aD K rfl) (pv 5) (pv 6) (fun _ _=>rfl)) (cQ _)))))))))) (aB (bB iH)) cw)
   (aB (ff (PW.pt (lA (dO (cc K rfl (aN G_l_is_part (hr.mono (by omega)) (by rfl) T.gw T.gu T.gG .nil bM (aa (bw (aD K rfl) (bw (aD K rfl) (pv 5) (pv 6) (fun _ _=>rfl)) ah (fun _ _=>rfl)) (aa (bw (aD K rfl) (pv 3) ah (fun _ _=>rfl)) ag))) (fun _=>rfl))) (kH (dO (cc K rfl (aN G_l_is_part (hr.mono (by omega)) (by rfl) T.gw T.gu T.gG .nil bM (aa (bw (aD K rfl) (bw (aD K rfl) (pv 5) (pv 6) (fun _ _=>rfl)) ah (fun _ _=>rfl)) (aa (bw (aD K rfl) (pv 3) ah (fun _ _=>rfl)) ag))) (fun _=>rfl)))))) (aB (bB iH)) cw))))
   (am (ff (cC (mR hr.An) (au (aA K rfl) (by rfl) T.cx (by kernel_rfl) (aa (pv 5) ag)) (ax (aw di dg) (ax de (ax jP ah (au (aA K rfl) (by rfl) T.cx (by kernel_rfl) (aa (bw (aD K rfl) (pv 3) ah (fun _ _=>rfl)) ag))) ah) (ax de (ax jP ah (au (aA K rfl) (by rfl) T.cx (by kernel_rfl) (aa (bw (aD K rfl) (pv 3) ah (fun _ _=>rfl)) ag))) ah)) (cQ _)) (aB (bB iH)) cw)
   (am (oH (ww PySem.F.plainAttrs_list PySem.F.slot_list_clear PySem.F.type_list_clear sd (pv 4)))
   (aB (ff (PW.pt (lA (cC (mR hr.An) (aN G_boxes (hr.mono (by omega)) (by rfl) T.jU T.kj T.kf .nil bM (aa (pv 3) ag)) (pv 5) (cQ _)) (kH (dO (cc K rfl (aN G_l_refused (hr.mono (by omega)) (by rfl) T.lZ T.k9 T.lQ .nil bM (aa (aN G_l_many (hr.mono (by omega)) (by rfl) T.rQ T.rY T.tq .nil bM (aa (pv 2) ag)) ag)) (fun _=>rfl)))))) (aB (bB iH)) cw)))))))))))
   (aB (bB iH))),(aM (oO (eF (ae (br xv (ae ao (ae (br xv (ae ao (ae (br rR (ae af ai)) ai))) ai))) ai)) ay (aM (bo (a9 (ae af (ae af ai))) ay)
   (aM (bo (a9 (ae af (ae ao ai))) ay)
   (aM (bo (a9 (ae af ai)) ay)
   (aM (jR (fE (gH (br qS (ae af (ae d6 ai))))) (cz m4) df)
   (aM (bo (br xf (ae af ai)) ay)
   (aM (oO (eF (ae (br cM (ae af ai)) ai)) ay (aM (jR (rX (fE (gH (br qS (ae (av cO af af) (ae d6 ai))))) (rX (dY (av nM (br cM (ae (av cO af af) ai)) ao)) (yF (dY (av jv af ao)) (fE (dY (av yh (av cO af (av d7 af ao)) (av cO af af))))))) (cz m4) df)
   (jR (rX (fE (gH (a9 (ae (av cO (av cO af af) ao) (ae (av cO af ao) ai))))) (fE (gH (a9 (ae (av cO (av cO af af) ao) (ae (av cO af ao) ai)))))) (cz m4) df)))
   (aM (jR (dY (av nM (br cM (ae af ai)) (av fh (av d7 (av eX ao (br cM (ae (av cO af ao) ai))) ao) (av d7 (av eX ao (br cM (ae (av cO af ao) ai))) ao)))) (cz m4) df)
   (aM (q9 (uV af))
   (jR (rX (dY (av nM (a9 (ae af ai)) af)) (fE (gH (a9 (ae (a9 (ae af ai)) ai))))) (cz m4) df))))))))))
   (cz m4)),fun xs ω Q h=>?_⟩)
 obtain⟨a,ns,rfl,hl,rfl,k⟩:=h;walk_at "s1";refine⟨a,ns,rfl,?_⟩;generalize hM:(if (if (ns.length:Int)<10 then (ns.length:Int) else 10)>1 then (if (ns.length:Int)<10 then (ns.length:Int) else 10) else 1)=M
 have hM1:1<=M/\M<=10:=by subst hM;split<;>(try split)<;>omega
 clear hM;obtain⟨m,rfl⟩:=Int.eq_ofNat_of_zero_le (by omega:0<=M)
 refine⟨by omega,by omega,jO (fun i ρ ω'=>∃v1 v2 v3 v4 v5 v6,ρ=[some (gg K a ns),v1,v2,v3,v4,v5,v6]) ⟨_,_,_,_,_,_,rfl⟩ ?_ ?_⟩
 ·rintro i ρ ω N hi ⟨v1,v2,v3,v4,v5,v6,rfl⟩ kN
  walk_at "s1";refine⟨a,ns,_,rfl,by omega,fun p c hc hp0=>?_⟩
  walk_at "s1";refine⟨p,rfl,lh hc,fun n ys zs c hc hn1 hn5 hF=>?_⟩;rw[Om.Ab];have hp1:iV (ω.put p (bH c)) p 16:=lh hc;generalize ω.put p (bH c)=ω1 at *;walk_at "s1";have h8:=hF.few;refine⟨n,ys,zs,rfl,fun _ R l hR1 hR2 hl0=>?_,fun z=>absurd h8 z⟩;walk_at "s1";refine⟨by decide,?_⟩
  rw[if_neg (by rw[show isD "list" (D.lst R)=true from rfl];decide)]
  have hRl:R.length=(2^ys.length-1)*(2^zs.length-1):=by rw[hR1.length_eq,jd]
  have hR225:R.length<=225:=by rw[hR1.length_eq];exact li h8
  have hW:=hZ ys zs
  have row:∀d∈R,∃a b,d=D.tup [wsD a,wsD b]/\a.Sublist ys/\b.Sublist zs/\a≠[]/\b≠[]:=fun d hd=>by
   have hd:=hR1.mem_iff.mp hd;obtain⟨a,ha,hd⟩:=List.mem_flatMap.mp hd;obtain⟨b,hb,rfl⟩:=List.mem_map.mp hd;exact⟨a,b,rfl,oU ha,oU hb,fun e=>(kE hF.wy.1).2 (e ▸ ha),fun e=>(kE hF.wz.1).2 (e ▸ hb)⟩
  have hnd:R.Nodup:=hR1.nodup_iff.mpr (tS hF.wy.1 hF.wz.1)
  have up:∀j,j+1<R.length->∃x y,R[j]?=some x/\R[j+1]?=some y/\cmD x y=true/\ltD x y=true/\dep x<=90:=fun j hj=>by
   have m1:=hR1.mem_iff.mp (List.getElem_mem (by omega:j<R.length))
   have m2:=hR1.mem_iff.mp (List.getElem_mem hj);refine⟨_,_,List.getElem?_eq_getElem (by omega),List.getElem?_eq_getElem hj,hW.cm _ m1 _ m2,?_,?_⟩
   ·rw[s0 (hW.nu _ m1) (hW.nu _ m2) (hW.cm _ m1 _ m2)]
    have hup:=List.pairwise_iff_getElem.mp hR2 j (j+1) (by omega) hj (by omega)
    cases e:bi (enc R[j]) (enc R[j+1]) with
    |true=>rfl
    |false=>exact absurd (oM (hW.nu _ m1) (hW.nu _ m2) (hW.cm _ m1 _ m2) (mU _ _ hup e)) (List.pairwise_iff_getElem.mp hnd j (j+1) (by omega) hj (by omega))
   ·have:=cV m1
    have:=je ys zs;omega
  walk_at "s1";walk_at "s1";have eP:∀j,j<R.length->∃d,R[j]?=some d/\d∈R:=fun j hj=>⟨_,List.getElem?_eq_getElem hj,List.getElem_mem hj⟩;refine⟨by omega,by omega,jO (fun j ρ' ω'=>ω'=ω1.put l (OC.own (R.map AV.d))/\∃v6,ρ'=[some (gg K a ns),some (AV.d (D.int (0+(i:Int)))),some (AV.r (V.ref p)),some (AV.d (csD n ys zs)),some (AV.r (V.ref l)),some (AV.d (D.lst R)),v6]) ⟨rfl,_,rfl⟩ ?_ ?_⟩
  ·rintro j ρ' ω' M hj ⟨rfl,v6,rfl⟩ kM
   obtain⟨d,ed,hd⟩:=eP j hj;obtain⟨ya,zb,rfl,sa,sb,na,nb⟩:=row d hd;have a1:atI (R.map AV.d) (0+(j:Int))=some (.d (D.tup [wsD ya,wsD zb])):=dM j (by omega) (by simp[ed])
   simp only[csD];walk_at "s1";refine⟨_,a1,_,rfl,by decide,?_⟩
   rw[if_neg (by rw[show isD "tuple" (D.tup [wsD ya,wsD zb])=true from rfl];decide)]
   refine⟨_,a1,_,nh _ _,?_⟩;rw[if_neg (by simp)]
   refine uY (fun h0=>?_) (fun _=>?_)
   case' refine_1=>
    obtain⟨j',rfl⟩:∃j',j=j'+1:=⟨j-1,by omega⟩
    obtain⟨x,y,ex,ey,hc,hlt,hdx⟩:=up j' hj;rw[ed] at ey;cases ey;have a0:atI (R.map AV.d) (0+((j'+1:Nat):Int)-1)=some (.d x):=dM j' (by omega) (by simp[ex])
    refine⟨_,a0,_,a1,?_⟩;rw[uc];refine⟨_,_,rfl,rfl,Nat.le_trans hdx (by decide),hc,true,by rw[hlt],?_⟩
    rw[if_neg (by decide)]
   all_goals
    refine⟨_,a1,_,.inr rfl,_,dM 0 rfl rfl,n,ya,ys,rfl,sa,hF.wy.1,na,by omega,true,rfl,?_⟩
    rw[if_neg (by decide)]
    refine⟨_,a1,_,.inr rfl,_,dM 1 rfl rfl,n,zb,zs,rfl,sb,hF.wz.1,nb,by omega,true,rfl,?_⟩
    rw[if_neg (by decide)]
    exact kM _ _ ⟨rfl,_,rfl⟩
  ·rintro ρ' ω' ⟨rfl,v6,rfl⟩
   simp only[csD];walk_at "s1";have pw:∀q,q<=8->2^q<=2^8:=fun q hq=>Nat.pow_le_pow_right (by decide) hq
   have y8:=pw ys.length (by omega)
   have z8:=pw zs.length (by omega)
   have y1:1<=2^ys.length:=Nat.one_le_two_pow;have z1:1<=2^zs.length:=Nat.one_le_two_pow;rw[pw5,pw5];refine⟨⟨by omega,by omega,by decide⟩,⟨by omega,by omega,by decide⟩,?_⟩
   generalize 2^ys.length=A at *;generalize 2^zs.length=B at *;refine⟨gn ⟨by omega,by omega⟩,?_⟩
   rw [if_neg (by
    rw[hRl,Int.natCast_mul,show ((A-1:Nat):Int)=(A:Int)-1 by omega,show ((B-1:Nat):Int)=(B:Int)-1 by omega]
    simp)]
   have hpl:=hp1.ne hl0;walk_at "s1";refine⟨n,ys,zs,rfl,fun _ R' l' h1 h2 h3=>?_,fun z=>absurd h8 z⟩;obtain rfl:R'=R:=n6 hW (fun d hd=>h1.mem_iff.mp hd) (h1.trans hR1.symm) h2 hR2
   have hdR:bC R'<=90:=Nat.le_trans (fN (n:=50) fun d hd=>by
    obtain⟨a,b,rfl,_⟩:=row d hd;have h1:=dA a;have h2:=dA b;simp only[dep,bC,wsD]
    omega) (by decide)
   have hpl':p≠l':=(iV.other (o:=.own []) hp1 hpl).ne h3;refine⟨.lst R',by rw[aQ,Om.Aa];simp only[bX];rfl,by simp only[dep];omega,?_⟩
   rw[dF,if_neg (by decide)]
   refine⟨p,16,rfl,((hp1.other hpl).other hpl'),by decide,fun n2 ys2 zs2 c2 h=>?_⟩
   refine⟨n2,ys2,zs2,rfl,h,true,rfl,?_⟩;rw[if_neg (by decide)]
   exact kN _ _ ⟨_,_,_,_,_,_,rfl⟩
 ·rintro ρ ω' ⟨v1,v2,v3,v4,v5,v6,rfl⟩
  walk_at "a1";exact k _
end
theorem xy{K:W.Frag}{h:Heap}{mg:Str->Option Value}(X:K.In h)(G:h.Ns mainGlobals mg){bY:Addr}{fd_is_small:FuncData}{cZ:Addr}{fd_boxes:FuncData}{cr:Addr}{fd_some_of:FuncData}{dL:Addr}{fd_l_pen:FuncData}{cS:Addr}{fd_l_pick:FuncData}{dP:Addr}{fd_l_few:FuncData}{cU:Addr}{fd_l_many:FuncData}{bA:Addr}{fd_l_is_part:FuncData}{bz:Addr}{fd_l_refused:FuncData}{fS:Addr}{od_law an_law:Option Addr}{sl_law:Array (Option Value)}{oc_law kV_law dc_law pm_law cd_law ct_law:Value}{cH:Tok}{cf:Addr}{bO:Addr}{ba:Addr}{bI:Addr}{bQ:Addr}{ak:Addr}{cu:Addr}{bJ:Addr}{bN:Addr}(cq:iX K "is_small" fm bY fd_is_small)(eQ:iX K "boxes" gN cZ fd_boxes)(cJ:iX K "some_of" eM cr fd_some_of)(eV:iX K "_law_pen" kl dL fd_l_pen)(dn:iX K "_law_pick" h9 cS fd_l_pick)(eN:iX K "_law_few" gP dP fd_l_few)(dE:iX K "_law_many" eJ cU fd_l_many)(cg:iX K "_law_is_part" c9 bA fd_l_is_part)(cj:iX K "_law_refused" eG bz fd_l_refused)(tm:W.nsIn K mainGlobals "law"=some (some (.ref fS)))(tH:K.lookup fS=some ⟨oc_law,od_law,.func (W.fnOf "law" "law" (defArgs jr) (defBody jr) (defScope jr) .none kV_law dc_law pm_law an_law cd_law ct_law),sl_law⟩)(qE:W.codeIn K cd_law "law"=true)(oS:W.keepIn K (.ref fS)=true)(dI:W.nsIn K mainGlobals "MOST_WORDS"=some (some (.int 8 cH)))(eI:W.nsIn K mainGlobals "TalkError"=some (some (.ref cf)))(iw:W.nsIn K mainGlobals "NoCase"=some (some (.ref bO)))(fj:W.nsIn K mainGlobals "NoSaying"=some (some (.ref ba)))(im:W.nsIn K mainGlobals "NoTalk"=some (some (.ref bI)))(iT:W.nsIn K mainGlobals "NoRise"=some (some (.ref bQ)))(gj:W.nsIn K mainGlobals "TooMany"=some (some (.ref ak)))(kt:W.nsIn K mainGlobals "NoRow"=some (some (.ref cu)))(iN:W.nsIn K mainGlobals "NoWord"=some (some (.ref bJ)))(iu:W.nsIn K mainGlobals "NoText"=some (some (.ref bN)))(b8:gI K ak=true)(be:W.kitOne K (.ref ak) (.ref bO)=some false)(bg:W.kitOne K (.ref ak) (.ref bQ)=some false)(bv:W.kitOne K (.ref ak) (.ref cu)=some false)(aT:W.kitOne K (.ref ak) (.ref ba)=some false)(bd:W.kitOne K (.ref ak) (.ref bI)=some false)(bh:W.kitOne K (.ref ak) (.ref bN)=some false)(bf:W.kitOne K (.ref ak) (.ref bJ)=some false)(a7:W.kitOne K (.ref ak) (.ref ak)=some true)(aP:W.kitOne K (.ref ak) (.type "ValueError")=some true)(aS:W.exmOne K (.ref ak) (.ref cf)=some true)(fH:W.kitOne K (.type "NoneType") (.ref bO)=some false)(fV:W.kitOne K (.type "NoneType") (.ref bQ)=some false)(g5:W.kitOne K (.type "NoneType") (.ref cu)=some false)(dJ:W.kitOne K (.type "NoneType") (.ref ba)=some false)(fT:W.kitOne K (.type "NoneType") (.ref bI)=some false)(fY:W.kitOne K (.type "NoneType") (.ref bN)=some false)(fU:W.kitOne K (.type "NoneType") (.ref bJ)=some false)(eU:W.kitOne K (.type "NoneType") (.ref ak)=some false)(cF:W.kitOne K (.type "NoneType") (.type "ValueError")=some false)(dR:W.nsIn K mainGlobals "ValueError"=some none)(rG:W.nsIn K mainGlobals "abs"=some none)(dX:W.nsIn K mainGlobals "isinstance"=some none)(rC:W.nsIn K mainGlobals "len"=some none)(mF:W.nsIn K mainGlobals "list"=some none)(sg:W.nsIn K mainGlobals "max"=some none)(sV:W.nsIn K mainGlobals "min"=some none)(kA:W.nsIn K mainGlobals "range"=some none)(iD:W.nsIn K mainGlobals "sorted"=some none)(jQ:W.nsIn K mainGlobals "tuple"=some none):∃t,Txt K mg t:=by
 have F_law:=rJ (st:=jr) tH qE oS
 exact⟨⟨bY,_,cZ,_,cr,_,dL,_,cS,_,dP,_,cU,_,bA,_,bz,_,fS,_,cH,cf,bO,ba,bI,bQ,ak,cu,bJ,bN⟩,⟨W.mg_of X G cq.g,cq.f,cq.e,cq.f.Af fun _ _ _ _ _ _ _=>rfl,
  W.mg_of X G eQ.g,eQ.f,eQ.e,eQ.f.Af fun _ _ _ _ _ _ _=>rfl,
  W.mg_of X G cJ.g,cJ.f,cJ.e,cJ.f.Af fun _ _ _ _ _ _ _=>rfl,
  W.mg_of X G eV.g,eV.f,eV.e,eV.f.Ak fun _ _ _ _ _ _ _ _=>rfl,
  W.mg_of X G dn.g,dn.f,dn.e,dn.f.Ak fun _ _ _ _ _ _ _ _=>rfl,
  W.mg_of X G eN.g,eN.f,eN.e,eN.f.Ak fun _ _ _ _ _ _ _ _=>rfl,
  W.mg_of X G dE.g,dE.f,dE.e,dE.f.Af fun _ _ _ _ _ _ _=>rfl,
  W.mg_of X G cg.g,cg.f,cg.e,cg.f.Ak fun _ _ _ _ _ _ _ _=>rfl,
  W.mg_of X G cj.g,cj.f,cj.e,cj.f.Af fun _ _ _ _ _ _ _=>rfl,
  W.mg_of X G tm,F_law,oS,F_law.Af (p0:="_law_script") fun _ _ _ _ _ _ _=>rfl,
  fun s v=>.of_eq rfl,
  W.mg_none_of X G dR,
  W.mg_none_of X G rG,
  W.mg_none_of X G dX,
  W.mg_none_of X G rC,
  W.mg_none_of X G mF,
  W.mg_none_of X G sg,
  W.mg_none_of X G sV,
  W.mg_none_of X G kA,
  W.mg_none_of X G iD,
  W.mg_none_of X G jQ,
  W.mg_of X G dI,
  W.mg_of X G eI,
  W.mg_of X G iw,
  W.mg_of X G fj,
  W.mg_of X G im,
  W.mg_of X G iT,
  W.mg_of X G gj,
  W.mg_of X G kt,
  W.mg_of X G iN,
  W.mg_of X G iu,
  b8,
  be,
  bg,
  bv,
  aT,
  bd,
  bh,
  bf,
  a7,
  aP,
  aS,
  fH,
  fV,
  g5,
  dJ,
  fT,
  fY,
  fU,
  eU,
  cF⟩⟩
noncomputable def inCls(s:PySem.Stmt)(j:Nat):PySem.Stmt:=match s with
 |.ClassDef _ _ _ b _ _ _ _ _ _ _=>b.getD j (.Pass ⟨0,0,0,0⟩)
 |_=>s
noncomputable abbrev oT(x:Array Value):Obj:=⟨.type "tuple",.none,.seq x 0,#[]⟩
noncomputable abbrev oF(n:Str)(i:Nat)(s:Str)(k:Tok)(c:Addr):Obj:=⟨.type "function",.none,.func (W.fnOf n n (defArgs (top i)) (defBody (top i)) (defScope (top i)) .none .none .none (.str s k) .none (.ref c) .none),#[]⟩
noncomputable abbrev oC(n:Str)(a b c:Tok)(l k:Int)(r:Addr)(e:Int)(u:Addr)(v w:Value)(x:Addr)(y:Int)(d:Tok):Obj:=⟨.type "code",.none,.fields #[.str n a,.str n b,.str "/claim/cut.py" c,.int l 0,.int k 0,.int 0 0,.int 0 0,.int 3 0,.ref r,.bool true,.int e 0,.ref u,.none,v,w,.ref x,.int y 0,.int l 0,.str "/claim/cut.py" d],#[]⟩
noncomputable def KK:PySem.Params->PySem.W.Frag:=fun P=>
 (nat_lit 2,⟨.none,.none,.dict #[] 0,#[]⟩)::
 (nat_lit 3,⟨.type "dict",.none,.dict #[⟨PyData.keyHash P "__name__",.str "__name__" 165,.str "law_unlikeplace_k37_boxes_told" 367⟩,⟨PyData.keyHash P "__doc__",.str "__doc__" 166,.none⟩,⟨PyData.keyHash P "__package__",.str "__package__" 167,.none⟩,⟨PyData.keyHash P "__loader__",.str "__loader__" 168,.builtin "__main__.__loader__#opaque"⟩,⟨PyData.keyHash P "__spec__",.str "__spec__" 169,.none⟩,⟨PyData.keyHash P "__annotations__",.str "__annotations__" 170,.ref 6⟩,⟨PyData.keyHash P "__builtins__",.str "__builtins__" 171,.ref 4⟩,⟨PyData.keyHash P "__file__",.str "__file__" 173,.str "/claim/cut.py" 172⟩,⟨PyData.keyHash P "__cached__",.str "__cached__" 174,.none⟩,⟨PyData.keyHash P "TalkError",.str "TalkError" 206,.ref 24⟩,⟨PyData.keyHash P "NoCase",.str "NoCase" 222,.ref 37⟩,⟨PyData.keyHash P "NoSaying",.str "NoSaying" 238,.ref 49⟩,⟨PyData.keyHash P "NoTalk",.str "NoTalk" 254,.ref 61⟩,⟨PyData.keyHash P "NoRise",.str "NoRise" 270,.ref 73⟩,⟨PyData.keyHash P "TooMany",.str "TooMany" 286,.ref 85⟩,⟨PyData.keyHash P "NoRow",.str "NoRow" 302,.ref 97⟩,⟨PyData.keyHash P "NoWord",.str "NoWord" 318,.ref 109⟩,⟨PyData.keyHash P "NoText",.str "NoText" 343,.ref 128⟩,⟨PyData.keyHash P "MOST_WORDS",.str "MOST_WORDS" 347,.int 8 346⟩,⟨PyData.keyHash P "is_small",.str "is_small" 354,.ref 137⟩,⟨PyData.keyHash P "boxes",.str "boxes" 360,.ref 142⟩,⟨PyData.keyHash P "some_of",.str "some_of" 366,.ref 147⟩,⟨PyData.keyHash P "_law_pen",.str "_law_pen" 378,.ref 154⟩,⟨PyData.keyHash P "_law_pick",.str "_law_pick" 389,.ref 161⟩,⟨PyData.keyHash P "_law_few",.str "_law_few" 395,.ref 166⟩,⟨PyData.keyHash P "_law_risen",.str "_law_risen" 401,.ref 171⟩,⟨PyData.keyHash P "_law_grown",.str "_law_grown" 407,.ref 176⟩,⟨PyData.keyHash P "_law_below",.str "_law_below" 413,.ref 181⟩,⟨PyData.keyHash P "_law_grows",.str "_law_grows" 419,.ref 186⟩,⟨PyData.keyHash P "_law_case",.str "_law_case" 428,.ref 193⟩,⟨PyData.keyHash P "_law_many",.str "_law_many" 434,.ref 198⟩,⟨PyData.keyHash P "_law_is_part",.str "_law_is_part" 440,.ref 203⟩,⟨PyData.keyHash P "_law_refused",.str "_law_refused" 449,.ref 210⟩,⟨PyData.keyHash P "law",.str "law" 462,.ref 217⟩] 34,#[]⟩)::
 (nat_lit 15,oT #[.type "ValueError"])::
 (nat_lit 22,oT #[])::
 (nat_lit 23,⟨.type "dict",.none,.dict #[⟨PyData.keyHash P "__module__",.str "__module__" 196,.str "unlikeplace.errors" 187⟩,⟨PyData.keyHash P "__firstlineno__",.str "__firstlineno__" 200,.int 2 199⟩,⟨PyData.keyHash P "__static_attributes__",.str "__static_attributes__" 201,.ref 22⟩,⟨PyData.keyHash P "__weakref__",.str "__weakref__" 203,.ref 25⟩,⟨PyData.keyHash P "__doc__",.str "__doc__" 204,.none⟩] 3,#[]⟩)::
 (nat_lit 24,⟨.type "type",.none,.cls ⟨"TalkError",[.type "ValueError"],[.ref 24,.type "ValueError",.type "Exception",.type "BaseException",.type "object"],23,"TalkError",true,[],[.ref 37,.ref 49,.ref 61,.ref 73,.ref 85,.ref 97,.ref 109,.ref 128],false,.none,false⟩,#[(.some (.ref 15)),.none,(.some (.str "TalkError" 189)),(.some (.str "TalkError" 197)),(.some (.builtin "ValueError.__new__")),(.some (.bool true))]⟩)::
 (nat_lit 25,⟨.type "getset_descriptor",.none,.fields #[.str "__weakref__" 202,.ref 24,.builtin "ExceptionGroup.__weakref__",.none],#[]⟩)::
 (nat_lit 28,oT #[.ref 24])::
 (nat_lit 35,oT #[])::
 (nat_lit 36,⟨.type "dict",.none,.dict #[⟨PyData.keyHash P "__module__",.str "__module__" 214,.str "unlikeplace.errors" 187⟩,⟨PyData.keyHash P "__firstlineno__",.str "__firstlineno__" 218,.int 4 217⟩,⟨PyData.keyHash P "__static_attributes__",.str "__static_attributes__" 219,.ref 35⟩,⟨PyData.keyHash P "__doc__",.str "__doc__" 220,.none⟩] 2,#[]⟩)::
 (nat_lit 37,⟨.type "type",.none,.cls ⟨"NoCase",[.ref 24],[.ref 37,.ref 24,.type "ValueError",.type "Exception",.type "BaseException",.type "object"],36,"NoCase",true,[],[],false,.none,false⟩,#[(.some (.ref 28)),.none,(.some (.str "NoCase" 207)),(.some (.str "NoCase" 215)),(.some (.builtin "ValueError.__new__")),(.some (.bool true))]⟩)::
 (nat_lit 40,oT #[.ref 24])::
 (nat_lit 47,oT #[])::
 (nat_lit 48,⟨.type "dict",.none,.dict #[⟨PyData.keyHash P "__module__",.str "__module__" 230,.str "unlikeplace.errors" 187⟩,⟨PyData.keyHash P "__firstlineno__",.str "__firstlineno__" 234,.int 6 233⟩,⟨PyData.keyHash P "__static_attributes__",.str "__static_attributes__" 235,.ref 47⟩,⟨PyData.keyHash P "__doc__",.str "__doc__" 236,.none⟩] 2,#[]⟩)::
 (nat_lit 49,⟨.type "type",.none,.cls ⟨"NoSaying",[.ref 24],[.ref 49,.ref 24,.type "ValueError",.type "Exception",.type "BaseException",.type "object"],48,"NoSaying",true,[],[],false,.none,false⟩,#[(.some (.ref 40)),.none,(.some (.str "NoSaying" 223)),(.some (.str "NoSaying" 231)),(.some (.builtin "ValueError.__new__")),(.some (.bool true))]⟩)::
 (nat_lit 52,oT #[.ref 24])::
 (nat_lit 59,oT #[])::
 (nat_lit 60,⟨.type "dict",.none,.dict #[⟨PyData.keyHash P "__module__",.str "__module__" 246,.str "unlikeplace.errors" 187⟩,⟨PyData.keyHash P "__firstlineno__",.str "__firstlineno__" 250,.int 8 249⟩,⟨PyData.keyHash P "__static_attributes__",.str "__static_attributes__" 251,.ref 59⟩,⟨PyData.keyHash P "__doc__",.str "__doc__" 252,.none⟩] 2,#[]⟩)::
 (nat_lit 61,⟨.type "type",.none,.cls ⟨"NoTalk",[.ref 24],[.ref 61,.ref 24,.type "ValueError",.type "Exception",.type "BaseException",.type "object"],60,"NoTalk",true,[],[],false,.none,false⟩,#[(.some (.ref 52)),.none,(.some (.str "NoTalk" 239)),(.some (.str "NoTalk" 247)),(.some (.builtin "ValueError.__new__")),(.some (.bool true))]⟩)::
 (nat_lit 64,oT #[.ref 24])::
 (nat_lit 71,oT #[])::
 (nat_lit 72,⟨.type "dict",.none,.dict #[⟨PyData.keyHash P "__module__",.str "__module__" 262,.str "unlikeplace.errors" 187⟩,⟨PyData.keyHash P "__firstlineno__",.str "__firstlineno__" 266,.int 10 265⟩,⟨PyData.keyHash P "__static_attributes__",.str "__static_attributes__" 267,.ref 71⟩,⟨PyData.keyHash P "__doc__",.str "__doc__" 268,.none⟩] 2,#[]⟩)::
 (nat_lit 73,⟨.type "type",.none,.cls ⟨"NoRise",[.ref 24],[.ref 73,.ref 24,.type "ValueError",.type "Exception",.type "BaseException",.type "object"],72,"NoRise",true,[],[],false,.none,false⟩,#[(.some (.ref 64)),.none,(.some (.str "NoRise" 255)),(.some (.str "NoRise" 263)),(.some (.builtin "ValueError.__new__")),(.some (.bool true))]⟩)::
 (nat_lit 76,oT #[.ref 24])::
 (nat_lit 83,oT #[])::
 (nat_lit 84,⟨.type "dict",.none,.dict #[⟨PyData.keyHash P "__module__",.str "__module__" 278,.str "unlikeplace.errors" 187⟩,⟨PyData.keyHash P "__firstlineno__",.str "__firstlineno__" 282,.int 12 281⟩,⟨PyData.keyHash P "__static_attributes__",.str "__static_attributes__" 283,.ref 83⟩,⟨PyData.keyHash P "__doc__",.str "__doc__" 284,.none⟩] 2,#[]⟩)::
 (nat_lit 85,⟨.type "type",.none,.cls ⟨"TooMany",[.ref 24],[.ref 85,.ref 24,.type "ValueError",.type "Exception",.type "BaseException",.type "object"],84,"TooMany",true,[],[],false,.none,false⟩,#[(.some (.ref 76)),.none,(.some (.str "TooMany" 271)),(.some (.str "TooMany" 279)),(.some (.builtin "ValueError.__new__")),(.some (.bool true))]⟩)::
 (nat_lit 88,oT #[.ref 24])::
 (nat_lit 95,oT #[])::
 (nat_lit 96,⟨.type "dict",.none,.dict #[⟨PyData.keyHash P "__module__",.str "__module__" 294,.str "unlikeplace.errors" 187⟩,⟨PyData.keyHash P "__firstlineno__",.str "__firstlineno__" 298,.int 14 297⟩,⟨PyData.keyHash P "__static_attributes__",.str "__static_attributes__" 299,.ref 95⟩,⟨PyData.keyHash P "__doc__",.str "__doc__" 300,.none⟩] 2,#[]⟩)::
 (nat_lit 97,⟨.type "type",.none,.cls ⟨"NoRow",[.ref 24],[.ref 97,.ref 24,.type "ValueError",.type "Exception",.type "BaseException",.type "object"],96,"NoRow",true,[],[],false,.none,false⟩,#[(.some (.ref 88)),.none,(.some (.str "NoRow" 287)),(.some (.str "NoRow" 295)),(.some (.builtin "ValueError.__new__")),(.some (.bool true))]⟩)::
 (nat_lit 100,oT #[.ref 24])::
 (nat_lit 107,oT #[])::
 (nat_lit 108,⟨.type "dict",.none,.dict #[⟨PyData.keyHash P "__module__",.str "__module__" 310,.str "unlikeplace.errors" 187⟩,⟨PyData.keyHash P "__firstlineno__",.str "__firstlineno__" 314,.int 16 313⟩,⟨PyData.keyHash P "__static_attributes__",.str "__static_attributes__" 315,.ref 107⟩,⟨PyData.keyHash P "__doc__",.str "__doc__" 316,.none⟩] 2,#[]⟩)::
 (nat_lit 109,⟨.type "type",.none,.cls ⟨"NoWord",[.ref 24],[.ref 109,.ref 24,.type "ValueError",.type "Exception",.type "BaseException",.type "object"],108,"NoWord",true,[],[],false,.none,false⟩,#[(.some (.ref 100)),.none,(.some (.str "NoWord" 303)),(.some (.str "NoWord" 311)),(.some (.builtin "ValueError.__new__")),(.some (.bool true))]⟩)::
 (nat_lit 112,oT #[.ref 24])::
 (nat_lit 119,oT #[])::
 (nat_lit 121,oT #[.str "self" 334,.str "at" 335])::
 (nat_lit 122,oT #[])::
 (nat_lit 124,⟨.type "code",.none,.fields #[.str "__init__" 331,.str "NoText.__init__" 332,.str "/claim/cut.py" 333,.int 20 0,.int 2 0,.int 0 0,.int 0 0,.int 3 0,.ref 119,.bool true,.int 181 0,.ref 120,.none,.ref 121,.ref 122,.ref 123,.int 336 0,.int 20 0,.str "/claim/cut.py" 337],#[]⟩)::
 (nat_lit 125,⟨.type "function",.none,.func (W.fnOf "__init__" "NoText.__init__" (defArgs (inCls (top 9) 0)) (defBody (inCls (top 9) 0)) (defScope (inCls (top 9) 0)) .none .none .none (.str "unlikeplace.errors" 187) .none (.ref 124) .none),#[]⟩)::
 (nat_lit 126,oT #[.str "at" 339])::
 (nat_lit 127,⟨.type "dict",.none,.dict #[⟨PyData.keyHash P "__module__",.str "__module__" 326,.str "unlikeplace.errors" 187⟩,⟨PyData.keyHash P "__firstlineno__",.str "__firstlineno__" 330,.int 18 329⟩,⟨PyData.keyHash P "__init__",.str "__init__" 338,.ref 125⟩,⟨PyData.keyHash P "__static_attributes__",.str "__static_attributes__" 340,.ref 126⟩,⟨PyData.keyHash P "__doc__",.str "__doc__" 341,.none⟩] 2,#[]⟩)::
 (nat_lit 128,⟨.type "type",.none,.cls ⟨"NoText",[.ref 24],[.ref 128,.ref 24,.type "ValueError",.type "Exception",.type "BaseException",.type "object"],127,"NoText",true,[],[],false,.none,false⟩,#[(.some (.ref 112)),.none,(.some (.str "NoText" 319)),(.some (.str "NoText" 327)),(.some (.builtin "ValueError.__new__")),(.some (.bool true))]⟩)::
 (nat_lit 131,oT #[])::
 (nat_lit 133,oT #[.str "box" 351])::
 (nat_lit 134,oT #[])::
 (nat_lit 136,oC "is_small" 348 349 350 24 1 131 181 132 (.ref 133) (.ref 134) 135 352 353)::
 (nat_lit 137,oF "is_small" 12 "unlikeplace.boxes" 344 136)::
 (nat_lit 138,oT #[])::
 (nat_lit 141,oC "boxes" 355 356 357 26 1 138 181 139 .none .none 140 358 359)::
 (nat_lit 142,oF "boxes" 13 "unlikeplace.boxes" 344 141)::
 (nat_lit 143,oT #[])::
 (nat_lit 146,oC "some_of" 361 362 363 30 1 143 181 144 .none .none 145 364 365)::
 (nat_lit 147,oF "some_of" 14 "unlikeplace.boxes" 344 146)::
 (nat_lit 148,oT #[])::
 (nat_lit 150,oT #[.str "_law_script" 372,.str "_law_at" 373,.str "_law_cell" 374,.str "_law_far" 375])::
 (nat_lit 151,oT #[])::
 (nat_lit 153,oC "_law_pen" 369 370 371 36 2 148 181 149 (.ref 150) (.ref 151) 152 376 377)::
 (nat_lit 154,oF "_law_pen" 16 "law_unlikeplace_k37_boxes_told" 367 153)::
 (nat_lit 155,oT #[])::
 (nat_lit 157,oT #[.str "_law_pen_here" 382,.str "_law_many_here" 383,.str "_law_digit" 384,.str "_law_turn" 385,.str "_law_mixed" 386])::
 (nat_lit 158,oT #[])::
 (nat_lit 160,oC "_law_pick" 379 380 381 44 2 155 181 156 (.ref 157) (.ref 158) 159 387 388)::
 (nat_lit 161,oF "_law_pick" 17 "law_unlikeplace_k37_boxes_told" 367 160)::
 (nat_lit 162,oT #[])::
 (nat_lit 165,oC "_law_few" 390 391 392 55 2 162 181 163 .none .none 164 393 394)::
 (nat_lit 166,oF "_law_few" 18 "law_unlikeplace_k37_boxes_told" 367 165)::
 (nat_lit 194,oT #[])::
 (nat_lit 197,oC "_law_many" 429 430 431 94 1 194 181 195 .none .none 196 432 433)::
 (nat_lit 198,oF "_law_many" 24 "law_unlikeplace_k37_boxes_told" 367 197)::
 (nat_lit 199,oT #[])::
 (nat_lit 202,oC "_law_is_part" 435 436 437 100 2 199 181 200 .none .none 201 438 439)::
 (nat_lit 203,oF "_law_is_part" 25 "law_unlikeplace_k37_boxes_told" 367 202)::
 (nat_lit 204,oT #[])::
 (nat_lit 206,oT #[.str "_law_case_here" 444,.str "_law_caught" 445,.str "e" 446])::
 (nat_lit 207,oT #[])::
 (nat_lit 209,oC "_law_refused" 441 442 443 102 1 204 181 205 (.ref 206) (.ref 207) 208 447 448)::
 (nat_lit 210,oF "_law_refused" 26 "law_unlikeplace_k37_boxes_told" 367 209)::
 (nat_lit 211,oT #[])::
 (nat_lit 213,oT #[.str "_law_script" 453,.str "_law_at" 454,.str "_law_pen_here" 455,.str "_law_case_here" 456,.str "_law_told" 457,.str "_law_kept" 458,.str "_law_k" 459])::
 (nat_lit 214,oT #[])::
 (nat_lit 216,oC "law" 450 451 452 111 1 211 181 212 (.ref 213) (.ref 214) 215 460 461)::
 (nat_lit 217,oF "law" 27 "law_unlikeplace_k37_boxes_told" 367 216)::[]
end My
noncomputable def PySem.W.Fast.tw6894247980046229166:PySem.Params->PySem.W.Frag:=My.KK
theorem PySem.W.Fast.te6894247980046229166:My.KK=PySem.W.Fast.tw6894247980046229166:=rfl
noncomputable def PySem.W.Fast.tw10660518040443075323:PySem.Program:=PySem.Challenge.pw_unlikeplace_k37_boxes_told
theorem PySem.W.Fast.te10660518040443075323:PySem.Challenge.pw_unlikeplace_k37_boxes_told=PySem.W.Fast.tw10660518040443075323:=rfl
namespace PySem.W.Fast
theorem te11160551636132819040:True:=⟨⟩
theorem te4902907560070743232:True:=⟨⟩
theorem te11764346070762274016:True:=⟨⟩
theorem te18048335936300097760:True:=⟨⟩
theorem te18147002366961758464:True:=⟨⟩
theorem te5235907074991951296:True:=⟨⟩
theorem te5425484361254805152:True:=⟨⟩
theorem te12820421850312739744:True:=⟨⟩
theorem te11023679724499925984:True:=⟨⟩
theorem te4878506848484244673:True:=⟨⟩
theorem te2855678125128322305:True:=⟨⟩
theorem te10404808901565496641:True:=⟨⟩
theorem te2093790783294726593:True:=⟨⟩
theorem te1776686430837854689:True:=⟨⟩
theorem te13037835893752765089:True:=⟨⟩
theorem te6140681328772742849:True:=⟨⟩
theorem te3707734904612124417:True:=⟨⟩
theorem te1764589829294566498:True:=⟨⟩
noncomputable def My.sts_94:List PySem.Stmt:=[My.top 4]
noncomputable def tw5128440512506573986:List PySem.Stmt:=My.sts_94
theorem te5128440512506573986:My.sts_94=tw5128440512506573986:=rfl
theorem te6655851542165811618:True:=⟨⟩
theorem te16461749315753563682:True:=⟨⟩
theorem te5107146226312906466:True:=⟨⟩
theorem te17788286381446402147:True:=⟨⟩
noncomputable def My.sts_64:List PySem.Stmt:=[My.top 2]
noncomputable def tw9081269013010123907:List PySem.Stmt:=My.sts_64
theorem te9081269013010123907:My.sts_64=tw9081269013010123907:=rfl
theorem te5387034707577685187:True:=⟨⟩
theorem te7665256708852454595:True:=⟨⟩
theorem te10614526803291871427:True:=⟨⟩
theorem te18203846657789046275:True:=⟨⟩
theorem te3740456096295347875:True:=⟨⟩
theorem te981578311747141315:True:=⟨⟩
theorem te814349804425930531:True:=⟨⟩
theorem te8679608629306477379:True:=⟨⟩
theorem te6964405228334024964:True:=⟨⟩
theorem te7957424957703535908:True:=⟨⟩
theorem te14732477850522406180:True:=⟨⟩
theorem te2666118050563930564:True:=⟨⟩
theorem te538783339032536548:True:=⟨⟩
theorem te15158194765933831876:True:=⟨⟩
theorem te12669790794638470948:True:=⟨⟩
theorem te9781932981310658565:True:=⟨⟩
theorem te10371742352046386437:True:=⟨⟩
theorem te12121553792359362917:True:=⟨⟩
theorem te2522052319267521125:True:=⟨⟩
theorem te13489966027458662309:True:=⟨⟩
theorem te18362241431918682182:True:=⟨⟩
theorem te14824307201031317734:True:=⟨⟩
theorem te1087653608438893798:True:=⟨⟩
theorem te8801735740823531782:True:=⟨⟩
theorem te1310965689036613926:True:=⟨⟩
theorem te8210188938213554598:True:=⟨⟩
theorem te6967169737617090982:True:=⟨⟩
theorem te15664970640804722374:True:=⟨⟩
theorem te11748363678841922374:True:=⟨⟩
theorem te11349361042368108679:True:=⟨⟩
theorem te3935349983600996583:True:=⟨⟩
theorem te2087345598362367271:True:=⟨⟩
theorem te13672080643919033671:True:=⟨⟩
theorem te268129810622548359:True:=⟨⟩
theorem te17323379185807203783:True:=⟨⟩
theorem te13986147604561033703:True:=⟨⟩
theorem te9399254586011690663:True:=⟨⟩
theorem te13660521891543312071:True:=⟨⟩
theorem te2743713741317863:True:=⟨⟩
theorem te8068575816002499559:True:=⟨⟩
theorem te15641965221466090536:True:=⟨⟩
theorem te6967760422818859176:True:=⟨⟩
noncomputable def My.sts_79:List PySem.Stmt:=[My.top 3]
noncomputable def tw1493850813666482472:List PySem.Stmt:=My.sts_79
theorem te1493850813666482472:My.sts_79=tw1493850813666482472:=rfl
theorem te2670466418577893800:True:=⟨⟩
theorem te3894136145482711528:True:=⟨⟩
theorem te17676372050341947080:True:=⟨⟩
noncomputable def My.sts_124:List PySem.Stmt:=[My.top 6]
noncomputable def tw5554210132671068201:List PySem.Stmt:=My.sts_124
theorem te5554210132671068201:My.sts_124=tw5554210132671068201:=rfl
theorem te9570094629932830793:True:=⟨⟩
theorem te6793000419988427081:True:=⟨⟩
theorem te1668352308625195369:True:=⟨⟩
theorem te11007016641327500905:True:=⟨⟩
theorem te5864372922299752169:True:=⟨⟩
theorem te18345847479866849290:True:=⟨⟩
theorem te13517420654514391082:True:=⟨⟩
theorem te8915087601756388394:True:=⟨⟩
theorem te12226198745304603722:True:=⟨⟩
theorem te7205563074475102538:True:=⟨⟩
theorem te1591920209830678026:True:=⟨⟩
theorem te9368287981714125546:True:=⟨⟩
theorem te16412166465362779978:True:=⟨⟩
noncomputable def My.sts_49:List PySem.Stmt:=[My.top 0,My.top 1]
noncomputable def tw5634926036906683242:List PySem.Stmt:=My.sts_49
theorem te5634926036906683242:My.sts_49=tw5634926036906683242:=rfl
theorem te12765793906792039563:True:=⟨⟩
theorem te9946099355856286315:True:=⟨⟩
theorem te2126454955833305739:True:=⟨⟩
theorem te15847282831055446891:True:=⟨⟩
theorem te14280001560497631179:True:=⟨⟩
theorem te10341114317315340300:True:=⟨⟩
theorem te17122751864828174508:True:=⟨⟩
theorem te17673587406682705068:True:=⟨⟩
theorem te13977208151880166604:True:=⟨⟩
theorem te7375209276148469996:True:=⟨⟩
theorem te3848206274474734188:True:=⟨⟩
theorem te386050389440283276:True:=⟨⟩
theorem te639987507114192620:True:=⟨⟩
theorem te12486817064241030988:True:=⟨⟩
theorem te7003652776670304076:True:=⟨⟩
theorem te17061508531905417164:True:=⟨⟩
theorem te1346297536172140141:True:=⟨⟩
theorem te16612080928023370381:True:=⟨⟩
theorem te16542269877956587213:True:=⟨⟩
theorem te11110900419540949805:True:=⟨⟩
theorem te18319917160015877262:True:=⟨⟩
theorem te14573068348612512238:True:=⟨⟩
theorem te3363129206083598862:True:=⟨⟩
theorem te8482934508645872366:True:=⟨⟩
noncomputable def My.view_39:PySem.Program:={ PySem.Challenge.pw_unlikeplace_k37_boxes_told with main:={ PySem.Challenge.pw_unlikeplace_k37_boxes_told.main with body:=[My.top 1,My.top 2,My.top 3,My.top 4,My.top 5,My.top 6,My.top 7,My.top 8,My.top 9,My.top 11,My.top 12,My.top 13,My.top 14,My.top 16,My.top 17,My.top 18,My.top 19,My.top 20,My.top 21,My.top 22,My.top 23,My.top 24,My.top 25,My.top 26,My.top 27] } }
noncomputable def tw10331694154820598702:PySem.Program:=My.view_39
theorem te10331694154820598702:My.view_39=tw10331694154820598702:=rfl
theorem te7029788654208464814:True:=⟨⟩
theorem te1526532703797506255:True:=⟨⟩
theorem te12783405598997487055:True:=⟨⟩
theorem te696107344490361327:True:=⟨⟩
theorem te94289440057760463:True:=⟨⟩
noncomputable def My.sts_154:List PySem.Stmt:=[My.top 8]
noncomputable def tw6697663615676578832:List PySem.Stmt:=My.sts_154
theorem te6697663615676578832:My.sts_154=tw6697663615676578832:=rfl
theorem te7180507048554480720:True:=⟨⟩
theorem te6428850283382112400:True:=⟨⟩
theorem te14332255964273382608:True:=⟨⟩
noncomputable def My.sts_139:List PySem.Stmt:=[My.top 7]
noncomputable def tw17241198961348136176:List PySem.Stmt:=My.sts_139
theorem te17241198961348136176:My.sts_139=tw17241198961348136176:=rfl
theorem te347380053391135984:True:=⟨⟩
theorem te12292150604472842576:True:=⟨⟩
noncomputable def My.sts_169:List PySem.Stmt:=[My.top 9,My.top 10,My.top 11,My.top 12,My.top 13,My.top 14,My.top 15,My.top 16]
noncomputable def tw13783824179709142416:List PySem.Stmt:=My.sts_169
theorem te13783824179709142416:My.sts_169=tw13783824179709142416:=rfl
theorem te7320087236720091664:True:=⟨⟩
theorem te11384982270805576304:True:=⟨⟩
theorem te14297781460670632656:True:=⟨⟩
theorem te17625389610306264848:True:=⟨⟩
theorem te10862967008971507536:True:=⟨⟩
theorem te10446117420622572400:True:=⟨⟩
theorem te16256040959292007601:True:=⟨⟩
theorem te17510378818783494449:True:=⟨⟩
theorem te2165567538136842545:True:=⟨⟩
theorem te14941252165869206929:True:=⟨⟩
theorem te7267572478413343281:True:=⟨⟩
theorem te2128366118945479569:True:=⟨⟩
theorem te17619107214130410514:True:=⟨⟩
theorem te18012348425605352850:True:=⟨⟩
theorem te10654361947688287826:True:=⟨⟩
theorem te4508402465732861011:True:=⟨⟩
theorem te208781082309073043:True:=⟨⟩
theorem te3000669530680348915:True:=⟨⟩
theorem te8330947607433666003:True:=⟨⟩
theorem te2312858466362731219:True:=⟨⟩
theorem te6233213435551936371:True:=⟨⟩
theorem te13335660659650965491:True:=⟨⟩
theorem te482192009034270100:True:=⟨⟩
theorem te5612405481744997364:True:=⟨⟩
theorem te1304338060939182068:True:=⟨⟩
theorem te336625811002734613:True:=⟨⟩
theorem te17984792217025265685:True:=⟨⟩
theorem te14389000078438770773:True:=⟨⟩
theorem te14926992511640145045:True:=⟨⟩
theorem te11201631215540600117:True:=⟨⟩
theorem te7749876041973064085:True:=⟨⟩
theorem te1540901110156889621:True:=⟨⟩
theorem te11903568071395643093:True:=⟨⟩
theorem te8853673049451139829:True:=⟨⟩
theorem te5449964280692704053:True:=⟨⟩
theorem te11939867288985302933:True:=⟨⟩
theorem te8713779658736427957:True:=⟨⟩
theorem te4191167184765230069:True:=⟨⟩
theorem te15311172222751658262:True:=⟨⟩
theorem te17446583493681570134:True:=⟨⟩
noncomputable def My.sts_109:List PySem.Stmt:=[My.top 5]
noncomputable def tw7760349320133355894:List PySem.Stmt:=My.sts_109
theorem te7760349320133355894:My.sts_109=tw7760349320133355894:=rfl
theorem te14149199696099450294:True:=⟨⟩
theorem te4987722556880106166:True:=⟨⟩
theorem te714528562235905750:True:=⟨⟩
theorem te5917377833646331766:True:=⟨⟩
theorem te10315882420705116054:True:=⟨⟩
theorem te5582321125543673750:True:=⟨⟩
theorem te2178704906500834294:True:=⟨⟩
theorem te2233929018434974775:True:=⟨⟩
theorem te10664315657243221271:True:=⟨⟩
theorem te1634252981928163703:True:=⟨⟩
theorem te10158329002555996823:True:=⟨⟩
theorem te13383074751462878999:True:=⟨⟩
theorem te11281587780677006103:True:=⟨⟩
theorem te8199166576411919287:True:=⟨⟩
theorem te11123809312687941559:True:=⟨⟩
theorem te15615782245957267447:True:=⟨⟩
theorem te502178214358572120:True:=⟨⟩
theorem te1435978568176665816:True:=⟨⟩
theorem te13177935250749155640:True:=⟨⟩
theorem te13376962904269166904:True:=⟨⟩
theorem te1057423538372354872:True:=⟨⟩
theorem te17508853717605034073:True:=⟨⟩
theorem te1997210362504068249:True:=⟨⟩
theorem te4258874082190926073:True:=⟨⟩
theorem te14320269923621618969:True:=⟨⟩
theorem te9132446579895739705:True:=⟨⟩
theorem te12790846317123050105:True:=⟨⟩
theorem te9573634618425581497:True:=⟨⟩
theorem te14117153161142638682:True:=⟨⟩
theorem te5133341673747825018:True:=⟨⟩
theorem te10214116958477731258:True:=⟨⟩
theorem te11165128448765763002:True:=⟨⟩
theorem te7466406566962475706:True:=⟨⟩
theorem te9009939716888411323:True:=⟨⟩
theorem te612395345854789947:True:=⟨⟩
theorem te230829048958731675:True:=⟨⟩
theorem te10904558414574711291:True:=⟨⟩
theorem te8495649263799877147:True:=⟨⟩
theorem te8033804465582403259:True:=⟨⟩
noncomputable def My.sts_215:List PySem.Stmt:=[My.top 17,My.top 18,My.top 19,My.top 20,My.top 21,My.top 22,My.top 23,My.top 24,My.top 25,My.top 26,My.top 27]
noncomputable def tw10698828162281015003:List PySem.Stmt:=My.sts_215
theorem te10698828162281015003:My.sts_215=tw10698828162281015003:=rfl
theorem te14460578295792700251:True:=⟨⟩
theorem te2823499242847592347:True:=⟨⟩
theorem te17147106313207185307:True:=⟨⟩
theorem te10632679118554709020:True:=⟨⟩
theorem te4684237054655250588:True:=⟨⟩
theorem te11216483131620821436:True:=⟨⟩
theorem te6648594808414540348:True:=⟨⟩
theorem te11204354460819196572:True:=⟨⟩
theorem te6690960069323416540:True:=⟨⟩
theorem te7449850019811996797:True:=⟨⟩
theorem te5376654187724956989:True:=⟨⟩
theorem te18190036277751780669:True:=⟨⟩
theorem te15271464304654717373:True:=⟨⟩
theorem te1007533569926232541:True:=⟨⟩
theorem te13252450896590442045:True:=⟨⟩
theorem te12877037326951699037:True:=⟨⟩
theorem te13246717883510255229:True:=⟨⟩
theorem te16295324591845069821:True:=⟨⟩
theorem te3998661443786504222:True:=⟨⟩
theorem te2343908547137287326:True:=⟨⟩
theorem te14615382589563220254:True:=⟨⟩
theorem te2866485269071206750:True:=⟨⟩
theorem te8618523029827991902:True:=⟨⟩
theorem te10543082154599348670:True:=⟨⟩
theorem te7900492528012968382:True:=⟨⟩
theorem te3709178876937356766:True:=⟨⟩
theorem te5373858121104123422:True:=⟨⟩
theorem te10295971074976958046:True:=⟨⟩
theorem te6994284237653075582:True:=⟨⟩
theorem te7576443443985268414:True:=⟨⟩
theorem te959228670549587774:True:=⟨⟩
theorem te14737576486673474366:True:=⟨⟩
theorem te6409286667598644190:True:=⟨⟩
theorem te4141310042961162335:True:=⟨⟩
theorem te6845151465578606815:True:=⟨⟩
theorem te3464965141350992159:True:=⟨⟩
theorem te1815902714433627519:True:=⟨⟩
theorem te14869961303688145375:True:=⟨⟩
theorem te5115105165385602559:True:=⟨⟩
theorem te3084281555311599391:True:=⟨⟩
theorem te16608898497676327743:True:=⟨⟩
theorem te14469108042871820127:True:=⟨⟩
end PySem.W.Fast
open PySem PySem.W PyProof.Rows
local macro_rules | `(tactic| walk_at "q")=>`(tactic| (refine' L2.xP ?d1 ?d2 ?d3 ?d4;(case d1=>k_is);(case d2=>k_is);(case d3=>k_is);(case d4=>k_is)))
set_option maxRecDepth 100000 in
set_option maxHeartbeats 0 in
theorem PySem.Challenge.cw_unlikeplace_k37_boxes_told_holds : PySem.Challenge.rw_unlikeplace_k37_boxes_told.Holds := by
 w_on;o_law
 o_head (PySem.W.kHook My.KK [nat_lit 2,nat_lit 3,nat_lit 15,nat_lit 22,nat_lit 23,nat_lit 24,nat_lit 25,nat_lit 28,nat_lit 35,nat_lit 36,nat_lit 37,nat_lit 40,nat_lit 47,nat_lit 48,nat_lit 49,nat_lit 52,nat_lit 59,nat_lit 60,nat_lit 61,nat_lit 64,nat_lit 71,nat_lit 72,nat_lit 73,nat_lit 76,nat_lit 83,nat_lit 84,nat_lit 85,nat_lit 88,nat_lit 95,nat_lit 96,nat_lit 97,nat_lit 100,nat_lit 107,nat_lit 108,nat_lit 109,nat_lit 112,nat_lit 119,nat_lit 121,nat_lit 122,nat_lit 124,nat_lit 125,nat_lit 126,nat_lit 127,nat_lit 128,nat_lit 131,nat_lit 133,nat_lit 134,nat_lit 136,nat_lit 137,nat_lit 138,nat_lit 141,nat_lit 142,nat_lit 143,nat_lit 146,nat_lit 147,nat_lit 148,nat_lit 150,nat_lit 151,nat_lit 153,nat_lit 154,nat_lit 155,nat_lit 157,nat_lit 158,nat_lit 160,nat_lit 161,nat_lit 162,nat_lit 165,nat_lit 166,nat_lit 194,nat_lit 197,nat_lit 198,nat_lit 199,nat_lit 202,nat_lit 203,nat_lit 204,nat_lit 206,nat_lit 207,nat_lit 209,nat_lit 210,nat_lit 211,nat_lit 213,nat_lit 214,nat_lit 216,nat_lit 217] (fun _=>by kernel_rfl))
 (case hw=>w_witness2)
 k_fill
 refine L2.tj (l:=PySem.Challenge.rw_unlikeplace_k37_boxes_told) (n:=63) (k:=30) (x:="_law_script") (CX:=L2.CX0) (sp:=My.nw) rfl (by decide) rfl ⟨rfl,by decide,by decide,rfl⟩ (fun w h Y=>by first | exact PySem.W.kIn_of Y | exact PySem.W.km_in_of Y) (fun w=>by kernel_rfl) ?F ?S ?C
 case F =>
  intro w mg fa h KX G hmg
  have T : ∃ t,My.Txt (L2.KOf KX) mg t:=by
   dsimp only [L2.KOf]
   refine' My.xy KX G ?cq ?eQ ?cJ ?eV ?dn ?eN ?dE ?cg ?cj ?tm ?tH ?qE ?oS ?dI ?eI ?iw ?fj ?im ?iT ?gj ?kt ?iN ?iu ?b8 ?be ?bg ?bv ?aT ?bd ?bh ?bf ?a7 ?aP ?aS ?fH ?fV ?g5 ?dJ ?fT ?fY ?fU ?eU ?cF ?dR ?rG ?dX ?rC ?mF ?sg ?sV ?kA ?iD ?jQ
   (case cq=>walk_at "q")
   (case eQ=>walk_at "q")
   (case cJ=>walk_at "q")
   (case eV=>walk_at "q")
   (case dn=>walk_at "q")
   (case eN=>walk_at "q")
   (case dE=>walk_at "q")
   (case cg=>walk_at "q")
   (case cj=>walk_at "q")
   (case tm=>k_is)
   (case tH=>k_is)
   (case qE=>k_is)
   (case oS=>k_is)
   (case dI=>k_is)
   (case eI=>k_is)
   (case iw=>k_is)
   (case fj=>k_is)
   (case im=>k_is)
   (case iT=>k_is)
   (case gj=>k_is)
   (case kt=>k_is)
   (case iN=>k_is)
   (case iu=>k_is)
   (case b8=>kernel_rfl)
   (case be=>kernel_rfl)
   (case bg=>kernel_rfl)
   (case bv=>kernel_rfl)
   (case aT=>kernel_rfl)
   (case bd=>kernel_rfl)
   (case bh=>kernel_rfl)
   (case bf=>kernel_rfl)
   (case a7=>kernel_rfl)
   (case aP=>kernel_rfl)
   (case aS=>kernel_rfl)
   (case fH=>kernel_rfl)
   (case fV=>kernel_rfl)
   (case g5=>kernel_rfl)
   (case dJ=>kernel_rfl)
   (case fT=>kernel_rfl)
   (case fY=>kernel_rfl)
   (case fU=>kernel_rfl)
   (case eU=>kernel_rfl)
   (case cF=>kernel_rfl)
   (case dR=>k_is)
   (case rG=>k_is)
   (case dX=>k_is)
   (case rC=>k_is)
   (case mF=>k_is)
   (case sg=>k_is)
   (case sV=>k_is)
   (case kA=>k_is)
   (case iD=>k_is)
   (case jQ=>k_is)
  obtain ⟨t,T⟩:=T
  have e0:=hmg.symm.trans T.yc
  cases e0
  exact ⟨_,T.wW,fun base=>My.wc T⟩
 case S=>exact fun K H a ns hl hO hS=>My.qt hl hO hS
 case C=>exact fun _ _ _ _ h=>h
