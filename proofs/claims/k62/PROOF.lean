import PyProof.Rows.All
import Wide.All
import OpenK.AllK
import Wide.FinOn
import Lean
import PyProof.EqAt
import PyProof.EqKinds
import PyProof.TupleCall
import PyProof.NeKinds
import PyProof.Rows.StrLen
import PyProof.AutoIntG2
import PyProof.FactsAll.int_6
import PyProof.Rows.BootFacts.P1
import PyProof.ReprRoads
import PyProof.ListRange
import PyProof.TupleOfSeq
import PyProof.EnumMake
import PyProof.StrWalks
import PyProof.Rows.Range3
import PyProof.Rows.SetFrom
import KE.KIntText
import PyProof.FString
import PyProof.StrCalls2
import PyProof.StrOps2
import PyProof.SliceStr2
import PyProof.StrBlockI
import PyProof.StrBlockL
import PyProof.StrLaws
import OpenK.KOwn
import KE.KTryMore
import PyProof.ExcAttrAll.ValueError
import PyProof.NsDelKeeps
import KE.KRevIter
import PyProof.DictRoadsH
import PyProof.ListMulRoad
import PyProof.ExcInit
import PyProof.InstStoreFacts
import PyProof.AssignAttr
import PySem.Challenge.RW_unlikeplace_k62_texts_of_no_saying
noncomputable section
set_option Elab.async false
set_option linter.all false
set_option maxRecDepth 100000
namespace L2
open PySem PySem.Spec PyProof.Rows
noncomputable abbrev Key:=Sum Int Str
noncomputable def eQ:Key->Value->Bool
 |.inl k,v=>Value.isInt k v
 |.inr x,v=>Value.isStrOf x v
noncomputable def Au(w:World):Key->Int
 |.inl k=>hashInt k
 |.inr x=>hashStr w x
theorem aU:∀ {k:Key} {v:Value},eQ k v=true->(∃i t,k=Sum.inl i/\v=Value.int i t)\/(∃x t,k=Sum.inr x/\v=Value.str x t)
 |.inl i,v,h=>by
  obtain⟨t,e⟩:=Value.isInt_shape (k:=i) (v:=v) h;exact .inl ⟨i,t,rfl,e⟩
 |.inr x,v,h=>by
  obtain⟨t,e⟩:=Value.isStrOf_shape (x:=x) (v:=v) h;exact .inr ⟨x,t,rfl,e⟩
theorem kI(x:Str)(t:Tok):eQ (.inr x) (.str x t)=true:=by simp[eQ,Value.isStrOf]
theorem xa(a b:Int):decide ((Sum.inl a:Key)=Sum.inl b)=(a == b):=by
 by_cases e:a=b
 ·subst e;simp
 ·have h:¬ (Sum.inl a:Key)=Sum.inl b:=fun q=>e (Sum.inl.inj q)
  rw[decide_eq_false h];exact(beq_eq_false_iff_ne.mpr e).symm
theorem yp(a b:Str):decide ((Sum.inr a:Key)=Sum.inr b)=decide (a=b):=by
 by_cases e:a=b
 ·subst e;simp
 ·have h:¬ (Sum.inr a:Key)=Sum.inr b:=fun q=>e (Sum.inr.inj q)
  rw[decide_eq_false h,decide_eq_false e]
theorem xM(a:Int)(b:Str):decide ((Sum.inl a:Key)=Sum.inr b)=false:=decide_eq_false (fun q=>nomatch q)
theorem yv(a:Str)(b:Int):decide ((Sum.inr a:Key)=Sum.inl b)=false:=decide_eq_false (fun q=>nomatch q)
noncomputable def aS(prog:Program)(w:World):PySem.KeyKind prog w Key where
 is:=eQ
 hash:=Au w
 inj:=fun v a b ha hb=>by
  rcases aU ha with⟨i,t,rfl,rfl⟩|⟨x,t,rfl,rfl⟩
  ·rcases aU hb with⟨j,u,rfl,e⟩|⟨y,u,rfl,e⟩
   ·injection e with e1 _;rw[e1]
   ·exact nomatch e
  ·rcases aU hb with⟨j,u,rfl,e⟩|⟨y,u,rfl,e⟩
   ·exact nomatch e
   ·injection e with e1 _;rw[e1]
 byValue:=fun k v h=>by
  rcases aU h with⟨i,t,rfl,rfl⟩|⟨x,t,rfl,rfl⟩<;>rfl
 pyHash:=fun hv h=>by
  rcases aU hv with⟨i,t,rfl,rfl⟩|⟨x,t,rfl,rfl⟩
  ·exact wpAny_pyHash_int h
  ·exact wpAny_pyHash_str h
 eqBool:=fun hu hv h=>by
  rcases aU hu with⟨i,t,rfl,rfl⟩|⟨x,t,rfl,rfl⟩
  ·rcases aU hv with⟨j,u,rfl,rfl⟩|⟨y,u,rfl,rfl⟩
   ·rw[xa] at h;exact wpAny_eqBool_int h
   ·rw[xM] at h;exact SeqAt.EqAt.int_str i t y u _ _ _ _ h
  ·rcases aU hv with⟨j,u,rfl,rfl⟩|⟨y,u,rfl,rfl⟩
   ·rw[yv] at h;exact SeqAt.EqAt.str_int x t j u _ _ _ _ h
   ·rw[yp] at h;exact wpAny_eqBool_str h
 «strs»:=fun k x t v h=>by
  rcases aU h with⟨i,u,rfl,e⟩|⟨y,u,rfl,e⟩
  ·exact nomatch e
  ·injection e with e1 _
   subst e1;cases v<;>rfl
theorem i8(prog:Program)(w:World)(k:Key)(v:Value):(aS prog w).is k v=eQ k v:=rfl
theorem fo(prog:Program)(w:World)(x:Str)(t:Tok):(aS prog w).is (.inr x) (.str x t)=true:=kI x t
inductive V where
 |non|bl (b:Bool)|int (i:Int)|str (x:Str)|byt (b:Array UInt8)|flt (b:UInt64)|ref (a:Addr)|ty (n:String)
 deriving DecidableEq
noncomputable def aM:V->Value->Prop
 |.non,u=>u=Value.none
 |.bl b,u=>u=Value.bool b
 |.int i,u=>∃t,u=Value.int i t
 |.str x,u=>∃t,u=Value.str x t
 |.byt b,u=>∃t,u=Value.bytes b t
 |.flt b,u=>∃t,u=Value.float b t
 |.ref a,u=>u=Value.ref a
 |.ty n,u=>u=Value.type n
noncomputable abbrev au:List V->List Value->Prop:=Paired aM
theorem au.length{xs:List V}{us:List Value}(r:au xs us):xs.length=us.length:=Paired.length r
theorem au.get:∀ {xs:List V} {us:List Value} {i:Nat} {x:V},au xs us->xs[i]?=some x->∃u,us[i]?=some u/\aM x u
 |_,_,_,_,.nil,e=>by simp at e
 |_,_,0,_,.cons r _,e=>by simp at e;subst e;exact⟨_,rfl,r⟩
 |_,_,i+1,x,.cons _ t,e=>by
  obtain⟨u,h1,h2⟩:=au.get (i:=i) (x:=x) t (by simpa using e)
  exact⟨u,by simpa using h1,h2⟩
theorem au.set{x:V}{u:Value}(r:aM x u):∀ {xs:List V} {us:List Value} (i:Nat),au xs us->au (xs.set i x) (us.set i u)
 |_,_,_,.nil=>.nil
 |_,_,0,.cons _ t=>.cons r t
 |_,_,i+1,.cons q t=>.cons q (au.set r i t)
theorem au.append:∀ {xs ys:List V} {us ws:List Value},au xs us->au ys ws->au (xs++ys) (us++ws)
 |_,_,_,_,.nil,s=>s
 |_,_,_,_,.cons r t,s=>.cons r (au.append t s)
theorem au.take:∀ {xs:List V} {us:List Value} (n:Nat),au xs us->au (xs.take n) (us.take n)
 |_,_,0,_=>.nil
 |_,_,_+1,.nil=>.nil
 |_,_,n+1,.cons r t=>.cons r (au.take n t)
theorem au.drop:∀ {xs:List V} {us:List Value} (n:Nat),au xs us->au (xs.drop n) (us.drop n)
 |_,_,0,r=>r
 |_,_,_+1,.nil=>.nil
 |_,_,n+1,.cons _ t=>au.drop n t
noncomputable def uy:Option V->Option Value->Prop
 |some v,some u=>aM v u
 |none,none=>True
 |_,_=>False
noncomputable def KV{κ:Type}:List (κ×V)->List (κ×Value)->Prop:=Paired fun(p:κ×V) (q:κ×Value)=>p.1=q.1/\aM p.2 q.2
noncomputable def kV:Key->V
 |.inl i=>.int i
 |.inr x=>.str x
inductive HO where
 |lst (xs:List V)
 |tup (xs:List V)
 |dK (kvs:List (Key×V))|dT (kvs:List (List Key×V))
 |set (S:Int->Bool) (n:Nat)
 |ins (C dx:Addr) (fs:List (Str×V))
 |own (x:Addr)
 |xd (fs:List (Str×V))
 |met (f x:Addr)
 |rng (lo hi:Int)
 |frz (o:Obj) (u:HO)
 |tbl (ps:Array Value)
 |ext (φ:Heap->Prop)
noncomputable abbrev Hp:=Addr->Option HO
noncomputable def upd(H:Hp)(a:Addr)(o:HO):Hp:=fun b=>if b=a then some o else H b
theorem bT{H:Hp}{a:Addr}{o:HO}:upd H a o a=some o:=by unfold upd;rw[if_pos rfl]
theorem aq{H:Hp}{a b:Addr}{o:HO}(h:b≠a):upd H a o b=H b:=by unfold upd;rw[if_neg h]
theorem bd{H:Hp}{a b:Addr}{o:HO}(h:H a=some o)(h':H b=none):a≠b:=by
 intro e;subst e;rw[h] at h';cases h'
noncomputable def nF(h:Heap)(a:Addr)(items:Array Value):Prop:=IsTup h a items/\∃o,h.get? a=some o/\o.dict=none
theorem nF.lt{h:Heap}{a:Addr}{items:Array Value}(x:nF h a items):a<h.objs.size:=x.1.lt
theorem nF.new(h:Heap)(items:Array Value):nF (h.push { cls:=.type "tuple",data:=.seq items }) h.objs.size items:=⟨IsTup.new h items,_,Heap.get?_push_size _ rfl,rfl⟩
noncomputable def oZ(H:Hp)(a:Addr)(ps qs:Array Value):Prop:=TriplesOk qs.toList/\∀(pos:Pos)(cv:Value),codeAmong pos qs.toList=some cv ->
 ∃(c:Addr)(o:Obj)(vs:Array Value)(t:Tok)(q:Str),cv=.ref c/\H c=some (.frz o (.own a))/\o.data=.fields vs/\vs[1]?=some (.str q t)/\ps[0]?=some (.str q 0)
theorem oZ.mono{H H':Hp}{a:Addr}{ps qs:Array Value}(x:oZ H a ps qs)(k:∀b o u,H b=some (.frz o u)->H' b=some (.frz o u)):oZ H' a ps qs:=
 ⟨x.1,fun pos cv e=>let ⟨c,o,vs,t,q,e1,e2,r⟩:=x.2 pos cv e;⟨c,o,vs,t,q,e1,k _ _ _ e2,r⟩⟩
section
variable(P:Program)(w:World)
noncomputable def bQ(H:Hp)(h:Heap)(a:Addr):HO->Prop
 |.lst xs=>xs.length<=sizeLine/\∃(its:List Value)(n:Nat),au xs its/\h.get? a=some { cls:=.type "list",data:=.seq its.toArray n }
 |.tup xs=>xs.length<=sizeLine/\∃its:List Value,au xs its/\nF h a its.toArray
 |.dK kvs=>kvs.length<=sizeLine/\(a == sysModules)=false/\∃vs,KV kvs vs/\h.DictOf (aS P w) a vs
 |.dT kvs=>kvs.length<=sizeLine/\(a == sysModules)=false/\∃xs:List (List Key×Addr×Value),
   Paired (fun(p:List Key×V) (q:List Key×Addr×Value)=>p.1=q.1/\H q.2.1=some (.tup (p.1.map kV))/\aM p.2 q.2.2) kvs xs /\
   ∃o es ep,h.get? a=some o/\o.ExactDict/\o.data=.dict es ep/\es.toList=xs.map (entryOfKey (tupleKind (aS P w)))/\(xs.map (·.1)).Nodup
 |.set S n=>h.SetOf (intKind P w) a S n
 |.ins C dx fs=>H dx=some (.own a)/\fs.length<=1000/\dx≠a/\h.get? a=some (W.instObj C dx) /\
   ∃mA,h.Ns1 dx mA/\(∀f,uy (fs.lookup f) (mA f))/\PySem.Within mA (fs.map (·.1))
 |.own _=>∃o,h.get? a=some o
 |.xd fs=>∃mA,h.Ns1 a mA/\∀f,uy (fs.lookup f) (mA f)
 |.rng lo hi=>∃t u v,h.get? a=some { cls:=.type "range",data:=.fields #[.int lo t,.int hi u,.int 1 v] }
 |.frz o u=>h.get? a=some o/\bQ H h a u
 |.tbl ps=>∃qs:Array Value,h.get? a=some { cls:=.none,data:=.fields qs }/\oZ H a ps qs
 |.met f x=>h.get? a=some (W.methodObj (.ref f) (.ref x))
 |.ext φ=>φ h/\(∃o,h.get? a=some o)/\∀h1 h2:Heap,φ h1->(∀o,h1.get? a=some o->h2.get? a=some o)->φ h2
noncomputable def HOk(H:Hp)(h:Heap):Prop:=∀a o,H a=some o->bQ P w H h a o
end
section
variable{P:Program}{w:World}{H H':Hp}{h h':Heap}{a:Addr}{o:HO}
theorem bQ.lt(x:bQ P w H h a o):a<h.objs.size:=by
 cases o with
 |lst xs=>obtain⟨_,_,_,_,e⟩:=x;exact Heap.lt_size e
 |tup xs=>obtain⟨_,_,_,p⟩:=x;exact p.lt
 |dK kvs=>obtain⟨_,_,_,_,o,_,_,e,_⟩:=x;exact Heap.lt_size e
 |dT kvs=>obtain⟨_,_,_,_,o,_,_,e,_⟩:=x;exact Heap.lt_size e
 |set S n=>obtain⟨o,_,_,_,e,_⟩:=x;exact Heap.lt_size e
 |ins C dx fs=>obtain⟨_,_,_,e,_⟩:=x;exact Heap.lt_size e
 |own y=>obtain⟨_,e⟩:=x;exact Heap.lt_size e
 |xd fs=>obtain⟨_,⟨_,_,_,e,_⟩,_⟩:=x;exact Heap.lt_size e
 |rng lo hi=>obtain⟨_,_,_,e⟩:=x;exact Heap.lt_size e
 |frz ob u=>obtain⟨e,_⟩:=x;exact Heap.lt_size e
 |tbl ps=>obtain⟨qs,e,_⟩:=x;exact Heap.lt_size e
 |met f y=>exact Heap.lt_size (show h.get? a=some _ from x)
 |ext φ=>obtain⟨_,⟨_,e⟩,_⟩:=x;exact Heap.lt_size e
theorem Paired.Bj{α β:Type}{F G:α->β->Prop}:∀ {l₁:List α} {l₂:List β},Paired F l₁ l₂->(∀a b,F a b->G a b)->Paired G l₁ l₂
 |_,_,.nil,_=>.nil
 |_,_,.cons r t,f=>.cons (f _ _ r) (Paired.Bj t f)
theorem bQ.stay(x:bQ P w H h a o)(k:∀b u,(b=a\/H b=some (.own a))->h.get? b=some u->h'.get? b=some u)(ho:∀b,H b=some (.own a)->H' b=some (.own a))(ht:∀b xs,H b=some (.tup xs)->H' b=some (.tup xs))(hf:∀b o u,H b=some (.frz o u)->H' b=some (.frz o u)):bQ P w H' h' a o:=by
 induction o with
 |lst xs=>obtain⟨z,its,n,r,e⟩:=x;exact⟨z,its,n,r,k _ _ (.inl rfl) e⟩
 |tup xs=>obtain⟨z,its,r,⟨ob,e,c⟩,ob',e',c'⟩:=x;exact⟨z,its,r,⟨ob,k _ _ (.inl rfl) e,c⟩,ob',k _ _ (.inl rfl) e',c'⟩
 |dK kvs=>obtain⟨z,y,vs,r,ob,es,ep,e,c⟩:=x;exact⟨z,y,vs,r,ob,es,ep,k _ _ (.inl rfl) e,c⟩
 |dT kvs=>
  obtain⟨z,y,xs,r,ob,es,ep,e,c⟩:=x;exact⟨z,y,xs,Paired.Bj r fun p q z=>⟨z.1,ht _ _ z.2.1,z.2.2⟩,ob,es,ep,k _ _ (.inl rfl) e,c⟩
 |set S n=>obtain⟨ob,es,ep,t,e,c⟩:=x;exact⟨ob,es,ep,t,k _ _ (.inl rfl) e,c⟩
 |ins C dx fs=>
  obtain⟨d,z,ne,e,mA,⟨od,es,ep,e2,c⟩,r⟩:=x;exact⟨ho _ d,z,ne,k _ _ (.inl rfl) e,mA,⟨od,es,ep,k _ _ (.inr d) e2,c⟩,r⟩
 |own y=>obtain⟨ob,e⟩:=x;exact⟨ob,k _ _ (.inl rfl) e⟩
 |xd fs=>obtain⟨mA,⟨od,es,ep,e,c⟩,r⟩:=x;exact⟨mA,⟨od,es,ep,k _ _ (.inl rfl) e,c⟩,r⟩
 |rng lo hi=>obtain⟨t,u,v,e⟩:=x;exact⟨t,u,v,k _ _ (.inl rfl) e⟩
 |frz ob u ih=>obtain⟨e,q⟩:=x;exact⟨k _ _ (.inl rfl) e,ih q⟩
 |tbl ps=>obtain⟨qs,e,z⟩:=x;exact⟨qs,k a _ (.inl rfl) e,z.mono hf⟩
 |met f y=>
  have e:h.get? a=some (W.methodObj (.ref f) (.ref y)):=x;show h'.get? a=some (W.methodObj (.ref f) (.ref y));exact k a _ (.inl rfl) e
 |ext φ=>obtain⟨p,⟨o,e⟩,st⟩:=x;exact⟨st _ _ p fun o q=>k _ _ (.inl rfl) q,⟨o,k _ _ (.inl rfl) e⟩,st⟩
theorem HOk.lt(x:HOk P w H h)(e:H a=some o):a<h.objs.size:=(x a o e).lt
theorem HOk.fresh(x:HOk P w H h)(e:h.objs.size<=a):H a=none:=by
 cases q:H a with
 |none=>rfl
 |some u=>exact absurd (Nat.lt_of_lt_of_le (x.lt q) e) (Nat.lt_irrefl _)
theorem HOk.kept(x:HOk P w H h)(k:∀b u,h.get? b=some u->h'.get? b=some u):HOk P w H h':=fun a o e=>
 (x a o e).stay (fun b u _ q=>k b u q) (fun _ q=>q) (fun _ _ q=>q) fun _ _ _ q=>q
theorem HOk.laid(x:HOk P w H h)(k:∀b u,h.get? b=some u->h'.get? b=some u)(hp:h.objs.size<=a)(new:bQ P w (upd H a o) h' a o):HOk P w (upd H a o) h':=fun b u e=>by
 have hn:=x.fresh hp;by_cases hb:b=a
 ·subst hb;rw[bT] at e;cases e;exact new
 ·rw[aq hb] at e
  exact(x b u e).stay (fun c v _ q=>k c v q) (fun c q=>by rw[aq (bd q hn)];exact q) (fun c xs q=>by rw[aq (bd q hn)];exact q) fun c o' u' q=>by rw[aq (bd q hn)];exact q
end
noncomputable def Rd(H:Hp)(a:Addr)(u:HO):Prop:=H a=some u\/∃o,H a=some (.frz o u)
theorem Rd.ok{P:Program}{w:World}{H:Hp}{h:Heap}{a:Addr}{u:HO}(r:Rd H a u)(x:HOk P w H h):bQ P w H h a u:=by
 rcases r with r|⟨o,r⟩
 ·exact x a u r
 ·obtain⟨_,q⟩:=x a _ r
  exact q
noncomputable def Mut:Option HO->Prop
 |some (.lst _)=>True
 |some (.dK _)=>True
 |some (.dT _)=>True
 |some (.set _ _)=>True
 |some (.ins _ _ _)=>True
 |some (.ext _)=>True
 |_=>False
section
variable{P:Program}{w:World}{H:Hp}{h h':Heap}{x e:Addr}{o':HO}
theorem HOk.write(ok:HOk P w H h)(mu:Mut (H x))(he:e=x\/H e=some (.own x))(k:∀b u,b≠e->h.get? b=some u->h'.get? b=some u)(heo:∃u,h'.get? e=some u)(new:bQ P w (upd H x o') h' x o'):HOk P w (upd H x o') h':=fun b u q=>by
 have nown:∀c y,H c=some (.own y)->c≠x:=fun c y r z=>by subst z;rw[r] at mu;exact mu
 have ntup:∀c xs,H c=some (.tup xs)->c≠x:=fun c xs r z=>by subst z;rw[r] at mu;exact mu
 by_cases hb:b=x
 ·subst hb;rw[bT] at q;cases q;exact new
 ·rw[aq hb] at q
  by_cases hbe:b=e
  ·have q':H b=some (.own x):=by
    rcases he with z|z
    ·exact absurd (hbe.trans z) hb
    ·rw[hbe];exact z
   rw[q] at q';cases q';obtain⟨v,hv⟩:=heo;exact⟨v,by rw[hbe];exact hv⟩
  ·refine(ok b u q).stay (fun c v hc r=>k c v ?_ r) (fun c r=>by rw[aq (nown c b r)];exact r) (fun c xs r=>by rw[aq (ntup c xs r)];exact r) fun c o' u' r=>by rw[aq (fun z=>by subst z;rw[r] at mu;exact mu)];exact r
   rcases hc with rfl|hc
   ·exact hbe
   ·rintro rfl
    rcases he with z|z
    ·exact nown c b hc z
    ·rw[hc] at z;cases z;exact hb rfl
end
structure Un(fs ex:List Addr)(H H':Hp)(h h':Heap):Prop where
 keep:∀b o,h.get? b=some o->H b=none->b ∉ fs->b ∉ ex->h'.get? b=some o
 slot:∀b o,h.get? b=some o->H b=none->b∈fs->b ∉ ex->∃sl,h'.get? b=some { o with slots:=sl }
 free:∀b o,h.get? b=some o->H b=none->b ∉ ex->H' b=none
 there:∀b o,h.get? b=some o->b ∉ ex->∃o',h'.get? b=some o'
 tups:∀b xs,H b=some (.tup xs)->H' b=some (.tup xs)
 frzs:∀b o u,H b=some (.frz o u)->H' b=some (.frz o u)
 tbls:∀b ps,H b=some (.tbl ps)->∃more,H' b=some (.tbl (ps++more))
section
variable{fs fs' ex ex':List Addr}{H H1 H2:Hp}{h h1 h2 h':Heap}{a x e:Addr}{o:HO}
theorem Un.any(u:Un fs ex H H1 h h1){b:Addr}{ob:Obj}(q:h.get? b=some ob)(n:H b=none)(hx:b ∉ ex):∃sl,h1.get? b=some { ob with slots:=sl }:=by
 by_cases hb:b∈fs
 ·exact u.slot b ob q n hb hx
 ·exact⟨ob.slots,u.keep b ob q n hb hx⟩
theorem Un.kept(k:∀b u,h.get? b=some u->h'.get? b=some u):Un fs ex H H h h':=
 ⟨fun b ob q _ _ _=>k b ob q,fun b ob q _ _ _=>⟨ob.slots,k b ob q⟩,fun _ _ _ n _=>n,fun b ob q _=>⟨ob,k b ob q⟩,fun _ _ q=>q,fun _ _ _ q=>q,fun _ ps q=>⟨#[],by rw[q];simp⟩⟩
theorem Un.refl:Un fs ex H H h h:=Un.kept fun _ _ q=>q
theorem Un.laid(k:∀b u,h.get? b=some u->h'.get? b=some u)(hp:h.objs.size<=a)(hn:H a=none):Un fs ex H (upd H a o) h h' where
 keep:=fun b u q _ _ _=>k b u q
 slot:=fun b u q _ _ _=>⟨u.slots,k b u q⟩
 free:=fun b u q n _=>by rw[aq (Nat.ne_of_lt (Nat.lt_of_lt_of_le (Heap.lt_size q) hp))];exact n
 there:=fun b u q _=>⟨u,k b u q⟩
 tups:=fun b xs q=>by rw[aq (bd q hn)];exact q
 frzs:=fun b u xs q=>by rw[aq (bd q hn)];exact q
 tbls:=fun b ps q=>⟨#[],by rw[aq (bd q hn),q];simp⟩
theorem Un.write(mu:Mut (H x))(he:e=x\/H e=some (.own x))(k:∀b u,b≠e->h.get? b=some u->h'.get? b=some u)(heo:∃u,h'.get? e=some u):Un fs ex H (upd H x o) h h':=by
 have hx:∀b,H b=none->b≠x:=fun b n z=>by subst z;rw[n] at mu;exact mu
 have hb:∀b,H b=none->b≠e:=fun b n z=>by
  subst z;rcases he with r|r
  ·exact hx b n r
  ·rw[n] at r;cases r
 have hm:∀b u,H b=some u->¬ Mut (some u)->b≠x:=fun b u q nm z=>by subst z;rw[q] at mu;exact nm mu
 refine⟨fun b u q n _ _=>k b u (hb b n) q,fun b u q n _ _=>⟨u.slots,k b u (hb b n) q⟩,fun b u q n _=>by rw[aq (hx b n)];exact n,fun b u q _=>?_,
  fun b xs q=>by rw[aq (hm b _ q fun z=>z)];exact q,fun b u xs q=>by rw[aq (hm b _ q fun z=>z)];exact q,fun b ps q=>⟨#[],by rw[aq (hm b _ q fun z=>z),q];simp⟩⟩
 by_cases hbe:b=e
 ·subst hbe;exact heo
 ·exact⟨u,k b u hbe q⟩
end
noncomputable def trk(h:Heap)(H:Hp):List Addr:=(List.range h.objs.size).filter fun a=>(H a).isSome
noncomputable def kZ(h:Heap)(H:Hp):Heap:=W.hideAll h (trk h H)
theorem qg(h:Heap)(H:Hp):(kZ h H).objs.size=h.objs.size:=W.hideAll_size _ _
theorem sX{h:Heap}{H:Hp}{b:Addr}{o:Obj}(e:h.get? b=some o)(n:H b=none):(kZ h H).get? b=some o:=
 W.hideAll_get _ e fun hm=>by
  have q:(H b).isSome=true:=(List.mem_filter.mp hm).2;rw[n] at q;simp at q
theorem uK{h:Heap}{H:Hp}{b:Addr}{o:Obj}(e:(kZ h H).get? b=some o):h.get? b=some o/\H b=none:=by
 have e':h.get? b=some o:=W.of_hideAll (trk h H) e;refine⟨e',?_⟩
 cases q:H b with
 |none=>rfl
 |some x=>
  have hm:b∈trk h H:=List.mem_filter.mpr ⟨List.mem_range.mpr (Heap.lt_size e'),by simp[q]⟩
  have z:(kZ h H).get? b=none:=W.hideAll_none (trk h H) hm;rw[z] at e;cases e
noncomputable def vp(g h:Heap)(L:Addr):List (Addr×Obj):=(List.range h.objs.size).filterMap fun a=>if a=L\/(g.get? a).isSome=true then none else (h.get? a).map fun o=>(a,o)
noncomputable def dg(g h:Heap)(L d:Addr):List (Addr×Obj):=(vp g h L).filter fun p=>decide (p.1≠d)
noncomputable def fZ(K:W.Frag):List (Str×Addr×Addr):=match K.lookup mainGlobals with
 |some ⟨_,_,.dict es _,_⟩=>es.toList.filterMap fun e=>match e.key with
  |.str x _=>(W.tabIn K x).map fun q=>(x,q)
  |_=>none
 |_=>[]
noncomputable def qx(K:W.Frag)(H:Hp):Prop:=∀q∈fZ K,∃ps,H q.2.2=some (.tbl ps)/\ps[0]?=some (.str (q.1 ++ ".<locals>." ++ "<lambda>") 0)
theorem qx.mono{K:W.Frag}{H H':Hp}(x:qx K H)(k:∀b ps,H b=some (.tbl ps)->∃more,H' b=some (.tbl (ps++more))):qx K H':=fun q hq=>by
 obtain⟨ps,e,z⟩:=x q hq;obtain⟨more,e'⟩:=k _ _ e;refine⟨_,e',?_⟩
 have hz:0<ps.size:=by
  rcases Nat.eq_zero_or_pos ps.size with h|h
  ·rw[Array.getElem?_eq_none (by omega)] at z;cases z
  ·exact h
 rw[Array.getElem?_append_left hz];exact z
structure Mod(K:W.Frag)(mg:Str->Option Value)(base:Heap):Prop where
 kin:K.In base
 glob:base.Ns mainGlobals mg
 blt:∃mb,base.Ns builtinsNs mb/\∀x:Str,x≠"__name__"->mb x=bootBuiltins x
 nolimit:base.NoLimit
 bm:∃bm ob,mg "__builtins__"=some (.ref bm)/\bm≠builtinsNs/\base.get? bm=some ob/\ob.cls=.type "module"/\ob.dict=some builtinsNs/\ob.data=.plain
structure Cx where
 prog:Program
 w:World
 K:W.Frag
 mg:Str->Option Value
 base:Heap
 A:Around
 N:List Str
 s₀:Shared
 H₀:Hp
 env:Env
 outer:List Env
 stack:List Env
 ex:List Addr
 fn:Str->Bool
 calm:Bool
 pn:List (Addr×Obj)
 xe:Value->Shared->Prop
noncomputable def frs(l:List Env):List Addr:=l.filterMap (·.frame)
noncomputable abbrev Cx.fs(X:Cx):List Addr:=frs X.outer
noncomputable def Vis(sc:Scope)(x:Str):Prop:=sc.names.lookup x=some .local\/sc.names.lookup x=some .cell\/sc.names.lookup x=some .free
noncomputable def Loc(sc:Scope)(x:Str):Prop:=sc.names.lookup x=some .local\/sc.names.lookup x=some .cell
noncomputable def AM(env:Env)(h:Heap)(m:Str->Option Value)(x:Str)(u:Value):Prop:=
 (env.kindOf x=some .local/\m x=some u)\/((env.kindOf x=some .cell\/env.kindOf x=some .free)/\∃c,env.cells.lookup x=some c/\h.IsCell c (some u))
structure Cx.Ok(X:Cx):Prop where
 mod:Mod X.K X.mg X.base
 kind:X.env.scope.kind=.function
 glob:X.env.globals=mainGlobals
 blt:X.env.builtins=builtinsNs
 above:X.s₀.heap.objs.size<=X.env.locals
 inj:∀x y c,X.env.cells.lookup x=some c->X.env.cells.lookup y=some c->x=y
 has:∀x,(X.env.kindOf x=some .cell\/X.env.kindOf x=some .free)->∃c,X.env.cells.lookup x=some c
 cab:∀x c,X.fn x=true->X.env.cells.lookup x=some c->X.s₀.heap.objs.size<=c
 hd:X.calm=true->X.A.handled=none
 frames:X.A.frames=some X.stack
 stk:X.stack=X.outer\/(X.stack=X.env::X.outer/\X.env.frame=some X.env.locals)
 exf:∀b∈X.ex,b≠X.env.locals/\∀x c,X.env.cells.lookup x=some c->c≠b
 bs:∀b o,X.base.get? b=some o->X.s₀.heap.get? b=some o/\X.H₀ b=none
 bsz:X.base.objs.size<=X.s₀.heap.objs.size
 noex:∀b o,X.base.get? b=some o->b ∉ X.ex
 exfs:∀b∈X.ex,b ∉ X.fs
 funs:X.s₀.heap.FunFrames X.base X.outer
 frf:∀b∈X.fs,X.H₀ b=none
 tt:qx X.K X.H₀
structure Inv(X:Cx)(pins:List (Addr×Obj))(σ:List (Option V))(H:Hp)(s:Shared):Prop where
 ok:X.Ok
 os:s.os=X.s₀.os
 bare:AllBare s.gens
 base:Un X.fs X.ex X.H₀ H X.s₀.heap s.heap
 loc:∃m,s.heap.Ns X.env.locals m/\∀(i:Nat)(x:Str)(v:V),X.N[i]?=some x->σ[i]?=some (some v)->Vis X.env.scope x->∃u,aM v u/\AM X.env s.heap m x u
 cell:∀x c,X.env.cells.lookup x=some c->∃v,s.heap.IsCell c v
 free:H X.env.locals=none
 freeC:∀x c,X.env.cells.lookup x=some c->H c=none
 pin:∀p∈X.pn++pins,s.heap.get? p.1=some p.2/\H p.1=none/\p.1≠X.env.locals/\p.1 ∉ X.fs/\∀v,p.2.data≠.cell v
 hok:HOk X.prog X.w H s.heap
 len:σ.length=X.N.length
section
variable{X:Cx}{pins:List (Addr×Obj)}{σ:List (Option V)}{H H':Hp}{s:Shared}{h':Heap}
theorem Cx.Ok.nofr(ok:X.Ok){b:Addr}{o:Obj}(e:X.base.get? b=some o):b ∉ X.fs:=fun hb=>by
 have:=(ok.funs.mem hb).1;rw[e] at this;cases this
theorem Inv.bs(I:Inv X pins σ H s):∀b o,X.base.get? b=some o->s.heap.get? b=some o/\H b=none:=fun b o e=>
 ⟨I.base.keep b o (I.ok.bs b o e).1 (I.ok.bs b o e).2 (I.ok.nofr e) (I.ok.noex b o e),I.base.free b o (I.ok.bs b o e).1 (I.ok.bs b o e).2 (I.ok.noex b o e)⟩
theorem Inv.bk(I:Inv X pins σ H s):∀b o,X.base.get? b=some o->s.heap.get? b=some o:=fun b o e=>(I.bs b o e).1
theorem Inv.mod(I:Inv X pins σ H s):Mod X.K X.mg X.base:=I.ok.mod
theorem Inv.kIn(I:Inv X pins σ H s):X.K.In s.heap:=I.ok.mod.kin.keeps I.bk
theorem Inv.lt(I:Inv X pins σ H s):X.env.locals<s.heap.objs.size:=let ⟨_,hn,_⟩:=I.loc;hn.lt
theorem Inv.sz(I:Inv X pins σ H s):X.s₀.heap.objs.size<=s.heap.objs.size:=Nat.le_trans I.ok.above (Nat.le_of_lt I.lt)
theorem Inv.nofs(I:Inv X pins σ H s){a:Addr}(h:s.heap.objs.size<=a):a ∉ X.fs:=fun hb=>by
 obtain⟨_,o,ho,_⟩:=I.ok.funs.mem hb;exact absurd (Nat.lt_of_lt_of_le (Heap.lt_size ho) (Nat.le_trans I.sz h)) (Nat.lt_irrefl _)
theorem Inv.cne(I:Inv X pins σ H s):∀x c,X.env.cells.lookup x=some c->c≠X.env.locals:=fun x c e z=>by
 obtain⟨v,o,ho,hd⟩:=I.cell x c e;obtain⟨m,⟨o',es,ep,ho',hd',_⟩,_⟩:=I.loc;rw[z,ho'] at ho;cases ho;rw[hd'] at hd;cases hd
theorem Inv.funs(I:Inv X pins σ H s):s.heap.FunFrames X.base X.outer:=by
 have all:∀(l:List Env),(∀b∈frs l,b∈X.fs)->X.s₀.heap.FunFrames X.base l->s.heap.FunFrames X.base l:=by
  intro l
  induction l with
  |nil=>intro _ _;trivial
  |cons env r ih=>
   intro hs hl;obtain⟨hk,⟨L,o,hf,hn,ho,hd⟩,hr⟩:=hl;have hL:L∈X.fs:=hs L (by unfold frs;rw[List.filterMap_cons,hf];exact List.mem_cons_self)
   obtain⟨sl,e⟩:=I.base.slot L o ho (I.ok.frf L hL) hL fun z=>I.ok.exfs L z hL;exact⟨hk,⟨L,_,hf,hn,e,hd⟩,ih (fun b hb=>hs b (by unfold frs;rw[List.filterMap_cons,hf];exact List.mem_cons_of_mem _ hb)) hr⟩
 exact all X.outer (fun _ hb=>hb) I.ok.funs
theorem Inv.stack(I:Inv X pins σ H s):s.heap.FunFrames X.base X.stack:=by
 rcases I.ok.stk with e|⟨e,hf⟩
 ·rw[e];exact I.funs
 ·rw[e]
  obtain⟨m,hn,_⟩:=I.loc;refine .cons (by rw[I.ok.kind];decide) hf hn ?_ I.funs
  exact Heap.get?_none_of_le (Nat.le_trans I.ok.bsz I.ok.above)
theorem Inv.Bb(I:Inv X pins σ H s):∀b∈frs X.stack,b∈X.env.locals::X.fs:=fun b hb=>by
 rcases I.ok.stk with e|⟨e,hf⟩
 ·rw[e] at hb;exact List.mem_cons_of_mem _ hb
 ·rw[e] at hb
  unfold frs at hb;rw[List.filterMap_cons,hf] at hb;exact hb
theorem Inv.A9(I:Inv X pins σ H s):∀b∈frs X.stack,H b=none:=fun b hb=>by
 rcases List.mem_cons.mp (I.Bb b hb) with e|hb
 ·rw[e];exact I.free
 ·obtain⟨_,o,ho,_⟩:=I.ok.funs.mem hb
  exact I.base.free b o ho (I.ok.frf b hb) fun z=>I.ok.exfs b z hb
theorem Inv.step{g':Array GenState}{t':Nat}{d':Drawn}{ch:List Addr}(I:Inv X pins σ H s)(hch:∀b∈ch,(b∈X.ex\/X.s₀.heap.objs.size<=b)/\b≠X.env.locals/\(∀x c,X.env.cells.lookup x=some c->c≠b)/\∀p∈X.pn++pins,p.1≠b)(keep:∀b o,b≠X.env.locals->b ∉ X.fs->b ∉ ch->s.heap.get? b=some o->H b=none->h'.get? b=some o)(slot:∀b o,b≠X.env.locals->b∈X.fs->b ∉ ch->s.heap.get? b=some o->H b=none->∃sl,h'.get? b=some { o with slots:=sl })(free:∀b o,b ∉ ch->s.heap.get? b=some o->H b=none->H' b=none)(there:∀b o,b ∉ ch->s.heap.get? b=some o->∃o',h'.get? b=some o')(tups:∀b xs,H b=some (.tup xs)->H' b=some (.tup xs))(frzs:∀b o u,H b=some (.frz o u)->H' b=some (.frz o u))(tbls:∀b ps,H b=some (.tbl ps)->∃more,H' b=some (.tbl (ps++more)))(ns:∀m,s.heap.Ns X.env.locals m->h'.Ns X.env.locals m)(hok:HOk X.prog X.w H' h')(hg:AllBare g'):
  Inv X pins σ H' { s with heap:=h',gens:=g',drawn:=d',toks:=t' }:=by
 have neL:∀b o,X.s₀.heap.get? b=some o->b≠X.env.locals:=fun b o e=>Nat.ne_of_lt (Nat.lt_of_lt_of_le (Heap.lt_size e) I.ok.above)
 have neC:∀b o,X.s₀.heap.get? b=some o->b ∉ X.ex->b ∉ ch:=fun b o e hx hb=>by
  rcases(hch b hb).1 with z|z
  ·exact hx z
  ·exact absurd (Nat.lt_of_lt_of_le (Heap.lt_size e) z) (Nat.lt_irrefl _)
 have cellK:∀x c,X.env.cells.lookup x=some c->∀v,s.heap.IsCell c v->h'.IsCell c v:=fun x c e v ⟨o,ho,hd⟩=>by
  have nch:c ∉ ch:=fun z=>(hch c z).2.2.1 x c e rfl;by_cases hc:c∈X.fs
  ·obtain⟨sl,q⟩:=slot c o (I.cne x c e) hc nch ho (I.freeC x c e)
   exact⟨_,q,hd⟩
  ·exact⟨o,keep c o (I.cne x c e) hc nch ho (I.freeC x c e),hd⟩
 refine⟨I.ok,I.os,hg,⟨fun b o e n hb hx=>?_,fun b o e n hb hx=>?_,fun b o e n hx=>?_,fun b o e hx=>?_,fun b xs e=>tups b xs (I.base.tups b xs e),fun b o xs e=>frzs b o xs (I.base.frzs b o xs e),fun b ps e=>?_⟩,?_,fun x c e=>?_,?_,fun x c e=>?_,fun p hp=>?_,hok,I.len⟩
 ·exact keep b o (neL b o e) hb (neC b o e hx) (I.base.keep b o e n hb hx) (I.base.free b o e n hx)
 ·obtain⟨sl,e1⟩:=I.base.slot b o e n hb hx
  obtain⟨sl',e2⟩:=slot b _ (neL b o e) hb (neC b o e hx) e1 (I.base.free b o e n hx);exact⟨sl',e2⟩
 ·obtain⟨o',e1⟩:=I.base.there b o e hx
  exact free b o' (neC b o e hx) e1 (I.base.free b o e n hx)
 ·obtain⟨o',e1⟩:=I.base.there b o e hx
  exact there b o' (neC b o e hx) e1
 ·obtain⟨m1,e1⟩:=I.base.tbls b ps e
  obtain⟨m2,e2⟩:=tbls b _ e1;exact⟨m1++m2,by rw[e2,Array.append_assoc]⟩
 ·obtain⟨m,hn,hl⟩:=I.loc
  refine⟨m,ns m hn,fun i x v e1 e2 e3=>?_⟩;obtain⟨u,r,l⟩:=hl i x v e1 e2 e3;refine⟨u,r,?_⟩;rcases l with l|⟨k,c,e,z⟩
  ·exact .inl l
  ·exact .inr ⟨k,c,e,cellK x c e _ z⟩
 ·obtain⟨v,z⟩:=I.cell x c e
  exact⟨v,cellK x c e v z⟩
 ·obtain⟨m,⟨o,_,_,ho,_⟩,_⟩:=I.loc
  exact free _ o (fun z=>(hch _ z).2.1 rfl) ho I.free
 ·obtain⟨v,o,ho,hd⟩:=I.cell x c e
  exact free c o (fun z=>(hch c z).2.2.1 x c e rfl) ho (I.freeC x c e)
 ·obtain⟨e,n,ne,nf,d⟩:=I.pin p hp
  have nch:p.1 ∉ ch:=fun z=>(hch p.1 z).2.2.2 p hp rfl;exact⟨keep p.1 p.2 ne nf nch e n,free p.1 p.2 nch e n,ne,nf,d⟩
theorem Inv.un{t':Nat}(I:Inv X pins σ H s)(u:Un X.fs [] H H' s.heap h')(hok:HOk X.prog X.w H' h'):Inv X pins σ H' { s with heap:=h',toks:=t' }:=by
 obtain⟨m,⟨o,es,ep,ho,r⟩,_⟩:=id I.loc;obtain⟨sl,hL⟩:=u.any ho I.free (by simp)
 exact I.step (g':=s.gens) (d':=s.drawn) (ch:=[]) (fun _ z=>nomatch z) (fun b o _ hb _ e n=>u.keep b o e n hb (by simp)) (fun b o _ hb _ e n=>u.slot b o e n hb (by simp)) (fun b o _ e n=>u.free b o e n (by simp)) (fun b o _ e=>u.there b o e (by simp)) u.tups u.frzs u.tbls (fun m' hm=>by
  obtain⟨o',es',ep',ho',r'⟩:=hm;rw[ho] at ho';cases ho'
  exact⟨_,es',ep',hL,r'⟩) hok I.bare
theorem Inv.call{g':Array GenState}{t':Nat}{d':Drawn}{ch:List Addr}(I:Inv X pins σ H s)(u:Un (frs X.stack) ch H H' s.heap h')(hok:HOk X.prog X.w H' h')(hg:AllBare g')(hch:∀b∈ch,(b∈X.ex\/X.s₀.heap.objs.size<=b)/\b≠X.env.locals/\(∀x c,X.env.cells.lookup x=some c->c≠b)/\∀p∈X.pn++pins,p.1≠b):
  Inv X pins σ H' { s with heap:=h',gens:=g',drawn:=d',toks:=t' }:=by
 obtain⟨m,⟨o,es,ep,ho,r⟩,_⟩:=id I.loc;obtain⟨sl,hL⟩:=u.any ho I.free fun z=>(hch _ z).2.1 rfl
 exact I.step (ch:=ch) hch (fun b o hL hb hc e n=>u.keep b o e n (fun z=>(List.mem_cons.mp (I.Bb b z)).elim hL hb) hc) (fun b o _ _ hc e n=>u.any e n hc) (fun b o hc e n=>u.free b o e n hc) (fun b o hc e=>u.there b o e hc) u.tups u.frzs u.tbls (fun m' hm=>by
  obtain⟨o',es',ep',ho',r'⟩:=hm;rw[ho] at ho';cases ho'
  exact⟨_,es',ep',hL,r'⟩) hok hg
theorem Inv.turned{t':Nat}{it:Addr}(I:Inv X pins σ H s)(k:∀b o,b≠it->s.heap.get? b=some o->h'.get? b=some o)(hn:H it=none)(hL:it≠X.env.locals)(h1:it∈X.ex\/X.s₀.heap.objs.size<=it)(h2:∀x c,X.env.cells.lookup x=some c->c≠it)(h3:∀p∈X.pn++pins,p.1≠it):Inv X pins σ H { s with heap:=h',toks:=t' }:=by
 have nit:∀b u,H b=some u->b≠it:=fun b u e z=>by rw[z,hn] at e;cases e
 refine I.step (g':=s.gens) (d':=s.drawn) (ch:=[it]) (fun b hb=>?_) (fun b o _ _ hc e _=>k b o (fun z=>hc (by simp[z])) e) (fun b o _ _ hc e _=>⟨o.slots,k b o (fun z=>hc (by simp[z])) e⟩) (fun _ _ _ _ n=>n)
  (fun b o hc e=>⟨o,k b o (fun z=>hc (by simp[z])) e⟩) (fun _ _ e=>e) (fun _ _ _ e=>e) (fun b ps e=>⟨#[],by rw[e];simp⟩) (fun m hm=>?_) (fun b u e=>?_) I.bare
 ·have e:b=it:=by simpa using hb
  subst e;exact⟨h1,hL,h2,h3⟩
 ·obtain⟨o,es,ep,ho,r⟩:=hm
  exact⟨o,es,ep,k _ o (Ne.symm hL) ho,r⟩
 ·refine(I.hok b u e).stay (fun c v hc q=>k c v ?_ q) (fun _ q=>q) (fun _ _ q=>q) fun _ _ _ q=>q
  rcases hc with z|z
  ·rw[z];exact nit b u e
  ·exact nit c _ z
theorem Inv.tok(I:Inv X pins σ H s)(t:Nat):Inv X pins σ H { s with toks:=t }:=I.un (h':=s.heap) (t':=t) Un.refl I.hok
theorem Inv.kept{t':Nat}(I:Inv X pins σ H s)(k:∀b u,s.heap.get? b=some u->h'.get? b=some u):Inv X pins σ H { s with heap:=h',toks:=t' }:=I.un (Un.kept k) (I.hok.kept k)
theorem Inv.laid{a:Addr}{o:HO}{t':Nat}(I:Inv X pins σ H s)(k:∀b u,s.heap.get? b=some u->h'.get? b=some u)(hp:s.heap.objs.size<=a)(new:bQ X.prog X.w (upd H a o) h' a o):
  Inv X pins σ (upd H a o) { s with heap:=h',toks:=t' }:=I.un (Un.laid k hp (I.hok.fresh hp)) (I.hok.laid k hp new)
theorem Inv.write{x e:Addr}{o:HO}{t':Nat}(I:Inv X pins σ H s)(mu:Mut (H x))(he:e=x\/H e=some (.own x))(k:∀b u,b≠e->s.heap.get? b=some u->h'.get? b=some u)(heo:∃u,h'.get? e=some u)(new:bQ X.prog X.w (upd H x o) h' x o):Inv X pins σ (upd H x o) { s with heap:=h',toks:=t' }:=I.un (Un.write mu he k heo) (I.hok.write mu he k heo new)
theorem Inv.Bd{pins':List (Addr×Obj)}(I:Inv X pins σ H s)(h:∀p∈pins',s.heap.get? p.1=some p.2/\H p.1=none/\p.1≠X.env.locals/\p.1 ∉ X.fs/\∀v,p.2.data≠.cell v):Inv X pins' σ H s:=
 ⟨I.ok,I.os,I.bare,I.base,I.loc,I.cell,I.free,I.freeC,fun p hp=>(List.mem_append.mp hp).elim (fun z=>I.pin p (List.mem_append_left _ z)) (h p),I.hok,I.len⟩
theorem lU{N:List Str}(hN:N.Nodup){i j:Nat}{x:Str}(a:N[i]?=some x)(b:N[j]?=some x):i=j:=by
 obtain⟨h1,e1⟩:=List.getElem?_eq_some_iff.mp a;obtain⟨h2,e2⟩:=List.getElem?_eq_some_iff.mp b;exact(List.getElem_inj hN).mp (e1.trans e2.symm)
theorem qv{M:Model}{A:Around}{E:Value->Shared->Prop}{i:Nat}{x:Str}{v:V}{u:Value}{Q:Unit->Shared->Prop}(I:Inv X pins σ H s)(hN:X.N.Nodup)(hi:X.N[i]?=some x)(hx:Loc X.env.scope x)(r:aM v u)(h:∀s',Inv X pins (σ.set i (some v)) H s'->(∃a,Heap.SameBut a s.heap s'.heap/\(a=X.env.locals\/X.env.cells.lookup x=some a))->Q () s')(hf:X.fn x=true\/X.env.scope.names.lookup x=some .local:=by first|exact .inl rfl|exact .inr rfl|assumption):wpAny M A (storeName X.env x u) Q E s:=by
 obtain⟨m,hn,hl⟩:=id I.loc;have hcls:(X.env.scope.kind == .class || (X.env.scope.kind == .module && X.env.locals != X.env.globals))=false:=by rw[I.ok.kind];rfl
 have hiσ:i<σ.length:=by rw[I.len];exact(List.getElem?_eq_some_iff.mp hi).1
 have cne:=I.cne
 have tracked:∀ {a:Addr} {h':Heap},(∃o,s.heap.get? a=some o/\H a=none)->Heap.SameBut a s.heap h'->HOk X.prog X.w H h':=fun {a h'} ha hs b ob e=>by
  obtain⟨_,_,hfree⟩:=ha;refine(I.hok b ob e).stay (fun c w' hc q=>(hs.2 c ?_).trans q) (fun _ q=>q) (fun _ _ q=>q) fun _ _ _ q=>q;rintro rfl;rcases hc with rfl|hc
  ·rw[hfree] at e;cases e
  ·rw[hfree] at hc;cases hc
 rcases hx with hk|hk
 ·refine wpAny_storeName_local hk hn (fun h' hn' hs=>?_) hcls
  obtain⟨oL,_,_,hoL,_⟩:=id hn;refine h _ ⟨I.ok,I.os,I.bare,⟨fun b o e n hb hx=>?_,fun b o e n hb hx=>?_,I.base.free,fun b o e hx=>?_,I.base.tups,I.base.frzs,I.base.tbls⟩,⟨_,hn',fun j y v' e1 e2 e3=>?_⟩,fun y c e=>?_,I.free,I.freeC,fun p hp=>?_,tracked ⟨oL,hoL,I.free⟩ hs,by simpa using I.len⟩ ⟨_,hs,.inl rfl⟩
  ·exact(hs.2 b (Nat.ne_of_lt (Nat.lt_of_lt_of_le (Heap.lt_size e) I.ok.above))).trans (I.base.keep b o e n hb hx)
  ·obtain⟨sl,e1⟩:=I.base.slot b o e n hb hx
   exact⟨sl,(hs.2 b (Nat.ne_of_lt (Nat.lt_of_lt_of_le (Heap.lt_size e) I.ok.above))).trans e1⟩
  ·obtain⟨o',e1⟩:=I.base.there b o e hx
   exact⟨o',(hs.2 b (Nat.ne_of_lt (Nat.lt_of_lt_of_le (Heap.lt_size e) I.ok.above))).trans e1⟩
  ·by_cases hj:j=i
   ·subst hj
    rw[hi] at e1;cases e1;rw[List.getElem?_set_self hiσ] at e2;cases e2;exact⟨u,r,.inl ⟨hk,by simp⟩⟩
   ·rw[List.getElem?_set_ne (Ne.symm hj)] at e2
    obtain⟨u',r',q⟩:=hl j y v' e1 e2 e3;refine⟨u',r',?_⟩;rcases q with⟨k,e⟩|⟨k,c,e,z⟩
    ·refine .inl ⟨k,?_⟩
     have:y≠x:=fun e=>hj (lU hN e1 (e ▸ hi));simp[this,e]
    ·exact .inr ⟨k,c,e,z.sameBut hs (cne y c e)⟩
  ·obtain⟨w',z⟩:=I.cell y c e
   exact⟨w',z.sameBut hs (cne y c e)⟩
  ·obtain⟨e,n,ne,nf,d⟩:=I.pin p hp
   exact⟨(hs.2 p.1 ne).trans e,n,ne,nf,d⟩
 ·have hfn:X.fn x=true:=by
   rcases hf with z|z
   ·exact z
   ·rw[z] at hk;cases hk
  obtain⟨c,hc⟩:=I.ok.has x (.inl hk);obtain⟨w',z⟩:=I.cell x c hc;refine wpAny_storeName_cell I.ok.kind hk hc z (fun h' hc' hs=>?_);obtain⟨oc,hoc,hocd⟩:=id z;refine h { s with heap:=h' } ⟨I.ok,I.os,I.bare,⟨fun b o e n hb hx=>?_,fun b o e n hb hx=>?_,I.base.free,fun b o e hx=>?_,I.base.tups,I.base.frzs,I.base.tbls⟩,⟨m,hn.sameBut hs (Ne.symm (cne x c hc)),fun j y v' e1 e2 e3=>?_⟩,fun y c' e=>?_,I.free,I.freeC,fun p hp=>?_,tracked ⟨oc,hoc,I.freeC x c hc⟩ hs,by simpa using I.len⟩ ⟨c,hs,.inr hc⟩
  ·exact(hs.2 b (Nat.ne_of_lt (Nat.lt_of_lt_of_le (Heap.lt_size e) (I.ok.cab x c hfn hc)))).trans (I.base.keep b o e n hb hx)
  ·obtain⟨sl,e1⟩:=I.base.slot b o e n hb hx
   exact⟨sl,(hs.2 b (Nat.ne_of_lt (Nat.lt_of_lt_of_le (Heap.lt_size e) (I.ok.cab x c hfn hc)))).trans e1⟩
  ·obtain⟨o',e1⟩:=I.base.there b o e hx
   exact⟨o',(hs.2 b (Nat.ne_of_lt (Nat.lt_of_lt_of_le (Heap.lt_size e) (I.ok.cab x c hfn hc)))).trans e1⟩
  ·by_cases hj:j=i
   ·subst hj
    rw[hi] at e1;cases e1;rw[List.getElem?_set_self hiσ] at e2;cases e2;exact⟨u,r,.inr ⟨.inl hk,c,hc,hc'⟩⟩
   ·rw[List.getElem?_set_ne (Ne.symm hj)] at e2
    obtain⟨u',r',q⟩:=hl j y v' e1 e2 e3;refine⟨u',r',?_⟩;rcases q with q|⟨k,c',e,z'⟩
    ·exact .inl q
    ·refine .inr ⟨k,c',e,z'.sameBut hs ?_⟩
     rintro rfl;exact hj (lU hN e1 (I.ok.inj _ _ _ e hc ▸ hi))
  ·by_cases hcc:c'=c
   ·subst hcc;exact⟨_,hc'⟩
   ·obtain⟨w2,z2⟩:=I.cell y c' e
    exact⟨w2,z2.sameBut hs hcc⟩
  ·obtain⟨e,n,ne,nf,d⟩:=I.pin p hp
   refine⟨(hs.2 p.1 ?_).trans e,n,ne,nf,d⟩;intro q;rw[q,hoc] at e;have q':oc=p.2:=Option.some.inj e;exact d w' (by rw[←q'];exact hocd)
theorem ff{M:Model}{A:Around}{E:Value->Shared->Prop}{i:Nat}{x:Str}{v:V}{u:Value}{Q:Unit->Shared->Prop}(I:Inv X pins σ H s)(hN:X.N.Nodup)(hi:X.N[i]?=some x)(hx:Loc X.env.scope x)(r:aM v u)(h:∀s',Inv X pins (σ.set i (some v)) H s'->Q () s')(hf:X.fn x=true\/X.env.scope.names.lookup x=some .local:=by first|exact .inl rfl|exact .inr rfl|assumption):wpAny M A (storeName X.env x u) Q E s:=
 qv I hN hi hx r (fun s' I' _=>h s' I') hf
theorem Inv.call'{s':Shared}{ch:List Addr}(I:Inv X pins σ H s)(ho:s'.os=s.os)(u:Un (frs X.stack) ch H H' s.heap s'.heap)(hok:HOk X.prog X.w H' s'.heap)(hg:AllBare s'.gens)(hch:∀b∈ch,(b∈X.ex\/X.s₀.heap.objs.size<=b)/\b≠X.env.locals/\(∀x c,X.env.cells.lookup x=some c->c≠b)/\∀p∈X.pn++pins,p.1≠b):Inv X pins σ H' s':=by
 obtain⟨h',g',d',t',o'⟩:=s';have e:o'=s.os:=ho;subst e;exact I.call (g':=g') (t':=t') (d':=d') u hok hg hch
end
noncomputable abbrev XK:=Value->Option Addr->Hp->Prop
noncomputable abbrev St:=List (Option V)
noncomputable abbrev VK:=V->Hp->Prop
noncomputable abbrev TE:=St->Hp->VK->Prop
noncomputable abbrev TT:=St->Hp->(Bool->Hp->Prop)->Prop
noncomputable abbrev TA:=St->Hp->(List V->Hp->Prop)->Prop
structure fk where
 nx:St->Hp->Prop
 rt:VK
 bk:St->Hp->Prop:=fun _ _=>False
 ct:St->Hp->Prop:=fun _ _=>False
noncomputable abbrev TS:=fk->St->Hp->Prop
noncomputable def EP(X:Cx)(pins:List (Addr×Obj))(σ:St)(Q:VK)(u:Value)(s':Shared):Prop:=∃v H',Inv X pins σ H' s'/\aM v u/\Q v H'
noncomputable def TP(X:Cx)(pins:List (Addr×Obj))(σ:St)(Q:Bool->Hp->Prop)(b:Bool)(s':Shared):Prop:=∃H',Inv X pins σ H' s'/\Q b H'
noncomputable def AP(X:Cx)(pins:List (Addr×Obj))(σ:St)(Q:List V->Hp->Prop)(us:List Value)(s':Shared):Prop:=∃vs H',Inv X pins σ H' s'/\au vs us/\Q vs H'
noncomputable def SP(X:Cx)(pins:List (Addr×Obj))(D:fk)(f:Flow)(s':Shared):Prop:=
 match f with
 |.next=>∃σ' H',Inv X pins σ' H' s'/\D.nx σ' H'
 |.brk=>∃σ' H',Inv X pins σ' H' s'/\D.bk σ' H'
 |.cont=>∃σ' H',Inv X pins σ' H' s'/\D.ct σ' H'
 |.ret u=>∃v σ' H',Inv X pins σ' H' s'/\aM v u/\D.rt v H'
noncomputable def PEd(X:Cx)(e:Expr)(t:TE):Prop:=
 ∀(pins:List (Addr×Obj)) (s:Shared) (σ:St) (H:Hp) (Q:VK),Inv X pins σ H s->t σ H Q->wpAny (model X.prog X.w) X.A (eval e X.env) (EP X pins σ Q) X.xe s
structure PE(X:Cx)(e:Expr)(t:TE):Prop where
 run:PEd X e t
noncomputable instance {X:Cx} {e:Expr} {t:TE}:CoeFun (PE X e t) (fun _=>PEd X e t):=⟨PE.run⟩
noncomputable instance {X:Cx} {e:Expr} {t:TE}:Coe (PE X e t) (PEd X e t):=⟨PE.run⟩
noncomputable def PT(X:Cx)(e:Expr)(t:TT):Prop:=
 ∀(pins:List (Addr×Obj)) (s:Shared) (σ:St) (H:Hp) (Q:Bool->Hp->Prop),Inv X pins σ H s->t σ H Q->wpAny (model X.prog X.w) X.A (isTrue e X.env (eval e X.env)) (TP X pins σ Q) X.xe s
noncomputable def PW(X:Cx)(e:Expr)(t:TT):Prop:=
 ∀(whole:Sem Value) (pins:List (Addr×Obj)) (s:Shared) (σ:St) (H:Hp) (Q:Bool->Hp->Prop),Inv X pins σ H s->t σ H Q->wpAny (model X.prog X.w) X.A (isTrue e X.env whole) (TP X pins σ Q) X.xe s
theorem PW.pt{X:Cx}{e:Expr}{t:TT}(h:PW X e t):PT X e t:=h _
noncomputable def PAd(X:Cx)(es:List Expr)(t:TA):Prop:=
 ∀(pos:Pos) (pins:List (Addr×Obj)) (s:Shared) (σ:St) (H:Hp) (Q:List V->Hp->Prop),Inv X pins σ H s->t σ H Q->wpAny (model X.prog X.w) X.A (spliced (backTo pos (starEach es X.env))) (AP X pins σ Q) X.xe s
structure PA(X:Cx)(es:List Expr)(t:TA):Prop where
 run:PAd X es t
noncomputable instance {X:Cx} {es:List Expr} {t:TA}:CoeFun (PA X es t) (fun _=>PAd X es t):=⟨PA.run⟩
noncomputable instance {X:Cx} {es:List Expr} {t:TA}:Coe (PA X es t) (PAd X es t):=⟨PA.run⟩
noncomputable def PSd(X:Cx)(st:Stmt)(t:TS):Prop:=
 ∀(pins:List (Addr×Obj)) (s:Shared) (σ:St) (H:Hp) (D:fk),Inv X pins σ H s->t D σ H->wpAny (model X.prog X.w) X.A (exec st X.env) (SP X pins D) X.xe s
structure PS(X:Cx)(st:Stmt)(t:TS):Prop where
 run:PSd X st t
noncomputable instance {X:Cx} {st:Stmt} {t:TS}:CoeFun (PS X st t) (fun _=>PSd X st t):=⟨PS.run⟩
noncomputable instance {X:Cx} {st:Stmt} {t:TS}:Coe (PS X st t) (PSd X st t):=⟨PS.run⟩
noncomputable def xV(X:Cx)(st:List Stmt)(t:TS):Prop:=
 ∀(pins:List (Addr×Obj)) (s:Shared) (σ:St) (H:Hp) (D:fk),Inv X pins σ H s->t D σ H->wpAny (model X.prog X.w) X.A (execs st X.env) (SP X pins D) X.xe s
structure PSs(X:Cx)(st:List Stmt)(t:TS):Prop where
 run:xV X st t
noncomputable instance {X:Cx} {st:List Stmt} {t:TS}:CoeFun (PSs X st t) (fun _=>xV X st t):=⟨PSs.run⟩
noncomputable instance {X:Cx} {st:List Stmt} {t:TS}:Coe (PSs X st t) (xV X st t):=⟨PSs.run⟩
theorem thn{α:Type}{t:Sem α}{Q Q':α->Shared->Prop}{M:Model}{A:Around}{E:Value->Shared->Prop}{s:Shared}(h:wpAny M A t Q E s)(hQ:∀a s,Q a s->Q' a s):wpAny M A t Q' E s:=wpAny_mono h hQ fun _ _ x=>x
section
variable{X:Cx}
noncomputable def uH(i:Nat):TE:=fun σ H Q=>∃v,σ[i]?=some (some v)/\Q v H
noncomputable def tC(v:V):TE:=fun _ H Q=>Q v H
theorem nW{i:Nat}{x:Str}{pos:Pos}(hN:X.N[i]?=some x)(hv:Vis X.env.scope x)(hd:(x == ("__debug__":Str))=false:=by decide)(hcd:(x == ("__classdict__":Str))=false:=by decide):PE X (.Name x pos) (uH i):=.mk <| by
 intro pins s σ H Q I h;obtain⟨v,e,h⟩:=h;obtain⟨m,hn,hl⟩:=I.loc;obtain⟨u,r,l⟩:=hl i x v hN e hv;have fin:EP X pins σ Q u s:=⟨v,H,I,r,h⟩;rcases l with⟨hk,hm⟩|⟨hk,c,hc,hcell⟩
 ·exact wpAny_Name (wpAny_loadName_local I.ok.kind hk hn hm fin) hd
 ·rcases hk with hk|hk
  ·exact wpAny_Name (wpAny_loadName_cell I.ok.kind hk hc hcell fin) hd
  ·exact wpAny_Name (wpAny_loadName_free I.ok.kind hk hc hcell fin hcd) hd
theorem ak{i j pos}:PE X (.Constant (.int i) j pos) (tC (.int i)):=.mk <| fun _ _ _ H _ I h=>wpAny_Constant_int ⟨.int i,H,I.tok _,⟨_,rfl⟩,h⟩
theorem mn{b j pos}:PE X (.Constant (.bool b) j pos) (tC (.bl b)):=.mk <| fun _ _ _ H _ I h=>Constant_bool ⟨.bl b,H,I,rfl,h⟩
theorem fc{j pos}:PE X (.Constant .none j pos) (tC .non):=.mk <| fun _ _ _ H _ I h=>Constant_none ⟨.non,H,I,rfl,h⟩
theorem ar{x j pos}:PE X (.Constant (.str x) j pos) (tC (.str x)):=.mk <| fun _ _ _ H _ I h=>Calls.Constant_str ⟨.str x,H,I.tok _,⟨_,rfl⟩,h⟩
noncomputable def Gl(X:Cx)(x:Str):Prop:=X.env.kindOf x=some .globalImplicit
theorem eu{E:Value->Shared->Prop}{pins:List (Addr×Obj)}{s:Shared}{σ:St}{H:Hp}{x:Str}{u:Value}{pos:Pos}{Q:Value->Shared->Prop}(I:Inv X pins σ H s)(hg:Gl X x)(hm:X.mg x=some u)(h:Q u s)(hd:(x == ("__debug__":Str))=false:=by decide):wpAny (model X.prog X.w) X.A (eval (.Name x pos) X.env) Q E s:=
 Calls.Name_function_global I.ok.kind hg (Calls.loadGlobal_global (by rw[I.ok.glob];exact I.mod.glob.keeps I.bk) hm h) hd
theorem ln{E:Value->Shared->Prop}{pins:List (Addr×Obj)}{s:Shared}{σ:St}{H:Hp}{x:Str}{u:Value}{pos:Pos}{Q:Value->Shared->Prop}(I:Inv X pins σ H s)(hg:Gl X x)(hm:X.mg x=none)(hv:bootBuiltins x=some u)(h:Q u s)(hn:x≠"__name__":=by decide)(hd:(x == ("__debug__":Str))=false:=by decide):wpAny (model X.prog X.w) X.A (eval (.Name x pos) X.env) Q E s:=by
 obtain⟨mb,h1,h2⟩:=I.mod.blt;exact Calls.Name_function_global I.ok.kind hg (Calls.loadGlobal_builtin (by rw[I.ok.glob];exact I.mod.glob.keeps I.bk) hm (by rw[I.ok.blt];exact h1.keeps I.bk) ((h2 x hn).trans hv) h) hd
theorem cx{x:Str}{v:V}{u:Value}{pos:Pos}(hg:Gl X x)(hm:X.mg x=some u)(r:aM v u)(hd:(x == ("__debug__":Str))=false:=by decide):PE X (.Name x pos) (tC v):=.mk <|
 fun _ _ _ H _ I h=>eu I hg hm ⟨v,H,I,r,h⟩ hd
theorem oU{x:Str}{v:V}{u:Value}{pos:Pos}(hg:Gl X x)(hm:X.mg x=none)(hv:bootBuiltins x=some u)(r:aM v u)(hn:x≠"__name__":=by decide)(hd:(x == ("__debug__":Str))=false:=by decide):PE X (.Name x pos) (tC v):=.mk <|
 fun _ _ _ H _ I h=>ln I hg hm hv ⟨v,H,I,r,h⟩ hn hd
variable{a b:Expr}{ta tb:TE}{pos:Pos}
variable{tA tB':TT}{dg:List Expr}
noncomputable def yH(t u:TT):TT:=fun σ H Q=>t σ H fun c H1=>if c=true then u σ H1 Q else Q false H1
noncomputable def tOr(t u:TT):TT:=fun σ H Q=>t σ H fun c H1=>if c=true then Q true H1 else u σ H1 Q
noncomputable def Ac(t:TT):TT:=fun σ H Q=>t σ H fun c H1=>Q (!c) H1
theorem dm(ha:PT X a tA):PW X (.BoolOp .And [a] pos) tA:=by
 intro wh pins s σ H Q I h;refine isTrue_and (thn (ha pins s σ H Q I h) fun c s1 e=>?_)
 cases c with
 |true=>exact isTrue_and_nil e
 |false=>exact e
theorem lH(ha:PT X a tA):PW X (.BoolOp .Or [a] pos) tA:=by
 intro wh pins s σ H Q I h;refine isTrue_or (thn (ha pins s σ H Q I h) fun c s1 e=>?_)
 cases c with
 |false=>exact isTrue_or_nil e
 |true=>exact e
theorem et(ha:PT X a tA)(hb:PW X (.BoolOp .And (b::dg) pos) tB'):PW X (.BoolOp .And (a::b::dg) pos) (yH tA tB'):=by
 intro wh pins s σ H Q I h;refine isTrue_and (thn (ha pins s σ H _ I h) fun c s1 ⟨H1,I1,q1⟩=>?_)
 cases c with
 |true=>exact hb wh pins s1 σ H1 Q I1 q1
 |false=>exact⟨H1,I1,q1⟩
theorem pG(ha:PT X a tA)(hb:PW X (.BoolOp .Or (b::dg) pos) tB'):PW X (.BoolOp .Or (a::b::dg) pos) (tOr tA tB'):=by
 intro wh pins s σ H Q I h;refine isTrue_or (thn (ha pins s σ H _ I h) fun c s1 ⟨H1,I1,q1⟩=>?_)
 cases c with
 |true=>exact⟨H1,I1,q1⟩
 |false=>exact hb wh pins s1 σ H1 Q I1 q1
theorem nK(ha:PT X a tA):PT X (.UnaryOp .Not a pos) (Ac tA):=by
 intro pins s σ H Q I h;exact isTrue_not (ha pins s σ H (fun c H1=>Q (!c) H1) I h)
theorem x9{op}{t:TE}(h:PE X a t):PE X (.BoolOp op [a] pos) t:=.mk <| fun pins s σ H Q I hw=>BoolOp_one (h pins s σ H Q I hw)
end
noncomputable def SqL(K:W.Frag)(H:Hp)(a:Addr)(xs:List V):Prop:=
 Rd H a (.lst xs) \/
  ∃(o:Obj)(its:Array Value)(n:Nat),K.lookup a=some o/\o.cls=.type "list"/\o.dict=none/\o.data=.seq its n/\its.size<=sizeLine/\au xs its.toList
noncomputable def SqT(K:W.Frag)(H:Hp)(a:Addr)(xs:List V):Prop:=
 Rd H a (.tup xs) \/
  ∃(o:Obj)(its:Array Value)(n:Nat),K.lookup a=some o/\o.cls=.type "tuple"/\o.data=.seq its n/\its.size<=sizeLine/\au xs its.toList
noncomputable def Az:Value->Option V
 |.none=>some .non
 |.bool b=>some (.bl b)
 |.int i _=>some (.int i)
 |.str x _=>some (.str x)
 |.bytes b _=>some (.byt b)
 |.float b _=>some (.flt b)
 |.ref a=>some (.ref a)
 |.type n=>some (.ty n)
 |_=>none
theorem aM.abs{x:V}{u:Value}(r:aM x u):Az u=some x:=by
 cases x with
 |non=>cases r;rfl
 |bl _=>cases r;rfl
 |int _=>obtain⟨t,rfl⟩:=r;rfl
 |str _=>obtain⟨t,rfl⟩:=r;rfl
 |byt _=>obtain⟨t,rfl⟩:=r;rfl
 |flt _=>obtain⟨t,rfl⟩:=r;rfl
 |ref _=>cases r;rfl
 |ty _=>cases r;rfl
theorem aM.inj{x y:V}{u:Value}(r:aM x u)(q:aM y u):x=y:=Option.some.inj (r.abs.symm.trans q.abs)
theorem au.inj:∀ {xs ys:List V} {us:List Value},au xs us->au ys us->xs=ys
 |_,_,_,.nil,.nil=>rfl
 |_,_,_,.cons r t,.cons r' t'=>by rw[r.inj r',au.inj t t']
section
variable{X:Cx}{pins:List (Addr×Obj)}{σ:St}{H:Hp}{s:Shared}{a:Addr}{xs ys:List V}
theorem SqL.of{K:W.Frag}(h:H a=some (.lst xs)):SqL K H a xs:=.inl (.inl h)
theorem SqT.of{K:W.Frag}(h:H a=some (.tup xs)):SqT K H a xs:=.inl (.inl h)
theorem Inv.list(I:Inv X pins σ H s)(h:SqL X.K H a xs):∃its:List Value,au xs its/\PlainL s.heap a its.toArray/\xs.length<=sizeLine:=by
 rcases h with h|⟨o,its,n,hk,hc,hd,hs,hz,r⟩
 ·obtain⟨z,its,n,r,e⟩:=h.ok I.hok
  exact⟨its,r,⟨_,n,e,rfl,rfl,rfl⟩,z⟩
 ·refine⟨its.toList,r,⟨o,n,I.kIn a o hk,hc,hd,by simpa using hs⟩,?_⟩
  have e:=r.length;simp only[Array.length_toList] at e;omega
theorem Inv.tuple(I:Inv X pins σ H s)(h:SqT X.K H a xs):∃its:List Value,au xs its/\IsTup s.heap a its.toArray/\xs.length<=sizeLine:=by
 rcases h with h|⟨o,its,n,hk,hc,hs,hz,r⟩
 ·obtain⟨z,its,r,p⟩:=h.ok I.hok
  exact⟨its,r,p.1,z⟩
 ·refine⟨its.toList,r,⟨o,I.kIn a o hk,hc,n,by simpa using hs⟩,?_⟩
  have e:=r.length;simp only[Array.length_toList] at e;omega
theorem Inv.Bg(I:Inv X pins σ H s)(h:SqL X.K H a xs)(h':SqL X.K H a ys):xs=ys:=by
 obtain⟨its,r,⟨o,n,e,_,_,d⟩,_⟩:=I.list h;obtain⟨its',r',⟨o',n',e',_,_,d'⟩,_⟩:=I.list h';rw[e] at e';cases e';rw[d] at d';injection d' with d1 _;have:its=its':=by simpa using congrArg Array.toList d1
 subst this;exact r.inj r'
theorem Inv.Be(I:Inv X pins σ H s)(h:SqT X.K H a xs)(h':SqT X.K H a ys):xs=ys:=by
 obtain⟨its,r,⟨o,e,_,n,d⟩,_⟩:=I.tuple h;obtain⟨its',r',⟨o',e',_,n',d'⟩,_⟩:=I.tuple h';rw[e] at e';cases e';rw[d] at d';injection d' with d1 _;have:its=its':=by simpa using congrArg Array.toList d1
 subst this;exact r.inj r'
end
noncomputable abbrev Cx.wish(X:Cx)(E:Value->Shared->Prop):Cx:={ X with xe:=E }
noncomputable abbrev Cx.nox(X:Cx):Cx:=X.wish fun _ _=>False
theorem Cx.Ok.wish{X:Cx}(ok:X.Ok)(E:Value->Shared->Prop):(X.wish E).Ok:=
 ⟨ok.mod,ok.kind,ok.glob,ok.blt,ok.above,ok.inj,ok.has,ok.cab,ok.hd,ok.frames,ok.stk,ok.exf,ok.bs,ok.bsz,ok.noex,ok.exfs,ok.funs,ok.frf,ok.tt⟩
theorem Cx.Ok.unwish{X:Cx}{E:Value->Shared->Prop}(ok:(X.wish E).Ok):X.Ok:=
 ⟨ok.mod,ok.kind,ok.glob,ok.blt,ok.above,ok.inj,ok.has,ok.cab,ok.hd,ok.frames,ok.stk,ok.exf,ok.bs,ok.bsz,ok.noex,ok.exfs,ok.funs,ok.frf,ok.tt⟩
section
variable{X:Cx}{pins:List (Addr×Obj)}{σ:St}{H:Hp}{s:Shared}{E:Value->Shared->Prop}
theorem Inv.wish(I:Inv X pins σ H s)(E:Value->Shared->Prop):Inv (X.wish E) pins σ H s:=⟨I.ok.wish E,I.os,I.bare,I.base,I.loc,I.cell,I.free,I.freeC,I.pin,I.hok,I.len⟩
theorem Inv.unwish(I:Inv (X.wish E) pins σ H s):Inv X pins σ H s:=⟨I.ok.unwish,I.os,I.bare,I.base,I.loc,I.cell,I.free,I.freeC,I.pin,I.hok,I.len⟩
theorem SP.unwish{D:fk}{f:Flow}{s':Shared}(h:SP (X.wish E) pins D f s'):SP X pins D f s':=by
 cases f with
 |next=>obtain⟨σ',H',I,q⟩:=h;exact⟨σ',H',I.unwish,q⟩
 |brk=>obtain⟨σ',H',I,q⟩:=h;exact⟨σ',H',I.unwish,q⟩
 |cont=>obtain⟨σ',H',I,q⟩:=h;exact⟨σ',H',I.unwish,q⟩
 |ret u=>obtain⟨v,σ',H',I,r,q⟩:=h;exact⟨v,σ',H',I.unwish,r,q⟩
theorem PE.nox{e:Expr}{t:TE}(h:PE X.nox e t):PE X e t:=.mk <| fun pins s σ H Q I hw=>
 wpAny_mono (h pins s σ H Q (I.wish _) hw) (fun _ _ ⟨v,H',I',r,q⟩=>⟨v,H',I'.unwish,r,q⟩) fun _ _ z=>False.elim z
theorem PT.nox{e:Expr}{t:TT}(h:PT X.nox e t):PT X e t:=fun pins s σ H Q I hw=>
 wpAny_mono (h pins s σ H Q (I.wish _) hw) (fun _ _ ⟨H',I',q⟩=>⟨H',I'.unwish,q⟩) fun _ _ z=>False.elim z
theorem PSs.nox{st:List Stmt}{t:TS}(h:PSs X.nox st t):PSs X st t:=.mk <| fun pins s σ H D I hw=>
 wpAny_mono (h pins s σ H D (I.wish _) hw) (fun _ _ q=>q.unwish) fun _ _ z=>False.elim z
end
section
variable{X:Cx}{st:Stmt}{dg:List Stmt}{t u:TS}{e:Expr}{te:TE}{pos:Pos}
noncomputable def vI:TS:=fun D σ H=>D.nx σ H
noncomputable def yt(t u:TS):TS:=fun D σ H=>t { D with nx:=u D } σ H
theorem bg:PSs X [] vI:=.mk <| fun _ _ σ H _ I h=>wpAny_execs_nil ⟨σ,H,I,h⟩
theorem ag(h1:PS X st t)(h2:PSs X dg u):PSs X (st::dg) (yt t u):=.mk <| by
 intro pins s σ H D I h;refine wpAny_execs_cons (thn (h1 pins s σ H { D with nx:=u D } I h) fun f s1 q=>?_)
 cases f with
 |next=>
  obtain⟨σ',H',I',q⟩:=q;exact h2 pins s1 σ' H' D I' q
 |ret v=>exact q
 |brk=>exact q
 |cont=>exact q
theorem al(h1:PS X st t):PSs X [st] t:=.mk <| by
 intro pins s σ H D I h;refine wpAny_execs_cons (thn (h1 pins s σ H D I h) fun f s1 q=>?_)
 cases f with
 |next=>exact wpAny_execs_nil q
 |ret v=>exact q
 |brk=>exact q
 |cont=>exact q
theorem Inv.quiet{pins:List (Addr×Obj)}{σ:St}{H:Hp}{s:Shared}(I:Inv X pins σ H s):interactive X.env=false:=by simp[interactive,I.ok.kind]
noncomputable def rF(te:TE):TS:=fun D σ H=>te σ H fun _ H1=>D.nx σ H1
theorem dP(he:PE X e te)(hs:swapsWith e none pos.line X.env=pure false:=by rfl):PS X (.Expr e pos) (rF te):=.mk <| by
 intro pins s σ H D I h;exact wpAny_Expr_any (thn (he pins s σ H _ I h) fun v s1 ⟨x,H1,I1,r1,q1⟩=>⟨σ,H1,I1,q1⟩) I.quiet hs
noncomputable def zL(te:TE):TS:=fun D σ H=>te σ H D.rt
theorem aX(he:PE X e te):PS X (.Return (some e) pos) (zL te):=.mk <| by
 intro pins s σ H D I h;exact wpAny_Return_some (thn (he pins s σ H _ I h) fun v s1 ⟨x,H1,I1,r1,q1⟩=>⟨x,σ,H1,I1,r1,q1⟩)
noncomputable def yi(c:TT)(t u:TS):TS:=fun D σ H=>c σ H fun b H1=>if b=true then t D σ H1 else u D σ H1
theorem bA{c:Expr}{a b:List Stmt}{tc:TT}(hc:PT X c tc)(ha:PSs X a t)(hb:PSs X b u):PS X (.If c a b pos) (yi tc t u):=.mk <| by
 intro pins s σ H D I h;refine wpAny_If (thn (hc pins s σ H _ I h) fun d s1 ⟨H1,I1,q1⟩=>?_)
 cases d with
 |true=>exact ha pins s1 σ H1 D I1 q1
 |false=>exact hb pins s1 σ H1 D I1 q1
end
noncomputable abbrev TG:=V->St->Hp->(St->Hp->Prop)->Prop
noncomputable abbrev TGs:=List V->St->Hp->(St->Hp->Prop)->Prop
noncomputable def PG(X:Cx)(target:Expr)(t:TG):Prop:=
 ∀(pins:List (Addr×Obj)) (s:Shared) (σ:St) (H:Hp) (v:V) (u:Value) (Q:St->Hp->Prop),Inv X pins σ H s->aM v u->t v σ H Q ->
  wpAny (model X.prog X.w) X.A (assign target X.env u) (fun _ s'=>∃σ' H',Inv X pins σ' H' s'/\Q σ' H') X.xe s
noncomputable def PGs(X:Cx)(ts:List Expr)(t:TGs):Prop:=
 ∀(pins:List (Addr×Obj)) (s:Shared) (σ:St) (H:Hp) (vs:List V) (us:List Value) (Q:St->Hp->Prop),Inv X pins σ H s->au vs us->t vs σ H Q ->
  wpAny (model X.prog X.w) X.A (assignInOrder ((assignEach ts X.env).map (·.2)) us) (fun _ s'=>∃σ' H',Inv X pins σ' H' s'/\Q σ' H') X.xe s
noncomputable abbrev xW:=V->V->V->Hp->(Hp->Prop)->Prop
noncomputable def z7(X:Cx)(t:xW):Prop:=
 ∀(pins:List (Addr×Obj)) (s:Shared) (σ:St) (H:Hp) (o i v:V) (ov iv u:Value) (Q:Hp->Prop),Inv X pins σ H s->aM o ov->aM i iv->aM v u->t o i v H Q ->
  wpAny (model X.prog X.w) X.A (setItem ov iv u) (fun _ s'=>∃H',Inv X pins σ H' s'/\Q H') X.xe s
noncomputable abbrev TIp:=V->V->Hp->VK->Prop
noncomputable def PIp(X:Cx)(op:Operator)(t:TIp):Prop:=
 ∀(pins:List (Addr×Obj)) (s:Shared) (σ:St) (H:Hp) (x y:V) (v u:Value) (Q:VK),Inv X pins σ H s->aM x v->aM y u->t x y H Q ->
  wpAny (model X.prog X.w) X.A (inplaceOp op v u) (EP X pins σ Q) X.xe s
section
variable{X:Cx}{pos:Pos}
noncomputable def kO(i:Nat):TG:=fun v σ H Q=>Q (σ.set i (some v)) H
theorem eF{i:Nat}{x:Str}(hN:X.N.Nodup)(hi:X.N[i]?=some x)(hx:Loc X.env.scope x)(hf:X.fn x=true\/X.env.scope.names.lookup x=some .local:=by first|exact .inl rfl|exact .inr rfl|assumption):PG X (.Name x pos) (kO i):=by
 intro pins s σ H v u Q I r h;exact wpAny_assign_Name (ff I hN hi hx r (fun s' I'=>⟨_,H,I',h⟩) hf)
noncomputable def zE:TGs:=fun vs σ H Q=>vs=[]/\Q σ H
noncomputable def vT(t:TG)(u:TGs):TGs:=fun vs σ H Q=>∃v r,vs=v::r/\t v σ H fun σ' H'=>u r σ' H' Q
theorem vk:PGs X [] zE:=by
 intro pins s σ H vs us Q I r h;obtain⟨e,h⟩:=h;subst e;cases r;exact assignInOrder_nil ⟨σ,H,I,h⟩
theorem jb{e:Expr}{es:List Expr}{t:TG}{u:TGs}(h1:PG X e t)(h2:PGs X es u)(hs:(assignEach (e::es) X.env).map (·.2)=assign e X.env::(assignEach es X.env).map (·.2):=by rfl):PGs X (e::es) (vT t u):=by
 intro pins s σ H vs us Q I r h;obtain⟨v,vr,e1,h⟩:=h;subst e1
 cases r with
 |cons r rr=>
  rw[hs];refine assignInOrder_cons (thn (h1 pins s σ H _ _ _ I r h) fun _ s1 ⟨σ1,H1,I1,q1⟩=>?_);exact h2 pins s1 σ1 H1 _ _ Q I1 rr q1
noncomputable def yC(to ti:TE)(t:xW):TG:=fun v σ H Q=>to σ H fun o H1=>ti σ H1 fun i H2=>t o i v H2 fun H3=>Q σ H3
theorem nR{o i:Expr}{to ti:TE}{t:xW}(ho:PE X o to)(hi:PE X i ti)(hs:z7 X t)
  (ha:∀v,assign (.Subscript o i pos) X.env v=(do
   let ov ← holding [v] (eval o X.env)
   let iv ← holding [v,ov] (eval i X.env)
   standAt pos
   holding [v,ov,iv] (setItem ov iv v)
   release [v,ov,iv] []):=by intro _;rfl):PG X (.Subscript o i pos) (yC to ti t):=by
 intro pins s σ H v u Q I r h;rw[ha];refine wpAny_bind (wpAny_holding (thn (ho pins s σ H _ I h) fun ov s1 ⟨x,H1,I1,r1,q1⟩=>?_));refine wpAny_bind (wpAny_holding (thn (hi pins s1 σ H1 _ I1 q1) fun iv s2 ⟨y,H2,I2,r2,q2⟩=>?_));refine wpAny_bind (wpAny_standAt (wpAny_bind (wpAny_holding (thn (hs pins s2 σ H2 x y v ov iv u _ I2 r1 r2 r q2) fun _ s3 ⟨H3,I3,q3⟩=>?_))));exact wpAny_release ⟨σ,H3,I3,q3⟩
noncomputable def qA(te:TE)(g:TG):TS:=fun D σ H=>te σ H fun x H1=>g x σ H1 D.nx
theorem kY{tg e:Expr}{te:TE}{g:TG}(he:PE X e te)(hg:PG X tg g)(hs:swapsWithSole [tg] e pos.line X.env=pure false:=by rfl)(hw:swappedStores [tg] e X.env=pure none:=by rfl)(h1:(assignEach [tg] X.env).map (·.2)=[assign tg X.env]:=by rfl):PS X (.Assign [tg] e pos) (qA te g):=.mk <| by
 intro pins s σ H D I h;refine wpAny_Assign_stores (thn (he pins s σ H _ I h) fun v s1 ⟨x,H1,I1,r1,q1⟩=>?_) hs hw;rw[h1];exact thn (hg pins s1 σ H1 x v _ I1 r1 q1) fun _ s2 q=>q
theorem aA{i:Nat}{x:Str}{e:Expr}{te:TE}{pos':Pos}(hN:X.N.Nodup)(hi:X.N[i]?=some x)(hx:Loc X.env.scope x)(he:PE X e te)(hs:swapsWith e (some (.Name x pos')) pos.line X.env=pure false:=by rfl)(hf:X.fn x=true\/X.env.scope.names.lookup x=some .local:=by first|exact .inl rfl|exact .inr rfl|assumption):
  PS X (.Assign [.Name x pos'] e pos) (qA te (kO i)):=.mk <| by
 intro pins s σ H D I h;refine wpAny_Assign_Name (thn (he pins s σ H _ I h) fun v s1 ⟨y,H1,I1,r1,q1⟩=>?_) hs;exact ff I1 hN hi hx r1 (fun s2 I2=>⟨_,H1,I2,q1⟩) hf
noncomputable def ze(i:Nat)(te:TE)(ti:TIp):TS:=fun D σ H=>∃x,σ[i]?=some (some x)/\te σ H fun y H1=>ti x y H1 fun z H2=>D.nx (σ.set i (some z)) H2
theorem sC{i:Nat}{x:Str}{e:Expr}{te:TE}{op:Operator}{ti:TIp}{pos':Pos}(hN:X.N.Nodup)(hi:X.N[i]?=some x)(hx:Loc X.env.scope x)(he:PE X e te)(ho:PIp X op ti)(hf:X.fn x=true\/X.env.scope.names.lookup x=some .local:=by first|exact .inl rfl|exact .inr rfl|assumption):
  PS X (.AugAssign (.Name x pos') op e pos) (ze i te ti):=.mk <| by
 intro pins s σ H D I h;obtain⟨v,e1,h⟩:=h;obtain⟨m,hn,hl⟩:=I.loc;have vis:Vis X.env.scope x:=by rcases hx with k|k;exact .inl k;exact .inr (.inl k)
 obtain⟨u,r,l⟩:=hl i x v hi e1 vis;refine wpAny_AugAssign_Name ?_
 have go:wpAny (model X.prog X.w) X.A (eval e X.env) (fun w s₂=>wpAny (model X.prog X.w) X.A (inplaceOp op u w) (fun r s₃=>wpAny (model X.prog X.w) X.A (storeName X.env x r) (fun _=>SP X pins D .next) X.xe s₃) X.xe s₂) X.xe s:=by
  refine thn (he pins s σ H _ I h) fun w s1 ⟨y,H1,I1,r1,q1⟩=>?_;refine thn (ho pins s1 σ H1 v y u w _ I1 r r1 q1) fun z s2 ⟨zv,H2,I2,r2,q2⟩=>?_;exact ff I2 hN hi hx r2 (fun s3 I3=>⟨_,H2,I3,q2⟩) hf
 rcases l with⟨hk,hm⟩|⟨hk,c,hc,hcell⟩
 ·exact wpAny_loadName_local I.ok.kind hk hn hm go
 ·rcases hk with hk|hk
  ·exact wpAny_loadName_cell I.ok.kind hk hc hcell go
  ·rcases hx with k|k
   ·have:X.env.scope.names.lookup x=some .free:=hk
    rw[k] at this;cases this
   ·have:X.env.scope.names.lookup x=some .free:=hk
    rw[k] at this;cases this
end
section
variable{X:Cx}{pos:Pos}
noncomputable def rX(c:TT)(tb:TS):TS:=fun D σ H=>∃W:Nat->St->Hp->Prop,(∃m,W m σ H)/\∀m σ H,W m σ H ->
 c σ H fun b H1=>if b=true then ∃N:St->Hp->Prop,(∀σ' H',N σ' H'->∃m',m'<m/\W m' σ' H')/\tb { D with nx:=N,ct:=N,bk:=D.nx } σ H1 else D.nx σ H1
theorem um{c:Expr}{body:List Stmt}{tc:TT}{tb:TS}(hp:PassesOwn (model X.prog X.w) X.A X.env X.xe)(hc:PT X c tc)(hb:PSs X body tb):PS X (.While c body [] pos) (rX tc tb):=.mk <| by
 intro pins s σ H D I h;obtain⟨W,⟨m0,w0⟩,turn⟩:=h;refine wpAny_While (codeAny_whileLoop (fun n s'=>∃σ' H',Inv X pins σ' H' s'/\W n σ' H') ?_ m0 ⟨σ,H,I,w0⟩);rintro n s1 ⟨σ1,H1,I1,w1⟩;refine wpAny_passesOwn hp (thn (hc pins s1 σ1 H1 _ I1 (turn n σ1 H1 w1)) fun b s2 ⟨H2,I2,q2⟩=>?_)
 cases b with
 |true=>
  obtain⟨N,hN,q2⟩:=q2;rw[if_pos rfl];refine wpAny_passesOwn hp (thn (hb pins s2 σ1 H2 _ I2 q2) fun f s3 q3=>?_)
  cases f with
  |next=>
   obtain⟨σ3,H3,I3,n3⟩:=q3;obtain⟨m',hm,w3⟩:=hN σ3 H3 n3;exact⟨m',hm,σ3,H3,I3,w3⟩
  |cont=>
   obtain⟨σ3,H3,I3,n3⟩:=q3;obtain⟨m',hm,w3⟩:=hN σ3 H3 n3;exact⟨m',hm,σ3,H3,I3,w3⟩
  |brk=>exact q3
  |ret v=>exact q3
 |false=>
  rw[if_neg Bool.false_ne_true];exact wpAny_execs_nil ⟨σ1,H2,I2,q2⟩
end
structure It where
 go:Nat->Hp->Prop
 yld:Nat->Hp->V->Hp->Prop
 stop:Nat->Hp->Prop
noncomputable def oh(X:Cx)(pins:List (Addr×Obj))(H:Hp)(b:Addr):Prop:=
 H b=none/\b≠X.env.locals/\b ∉ X.fs/\(b∈X.ex\/X.s₀.heap.objs.size<=b)/\(∀x c,X.env.cells.lookup x=some c->c≠b)/\∀p∈X.pn++pins,p.1≠b
theorem Inv.Bh{X:Cx}{pins:List (Addr×Obj)}{σ:St}{H H':Hp}{s:Shared}{b:Addr}(I:Inv X pins σ H s)(hb:s.heap.objs.size<=b)(hn:H' b=none):oh X pins H' b:=by
 refine⟨hn,Nat.ne_of_gt (Nat.lt_of_lt_of_le I.lt hb),I.nofs hb,.inr (Nat.le_trans I.sz hb),fun x c e z=>?_,fun p hp z=>?_⟩
 ·obtain⟨v,q⟩:=I.cell x c e
  exact absurd (Nat.lt_of_lt_of_le q.lt (by rw[z];exact hb)) (Nat.lt_irrefl _)
 ·exact absurd (Nat.lt_of_lt_of_le (Heap.lt_size (I.pin p hp).1) (by rw[z];exact hb)) (Nat.lt_irrefl _)
structure uW(P:Program)(w:World)(K:W.Frag)(tg:Expr)(J:It)(fp:List Addr)(it:Addr)(tn:Nat->Heap->Prop):Prop where
 mem:it∈fp
 obj:∀i h,tn i h->∀b∈fp,∃o,h.get? b=some o/\∀v,o.data≠.cell v
 keep:∀i h h',tn i h->(∀b∈fp,∀o,h.get? b=some o->h'.get? b=some o)->tn i h'
 item:∀(X:Cx),X.prog=P->X.w=w->X.K=K->X.calm=true->∀(i:Nat) (pins:List (Addr×Obj)) (s:Shared) (σ:St) (H:Hp) (E:Value->Shared->Prop),Inv X pins σ H s->(∀b∈fp,oh X pins H b)->tn i s.heap->J.go i H ->
  wpAny (model P w) X.A (pyNext (.ref it)) (fun r s1=>∃u,r=some u /\
   wpAny (model P w) X.A (letOwnedTupleGo tg (.ref it) u) (fun _ s2=>∃x H',Inv X pins σ H' s2/\aM x u/\J.yld i H x H'/\tn (i+1) s2.heap/\∀b∈fp,H' b=none) E s1) E s
 done:∀(X:Cx),X.prog=P->X.w=w->X.K=K->X.calm=true->∀(i:Nat) (pins:List (Addr×Obj)) (s:Shared) (σ:St) (H:Hp) (E:Value->Shared->Prop),Inv X pins σ H s->(∀b∈fp,oh X pins H b)->tn i s.heap->J.stop i H ->
  wpAny (model P w) X.A (pyNext (.ref it)) (fun r s1=>r=none/\Inv X pins σ H s1) E s
 self:∀(A:Around)(i:Nat)(s:Shared)(Q:Value->Shared->Prop)(E:Value->Shared->Prop),tn i s.heap->Q (.ref it) s->wpAny (model P w) A (pyIter (.ref it)) Q E s
noncomputable abbrev TI:=St->Hp->(It->Hp->Prop)->Prop
noncomputable def PIE(X:Cx)(pins:List (Addr×Obj))(σ:St)(tg:Expr)(R:It->Hp->Prop)(itv:Value)(s2:Shared):Prop:=
 ∃(it:Addr)(fp:List Addr)(tn:Nat->Heap->Prop)(J:It)(H':Hp),itv=.ref it/\Inv X pins σ H' s2/\uW X.prog X.w X.K tg J fp it tn/\tn 0 s2.heap/\(∀b∈fp,oh X pins H' b)/\R J H'
noncomputable def PI(X:Cx)(tg iter:Expr)(wi:TI):Prop:=
 ∀(pins:List (Addr×Obj)) (s:Shared) (σ:St) (H:Hp) (R:It->Hp->Prop),Inv X pins σ H s->wi σ H R ->
  wpAny (model X.prog X.w) X.A (eval iter X.env) (fun v s1=>wpAny (model X.prog X.w) X.A (pyIter v) (PIE X pins σ tg R) X.xe s1) X.xe s
theorem ub{M:Model}{A:Around}{E:Value->Shared->Prop}{s:Shared}{tg:Expr}{it:Addr}{u:Value}{o:Obj}{n:String}{vs:Array Value}{Q:Unit->Shared->Prop}(ho:s.heap.get? it=some o)(hc:o.cls=.type n)(hd:o.data=.fields vs)(hn:["enumerate","zip","dict_itemiterator","dict_reverseitemiterator","odict_iterator","itertools.zip_longest","itertools.pairwise"].contains n=false)(hQ:Q () s):wpAny M A (letOwnedTupleGo tg (.ref it) u) Q E s:=by
  unfold letOwnedTupleGo
  cases tg<;>first
    |exact wpAny_pure hQ
    | (cases u<;>first
        |exact wpAny_pure hQ
        | (refine wpAny_bind (wpAny_load ho ?_)
           rw[hc,hd];show wpAny M A (if (["enumerate","zip","dict_itemiterator","dict_reverseitemiterator","odict_iterator","itertools.zip_longest","itertools.pairwise"].contains n && vs[0]? == some (rawInt _))=true then _ else _) Q E s
           rw[if_neg (by intro h;rw[hn,Bool.false_and] at h;cases h)]
           exact wpAny_pure hQ))
noncomputable def Itl(K:W.Frag)(a:Addr):It:=
 ⟨fun i H=>∃xs x,SqL K H a xs/\xs[i]?=some x,fun i H x H'=>H'=H/\∀xs,SqL K H a xs->xs[i]?=some x,fun i H=>∃xs,SqL K H a xs/\xs.length<=i⟩
noncomputable def Itt(K:W.Frag)(a:Addr):It:=
 ⟨fun i H=>∃xs x,SqT K H a xs/\xs[i]?=some x,fun i H x H'=>H'=H/\∀xs,SqT K H a xs->xs[i]?=some x,fun i H=>∃xs,SqT K H a xs/\xs.length<=i⟩
noncomputable def Itr(lo:Int)(n:Nat):It:=⟨fun i _=>i<n,fun i H x H'=>H'=H/\x=.int (lo+i),fun i _=>n<=i⟩
theorem qQ{P:Program}{w:World}{K:W.Frag}{tg:Expr}(a it:Addr):uW P w K tg (Itl K a) [it] it (fun i h=>h.IsListIter it a i) where
 mem:=by simp
 obj:=fun i h st b hb=>by
  have e:b=it:=by simpa using hb
  subst e;obtain⟨o,e,c,d⟩:=st;exact⟨o,e,fun v z=>by rw[d] at z;cases z⟩
 keep:=fun i h h' st k=>st.at fun o e=>k it (by simp) o e
 item:=by
  intro X hP hw hK hc i pins s σ H E I hf st hg;subst hP hw hK;obtain⟨xs,x,hq,hx⟩:=hg;obtain⟨its,rv,p,hz⟩:=I.list hq;obtain⟨u,hu,ru⟩:=rv.get hx;obtain⟨f0,f1,f2,f3,f4,f5⟩:=hf it (by simp)
  refine wpAny_pyNext_list_item st p.isList (x:=u) (by simpa using hu) fun h' st' sb=>?_
  have I1:Inv X pins σ H { s with heap:=h' }:=I.turned (t':=s.toks) (fun b o hb e=>(sb.2 b hb).trans e) f0 f1 f3 f4 f5;obtain⟨o,e,c,d⟩:=id st';exact⟨u,rfl,ub (s:={ s with heap:=h' }) e c d (by decide) ⟨x,H,I1,ru,⟨rfl,fun ys hy=>by rw[I.Bg hy hq];exact hx⟩,st',fun b hb=>(hf b hb).1⟩⟩
 done:=by
  intro X hP hw hK hc i pins s σ H E I hf st hg;subst hP hw hK;obtain⟨xs,hq,hx⟩:=hg;obtain⟨its,rv,p,hz⟩:=I.list hq;obtain⟨f0,f1,f2,f3,f4,f5⟩:=hf it (by simp)
  have hl:=rv.length;exact wpAny_pyNext_list_end (I.ok.hd hc) st p.isList (by simp;omega) fun h' eb=>⟨rfl,I.turned (t':=s.toks) (fun b o hb e=>eb b o hb e) f0 f1 f3 f4 f5⟩
 self:=fun _ _ _ _ _ st h=>wpAny_pyIter_listiter st h
theorem og{P:Program}{w:World}{K:W.Frag}{tg:Expr}(a it:Addr):uW P w K tg (Itt K a) [it] it (fun i h=>h.IsTupleIter it a i) where
 mem:=by simp
 obj:=fun i h st b hb=>by
  have e:b=it:=by simpa using hb
  subst e;obtain⟨o,e,c,d⟩:=st;exact⟨o,e,fun v z=>by rw[d] at z;cases z⟩
 keep:=fun i h h' st k=>st.at fun o e=>k it (by simp) o e
 item:=by
  intro X hP hw hK hc i pins s σ H E I hf st hg;subst hP hw hK;obtain⟨xs,x,hq,hx⟩:=hg;obtain⟨its,rv,p,hz⟩:=I.tuple hq;obtain⟨u,hu,ru⟩:=rv.get hx;obtain⟨f0,f1,f2,f3,f4,f5⟩:=hf it (by simp)
  refine wpAny_pyNext_tuple_item st (show s.heap.IsTuple a its.toArray from p) (x:=u) (by simpa using hu) fun h' st' sb=>?_
  have I1:Inv X pins σ H { s with heap:=h' }:=I.turned (t':=s.toks) (fun b o hb e=>(sb.2 b hb).trans e) f0 f1 f3 f4 f5;obtain⟨o,e,c,d⟩:=id st';exact⟨u,rfl,ub (s:={ s with heap:=h' }) e c d (by decide) ⟨x,H,I1,ru,⟨rfl,fun ys hy=>by rw[I.Be hy hq];exact hx⟩,st',fun b hb=>(hf b hb).1⟩⟩
 done:=by
  intro X hP hw hK hc i pins s σ H E I hf st hg;subst hP hw hK;obtain⟨xs,hq,hx⟩:=hg;obtain⟨its,rv,p,hz⟩:=I.tuple hq;obtain⟨f0,f1,f2,f3,f4,f5⟩:=hf it (by simp)
  have hl:=rv.length;exact wpAny_pyNext_tuple_end (I.ok.hd hc) st (show s.heap.IsTuple a its.toArray from p) (by simp;omega) fun h' eb=>⟨rfl,I.turned (t':=s.toks) (fun b o hb e=>eb b o hb e) f0 f1 f3 f4 f5⟩
 self:=fun _ _ _ _ _ st h=>wpAny_pyIter_tupleiter st h
theorem n5{P:Program}{w:World}{K:PySem.W.Frag}{tg:Expr}(it:Addr)(lo:Int)(n:Nat):uW P w K tg (Itr lo n) [it] it (fun i h=>IsRangeIter h it (lo+(i:Nat)*1) ((n:Int)-(i:Nat)) 1) where
 mem:=by simp
 obj:=fun i h st b hb=>by
  have e:b=it:=by simpa using hb
  subst e
  exact⟨_,st,fun v z=>by
   have z':Data.fields _=Data.cell v:=z
   cases z'⟩
 keep:=fun i h h' st k=>k it (by simp) _ st
 item:=by
  intro X hP hw hK hc i pins s σ H E I hf st hg;subst hP hw hK;obtain⟨f0,f1,f2,f3,f4,f5⟩:=hf it (by simp)
  have W:=Walks.range (prog:=X.prog) (w:=X.w) (I.ok.hd hc) it lo 1 n;refine W.item i s _ _ hg st fun v h' tk hv st' kk=>?_;obtain⟨t,rfl⟩:=hv;have I1:Inv X pins σ H { s with heap:=h',toks:=tk }:=I.turned (fun b o hb e=>kk b o (by simpa using hb) e) f0 f1 f3 f4 f5
  refine⟨_,rfl,ub (s:={ s with heap:=h',toks:=tk }) (n:="range_iterator") st' rfl rfl (by decide) ⟨.int (lo+i),H,I1,⟨t,?_⟩,⟨rfl,rfl⟩,st',fun b hb=>(hf b hb).1⟩⟩
  rw[Int.mul_one]
 done:=by
  intro X hP hw hK hc i pins s σ H E I hf st hg;subst hP hw hK;obtain⟨f0,f1,f2,f3,f4,f5⟩:=hf it (by simp)
  exact wpAny_pyNext_range_end (I.ok.hd hc) st (by have:n<=i:=hg;omega) fun h' eb=>⟨rfl,I.turned (t':=s.toks) (fun b o hb e=>eb b o hb e) f0 f1 f3 f4 f5⟩
 self:=fun _ _ _ _ _ st h=>wpAny_pyIter_rangeiter st h
section
variable{X:Cx}{tg:Expr}
theorem tS{pins:List (Addr×Obj)}{σ:St}{H:Hp}{s:Shared}{R:It->Hp->Prop}{E:Value->Shared->Prop}{lo hi:Int}{t u v:Tok}{tk:Nat}(I:Inv X pins σ H s)(h1:-(2^62)<=lo)(h2:lo<2^62)(h3:-(2^62)<=hi)(h4:hi<2^62)(q:R (Itr lo (hi-lo).toNat) H):wpAny (model X.prog X.w) X.A (pyIter (.ref s.heap.objs.size)) (PIE X pins σ tg R) E { s with heap:=s.heap.push { cls:=.type "range",data:=.fields #[.int lo t,.int hi u,.int 1 v] },toks:=tk }:=by
 refine wpAny_pyIter_range (IsRange.new ..) (small_one h1 h2 h3 h4) ?_;have I1:Inv X pins σ H { s with heap:=s.heap.push { cls:=.type "range",data:=.fields #[.int lo t,.int hi u,.int 1 v] },toks:=tk }:=I.kept fun b o e=>Heap.get?_push_of_some _ e
 refine⟨(s.heap.push { cls:=.type "range",data:=.fields #[.int lo t,.int hi u,.int 1 v] }).objs.size,[(s.heap.push { cls:=.type "range",data:=.fields #[.int lo t,.int hi u,.int 1 v] }).objs.size],_,_,H,rfl,
  I1.kept (t':=tk) fun b o e=>Heap.get?_push_of_some _ e,n5 _ lo (hi-lo).toNat,?_,fun b hb=>?_,q⟩
 ·have e1:lo+((0:Nat):Int)*1=lo:=by simp
  have e2:(((hi-lo).toNat:Nat):Int)-((0:Nat):Int)=Builtin.Range.rangeSize lo hi 1:=by rw[rangeSize_one];split<;>omega
  show IsRangeIter _ _ (lo+((0:Nat):Int)*1) ((((hi-lo).toNat:Nat):Int)-((0:Nat):Int)) 1;rw[e1,e2];exact Heap.get?_push_size _ rfl
 ·have e:b=(s.heap.push { cls:=.type "range",data:=.fields #[.int lo t,.int hi u,.int 1 v] }).objs.size:=by simpa using hb
  subst e;exact I1.Bh (Nat.le_refl _) (I1.hok.fresh (Nat.le_refl _))
noncomputable def wO(ta:TA):TI:=fun σ H R=>ta σ H fun vs H1=>∃j:Int,vs=[.int j]/\-(2^62)<=j/\j<2^62/\R (Itr 0 j.toNat) H1
theorem g6{a:Expr}{ta:TA}{p pos:Pos}(hg:Gl X "range")(hm:X.mg "range"=none)(ha:PA X [a] ta)(hs:starEach [a] X.env=[(false,eval a X.env)]:=by rfl):PI X tg (.Call (.Name "range" p) [a] [] pos) (wO ta):=by
 intro pins s σ H R I h;refine Call_ (ln I hg hm boot_range (PyProof.Rows.callWith_type1 (thn (ha pos pins s σ H _ I h) fun us s1 ⟨vs,H1,I1,r1,q1⟩=>?_) hs rfl));obtain⟨j,e,q1,q2,q⟩:=q1;subst e
 cases r1 with
 |cons r rr=>
  cases rr;obtain⟨t,rfl⟩:=r;exact call_range_1 (tS I1 (by omega) (by omega) q1 q2 (by simpa using q))
noncomputable def xm(wi:TI)(g:TG)(tb:TS):TS:=fun D σ H=>wi σ H fun J H1=>∃W:Nat->Nat->St->Hp->Prop,(∃m,W 0 m σ H1)/\∀i m σ H,W i m σ H ->
 (J.stop i H/\D.nx σ H)\/(J.go i H/\∃N:St->Hp->Prop,(∀σ' H',N σ' H'->∃m',m'<m/\W (i+1) m' σ' H')/\∀x H',J.yld i H x H'->g x σ H' fun σ2 H2=>tb { D with nx:=N,ct:=N,bk:=D.nx } σ2 H2)
noncomputable def ll(fp:List Addr)(h:Heap):List (Addr×Obj):=fp.filterMap fun b=>(h.get? b).map fun o=>(b,o)
theorem i3{fp:List Addr}{h:Heap}{b:Addr}{o:Obj}(hb:b∈fp)(e:h.get? b=some o):(b,o)∈ll fp h:=List.mem_filterMap.mpr ⟨b,hb,by rw[e];rfl⟩
theorem qM{fp:List Addr}{h:Heap}{p:Addr×Obj}(hp:p∈ll fp h):p.1∈fp/\h.get? p.1=some p.2:=by
 obtain⟨b,hb,e⟩:=List.mem_filterMap.mp hp
 cases q:h.get? b with
 |none=>rw[q] at e;cases e
 |some o=>
  rw[q] at e;have e':(b,o)=p:=Option.some.inj e;subst e';exact⟨hb,q⟩
theorem Inv.pinned{pins:List (Addr×Obj)}{σ:St}{H:Hp}{s:Shared}{fp:List Addr}(I:Inv X pins σ H s)(hf:∀b∈fp,oh X pins H b)(ho:∀b∈fp,∃o,s.heap.get? b=some o/\∀v,o.data≠.cell v):Inv X (pins++ll fp s.heap) σ H s:=
 I.Bd fun p hp=>(List.mem_append.mp hp).elim (fun z=>I.pin p (List.mem_append_right _ z)) fun z=>by
  obtain⟨hb,e⟩:=qM z;obtain⟨f0,f1,f2,_⟩:=hf p.1 hb;obtain⟨o,e',d⟩:=ho p.1 hb;rw[e] at e';cases e';exact⟨e,f0,f1,f2,d⟩
theorem Inv.unpinned{pins pl:List (Addr×Obj)}{σ:St}{H:Hp}{s:Shared}(I:Inv X (pins++pl) σ H s):Inv X pins σ H s:=I.Bd fun p hp=>I.pin p (List.mem_append_right _ (List.mem_append_left _ hp))
theorem k6{iter:Expr}{body:List Stmt}{wi:TI}{g:TG}{tb:TS}{pos:Pos}(hp:PassesOwn (model X.prog X.w) X.A X.env X.xe)(hc:X.calm=true)(hi:PI X tg iter wi)(hg:PG X tg g)(hb:PSs X body tb)(hs:∀x,foldedSetIterable iter X.env x=pure x:=by intro _;rfl):PS X (.For tg iter body [] pos) (xm wi g tb):=.mk <| by
 intro pins s σ H D I h;refine wpAny_For (thn (hi pins s σ H _ I h) fun v s1 h1=>thn h1 fun itv s2 h2=>?_) hs;obtain⟨it,fp,tn,J,H2,e,I2,T,st2,f2,W,⟨m0,w0⟩,turn⟩:=h2;subst e;have stat:∀ {H':Hp},(∀b∈fp,H' b=none)->∀b∈fp,oh X pins H' b:=fun hn b hb=>⟨hn b hb,(f2 b hb).2⟩;refine codeAny_forLoop_any (fun n s'=>∃i σ' H',Inv X pins σ' H' s'/\tn i s'.heap/\(∀b∈fp,H' b=none)/\W i n σ' H') ?_ m0 ⟨0,σ,H2,I2,st2,fun b hb=>(f2 b hb).1,w0⟩
 rintro n s3 ⟨i,σ3,H3,I3,st3,fr3,w3⟩;rcases turn i n σ3 H3 w3 with⟨stop,qn⟩|⟨go,N,hN,step⟩
 ·refine wpAny_passesOwn hp (thn (T.done X rfl rfl rfl hc i pins s3 σ3 H3 X.xe I3 (stat fr3) st3 stop) fun r s4 ⟨hr,I4⟩=>?_)
  subst hr;exact wpAny_execs_nil ⟨σ3,H3,I4,qn⟩
 ·refine wpAny_passesOwn hp (thn (T.item X rfl rfl rfl hc i pins s3 σ3 H3 X.xe I3 (stat fr3) st3 go) fun r s4 ⟨u,hr,h4⟩=>?_)
  subst hr;refine wpAny_passesOwn hp (thn h4 fun _ s5 ⟨x,H5,I5,r5,y5,st5,fr5⟩=>?_);have I5':=I5.pinned (stat fr5) (T.obj _ _ st5);refine wpAny_passesOwn hp (thn (hg _ s5 σ3 H5 x u _ I5' r5 (step x H5 y5)) fun _ s6 ⟨σ6,H6,I6,q6⟩=>?_);refine wpAny_passesOwn hp (thn (hb _ s6 σ6 H6 _ I6 q6) fun f s7 q7=>?_)
  have again:∀ {σ7:St} {H7:Hp},Inv X (pins++ll fp s5.heap) σ7 H7 s7->N σ7 H7->∃m,m<n/\∃i σ' H',Inv X pins σ' H' s7/\tn i s7.heap/\(∀b∈fp,H' b=none)/\W i m σ' H':=fun {σ7 H7} I7 n7=>by
   obtain⟨m',hm,w7⟩:=hN σ7 H7 n7;refine⟨m',hm,i+1,σ7,H7,I7.unpinned,T.keep _ _ _ st5 fun b hb o e=>(I7.pin (b,o) (List.mem_append_right _ (List.mem_append_right _ (i3 hb e)))).1,fun b hb=>?_,w7⟩;obtain⟨o,e,d⟩:=T.obj _ _ st5 b hb;exact(I7.pin (b,o) (List.mem_append_right _ (List.mem_append_right _ (i3 hb e)))).2.1
  cases f with
  |next=>obtain⟨σ7,H7,I7,n7⟩:=q7;exact again I7 n7
  |cont=>obtain⟨σ7,H7,I7,n7⟩:=q7;exact again I7 n7
  |brk=>obtain⟨σ7,H7,I7,q7⟩:=q7;exact⟨σ7,H7,I7.unpinned,q7⟩
  |ret v=>obtain⟨x7,σ7,H7,I7,r7,q7⟩:=q7;exact⟨x7,σ7,H7,I7.unpinned,r7,q7⟩
end
noncomputable abbrev R2:=V->V->Hp->VK->Prop
noncomputable def OpR(X:Cx)(f:Value->Value->Sem Value)(r:R2):Prop:=
 ∀(pins:List (Addr×Obj)) (s:Shared) (σ:St) (H:Hp) (x y:V) (v u:Value) (Q:VK),Inv X pins σ H s->aM x v->aM y u->r x y H Q ->
  wpAny (model X.prog X.w) X.A (f v u) (EP X pins σ Q) X.xe s
noncomputable def dN(X:Cx)(f:Value)(r:List V->Hp->VK->Prop):Prop:=
 ∀(pins:List (Addr×Obj)) (s:Shared) (σ:St) (H:Hp) (xs:List V) (us:List Value) (Q:VK),Inv X pins σ H s->au xs us->r xs H Q ->
  wpAny (model X.prog X.w) X.A (call f us) (EP X pins σ Q) X.xe s
noncomputable def Al(X:Cx)(r:V->Hp->(Bool->Hp->Prop)->Prop):Prop:=
 ∀(pins:List (Addr×Obj)) (s:Shared) (σ:St) (H:Hp) (x:V) (v:Value) (Q:Bool->Hp->Prop),Inv X pins σ H s->aM x v->r x H Q ->
  wpAny (model X.prog X.w) X.A (truthy v) (TP X pins σ Q) X.xe s
noncomputable def tOp(r:R2)(ta tb:TE):TE:=fun σ H Q=>ta σ H fun x H1=>tb σ H1 fun y H2=>r x y H2 Q
noncomputable def rI(C:Int->Int->Prop)(g:Int->Int->V):R2:=fun x y H Q=>∃i j,x=.int i/\y=.int j/\C i j/\Q (g i j) H
noncomputable def rI0(g:Int->Int->V):R2:=fun x y H Q=>∃i j,x=.int i/\y=.int j/\Q (g i j) H
section
variable{X:Cx}{a b c:Expr}{ta tb tc:TE}{pos:Pos}
theorem xh(ha:PE X a ta)(hb:PE X b tb){pins:List (Addr×Obj)}{s:Shared}{σ:St}{H:Hp}{R:V->V->Hp->Prop}(I:Inv X pins σ H s)(h:ta σ H fun x H1=>tb σ H1 fun y H2=>R x y H2){Q:Value->Shared->Prop}{f:Value->Value->Sem Value}(hf:∀v u s2 x y H2,Inv X pins σ H2 s2->aM x v->aM y u->R x y H2->wpAny (model X.prog X.w) X.A (f v u) Q X.xe s2):
  wpAny (model X.prog X.w) X.A (eval a X.env) (fun v s₁=>wpAny (model X.prog X.w) X.A (eval b X.env) (fun u s₂=>wpAny (model X.prog X.w) X.A (f v u) Q X.xe s₂) X.xe s₁) X.xe s:=by
 refine thn (ha pins s σ H _ I h) fun v s1 ⟨x,H1,I1,r1,q1⟩=>?_;refine thn (hb pins s1 σ H1 _ I1 q1) fun u s2 ⟨y,H2,I2,r2,q2⟩=>?_;exact hf v u s2 x y H2 I2 r1 r2 q2
theorem az{op:Operator}{r:R2}(ho:OpR X (binaryOp op) r)(ha:PE X a ta)(hb:PE X b tb):PE X (.BinOp a op b pos) (tOp r ta tb):=.mk <| by
 intro pins s σ H Q I h;exact wpAny_BinOp (xh ha hb I h fun v u s2 x y H2 I2 rx ry q=>ho pins s2 σ H2 x y v u Q I2 rx ry q)
theorem opI{f:Value->Value->Sem Value}{C:Int->Int->Prop}{g:Int->Int->Int}(rule:∀(i j:Int)(t u:Tok)(s:Shared)(Q:Value->Shared->Prop)(E:Value->Shared->Prop),C i j->Q (.int (g i j) s.toks) { s with toks:=s.toks+1 }->wpAny (model X.prog X.w) X.A (f (.int i t) (.int j u)) Q E s):
  OpR X f (rI C fun i j=>.int (g i j)):=by
 intro pins s σ H x y v u Q I rx ry h;obtain⟨i,j,rfl,rfl,hc,q⟩:=h;obtain⟨t,rfl⟩:=rx;obtain⟨t',rfl⟩:=ry;exact rule i j t t' s _ _ hc ⟨.int (g i j),H,I.tok _,⟨_,rfl⟩,q⟩
theorem yc{f:Value->Value->Sem Value}{g:Int->Int->Int}(rule:∀(i j:Int)(t u:Tok)(s:Shared)(Q:Value->Shared->Prop)(E:Value->Shared->Prop),Q (.int (g i j) s.toks) { s with toks:=s.toks+1 }->wpAny (model X.prog X.w) X.A (f (.int i t) (.int j u)) Q E s):
  OpR X f (rI0 fun i j=>.int (g i j)):=by
 intro pins s σ H x y v u Q I rx ry h;obtain⟨i,j,rfl,rfl,q⟩:=h;obtain⟨t,rfl⟩:=rx;obtain⟨t',rfl⟩:=ry;exact rule i j t t' s _ _ ⟨.int (g i j),H,I.tok _,⟨_,rfl⟩,q⟩
theorem xE{f:Value->Value->Sem Value}{g:Int->Int->Bool}(rule:∀(i j:Int)(t u:Tok)(s:Shared)(Q:Value->Shared->Prop)(E:Value->Shared->Prop),Q (.bool (g i j)) s->wpAny (model X.prog X.w) X.A (f (.int i t) (.int j u)) Q E s):
  OpR X f (rI0 fun i j=>.bl (g i j)):=by
 intro pins s σ H x y v u Q I rx ry h;obtain⟨i,j,rfl,rfl,q⟩:=h;obtain⟨t,rfl⟩:=rx;obtain⟨t',rfl⟩:=ry;exact rule i j t t' s _ _ ⟨.bl (g i j),H,I,rfl,q⟩
noncomputable def Ar(i j:Int):Prop:=0<j/\j<1073741824
noncomputable def Av(i j:Int):Prop:=0<=j/\j<=1000000/\i.natAbs<2^64
noncomputable def jZ(i j:Int):Prop:=(-(2^64)<i/\i<2^64)\/(-(2^64)<j/\j<2^64)
theorem jZ.ok{i j:Int}(h:jZ i j):IntMulOk i j:=by
 rcases h with⟨h1,h2⟩|⟨h1,h2⟩
 ·exact .of_left (intBits_le_64 h1 h2)
 ·exact .of_right (intBits_le_64 h1 h2)
theorem cF:OpR X (binaryOp .Add) (rI0 fun i j=>.int (i+j)):=yc fun _ _ _ _ _ _ _ q=>add_int q
theorem n8:OpR X (binaryOp .Sub) (rI0 fun i j=>.int (i-j)):=yc fun _ _ _ _ _ _ _ q=>sub_int q
theorem f8:OpR X (binaryOp .Mult) (rI jZ fun i j=>.int (i*j)):=opI fun _ _ _ _ _ _ _ hc q=>mul_int q hc.ok
theorem lh:OpR X (binaryOp .FloorDiv) (rI Ar fun i j=>.int (i / j)):=opI fun i j _ _ _ _ _ hc q=>by
 have h1:(0:Int)<j:=hc.1;have h2:j<1073741824:=hc.2;exact floordiv_int (by omega) (by rw[Int.fdiv_eq_ediv_of_nonneg i (by omega)];exact q) (.inl (PyProof.noPylong_small (by omega)))
theorem ez:OpR X (binaryOp .Mod) (rI (fun _ j=>0<j) fun i j=>.int (i%j)):=opI fun i j _ _ _ _ _ hc q=>by
 have h1:(0:Int)<j:=hc;exact mod_int' (by omega) (by rw[Int.fmod_eq_emod_of_nonneg i (by omega)];exact q)
theorem xZ:OpR X (binaryOp .Pow) (rI Av fun i j=>.int (i^j.toNat)):=opI fun _ _ _ _ _ _ _ hc q=>pow_int_small hc.1 hc.2.1 hc.2.2 q
theorem o9:OpR X (inplaceOp .Add) (rI0 fun i j=>.int (i+j)):=yc fun _ _ _ _ _ _ _ q=>iadd_int q
end
section
variable{X:Cx}{a b c:Expr}{ta tb tc:TE}{pos:Pos}
theorem xq{pins:List (Addr×Obj)}{σ:St}{H:Hp}{s:Shared}{Q:VK}{k k':Bool}(I:Inv X pins σ H s)(q:Q (.bl k) H)(e:k=k'):EP X pins σ Q (.bool k') s:=by
 subst e;exact⟨.bl k,H,I,rfl,q⟩
theorem vV:OpR X (compareOp .Lt) (rI0 fun i j=>.bl (decide (i<j))):=xE fun _ _ _ _ _ _ _ q=>lt_int q
theorem sH:OpR X (compareOp .Gt) (rI0 fun i j=>.bl (decide (j<i))):=xE fun _ _ _ _ _ _ _ q=>gt_int q
theorem yz:OpR X (compareOp .GtE) (rI0 fun i j=>.bl (decide (j<=i))):=xE fun _ _ _ _ _ _ _ q=>ge_int q
theorem rh:OpR X (compareOp .Is) (fun x y H Q=>y=.non/\Q (.bl (decide (x=.non))) H):=by
 intro pins s σ H x y v u Q I rx ry h;obtain⟨rfl,q⟩:=h;cases ry;refine is_none_gen (xq I q ?_)
 cases x<;>first
  |(cases rx;rfl)
  |(obtain⟨t,rfl⟩:=rx;rfl)
theorem aF(b:Expr){op:CmpOp}(h:op≠.In:=by decide)(h2:op≠.NotIn:=by decide):behindInMarks op b=false:=by
 have e1:(op == CmpOp.In)=false:=by cases op<;>first|rfl|exact absurd rfl h
 have e2:(op == CmpOp.NotIn)=false:=by cases op<;>first|rfl|exact absurd rfl h2
 cases b<;>simp[behindInMarks,e1,e2]
theorem iF{op:CmpOp}{r:R2}(ho:OpR X (compareOp op) r)(ha:PE X a ta)(hb:PE X b tb)(hm:behindInMarks op b=false):PE X (.Compare a [op] [b] pos) (tOp r ta tb):=.mk <| by
 intro pins s σ H Q I h;exact wpAny_Compare1 (xh ha hb I h fun v u s2 x y H2 I2 rx ry q=>ho pins s2 σ H2 x y v u Q I2 rx ry q) hm
noncomputable def wX(t:TE):TT:=fun σ H Q=>t σ H fun x H'=>∃k,x=.bl k/\Q k H'
theorem av{op:CmpOp}{r:R2}(ho:OpR X (compareOp op) r)(ha:PE X a ta)(hb:PE X b tb)(hm:behindInMarks op b=false):PT X (.Compare a [op] [b] pos) (wX (tOp r ta tb)):=by
 intro pins s σ H Q I h
 refine wpAny_isTrue_Compare1 (thn (ha pins s σ H _ I h) fun v s1 ⟨x,H1,I1,r1,q1⟩=>thn (hb pins s1 σ H1 _ I1 q1) fun u s2 ⟨y,H2,I2,r2,q2⟩=>
  thn (ho pins s2 σ H2 x y v u _ I2 r1 r2 q2) fun c s3 ⟨z,H3,I3,r3,k,e,q3⟩=>?_) hm
 subst e;cases r3;exact wpAny_truthy_bool ⟨H3,I3,q3⟩
noncomputable def nz(K:W.Frag)(x:V)(H:Hp)(k:Bool):Prop:=
 match x with
 |.non=>k=false
 |.bl b=>k=b
 |.int i=>k=(i != 0)
 |.str y=>y.length<=sizeLine/\k=((y.length:Int) != 0)
 |.byt y=>y.size<=sizeLine/\k=((y.size:Int) != 0)
 |.ref p=>(∃xs,SqL K H p xs/\k=!xs.isEmpty)\/(∃xs,SqT K H p xs/\k=!xs.isEmpty)\/∃kvs,H p=some (.dK kvs)/\k=!kvs.isEmpty
 |_=>False
theorem nZ{κ:Type}{kvs:List (κ×V)}{vs:List (κ×Value)}(r:KV kvs vs):(!vs.isEmpty)=!kvs.isEmpty:=by
 cases r<;>rfl
theorem jh{xs:List V}{its:List Value}(r:au xs its):(!its.toArray.isEmpty)=!xs.isEmpty:=by
 cases r<;>simp
theorem hG:(sizeLine:Nat)<2^63:=by rw[sizeLine_eq];decide
theorem tG:Al X (fun x H Q=>∃k,nz X.K x H k/\Q k H):=by
 intro pins s σ H x v Q I rx h;obtain⟨k,e,q⟩:=h;have hl:=hG;have hs:sizeLine=16777216:=sizeLine_eq
 cases x with
 |non=>
  cases rx;have e':k=false:=e;subst e';exact truthy_none ⟨H,I,q⟩
 |bl b=>
  cases rx;have e':k=b:=e;subst e';exact wpAny_truthy_bool ⟨H,I,q⟩
 |int i=>
  obtain⟨t,rfl⟩:=rx;have e':k=(i != 0):=e;subst e';exact PySem.P.truthy_int ⟨H,I,q⟩
 |str y=>
  obtain⟨t,rfl⟩:=rx;obtain⟨hy,e'⟩:y.length<=sizeLine/\k=((y.length:Int) != 0):=e;subst e';exact PySem.P.truthy_str (by omega) ⟨H,I.tok _,q⟩
 |byt y=>
  obtain⟨t,rfl⟩:=rx;obtain⟨hy,e'⟩:y.size<=sizeLine/\k=((y.size:Int) != 0):=e;subst e';exact W.truthy_bytes (by omega) ⟨H,I.tok _,q⟩
 |ref p=>
  cases rx;have e':(∃xs,SqL X.K H p xs/\k=!xs.isEmpty)\/(∃xs,SqT X.K H p xs/\k=!xs.isEmpty)\/∃kvs,H p=some (.dK kvs)/\k=!kvs.isEmpty:=e;rcases e' with⟨xs,hx,e'⟩|⟨xs,hx,e'⟩|⟨kvs,hx,e'⟩
  ·subst e'
   obtain⟨its,r,pl,hz⟩:=I.list hx;have hlen:=r.length;exact wpAny_truthy_list pl.isList (by simp only[List.size_toArray];omega) ⟨H,I.tok _,by rw[jh r];exact q⟩
  ·subst e'
   obtain⟨its,r,pl,hz⟩:=I.tuple hx;have hlen:=r.length;exact truthy_tuple pl (by simp only[List.size_toArray];omega) ⟨H,I.tok _,by rw[jh r];exact q⟩
  ·subst e'
   obtain⟨hz,hS,vs,r,m⟩:kvs.length<=sizeLine/\(p == sysModules)=false/\∃vs,KV kvs vs/\s.heap.DictOf (aS X.prog X.w) p vs:=I.hok p _ hx;have hlen:kvs.length=vs.length:=Paired.length r;exact wpAny_truthy_dict hS m (by omega) ⟨H,I.tok _,by rw[nZ r];exact q⟩
 |_=>exact(show False from e).elim
theorem ud(ha:PE X a ta)(he:∀whole,isTrue a X.env whole=(do let v ← whole;standAt a.pos;holding [v] (truthy v))):
  PT X a (fun σ H Q=>ta σ H fun x H'=>∃k,nz X.K x H' k/\Q k H'):=by
 intro pins s σ H Q I h;exact isTrue_plain (thn (ha pins s σ H _ I h) fun v s1 ⟨x,H1,I1,r1,q1⟩=>tG pins s1 σ H1 x v Q I1 r1 q1) (he _)
theorem aQ:OpR X (binaryOp .Add) (fun x y H Q=>∃i j,x=.str i/\y=.str j/\i.length+j.length<=sizeLine/\Q (.str (i++j)) H):=by
 intro pins s σ H x y v u Q I rx ry h;obtain⟨i,j,rfl,rfl,hz,q⟩:=h;obtain⟨t,rfl⟩:=rx;obtain⟨t',rfl⟩:=ry;exact add_str (fun t' tk=>⟨.str (i++j),H,I.tok _,⟨_,rfl⟩,q⟩) hz
theorem gK{x:V}{us:List Value}(r:au [x] us):∃u,us=[u]/\aM x u:=by
 cases r with
 |cons r1 r2=>cases r2;exact⟨_,rfl,r1⟩
theorem zh{x y:V}{us:List Value}(r:au [x,y] us):∃u w',us=[u,w']/\aM x u/\aM y w':=by
 cases r with
 |cons r1 r2=>
  cases r2 with
  |cons r3 r4=>cases r4;exact⟨_,_,rfl,r1,r3⟩
theorem jv:dN X (.builtin "abs") (fun xs H Q=>∃i,xs=[.int i]/\Q (.int (if i<0 then -i else i)) H):=by
 intro pins s σ H xs us Q I r h;obtain⟨i,rfl,q⟩:=h;obtain⟨u,rfl,t,rfl⟩:=gK r;exact call_abs_int fun u tk=>⟨.int (if i<0 then -i else i),H,I.tok _,⟨_,rfl⟩,q⟩
theorem kn:dN X (.type "int") (fun xs H Q=>(∃i,xs=[.int i]/\Q (.int i) H)\/∃k,xs=[.bl k]/\Q (.int (if k then 1 else 0)) H):=by
 intro pins s σ H xs us Q I r h;rcases h with⟨i,rfl,q⟩|⟨k,rfl,q⟩
 ·obtain⟨u,rfl,t,rfl⟩:=gK r
  exact call_int_int ⟨.int i,H,I,⟨_,rfl⟩,q⟩
 ·obtain⟨u,rfl,r1⟩:=gK r
  cases r1;exact call_int_bool ⟨.int (if k then 1 else 0),H,I.tok _,⟨_,rfl⟩,q⟩
theorem k8:dN X (.type "str") (fun xs H Q=>∃i,xs=[.int i]/\i.natAbs.log2<1920/\Q (.str (toString i)) H):=by
 intro pins s σ H xs us Q I r h;obtain⟨i,rfl,hz,q⟩:=h;obtain⟨u,rfl,t,rfl⟩:=gK r;exact PySem.P.str_of_int hz ⟨.str _,H,I.tok _,⟨_,rfl⟩,q⟩
noncomputable def uY(K:W.Frag)(x:V)(H:Hp)(n:Nat):Prop:=
 match x with
 |.str y=>y.length<=sizeLine/\n=y.length
 |.byt y=>y.size<=sizeLine/\n=y.size
 |.ref p=>(∃xs,SqL K H p xs/\n=xs.length)\/∃xs,SqT K H p xs/\n=xs.length
 |_=>False
theorem tQ:dN X (.builtin "len") (fun xs H Q=>∃x n,xs=[x]/\uY X.K x H n/\Q (.int n) H):=by
 intro pins s σ H xs us Q I r h;obtain⟨x,n,rfl,e,q⟩:=h;obtain⟨u,rfl,rx⟩:=gK r;have hl:=hG;have hs:sizeLine=16777216:=sizeLine_eq
 cases x with
 |str y=>
  obtain⟨t,rfl⟩:=rx;obtain⟨hy,e'⟩:y.length<=sizeLine/\n=y.length:=e;subst e';exact len_str (by omega) ⟨.int _,H,I.tok _,⟨_,rfl⟩,q⟩
 |byt y=>
  obtain⟨t,rfl⟩:=rx;obtain⟨hy,e'⟩:y.size<=sizeLine/\n=y.size:=e;subst e';exact W.len_bytes (by omega) ⟨.int _,H,I.tok _,⟨_,rfl⟩,q⟩
 |ref p=>
  cases rx;have e':(∃xs,SqL X.K H p xs/\n=xs.length)\/∃xs,SqT X.K H p xs/\n=xs.length:=e;rcases e' with⟨xs,hx,e'⟩|⟨xs,hx,e'⟩
  ·subst e'
   obtain⟨its,r',pl,hz⟩:=I.list hx;have hlen:=r'.length;exact Calls.call_len_list pl.isList (by simp only[List.size_toArray];omega) ⟨.int xs.length,H,I.tok _,⟨_,by simp only[List.size_toArray];rw[hlen]⟩,q⟩
  ·subst e'
   obtain⟨its,r',pl,hz⟩:=I.tuple hx;have hlen:=r'.length;exact len_tuple pl (by simp only[List.size_toArray];omega) ⟨.int xs.length,H,I.tok _,⟨_,by simp only[List.size_toArray];rw[hlen]⟩,q⟩
 |_=>exact(show False from e).elim
end
structure yg(h:Heap)(x dx C:Addr)(mA:Str->Option Value):Prop where
 obj:h.get? x=some (W.instObj C dx)
 ns:h.Ns1 dx mA
 ne:dx≠x
theorem j6{h:Heap}{dx:Addr}{mA:Str->Option Value}(n:h.Ns1 dx mA):∃od,h.get? dx=some od/\∀name,W.lookIn name od=some (mA name):=by
 obtain⟨o,es,ep,ho,hd,hk,_,hm⟩:=n;refine⟨o,ho,fun name=>?_⟩;have e:=hm name;unfold nsFind findBy at e;rw[←Array.find?_toList] at e
 unfold W.lookIn;rw[hd];dsimp only;split
 ·rename_i y q
  rw[q] at e;exact congrArg some e
 ·rename_i q
  rw[q] at e
  have a:es.toList.any (·.refKey)=false:=by
   rw[List.any_eq_false];intro y hy;obtain⟨z,t,hkey⟩:=hk y (Array.mem_toList_iff.mp hy);simp[DictEntry.refKey,hkey]
  have a':¬ es.toList.any (·.refKey)=true:=by rw[a];exact Bool.false_ne_true
  rw[if_neg a'];exact congrArg some e
theorem yg.look{h:Heap}{x dx C:Addr}{mA:Str->Option Value}(I:yg h x dx C mA):∃od,W.InstAt h x (W.instObj C dx) C (some od)/\∀name,W.lookIn name od=some (mA name):=
 let ⟨od,ho,hl⟩:=j6 I.ns
 ⟨od,⟨I.obj,rfl,rfl,ho⟩,hl⟩
section
variable{P:Program}{w:World}{H H':Hp}{h h':Heap}{a C dx:Addr}{fs fs':List (Str×V)}
theorem uV(hok:HOk P w H h)(e:H a=some (.ins C dx fs)):∃mA,yg h a dx C mA/\(∀f,uy (fs.lookup f) (mA f))/\PySem.Within mA (fs.map (·.1))/\fs.length<=1000/\H dx=some (.own a):=by
 obtain⟨d,z,ne,ob,mA,n,r,q⟩:=(show bQ P w H h a (.ins C dx fs) from hok a _ e)
 exact⟨mA,⟨ob,n,ne⟩,r,q,z,d⟩
end
structure Cls(K:W.Frag)(C:Addr):Prop where
 pg:W.plainGet K C Str.empty=true
 hd:W.hasDictIn K C=true
 po:W.plainOver K C=true
 sa:W.findIn K (.ref C) "__setattr__"=some (some (.builtin "object.__setattr__"))
theorem Cls.get{K:W.Frag}{C:Addr}(c:Cls K C)(f:Str):W.plainGet K C f=true:=c.pg
structure Con(K:W.Frag)(C:Addr)(f:Str)(v:V)(u:Value):Prop where
 at_:W.findIn K (.ref C) f=some (some u)
 rel:aM v u
 get:W.specialIn K u "__get__"=some none
 cp:W.copiedNames.contains f=false
structure AR(K:W.Frag)(C:Addr)(m:Str)(f:Addr):Prop where
 at_:W.findIn K (.ref C) m=some (some (.ref f))
 fn:W.isFn K (.ref f)=true
 kp:W.keepIn K (.ref f)=true
section
variable{X:Cx}{pins:List (Addr×Obj)}{σ:St}{H:Hp}{s:Shared}{a C dx:Addr}{fs:List (Str×V)}{f:Str}{v:V}{A:Around}{E:Value->Shared->Prop}
theorem vx{prog:Program}{w:World}{env:Env}{e:Expr}{f:Str}{pos:Pos}{s:Shared}{Q:Value->Shared->Prop}(hb:attributeBase e f env (eval e env)=eval e env)(h:wpAny (model prog w) A (eval e env) (fun o s₁=>wpAny (model prog w) A (getAttr o f true) Q E s₁) E s):wpAny (model prog w) A (eval (.Attribute e f pos) env) Q E s:=
 Attribute_any_ h (by rw[arm_eval_Attribute,hb])
end
section
variable{X:Cx}{pins:List (Addr×Obj)}{σ:St}{H:Hp}{s:Shared}{A:Around}{E:Value->Shared->Prop}{Q:Value->Shared->Prop}{c:Value}{b:Bool}
inductive gY (K:PySem.W.Frag) (H:Hp):V->Value->Prop where
 |non:gY K H .non (.type "NoneType")
 |bl (x:Bool):gY K H (.bl x) (.type "bool")
 |int (i:Int):gY K H (.int i) (.type "int")
 |str (x:Str):gY K H (.str x) (.type "str")
 |flt (x:UInt64):gY K H (.flt x) (.type "float")
 |lst {a:Addr} {xs:List V} (e:H a=some (.lst xs)):gY K H (.ref a) (.type "list")
 |frz {a:Addr} {o:Obj} {xs:List V} (e:H a=some (.frz o (.lst xs))):gY K H (.ref a) (.type "list")
 |tup {a:Addr} {xs:List V} (e:H a=some (.tup xs)):gY K H (.ref a) (.type "tuple")
 |dK {a:Addr} {kvs:List (Key×V)} (e:H a=some (.dK kvs)):gY K H (.ref a) (.type "dict")
 |dT {a:Addr} {kvs:List (List Key×V)} (e:H a=some (.dT kvs)):gY K H (.ref a) (.type "dict")
 |ins {a C dx:Addr} {fs:List (Str×V)} (e:H a=some (.ins C dx fs)) (cl:Cls K C) (ha:PySem.W.findIn K (.ref C) "__class__"=some (some (.builtin "object.__class__")))
   (hn:PySem.W.specialIn K (.builtin "object.__class__") "__get__"=some (some (.builtin "getset_descriptor.__get__"))) (htk:PySem.W.takesIn K (.builtin "object.__class__")=some true)
   (hm:PySem.W.mroIn K C (.type "object")=some true):gY K H (.ref a) (.ref C)
theorem qp{x:V}{u t:Value}(I:Inv X pins σ H s)(rx:aM x u)(ty:gY X.K H x t)(e:W.kitOne X.K t c=some b)(h:∀tk,Q (.bool b) { s with toks:=tk }):
  wpAny (model X.prog X.w) A (call (.builtin "isinstance") [u,c]) Q E s:=by
 cases ty with
 |non=>cases (show u=Value.none from rx);exact W.kia_one W.kitx_none I.kIn True.intro e (fun z=>nomatch z) h
 |bl y=>cases (show u=Value.bool y from rx);exact W.kia_one W.kitx_bool I.kIn True.intro e (fun z=>nomatch z) h
 |int i=>obtain⟨t,q⟩:=(show ∃t,u=Value.int i t from rx);cases q;exact W.kia_one W.kitx_int I.kIn True.intro e (fun z=>nomatch z) h
 |str y=>obtain⟨t,q⟩:=(show ∃t,u=Value.str y t from rx);cases q;exact W.kia_one W.kitx_str I.kIn True.intro e (fun z=>nomatch z) h
 |flt y=>obtain⟨t,q⟩:=(show ∃t,u=Value.float y t from rx);cases q;exact W.kia_one W.kitx_float I.kIn True.intro e (fun z=>nomatch z) h
 | @lst a xs ea=>
  cases (show u=Value.ref a from rx)
  obtain⟨_,_,n,_,h1⟩:=(show bQ X.prog X.w H s.heap a (.lst xs) from I.hok a _ ea)
  exact W.kia_one W.kitx_list I.kIn ⟨_,h1,rfl⟩ e (fun z=>nomatch z) h
 | @frz a ob xs ea=>
  cases (show u=Value.ref a from rx)
  obtain⟨_,_,_,n,_,h1⟩:=(show bQ X.prog X.w H s.heap a (.frz ob (.lst xs)) from I.hok a _ ea)
  exact W.kia_one W.kitx_list I.kIn ⟨_,h1,rfl⟩ e (fun z=>nomatch z) h
 | @tup a xs ea=>
  cases (show u=Value.ref a from rx)
  obtain⟨_,_,_,p⟩:=(show bQ X.prog X.w H s.heap a (.tup xs) from I.hok a _ ea)
  obtain⟨o,h1,h2,_⟩:=p.1;exact W.kia_one W.kitx_tuple I.kIn ⟨o,h1,h2⟩ e (fun z=>nomatch z) h
 | @dK a kvs ea=>
  cases (show u=Value.ref a from rx)
  obtain⟨_,_,vs,_,p⟩:=(show bQ X.prog X.w H s.heap a (.dK kvs) from I.hok a _ ea)
  obtain⟨o,es,ep,h1,h2,_⟩:=p;exact W.kia_one W.kitx_dict I.kIn ⟨o,h1,h2.1⟩ e (fun z=>nomatch z) h
 | @dT a kvs ea=>
  cases (show u=Value.ref a from rx)
  obtain⟨_,_,xs,_,o,es,ep,h1,h2,_⟩:=(show bQ X.prog X.w H s.heap a (.dT kvs) from I.hok a _ ea)
  exact W.kia_one W.kitx_dict I.kIn ⟨o,h1,h2.1⟩ e (fun z=>nomatch z) h
 | @ins a C dx fs ea cl ha hn htk hm=>
  cases (show u=Value.ref a from rx)
  obtain⟨mA,O,_⟩:=uV I.hok ea;obtain⟨od,J,_⟩:=O.look;exact W.kia_one (W.kitx_own (cl.get _) cl.hd ha hn htk hm) I.kIn J e (fun z=>nomatch z) h
end
structure ci(k:Nat)(A:Around):Prop where
 hd:A.handled=none
 dp:A.depth+3*k+5<recursionLimit
 un:A.units+16*k+200<cLine
 gd:A.guards=some []
theorem ci.mono{j k:Nat}{A:Around}(r:ci k A)(h:j<=k):ci j A:=⟨r.hd,by have:=r.dp;omega,by have:=r.un;omega,r.gd⟩
theorem ci.deeper{k:Nat}{A:Around}(r:ci (k+1) A)(env:Env):ci k (A.deeper env):=
 ⟨r.hd,by have:=r.dp;show A.depth+1+3*k+5<_;omega,by have:=r.un;show A.units+3+16*k+200<_;omega,r.gd⟩
theorem jP{A:Around}{C:Addr}{us:List Value}{kw:List (Str×Value)}:(A.under (.builtin "type.__call__" ⟨.ref C::us,kw⟩)).depth=A.depth+1:=by
 first|rfl|simp[Around.under,Code.weight,Code.isCreation,Code.isGuard,Code.isCaller,Code.frames,Code.isFrame,guardIds]
theorem ci.depth{k:Nat}{A:Around}(r:ci k A):A.depth<recursionLimit:=by have:=r.dp;omega
noncomputable def uN:TA:=fun _ H Q=>Q [] H
noncomputable def gj(ta:TE)(tr:TA):TA:=fun σ H Q=>ta σ H fun x H1=>tr σ H1 fun xs H2=>Q (x::xs) H2
section
variable{X:Cx}{e:Expr}{es:List Expr}{te:TE}{t:TA}{pos:Pos}
theorem af:PA X [] uN:=.mk <| fun _ _ _ _ H Q I h=>Calls.spliced_nil ⟨[],H,I,.nil,h⟩
theorem ac(ha:PE X e te)(hr:PA X es t)(hs:starEach (e::es) X.env=(false,eval e X.env)::starEach es X.env:=by rfl):PA X (e::es) (gj te t):=.mk <| by
 intro pos pins s σ H Q I h;rw[hs];show wpAny _ _ (spliced ((false,eval e X.env)::backTo pos (starEach es X.env))) _ _ s;refine Calls.spliced_cons (thn (ha pins s σ H _ I h) fun u s1 ⟨x,H1,I1,r1,q1⟩=>?_);exact thn (hr pos pins s1 σ H1 _ I1 q1) fun us s2 ⟨xs,H2,I2,r2,q2⟩=>⟨x::xs,H2,I2,.cons r1 r2,q2⟩
noncomputable def ux(t:TA):TE:=fun σ H Q=>t σ H fun xs H1=>xs.length<=sizeLine/\∀p,H1 p=none->Q (.ref p) (upd H1 p (.tup xs))
noncomputable def xy(t:TA):TE:=fun σ H Q=>t σ H fun xs H1=>xs.length<=sizeLine/\∀p,H1 p=none->Q (.ref p) (upd H1 p (.lst xs))
theorem cf{x1}(h:PA X es t):PE X (.Tuple es x1 pos) (ux t):=.mk <| by
 intro pins s σ H Q I hq;refine wpAny_Tuple_spliced (thn (h pos pins s σ H _ I hq) fun us s1 ⟨xs,H1,I1,r,z,q⟩=>⟨by rw[←r.length];exact z,?_⟩)
 have hf:H1 s1.heap.objs.size=none:=I1.hok.fresh (Nat.le_refl _);refine⟨.ref s1.heap.objs.size,upd H1 s1.heap.objs.size (.tup xs),I1.laid (t':=s1.toks) (fun b u e=>Heap.get?_push_of_some _ e) (Nat.le_refl _) ?_,rfl,q _ hf⟩;exact⟨z,us,r,⟨_,Heap.get?_push_size _ rfl,rfl,_,rfl⟩,_,Heap.get?_push_size _ rfl,rfl⟩
theorem cM(h:PA X es t):PE X (.List es pos) (xy t):=.mk <| by
 intro pins s σ H Q I hq;refine wpAny_List_spliced (thn (h pos pins s σ H _ I hq) fun us s1 ⟨xs,H1,I1,r,z,q⟩=>⟨by rw[←r.length];exact z,?_⟩)
 have hf:H1 s1.heap.objs.size=none:=I1.hok.fresh (Nat.le_refl _);refine⟨.ref s1.heap.objs.size,upd H1 s1.heap.objs.size (.lst xs),I1.laid (t':=s1.toks) (fun b u e=>Heap.get?_push_of_some _ e) (Nat.le_refl _) ?_,rfl,q _ hf⟩;exact⟨z,us,0,r,Heap.get?_push_size _ rfl⟩
end
noncomputable abbrev Sp:=List V->Hp->VK->XK->Prop
noncomputable abbrev CXT:=List Env->Hp->Shared->XK->Value->Shared->Prop
structure mQ(P:Program)(w:World)(K:W.Frag)(mg:Str->Option Value)(base:Heap)(A:Around)(outer:List Env)(s:Shared)(H:Hp):Prop where
 frames:A.frames=some outer
 mod:Mod K mg base
 bs:∀b o,base.get? b=some o->s.heap.get? b=some o/\H b=none
 bsz:base.objs.size<=s.heap.objs.size
 funs:s.heap.FunFrames base outer
 frf:∀b∈frs outer,H b=none
 tt:qx K H
 hok:HOk P w H s.heap
 bare:AllBare s.gens
noncomputable def CE(outer:List Env)(P:Program)(w:World)(H:Hp)(s:Shared)(Q:VK)(u:Value)(s':Shared):Prop:=
 ∃v H',s'.os=s.os/\AllBare s'.gens/\Un (frs outer) [] H H' s.heap s'.heap/\HOk P w H' s'.heap/\aM v u/\Q v H'
noncomputable def CR(CX:CXT)(outer:List Env)(P:Program)(w:World)(H:Hp)(s:Shared)(Q:VK)(E:XK)(r:Result)(s':Shared):Prop:=
 match r with
 |.ok (.ret u)=>CE outer P w H s Q u s'
 |.ok _=>False
 |.error e=>CX outer H s E e s'
structure aY(P:Program)(w:World)(K:W.Frag)(mg:Str->Option Value)(base:Heap)(CX:CXT)(k:Nat)(f:Addr)(fd:FuncData)(ps:List Str)(sp:Sp):Prop where
 len:∀vs H Q E,sp vs H Q E->vs.length=ps.length
 run:∀(A:Around)(outer:List Env)(s:Shared)(H:Hp)(args:Args)(us:List Value)(vs:List V)(Q:VK)(E:XK),ci k A->mQ P w K mg base A outer s H->BindsTo s fd args (ps.zip us)->au vs us->sp vs H Q E ->
  codeAny (model P w) A (.call (.ref f) args) (CR CX outer P w H s Q E) s
section
variable{X:Cx}{pins:List (Addr×Obj)}{σ:St}{H:Hp}{s s':Shared}
theorem Inv.env0(I:Inv X pins σ H s):mQ X.prog X.w X.K X.mg X.base X.A X.stack s H:=
 ⟨I.ok.frames,I.ok.mod,I.bs,Nat.le_trans I.ok.bsz I.sz,I.stack,I.A9,I.ok.tt.mono I.base.tbls,I.hok,I.bare⟩
theorem Inv.after{Q:VK}{u:Value}(I:Inv X pins σ H s)(h:CE X.stack X.prog X.w H s Q u s'):EP X pins σ Q u s':=by
 obtain⟨v,H',os,bare,un,hok,r,q⟩:=h;obtain⟨hh,g,d,t,os'⟩:=s';obtain rfl:os'=s.os:=os;exact⟨v,H',I.call (h':=hh) (g':=g) (d':=d) (t':=t) (ch:=[]) un hok bare (fun b z=>absurd z (by simp)),r,q⟩
end
noncomputable def mW(sp:Sp)(dvs:List V)(E:XK)(t:TA):TE:=fun σ H Q=>t σ H fun vs H1=>sp (vs++dvs) H1 Q E
noncomputable def bt(K:W.Frag)(fd:FuncData)(ps:List Str)(ds:List Value):Prop:=
 ∀(s:Shared)(us:List Value),K.In s.heap->(us++ds).length=ps.length->BindsTo s fd ⟨us,[]⟩ (ps.zip (us++ds))
theorem bt.all{K:W.Frag}{fd:FuncData}{ps:List Str}(h:∀us:List Value,us.length=ps.length->bindArgs fd ⟨us,[]⟩=pure (ps.zip us)):bt K fd ps []:=fun s us _ hl=>by
 rw[List.append_nil] at hl ⊢;exact .of_eq (h us hl)
noncomputable def lc(CX:CXT)(X:Cx)(E:XK):Prop:=∀(pins:List (Addr×Obj)) (σ:St) (H:Hp) (s:Shared) (e:Value) (s':Shared),Inv X pins σ H s->CX X.stack H s E e s'->X.xe e s'
section
variable{X:Cx}{CX:CXT}{k:Nat}{f C:Addr}{fd:FuncData}{ps:List Str}{sp:Sp}{dvs:List V}{ds:List Value}{E:XK}{x m:Str}{p pos apos:Pos}{e o:Expr}{es:List Expr}{ta:TE}{t:TA}
theorem xv{pins:List (Addr×Obj)}{σ:St}{H:Hp}{s:Shared}{Q:VK}{us:List Value}{vs:List V}(F:aY X.prog X.w X.K X.mg X.base CX k f fd ps sp)(hr:ci k X.A)(hb:bt X.K fd ps ds)(hd:au dvs ds)(hx:lc CX X E)(I:Inv X pins σ H s)(r:au vs us)(h:sp (vs++dvs) H Q E):wpAny (model X.prog X.w) X.A (call (.ref f) us) (EP X pins σ Q) X.xe s:=by
 have r2:au (vs++dvs) (us++ds):=r.append hd;have hl:(us++ds).length=ps.length:=by rw[←r2.length];exact F.len _ _ _ _ h
 refine wpAny_call (codeAny_mono (F.run X.A X.stack s H ⟨us,[]⟩ (us++ds) (vs++dvs) Q E hr I.env0 (hb s us I.kIn hl) r2 h) fun r s' hq=>?_)
 cases r with
 |error e=>exact hx pins σ H s e s' I hq
 |ok fl=>
  cases fl with
  |ret u=>exact I.after hq
  |next=>exact False.elim hq
  |brk=>exact False.elim hq
  |cont=>exact False.elim hq
theorem aE(F:aY X.prog X.w X.K X.mg X.base CX k f fd ps sp)(hr:ci k X.A)(hg:Gl X x)(hm:X.mg x=some (.ref f))(hk:W.keepIn X.K (.ref f)=true)(hb:bt X.K fd ps ds)(hd:au dvs ds)(hx:lc CX X E)(ha:PA X (e::es) t)(hdb:(x == ("__debug__":Str))=false:=by decide)(he:starEach (e::es) X.env=(false,eval e X.env)::starEach es X.env:=by rfl)(hpl:(backTo pos (starEach es X.env)).any (·.1)=false:=by rfl):
  PE X (.Call (.Name x p) (e::es) [] pos) (mW sp dvs E t):=.mk <| by
 intro pins s σ H Q I h;refine wpAny_Call_Name_kw (eu I hg hm ?_ hdb);refine W.callWith_K (h₀:=X.base) I.ok.mod.kin hk (thn (ha pos pins s σ H _ I h) fun us s1 ⟨vs,H1,I1,r,q⟩=>⟨I1.kIn,?_⟩) he hpl;exact xv F hr hb hd hx I1 r q
structure Mk(K:W.Frag)(C f:Addr):Prop where
 makes:W.makesIn K C=true
 init:W.findIn K (.ref C) "__init__"=some (some (.ref f))
 fn:W.isFn K (.ref f)=true
 kp:W.keepIn K (.ref C)=true
end
section
variable{X:Cx}{CX:CXT}{k:Nat}{f C:Addr}{fd:FuncData}{ps ks:List Str}{sp:Sp}{E:XK}{x m:Str}{p pos apos kpos:Pos}{e o:Expr}{es:List Expr}{kws:List Keyword}{te ta:TE}{t tk:TA}{nm:Option Str}
structure An(K:W.Frag)(fd:FuncData)(ps ks:List Str)(g:List Value->List Value->List Value)(gV:List V->List V->List V):Prop where
 to:∀(s:Shared)(us ws:List Value),K.In s.heap->(g us ws).length=ps.length->BindsTo s fd ⟨us,ks.zip ws⟩ (ps.zip (g us ws))
 rel:∀ {vs:List V} {us:List Value} {zs:List V} {ws:List Value},au vs us->au zs ws->au (gV vs zs) (g us ws)
variable{g:List Value->List Value->List Value}{gV:List V->List V->List V}
end
structure aK(N P:List Str)(sc:Scope):Prop where
 kind:sc.kind=.function
 co:sc.isCoroutine=false
 gen:sc.isGenerator=false
 nd:N.Nodup
 pre:N.take P.length=P
 par:∀x∈P,sc.names.lookup x=some .local\/sc.names.lookup x=some .cell
 nofree:∀y∈sc.names,y.2≠.free
theorem km{kindOf:Str->Option NameKind}{x:Str}:∀ {binds:List (Str×Value)} {m:Str->Option Value},(∀v,(x,v) ∉ binds)->bindL kindOf binds m x=m x
 | [],_,_=>rfl
 |(n,v)::r,m,h=>by
  unfold bindL;rw[km fun w hw=>h w (List.mem_cons_of_mem _ hw)];split
  ·have:x≠n:=by rintro rfl;exact h v List.mem_cons_self
   simp[this]
  ·rfl
theorem j5{kindOf:Str->Option NameKind}{x:Str}:∀ {binds:List (Str×Value)} {m:Str->Option Value},(∀v,(x,v) ∉ binds)->bindC kindOf binds m x=m x
 | [],_,_=>rfl
 |(n,v)::r,m,h=>by
  unfold bindC;rw[j5 fun w hw=>h w (List.mem_cons_of_mem _ hw)];split
  ·rfl
  ·have:x≠n:=by rintro rfl;exact h v List.mem_cons_self
   simp[this]
theorem fD{kindOf:Str->Option NameKind}{x:Str}{v:Value}:∀ {P:List Str} {vs:List Value} {i:Nat} {m:Str->Option Value},P.Nodup->P[i]?=some x->vs[i]?=some v->kindOf x=some .local ->
  bindL kindOf (P.zip vs) m x=some v
 | [],_,_,_,_,h,_,_=>by simp at h
 |_::_,[],_,_,_,_,h,_=>by simp at h
 |p::P,w::vs,0,m,nd,h1,h2,hk=>by
  simp at h1 h2;subst h1;subst h2;show bindL kindOf ((p,w)::P.zip vs) m p=_;unfold bindL;rw[km fun v hv=>(List.nodup_cons.mp nd).1 (List.of_mem_zip hv).1,if_pos hk];simp
 |p::P,w::vs,i+1,m,nd,h1,h2,hk=>by
  show bindL kindOf ((p,w)::P.zip vs) m x=_;unfold bindL;exact fD (i:=i) (List.nodup_cons.mp nd).2 (by simpa using h1) (by simpa using h2) hk
theorem j2{kindOf:Str->Option NameKind}{x:Str}{v:Value}:∀ {P:List Str} {vs:List Value} {i:Nat} {m:Str->Option Value},P.Nodup->P[i]?=some x->vs[i]?=some v->kindOf x≠some .local ->
  bindC kindOf (P.zip vs) m x=some v
 | [],_,_,_,_,h,_,_=>by simp at h
 |_::_,[],_,_,_,_,h,_=>by simp at h
 |p::P,w::vs,0,m,nd,h1,h2,hk=>by
  simp at h1 h2;subst h1;subst h2;show bindC kindOf ((p,w)::P.zip vs) m p=_;unfold bindC;rw[j5 fun v hv=>(List.nodup_cons.mp nd).1 (List.of_mem_zip hv).1,if_neg hk];simp
 |p::P,w::vs,i+1,m,nd,h1,h2,hk=>by
  show bindC kindOf ((p,w)::P.zip vs) m x=_;unfold bindC;exact j2 (i:=i) (List.nodup_cons.mp nd).2 (by simpa using h1) (by simpa using h2) hk
noncomputable def start(N:List Str)(vs:List V):St:=vs.map some++List.replicate (N.length-vs.length) none
noncomputable def d9(CX:CXT)(P:Program)(w:World)(K:W.Frag)(mg:Str->Option Value)(base:Heap)(N:List Str)(qual:Str)(scope:Scope)(f:Addr)(cd:Value)(A:Around)(outer:List Env)(s:Shared)(H:Hp)(E:XK):Cx where
 prog:=P
 w:=w
 K:=K
 mg:=mg
 base:=base
 A:=A.deeper (envOfC qual scope s.heap.objs.size f cd)
 N:=N
 s₀:=s
 H₀:=H
 env:=envOfC qual scope s.heap.objs.size f cd
 outer:=outer
 stack:=envOfC qual scope s.heap.objs.size f cd::outer
 ex:=[]
 calm:=true
 fn:=fun _=>true
 pn:=[]
 xe:=fun e s'=>wpAny (model P w) (A.deeper (envOfC qual scope s.heap.objs.size f cd)) (leaving (envOfC qual scope s.heap.objs.size f cd) e) (fun _ s''=>CX outer H s E e s'') (fun e' s''=>CX outer H s E e' s'') s'
theorem m4{sc:Scope}{n:Nat}{x:Str}(h:sc.names.lookup x=some .cell):∃c,(cellsFrom n sc.names []).lookup x=some c:=by
 have q:=W.cellsFrom_some sc.names n [] (.inl h);exact Option.isSome_iff_exists.mp q
theorem qw{CX:CXT}{P:Program}{w:World}{K:W.Frag}{mg:Str->Option Value}{base:Heap}{N ps:List Str}{qual:Str}{scope:Scope}{f:Addr}{cd:Value}{A:Around}{outer:List Env}{s s1:Shared}{H:Hp}{E:XK}{us:List Value}{vs:List V}(S:aK N ps scope)(hd:A.handled=none)(e0:mQ P w K mg base A outer s H)(hl:vs.length=ps.length)(r:au vs us)(x:InCallC s s.heap.objs.size (bindL (envOfC qual scope s.heap.objs.size f cd).kindOf (ps.zip us) fun _=>none) (cellsFrom (s.heap.objs.size+1) scope.names []) (bindC (envOfC qual scope s.heap.objs.size f cd).kindOf (ps.zip us) fun _=>none) s1):
  Inv (d9 CX P w K mg base N qual scope f cd A outer s H E) [] (start N vs) H s1:=by
 have hpl:ps.length<=N.length:=by have:=congrArg List.length S.pre;rw[List.length_take] at this;omega
 obtain⟨h1,tk,rfl,hk⟩:=x.done;have noA:∀b:Addr,b ∉ (d9 CX P w K mg base N qual scope f cd A outer s H E).ex:=fun b z=>absurd (show b∈([]:List Addr) from z) (by simp)
 refine⟨⟨e0.mod,S.kind,rfl,rfl,Nat.le_refl _,fun y z c h1 h2=>?_,fun y hy=>?_,fun y c _ h=>?_,fun _=>hd,Around.frames_deeper e0.frames,.inr ⟨rfl,rfl⟩,fun b z=>absurd z (noA b),e0.bs,e0.bsz,fun b _ _=>noA b,fun b z=>absurd z (noA b),e0.funs,e0.frf,e0.tt⟩,
  rfl,e0.bare,Un.kept hk,⟨_,x.toInCall.ns,fun i y v h1 h2 h3=>?_⟩,fun y c h=>⟨_,x.cell y c h⟩,e0.hok.fresh (Nat.le_refl _),fun y c h=>?_,fun p hp=>absurd (show p∈([]:List (Addr×Obj)) from hp) (by simp),e0.hok.kept hk,?_⟩
 ·exact name_of_addr x.apart (PySem.mem_of_lookup h1) (PySem.mem_of_lookup h2)
 ·have hy:scope.names.lookup y=some .cell\/scope.names.lookup y=some .free:=hy
  rcases hy with hy|hy
  ·exact m4 hy
  ·exact absurd rfl (S.nofree _ (PySem.mem_of_lookup hy))
 ·exact Nat.le_of_lt (x.above y c (PySem.mem_of_lookup h))
 ·have hi:i<vs.length:=by
   unfold start at h2;by_cases hi:i<vs.length
   ·exact hi
   ·rw[List.getElem?_append_right (by simpa using hi)] at h2
    rw[List.getElem?_replicate] at h2;split at h2<;>cases h2
  have ha:vs[i]?=some v:=by
   unfold start at h2;rw[List.getElem?_append_left (by simpa using hi),List.getElem?_map] at h2
   cases e:vs[i]? with
   |none=>rw[e] at h2;cases h2
   |some a=>rw[e] at h2;cases h2;rfl
  obtain⟨u,hu,rv⟩:=r.get ha
  have hp:ps[i]?=some y:=by
   rw[←S.pre,List.getElem?_take_of_lt (by omega)];exact h1
  have ndP:ps.Nodup:=by rw[←S.pre];exact S.nd.sublist (List.take_sublist _ _)
  refine⟨u,rv,?_⟩;rcases S.par y (List.mem_of_getElem? hp) with k|k
  ·exact .inl ⟨k,fD ndP hp hu k⟩
  ·obtain⟨c,e⟩:=m4 (n:=s.heap.objs.size+1) k
   refine .inr ⟨.inl k,c,e,?_⟩;have q:=x.cell y c e;rw[j2 ndP hp hu (by show scope.names.lookup y≠_;rw[k];decide)] at q
   exact q
 ·exact e0.hok.fresh (Nat.le_of_lt (x.above y c (PySem.mem_of_lookup h)))
 ·unfold start
  show _=N.length;rw[List.length_append,List.length_map,List.length_replicate];omega
theorem tV{CX:CXT}{P:Program}{w:World}{K:W.Frag}{mg:Str->Option Value}{base:Heap}{k:Nat}{f:Addr}{name qual:Str}{params:Arguments}{body:List Stmt}{scope:Scope}{dV kV doc pm cdv ct oc:Value}{an od:Option Addr}{osl:Array (Option Value)}{N ps:List Str}{sp:Sp}(lk:K.lookup f=some ⟨oc,od,.func (W.fnOf name qual params body scope dV kV doc pm an cdv ct),osl⟩)(hcd:W.codeIn K cdv qual=true)(S:aK N ps scope)(len:∀vs H Q E,sp vs H Q E->vs.length=ps.length)
  (hbody:∀(A:Around)(outer:List Env)(s:Shared)(H:Hp)(vs:List V)(Q:VK)(E:XK),ci k (A.deeper (envOfC qual scope s.heap.objs.size f cdv))->sp vs H Q E ->
   ∃t,PSs (d9 CX P w K mg base N qual scope f cdv A outer s H E) body t/\t { nx:=fun _ H'=>Q .non H',rt:=Q } (start N vs) H) :
  aY P w K mg base CX (k+1) f (W.fnOf name qual params body scope dV kV doc pm an cdv ct) ps sp:=by
 refine⟨len,fun A outer s H args us vs Q E hr e0 hb r hsp=>?_⟩;have hl:=len _ _ _ _ hsp;have KX:K.In s.heap:=e0.mod.kin.keeps fun b o e=>(e0.bs b o e).1;have lim:s.heap.NoLimit:=e0.mod.nolimit.keeps fun b o e=>(e0.bs b o e).1
 have hkind:∀y∈ps.zip us,scope.names.lookup y.1=some .local\/(scope.names.lookup y.1=some .cell/\((cellsFrom (s.heap.objs.size+1) scope.names []).lookup y.1).isSome=true):=fun⟨n,v⟩ hy=>by
  rcases S.par n (List.of_mem_zip hy).1 with q|q
  ·exact .inl q
  ·exact .inr ⟨q,W.cellsFrom_some _ _ _ (.inl q)⟩
 refine codeAny_call_function hr.depth (KX _ _ lk) rfl S.co S.gen rfl (W.codeRec_of KX hcd) (hb _ _ _ _ ?_);refine wpAny_newFunctionEnv_cells S.kind hkind fun env he s1 x=>?_;subst he;refine⟨lim.keeps x.toInCall.keep,codeAny_func ?_⟩;obtain⟨t,ht,hq⟩:=hbody A outer s H vs Q E (hr.deeper _) hsp;have I:Inv (d9 CX P w K mg base N qual scope f cdv A outer s H E) [] (start N vs) H s1:=qw S hr.hd e0 hl r x
 refine wpAny_mono (ht [] s1 (start N vs) H _ I hq) (fun fl s' hs=>?_) fun e s' hs=>hs
 have fin:∀ {σ':St} {H':Hp} {v:V} {u:Value},Inv (d9 CX P w K mg base N qual scope f cdv A outer s H E) [] σ' H' s'->aM v u->Q v H'->CE outer P w H s Q u s':=
  fun {σ' H' v u} J rv q=>⟨v,H',J.os,J.bare,J.base,J.hok,rv,q⟩
 cases fl with
 |ret u=>
  obtain⟨v,σ',H',J,rv,q⟩:=hs;exact fin J rv q
 |next=>
  obtain⟨σ',H',J,q⟩:=hs;exact fin (v:=V.non) (u:=Value.none) J rfl q
 |brk=>
  obtain⟨_,_,_,q⟩:=hs;exact False.elim q
 |cont=>
  obtain⟨_,_,_,q⟩:=hs;exact False.elim q
section
variable{X:Cx}{x:Str}{p pos:Pos}{e:Expr}{es:List Expr}{t:TA}{id T:String}{r:List V->Hp->VK->Prop}
noncomputable def tCB(r:List V->Hp->VK->Prop)(t:TA):TE:=fun σ H Q=>t σ H fun vs H1=>r vs H1 Q
theorem aD(hc:dN X (.builtin id) r)(hg:Gl X x)(hm:X.mg x=none)(hv:bootBuiltins x=some (.builtin id))(ha:PA X (e::es) t)(hn:x≠"__name__":=by decide)(hdb:(x == ("__debug__":Str))=false:=by decide)(he:starEach (e::es) X.env=(false,eval e X.env)::starEach es X.env:=by rfl)(hpl:(backTo pos (starEach es X.env)).any (·.1)=false:=by rfl):PE X (.Call (.Name x p) (e::es) [] pos) (tCB r t):=.mk <| by
 intro pins s σ H Q I h;refine wpAny_Call_Name_kw (ln I hg hm hv ?_ hn hdb);exact PyProof.Rows.callWith_builtin1 (thn (ha pos pins s σ H _ I h) fun us s1 ⟨vs,H1,I1,r1,q1⟩=>hc pins s1 σ H1 vs us Q I1 r1 q1) he hpl
theorem fv(hc:dN X (.type T) r)(hg:Gl X x)(hm:X.mg x=none)(hv:bootBuiltins x=some (.type T))(ha:PA X (e::es) t)(hn:x≠"__name__":=by decide)(hdb:(x == ("__debug__":Str))=false:=by decide)(he:starEach (e::es) X.env=(false,eval e X.env)::starEach es X.env:=by rfl)(hpl:(backTo pos (starEach es X.env)).any (·.1)=false:=by rfl):PE X (.Call (.Name x p) (e::es) [] pos) (tCB r t):=.mk <| by
 intro pins s σ H Q I h;refine wpAny_Call_Name_kw (ln I hg hm hv ?_ hn hdb);exact PyProof.Rows.callWith_type1 (thn (ha pos pins s σ H _ I h) fun us s1 ⟨vs,H1,I1,r1,q1⟩=>hc pins s1 σ H1 vs us Q I1 r1 q1) he hpl
end
end L2
namespace HT
open PySem PyProof.Rows
section
open PySem.SeqAt
open PySem.AutoSeq1 (wpAny_loadPart')
open PySem.MeetsSeq PySem.MeetsSeq2 PySem.MeetsSeq3
end
section
variable{prog:Program}{w:World}{A:Around}{E:Value->Shared->Prop}{s:Shared}
theorem cat_tup{t b:Addr}{vs ws:List Value}{Q:Value->Shared->Prop}(ht:IsTup s.heap t vs.toArray)(hb:IsTup s.heap b ws.toArray)(hv:vs≠[])(h1:ws=[]->Q (.ref t) s)(h2:ws≠[]->Q (.ref s.heap.objs.size) { s with heap:=s.heap.push { cls:=.type "tuple",data:=.seq (vs++ws).toArray } })(hsz:vs.length+ws.length<=sizeLine):wpAny (model prog w) A (binaryOp .Add (.ref t) (.ref b)) Q E s:=by
 obtain⟨⟨cls,dd,data,sl⟩,ho,hc,n,hd⟩:=id ht;obtain⟨⟨cls2,dd2,data2,sl2⟩,ho2,hc2,n2,hd2⟩:=id hb;simp only at hc hd hc2 hd2;subst hc hd hc2 hd2;have e:vs.toArray++ws.toArray=(vs++ws).toArray:=by simp
 by_cases hw:ws=[]
 ·exact concat_meets ⟨_,ho,rfl⟩ ⟨_,ho2,rfl⟩ noFill_tuple_add seq_tuple_add PySem.F.slot_tuple_add PySem.F.entry_tuple_add (PySem.F.args_tuple_add_2 _ _)
   (tuple_addW1 t b vs.toArray ws.toArray n n2 dd dd2 sl sl2 (by simpa using hv) (by simp[hw])) ⟨ho,ho2,h1 hw⟩
 ·refine concat_meets ⟨_,ho,rfl⟩ ⟨_,ho2,rfl⟩ noFill_tuple_add seq_tuple_add PySem.F.slot_tuple_add PySem.F.entry_tuple_add (PySem.F.args_tuple_add_2 _ _)
   (tuple_addW2 t b vs.toArray ws.toArray n n2 dd dd2 sl sl2 (by simpa using hv) (by simpa using hw) (by rw[List.size_toArray,List.size_toArray];exact hsz)) ⟨ho,ho2,?_⟩
  rw[e];exact h2 hw
noncomputable def sIx(n d:Nat):Option Int->Nat
 |none=>d
 |some v=>if v<0 then (v+(n:Int)).toNat else min v.toNat n
theorem xN(n d:Nat)(hd:d<=n)(o:Option Int):sIx n d o<=n:=by
 cases o with
 |none=>exact hd
 |some v=>
  show (if v<0 then (v+(n:Int)).toNat else min v.toNat n)<=n
  by_cases hv:v<0
  ·rw[if_pos hv];omega
  ·rw[if_neg hv];exact Nat.min_le_right _ _
theorem gF(v:Int)(n d:Nat):(if v<0 then max (v+(n:Int)) 0 else min v (n:Int))=((sIx n d (some v):Nat):Int):=by
 show (if v<0 then max (v+(n:Int)) 0 else min v (n:Int))=(((if v<0 then (v+(n:Int)).toNat else min v.toNat n):Nat):Int)
 by_cases hv:v<0
 ·simp only[if_pos hv];omega
 ·simp only[if_neg hv];omega
theorem nY(lo hi:Option Int)(n:Nat):Builtin.Slice.sliceAdjust lo hi 1 (n:Int)=(((sIx n 0 lo:Nat):Int),((sIx n n hi:Nat):Int)):=by
 have h1:¬ ((1:Int)<0):=by omega
 unfold Builtin.Slice.sliceAdjust;simp only[h1,if_false];refine Prod.ext ?_ ?_
 ·cases lo with
  |none=>rfl
  |some v=>exact gF v n 0
 ·cases hi with
  |none=>rfl
  |some v=>exact gF v n n
theorem nP(i j:Nat):Builtin.Slice.slicePlaces (i:Int) (j:Int) 1=j-i:=by
 unfold Builtin.Slice.slicePlaces;have h1:(1:Int)>0:=by omega
 simp only[h1,if_true,Int.ediv_one];split<;>omega
theorem i4{v:Value}{o:Option Int}{Q:Option Int->Shared->Prop}(p:IsPart v o)(h:Q o s):wpAny (model prog w) A (Builtin.Slice.slicePartIndex v) Q E s:=by
 cases p with
 |none=>exact slicePart_none h
 |int i t=>exact slicePart_int h
theorem sliceApplied_gen{sl:Addr}{vl vu:Value}{lo hi:Option Int}{n:Nat}{Q:Int×Int×Nat->Shared->Prop}(hs:s.heap.IsSliceOf sl vl vu .none)(pl:IsPart vl lo)(pu:IsPart vu hi)(h:Q (((sIx n 0 lo:Nat):Int),1,sIx n n hi-sIx n 0 lo) s):wpAny (model prog w) A (Builtin.Slice.sliceApplied (.ref sl) (pure (n:Int))) Q E s:=by
 obtain⟨os,hos,hcs,hds⟩:=id hs;unfold Builtin.Slice.sliceApplied Builtin.Slice.sliceFields;refine wpAny_bind (wpAny_bind (wpAny_field hos hds (x:=vl) rfl (wpAny_bind (wpAny_field hos hds (x:=vu) rfl (wpAny_bind (wpAny_field hos hds (x:=.none) rfl (wpAny_pure ?_)))))));refine wpAny_bind (slicePart_none ?_);show wpAny _ _ (if ((1:Int) == 0)=true then _ else _) _ _ s
 rw[if_neg (by decide)]
 refine wpAny_bind (i4 pl (wpAny_bind (i4 pu (wpAny_bind (wpAny_pure ?_)))));show wpAny _ _ (match Builtin.Slice.sliceAdjust lo hi 1 (n:Int) with|(lo,hi)=>pure (lo,(1:Int),Builtin.Slice.slicePlaces lo hi 1)) _ _ s
 rw[nY lo hi n];show wpAny _ _ (pure (((sIx n 0 lo:Nat):Int),(1:Int),Builtin.Slice.slicePlaces ((sIx n 0 lo:Nat):Int) ((sIx n n hi:Nat):Int) 1)) _ _ s;rw[nP];exact wpAny_pure h
theorem tO(xs:Array Value)(i k:Nat):((List.range k).filterMap fun(m:Nat)=>xs[((i:Int)+(m:Int)*1).toNat]?).toArray=((xs.toList.drop i).take k).toArray:=by
 have e:(fun(m:Nat)=>xs[((i:Int)+(m:Int)*1).toNat]?)=fun m=>xs[i+m]?:=by
  funext m
  have:((i:Int)+(m:Int)*1).toNat=i+m:=by omega
  rw[this]
 rw[e];have:=pick_run xs i k;rw[List.filterMap_map] at this;have e2:((fun x=>xs[x]?) ∘ fun x=>i+x)=fun m=>xs[i+m]?:=rfl;rw[e2] at this;rw[this]
theorem getItem_tuple_cut{t sl:Addr}{items:Array Value}{vl vu:Value}{lo hi:Option Int}{Q:Value->Shared->Prop}(ht:IsTup s.heap t items)(hs:s.heap.IsSliceOf sl vl vu .none)(pl:IsPart vl lo)(pu:IsPart vu hi)(hw:¬ (sIx items.size 0 lo=0/\sIx items.size items.size hi=items.size))(h:Q (.ref s.heap.objs.size) { s with heap:=s.heap.push { cls:=.type "tuple",data:=.seq ((items.toList.drop (sIx items.size 0 lo)).take (sIx items.size items.size hi-sIx items.size 0 lo)).toArray } })(hsz:items.size<=sizeLine):wpAny (model prog w) A (getItem (.ref t) (.ref sl)) Q E s:=by
 have htake:sizeOk (.seq ((items.toList.drop (sIx items.size 0 lo)).take (sIx items.size items.size hi-sIx items.size 0 lo)).toArray):=by
  show ((items.toList.drop (sIx items.size 0 lo)).take (sIx items.size items.size hi-sIx items.size 0 lo)).toArray.size<=sizeLine;rw[List.size_toArray,List.length_take,List.length_drop,Array.length_toList];omega
 have hj:sIx items.size items.size hi<=items.size:=xN _ _ (Nat.le_refl _) hi;obtain⟨os,hos,hcs,hds⟩:=id hs;have hTs:s.TypeIs (.ref sl) "slice":=⟨os,hos,hcs⟩;unfold getItem
 try with_reducible refine wpAny_holding ?_
 first|refine wpAny_bind (wpAny_pure ?_)|skip
 refine wpAny_bind (wpAny_sequenceKey ht.typeIs (by decide) ?_)
 refine wpAny_bind (wpAny_callSpecial?_slot (name:=Str.ofString "__getitem__") ht.typeIs PyProof.Rows.slot_tuple_getitem
  (wpAny_call_entry PyProof.Rows.slot_tuple_getitem ht.typeIs entry_tuple_getitem ?_ (args_tuple_getitem _ _)))
 show wpAny _ _ (Builtin.Tuple.tupleItemsOf (.ref t) >>= _) _ _ s;refine wpAny_bind (tupleItemsOf_ ht ?_);refine wpAny_bind (wpAny_typeOf hTs ?_);rw[if_pos (by decide)]
 refine wpAny_bind (sliceApplied_gen hs pl pu ?_)
 have hno:¬ ((((sIx items.size 0 lo:Nat):Int) == 0 && (1:Int) == 1 && (sIx items.size items.size hi-sIx items.size 0 lo) == items.size)=true):=by
  intro q;rw[Bool.and_eq_true,Bool.and_eq_true] at q;have q1:((sIx items.size 0 lo:Nat):Int)=0:=eq_of_beq q.1.1;have q2:sIx items.size items.size hi-sIx items.size 0 lo=items.size:=eq_of_beq q.2;exact hw ⟨by omega,by omega⟩
 show wpAny _ _ (if (((sIx items.size 0 lo:Nat):Int) == 0 && (1:Int) == 1 && (sIx items.size items.size hi-sIx items.size 0 lo) == items.size)=true then _ else _) _ _ s
 rw[if_neg hno,tO]
 first
  |exact wpAny_bind (m:=Builtin.Tuple.tupleExact _) (wpAny_newObj_type (wpAny_pure ⟨_,rfl,wpAny_pure h⟩) htake)
  |exact wpAny_bind (m:=Builtin.Tuple.tupleExact _) (wpAny_newObj_type (wpAny_bind (wpAny_pure (wpAny_pure ⟨_,rfl,wpAny_pure h⟩))) htake)
  |exact wpAny_bind (wpAny_bind (m:=Builtin.Tuple.tupleExact _) (wpAny_newObj_type (wpAny_pure (wpAny_pure ⟨_,rfl,wpAny_pure h⟩)) htake))
  |exact wpAny_bind (wpAny_bind (m:=Builtin.Tuple.tupleExact _) (wpAny_newObj_type (wpAny_pure ⟨_,rfl,wpAny_pure h⟩) htake))
end
end HT
namespace L2
open PySem PySem.Spec PyProof.Rows
noncomputable abbrev TO:=St->Hp->(Option Int->Hp->Prop)->Prop
noncomputable def PO(X:Cx)(e:Option Expr)(t:TO):Prop:=
 ∀(pins:List (Addr×Obj)) (s:Shared) (σ:St) (H:Hp) (Q:Option Int->Hp->Prop),Inv X pins σ H s->t σ H Q ->
  wpAny (model X.prog X.w) X.A (evalPart e X.env) (fun u s'=>∃o H',Inv X pins σ H' s'/\IsPart u o/\Q o H') X.xe s
noncomputable def pc:TO:=fun _ H Q=>Q none H
noncomputable def vK(t:TE):TO:=fun σ H Q=>t σ H fun x H1=>∃i,x=.int i/\Q (some i) H1
section
variable{X:Cx}{e:Expr}{te:TE}{lo hi:Option Expr}{tl th:TO}{pos p2:Pos}
theorem b8:PO X none pc:=by
 intro pins s σ H Q I h;rw[evalPart_none];exact wpAny_pure ⟨none,H,I,.none,h⟩
theorem bj(h:PE X e te):PO X (some e) (vK te):=by
 intro pins s σ H Q I hw;rw[evalPart_some];refine thn (h pins s σ H _ I hw) fun u s1 ⟨x,H1,I1,r1,q1⟩=>?_;obtain⟨i,rfl,q⟩:=q1;obtain⟨t,rfl⟩:=r1;exact⟨some i,H1,I1,.int i t,q⟩
noncomputable def SlR(X:Cx)(r:V->Option Int->Option Int->Hp->VK->Prop):Prop:=
 ∀(pins:List (Addr×Obj)) (s:Shared) (σ:St) (H:Hp) (x:V) (v vl vu:Value) (lo hi:Option Int) (sl:Addr) (Q:VK),Inv X pins σ H s->aM x v->s.heap.IsSliceOf sl vl vu .none->IsPart vl lo->IsPart vu hi->r x lo hi H Q ->
  ∃T id,typeLookup (.type T) "__getitem__"=pure (some (.builtin id))/\s.TypeIs v T/\wpAny (model X.prog X.w) X.A (getItem v (.ref sl)) (EP X pins σ Q) X.xe s
noncomputable def tSl(r:V->Option Int->Option Int->Hp->VK->Prop)(te:TE)(tl th:TO):TE:=fun σ H Q=>te σ H fun x H1=>tl σ H1 fun l H2=>th σ H2 fun u H3=>r x l u H3 Q
theorem bf{r:V->Option Int->Option Int->Hp->VK->Prop}(hr:SlR X r)(he:PE X e te)(hl:PO X lo tl)(hu:PO X hi th):PE X (.Subscript e (.Slice lo hi none p2) pos) (tSl r te tl th):=.mk <| by
 intro pins s σ H Q I h;refine Subscript_ (thn (he pins s σ H _ I h) fun v s1 ⟨x,H1,I1,r1,q1⟩=>?_);refine wpAny_Slice (thn (hl pins s1 σ H1 _ I1 q1) fun vl s2 ⟨l,H2,I2,pl,q2⟩=>thn (hu pins s2 σ H2 _ I2 q2) fun vu s3 ⟨u,H3,I3,pu,q3⟩=>?_);rw[evalPart_none];refine wpAny_pure ?_;have I4:Inv X pins σ H3 { s3 with heap:=s3.heap.push { cls:=.type "slice",data:=.fields #[vl,vu,.none] } }:=I3.kept (t':=s3.toks) fun b ob q=>Heap.get?_push_of_some _ q
 obtain⟨T,id,hT,ht,hg⟩:=hr pins { s3 with heap:=s3.heap.push { cls:=.type "slice",data:=.fields #[vl,vu,.none] } } σ H3 x v vl vu l u s3.heap.objs.size Q I4 r1 (Heap.IsSliceOf.new ..) pl pu q3;show wpAny (model X.prog X.w) X.A (subscriptTail e (.Slice lo hi none p2) v (.ref s3.heap.objs.size)) (EP X pins σ Q) X.xe { s3 with heap:=s3.heap.push { cls:=.type "slice",data:=.fields #[vl,vu,.none] } };exact tail_any (ops:=[.ref s3.heap.objs.size,v]) ht hT hg (by with_unfolding_all rfl)
noncomputable def gU(xs:List V)(lo hi:Option Int):List V:=(xs.drop (HT.sIx xs.length 0 lo)).take (HT.sIx xs.length xs.length hi-HT.sIx xs.length 0 lo)
theorem ig(xs:List V)(lo hi:Option Int):(gU xs lo hi).length<=xs.length:=by
 unfold gU;rw[List.length_take,List.length_drop];omega
noncomputable def Ax(K:W.Frag):V->Option Int->Option Int->Hp->VK->Prop:=fun x lo hi H Q=>∃a xs,x=.ref a/\SqT K H a xs /\
 ¬ (HT.sIx xs.length 0 lo=0/\HT.sIx xs.length xs.length hi=xs.length)/\∀p,H p=none->Q (.ref p) (upd H p (.tup (gU xs lo hi)))
theorem xK:SlR X (Ax X.K):=by
 intro pins s σ H x v vl vu lo hi sl Q I rx hs pl pu h;obtain⟨a,xs,rfl,hx,hw,q⟩:=h;cases rx;obtain⟨its,r,ht,hz⟩:=I.tuple hx;have hlen:its.toArray.size=xs.length:=by rw[List.size_toArray];exact r.length.symm
 refine⟨"tuple",_,PyProof.Rows.slot_tuple_getitem.lookup,ht.typeIs,?_⟩;refine HT.getItem_tuple_cut ht hs pl pu (by rw[hlen];exact hw) ?_ (by rw[hlen];exact hz)
 rw[hlen];refine⟨.ref s.heap.objs.size,_,I.laid (t':=s.toks) (o:=.tup (gU xs lo hi)) (fun b ob q=>Heap.get?_push_of_some _ q) (Nat.le_refl _) ?_,rfl,q _ (I.hok.fresh (Nat.le_refl _))⟩;exact⟨Nat.le_trans (ig xs lo hi) hz,_,(r.drop (HT.sIx xs.length 0 lo)).take (HT.sIx xs.length xs.length hi-HT.sIx xs.length 0 lo),nF.new _ _⟩
noncomputable def yV(K:W.Frag):R2:=fun x y H Q=>∃a b xs ys,x=.ref a/\y=.ref b/\SqT K H a xs/\SqT K H b ys/\xs≠[]/\xs.length+ys.length<=sizeLine /\
 (ys=[]->Q (.ref a) H)/\(ys≠[]->∀p,H p=none->Q (.ref p) (upd H p (.tup (xs++ys))))
theorem au.Ba{xs:List V}{us:List Value}(r:au xs us):us=[]↔xs=[]:=by
 cases r with
 |nil=>simp
 |cons _ _=>simp
theorem uX:OpR X (binaryOp .Add) (yV X.K):=by
 intro pins s σ H x y v u Q I rx ry h;obtain⟨a,b,xs,ys,rfl,rfl,ha,hb,hx,hz,q1,q2⟩:=h;cases rx;cases ry;obtain⟨its,r1,p1,_⟩:=I.tuple ha;obtain⟨its2,r2,p2,_⟩:=I.tuple hb;refine HT.cat_tup p1 p2 (fun z=>hx (r1.Ba.mp z)) (fun z=>⟨.ref a,H,I,rfl,q1 (r2.Ba.mp z)⟩) (fun z=>?_) (by rw[←r1.length,←r2.length];exact hz)
 refine⟨.ref s.heap.objs.size,_,I.laid (t':=s.toks) (o:=.tup (xs++ys)) (fun b ob q=>Heap.get?_push_of_some _ q) (Nat.le_refl _) ?_,rfl,q2 (fun w=>z (r2.Ba.mpr w)) _ (I.hok.fresh (Nat.le_refl _))⟩;exact⟨by rw[List.length_append];exact hz,_,r1.append r2,nF.new _ _⟩
end
noncomputable def ixN(n:Nat)(i:Int):Option Nat:=if 0<=i then (if i<n then some i.toNat else none) else if -(n:Int)<=i then some (i+n).toNat else none
noncomputable def atI{α:Type}(xs:List α)(i:Int):Option α:=(ixN xs.length i).bind fun j=>xs[j]?
theorem oN{n:Nat}{i:Int}{j:Nat}(h:ixN n i=some j):seqIndex? i n=some j/\j<n/\-(n:Int)<=i/\i<n:=by
 unfold ixN at h;by_cases h0:0<=i
 ·rw[if_pos h0] at h
  by_cases h1:i<n
  ·rw[if_pos h1] at h
   have e:i.toNat=j:=Option.some.inj h;exact⟨by rw[seqIndex_of h0 h1,e],by omega,by omega,h1⟩
  ·rw[if_neg h1] at h;cases h
 ·rw[if_neg h0] at h
  by_cases h1:-(n:Int)<=i
  ·rw[if_pos h1] at h
   have e:(i+n).toNat=j:=Option.some.inj h;exact⟨by rw[seqIndex_neg (by omega) h1,e],by omega,h1,by omega⟩
  ·rw[if_neg h1] at h;cases h
theorem lE{α:Type}{xs:List α}{i:Int}{v:α}(h:atI xs i=some v):∃j,seqIndex? i xs.length=some j/\xs[j]?=some v/\j<xs.length/\-(xs.length:Int)<=i/\i<xs.length:=by
 unfold atI at h
 cases e:ixN xs.length i with
 |none=>rw[e] at h;cases h
 |some j=>
  rw[e] at h;obtain⟨h1,h2,h3,h4⟩:=oN e;exact⟨j,h1,h,h2,h3,h4⟩
theorem vv{α:Type}{xs:List α}{j:Nat}{v:α}(h:xs[j]?=some v):atI xs (j:Int)=some v:=by
 have hj:j<xs.length:=(List.getElem?_eq_some_iff.mp h).1
 have e:ixN xs.length (j:Int)=some j:=by
  unfold ixN;rw[if_pos (by omega),if_pos (by omega)];simp
 unfold atI;rw[e];exact h
noncomputable def u9(b:Expr):Prop:=∀o i,subscripted b false o i=operate [o,i] (getItem o i)
noncomputable def IxR(X:Cx)(r:R2):Prop:=
 ∀(value slice:Expr) (pins:List (Addr×Obj)) (s:Shared) (σ:St) (H:Hp) (x y:V) (v u:Value) (Q:VK),Inv X pins σ H s->aM x v->aM y u->r x y H Q ->
  subscripted slice false v u=operate [v,u] (getItem v u)->wpAny (model X.prog X.w) X.A (subscriptTail value slice v u) (EP X pins σ Q) X.xe s
noncomputable def MtR(X:Cx)(id:String)(r:V->List V->Hp->VK->Prop):Prop:=
 ∀(pins:List (Addr×Obj)) (s:Shared) (σ:St) (H:Hp) (x:V) (xs:List V) (v:Value) (us:List Value) (Q:VK),Inv X pins σ H s->aM x v->au xs us->r x xs H Q ->
  wpAny (model X.prog X.w) X.A (call (.builtin id) (v::us)) (EP X pins σ Q) X.xe s
section
variable{X:Cx}{a b:Expr}{ta tb:TE}{pos:Pos}
theorem IxR.or{r r':R2}(h:IxR X r)(h':IxR X r'):IxR X (fun x y H Q=>r x y H Q\/r' x y H Q):=by
 intro value slice pins s σ H x y v u Q I rx ry q hs;rcases q with q|q
 ·exact h value slice pins s σ H x y v u Q I rx ry q hs
 ·exact h' value slice pins s σ H x y v u Q I rx ry q hs
theorem dc{r:R2}(hr:IxR X r)(ha:PE X a ta)(hb:PE X b tb)(hs:u9 b):PE X (.Subscript a b pos) (tOp r ta tb):=.mk <| by
 intro pins s σ H Q I h;exact Subscript_ (xh ha hb I h fun v u s2 x y H2 I2 rx ry q=>hr a b pins s2 σ H2 x y v u Q I2 rx ry q (hs _ _))
noncomputable def xn(K:W.Frag):R2:=fun x y H Q=>∃p xs i v,x=.ref p/\y=.int i/\SqL K H p xs/\atI xs i=some v/\Q v H
noncomputable def xT(K:W.Frag):R2:=fun x y H Q=>∃p xs i v,x=.ref p/\y=.int i/\SqT K H p xs/\atI xs i=some v/\Q v H
noncomputable def zH:R2:=fun x y H Q=>∃z i c,x=.str z/\y=.int i/\z.length<=sizeLine/\atI z.cps.toList i=some c/\Q (.str ⟨#[c]⟩) H
theorem uQ:IxR X (xn X.K):=by
 intro value slice pins s σ H x y v u Q I rx ry h hs;obtain⟨p,xs,i,z,rfl,rfl,hq,he,q⟩:=h;cases rx;obtain⟨t,rfl⟩:=ry;obtain⟨its,r,pl,hz⟩:=I.list hq;obtain⟨j,h1,h2,h3,h4,h5⟩:=lE he;obtain⟨w,ew,rw'⟩:=r.get h2;have hl:=r.length;have hn:=hG;have fin:EP X pins σ Q w s:=⟨z,H,I,rw',q⟩;by_cases h0:0<=i
 ·have hj:i.toNat=j:=by
   rw[seqIndex_of h0 h5] at h1;exact Option.some.inj h1
  exact item_listR pl.isList h0 (by omega) (by rw[hj];simpa using ew) fin hs
 ·have hj:(i+(its.toArray.size:Int)).toNat=j:=by
   rw[seqIndex_neg (by omega) h4] at h1
   rw[List.size_toArray,←hl]
   exact Option.some.inj h1
  exact subscriptTail_builtinR (x:=w) pl.isList.typeIs slot_list_getitem.lookup
   (wpAny_getItem_list_neg (Q:=fun r s'=>r=w/\EP X pins σ Q r s') pl.isList (by omega) (by rw[List.size_toArray]<;>omega) (by omega) (by rw[hj];simpa using ew) ⟨rfl,fin⟩) hs
theorem ym:IxR X (xT X.K):=by
 intro value slice pins s σ H x y v u Q I rx ry h hs;obtain⟨p,xs,i,z,rfl,rfl,hq,he,q⟩:=h;cases rx;obtain⟨t,rfl⟩:=ry;obtain⟨its,r,pl,hz⟩:=I.tuple hq;obtain⟨j,h1,h2,h3,h4,h5⟩:=lE he;obtain⟨w,ew,rw'⟩:=r.get h2;have hl:=r.length;have hn:=hG;have fin:EP X pins σ Q w s:=⟨z,H,I,rw',q⟩
 exact subscriptTail_builtinR (x:=w) pl.typeIs slot_tuple_getitem.lookup
  (getItem_tuple (j:=j) (Q:=fun r s'=>r=w/\EP X pins σ Q r s') pl (by omega) (by omega) (by rw[List.size_toArray,←hl];exact h1) (by simpa using ew) ⟨rfl,fin⟩) hs
theorem xD:IxR X zH:=by
 intro value slice pins s σ H x y v u Q I rx ry h hs;obtain⟨z,i,c,rfl,rfl,hz,he,q⟩:=h;obtain⟨t,rfl⟩:=rx;obtain⟨t',rfl⟩:=ry;obtain⟨j,h1,h2,h3,h4,h5⟩:=lE he;have hl:z.cps.toList.length=z.length:=by simp[Str.length]
 rw[hl] at h1 h4 h5;have hn:=hG
 exact tail_any (typeIs_str s z t) slot_str_getitem.lookup (getItem_str (c:=c) (by
  have e1:decide (i < -(2^63:Int))=false:=decide_eq_false (by omega)
  have e2:decide (i ≥ 2^63)=false:=decide_eq_false (by omega)
  rw[e1,e2,Bool.or_false]) (by rw[h1];simpa using h2) ⟨.str ⟨#[c]⟩,H,I.tok _,⟨_,rfl⟩,q⟩) hs
noncomputable def rIx(K:W.Frag):R2:=fun x y H Q=>xn K x y H Q\/xT K x y H Q\/zH x y H Q
theorem xJ:IxR X (rIx X.K):=uQ.or (ym.or xD)
theorem no(its:List Value)(n j:Nat)(u:Value):Obj.mapSeq (·.setIfInBounds j u) { cls:=.type "list",data:=.seq its.toArray n }={ cls:=.type "list",data:=.seq (its.set j u).toArray n }:=by
 simp[Obj.mapSeq]
theorem Inv.lst{pins:List (Addr×Obj)}{σ:St}{H:Hp}{s:Shared}{p:Addr}{xs:List V}(I:Inv X pins σ H s)(h:H p=some (.lst xs)):
  ∃(its:List Value)(n:Nat),au xs its/\s.heap.get? p=some { cls:=.type "list",data:=.seq its.toArray n }/\xs.length<=sizeLine:=by
 obtain⟨z,its,n,r,e⟩:=I.hok p _ h;exact⟨its,n,r,e,z⟩
theorem Inv.Bi{pins:List (Addr×Obj)}{σ:St}{H:Hp}{s:Shared}{p:Addr}{xs ys:List V}{its its':List Value}{n n':Nat}{f:Obj->Obj}(I:Inv X pins σ H s)(h:H p=some (.lst xs))(ho:s.heap.get? p=some { cls:=.type "list",data:=.seq its.toArray n })(hf:f { cls:=.type "list",data:=.seq its.toArray n }={ cls:=.type "list",data:=.seq its'.toArray n' })(r:au ys its')(hz:ys.length<=sizeLine)(t:Nat):
  Inv X pins σ (upd H p (.lst ys)) { s with heap:=s.heap.update p f,toks:=t }:=by
 have e:(s.heap.update p f).get? p=some { cls:=.type "list",data:=.seq its'.toArray n' }:=by
  rw[Heap.get?_update_self f ho (by rw[hf]<;>rfl),hf]
 refine I.write (x:=p) (e:=p) (by rw[h];trivial) (.inl rfl) (fun b u hb q=>(Heap.get?_update_other _ _ (Ne.symm hb)).trans q) ⟨_,e⟩ ?_
 exact⟨hz,its',n',r,e⟩
noncomputable def wz:V->V->V->Hp->(Hp->Prop)->Prop:=fun o i v H Q=>∃p xs k j,o=.ref p/\i=.int k/\H p=some (.lst xs)/\ixN xs.length k=some j/\Q (upd H p (.lst (xs.set j v)))
theorem jQ:z7 X wz:=by
 intro pins s σ H o i v ov iv u Q I ro ri rv h;obtain⟨p,xs,k,j,rfl,rfl,hp,hj,q⟩:=h;cases ro;obtain⟨t,rfl⟩:=ri;obtain⟨its,n,r,ho,hz⟩:=I.lst hp;obtain⟨h1,h2,h3,h4⟩:=oN hj;have hl:=r.length;have hn:=hG
 have I':Inv X pins σ (upd H p (.lst (xs.set j v))) { s with heap:=s.heap.update p (Obj.mapSeq (·.setIfInBounds j u)) }:=
  I.Bi hp ho (no its n j u) (r.set rv j) (by rw[List.length_set];exact hz) s.toks
 by_cases h0:0<=k
 ·have hk:k.toNat=j:=by
   rw[seqIndex_of h0 h4] at h1;exact Option.some.inj h1
  exact W.ki_setAt ho h0 (by omega) (by rw[List.size_toArray,←hl];exact h4) (by rw[hk];exact⟨_,I',q⟩)
 ·have hk:(k+(its.toArray.size:Int)).toNat=j:=by
   rw[seqIndex_neg (by omega) h3] at h1
   rw[List.size_toArray,←hl]
   exact Option.some.inj h1
  exact W.ki_setBack ho (by omega) (by rw[List.size_toArray,←hl];exact h3) (by omega) (by rw[hk];exact⟨_,I',q⟩)
theorem lb(lo hi:Option Int)(n:Nat):(sliceBounds lo hi none n).1=((HT.sIx n 0 lo:Nat):Int)/\(sliceBounds lo hi none n).2.1=((HT.sIx n n hi:Nat):Int)/\(sliceBounds lo hi none n).2.2=1:=by
 refine⟨?_,?_,rfl⟩
 ·cases lo with
  |none=>simp[sliceBounds,HT.sIx]
  |some i=>
   simp only[sliceBounds,HT.sIx,Option.getD_none,show (1:Int)>0 by decide,if_true]
   by_cases h:i<0
   ·simp only[h,if_true]<;>omega
   ·simp only[h,if_false]<;>omega
 ·cases hi with
  |none=>simp[sliceBounds,HT.sIx]
  |some i=>
   simp only[sliceBounds,HT.sIx,Option.getD_none,show (1:Int)>0 by decide,if_true]
   by_cases h:i<0
   ·simp only[h,if_true]<;>omega
   ·simp only[h,if_false]<;>omega
theorem jV(its:List Value)(lo hi:Option Int):slicePick its.toArray lo hi none=((its.drop (HT.sIx its.length 0 lo)).take (HT.sIx its.length its.length hi-HT.sIx its.length 0 lo)).toArray:=by
 obtain⟨h1,h2,h3⟩:=lb lo hi its.toArray.size;unfold slicePick;rw[h1,h2,h3];simp only[sliceRange_one,pick_run,List.size_toArray]<;>rfl
noncomputable def yK(K:W.Frag):V->Option Int->Option Int->Hp->VK->Prop:=fun x lo hi H Q=>∃a xs,x=.ref a/\SqL K H a xs/\∀p,H p=none->Q (.ref p) (upd H p (.lst (gU xs lo hi)))
theorem vd:SlR X (yK X.K):=by
 intro pins s σ H x v vl vu lo hi sl Q I rx hs pl pu h;obtain⟨a,xs,rfl,hx,q⟩:=h;cases rx;obtain⟨its,r,ht,hz⟩:=I.list hx;have hlen:=r.length;refine⟨"list",_,slot_list_getitem.lookup,ht.isList.typeIs,?_⟩;refine wpAny_getItem_list_slice ht.isList hs pl pu .none (by simp) ?_ (by rw[List.size_toArray]<;>omega)
 rw[jV,←hlen]
 refine⟨.ref s.heap.objs.size,_,I.laid (t':=s.toks) (o:=.lst (gU xs lo hi)) (fun b ob q=>Heap.get?_push_of_some _ q) (Nat.le_refl _) ?_,rfl,q _ (I.hok.fresh (Nat.le_refl _))⟩;exact⟨Nat.le_trans (ig xs lo hi) hz,_,0,(r.drop (HT.sIx xs.length 0 lo)).take (HT.sIx xs.length xs.length hi-HT.sIx xs.length 0 lo),Heap.get?_push_size _ rfl⟩
noncomputable def tyV(K:W.Frag)(T:String)(x:V)(H:Hp):Prop:=match x with
 |.str _=>T="str"
 |.int _=>T="int"
 |.ref p=>(T="list"/\∃xs,SqL K H p xs)\/(T="tuple"/\∃o,K.lookup p=some o/\o.cls=.type "tuple"/\o.dict=none) \/
   (T="dict"/\((∃kvs,H p=some (.dK kvs))\/∃kvs,H p=some (.dT kvs)))\/(T="set"/\∃S n,H p=some (.set S n))
 |_=>False
theorem tE{pins:List (Addr×Obj)}{σ:St}{H:Hp}{s:Shared}{T:String}{x:V}{v:Value}(I:Inv X pins σ H s)(r:aM x v)(ty:tyV X.K T x H):
  s.TypeIs v T/\∀a,v=.ref a->∃ob,s.heap.get? a=some ob/\ob.dict=none:=by
 cases x with
 |str z=>
  obtain⟨t,rfl⟩:=r;cases (show T="str" from ty)
  exact⟨typeIs_str s z t,fun _ e=>nomatch e⟩
 |int i=>
  obtain⟨t,rfl⟩:=r;cases (show T="int" from ty)
  exact⟨typeIs_int s i t,fun _ e=>nomatch e⟩
 |ref p=>
  cases r;rcases ty with⟨rfl,xs,hq⟩|⟨rfl,o,hk,hc,hd⟩|⟨rfl,hk⟩|⟨rfl,S,n,hk⟩
  ·obtain⟨its,_,pl,_⟩:=I.list hq
   refine⟨pl.isList.typeIs,fun a e=>?_⟩;cases e;obtain⟨o,n,e,c,hd,_⟩:=pl;exact⟨o,e,hd⟩
  ·refine⟨⟨o,I.kIn p o hk,hc⟩,fun a e=>?_⟩
   cases e;exact⟨o,I.kIn _ o hk,hd⟩
  ·have z:∃o,s.heap.get? p=some o/\o.ExactDict:=by
    rcases hk with⟨kvs,hk⟩|⟨kvs,hk⟩
    ·obtain⟨_,_,_,_,o,_,_,e,ex,_⟩:=I.hok p _ hk
     exact⟨o,e,ex⟩
    ·obtain⟨_,_,_,_,o,_,_,e,ex,_⟩:=I.hok p _ hk
     exact⟨o,e,ex⟩
   obtain⟨o,e,ex⟩:=z;refine⟨⟨o,e,ex.1⟩,fun a e2=>?_⟩;cases e2;exact⟨o,e,ex.2.1⟩
  ·obtain⟨o,_,_,_,e,ex,_⟩:=I.hok p _ hk
   refine⟨⟨o,e,ex.1⟩,fun a e2=>?_⟩;cases e2;exact⟨o,e,ex.2.1⟩
 |_=>exact False.elim ty
noncomputable def Aa(K:W.Frag)(T:String)(r:V->List V->Hp->VK->Prop)(to:TE):TE:=fun σ H Q=>to σ H fun x H1=>tyV K T x H1/\r x [] H1 Q
noncomputable def tBM(K:W.Frag)(T:String)(r:V->List V->Hp->VK->Prop)(to:TE)(t:TA):TE:=fun σ H Q=>to σ H fun x H1=>tyV K T x H1/\t σ H1 fun xs H2=>r x xs H2 Q
variable{o e:Expr}{es:List Expr}{to:TE}{t:TA}{name:Str}{apos cpos:Pos}{T id:String}{r:V->List V->Hp->VK->Prop}
theorem iU(pa:PlainAttrs T)(slot:Slot T name id)(hty:typeOf (.builtin id)=pure (.type "method_descriptor"))(hm:MtR X id r)(ho:PE X o to)(hbase:attributeBase o name X.env (eval o X.env)=eval o X.env:=by rfl)(hline:(apos.endLine == cpos.line)=true:=by rfl):PE X (.Call (.Attribute o name apos) [] [] cpos) (Aa X.K T r to):=.mk <| by
 intro pins s σ H Q I h;refine wpAny_Call_method0_late hbase hline (thn (ho pins s σ H _ I h) fun v s1 ⟨x,H1,I1,r1,ty,q1⟩=>?_);obtain⟨h1,h2⟩:=tE I1 r1 ty;exact⟨T,id,pa,slot,hty,h1,h2,Calls.callWith_builtin rfl (PySem.evalArgs_none (hm pins s1 σ H1 x [] v [] Q I1 r1 .nil q1))⟩
theorem j8(pa:PlainAttrs T)(slot:Slot T name id)(hty:typeOf (.builtin id)=pure (.type "method_descriptor"))(hm:MtR X id r)(ho:PE X o to)(ha:PA X (e::es) t)(hbase:attributeBase o name X.env (eval o X.env)=eval o X.env:=by rfl)
  (hfew:((backTo cpos (starEach (e::es) X.env)).all (fun x=>!x.1) && (backToKw cpos (keywordEach [] X.env)).all (fun x=>x.1.isSome)
   && decide ((e::es).length+([]:List Keyword).length+(if ([]:List Keyword).isEmpty then 0 else 1)<30))=true:=by rfl)
  (hline:(apos.endLine == cpos.line)=true:=by rfl) (hs:starEach (e::es) X.env=(false,eval e X.env)::starEach es X.env:=by rfl) (hplain:(backTo cpos (starEach es X.env)).any (·.1)=false:=by rfl) :
  PE X (.Call (.Attribute o name apos) (e::es) [] cpos) (tBM X.K T r to t):=.mk <| by
 intro pins s σ H Q I h;refine wpAny_Call_method_late hbase hfew hline rfl (thn (ho pins s σ H _ I h) fun v s1 ⟨x,H1,I1,r1,ty,q1⟩=>?_);obtain⟨h1,h2⟩:=tE I1 r1 ty;refine⟨T,id,pa,slot,hty,h1,h2,?_⟩;have hA:=ha cpos pins s1 σ H1 _ I1 q1;rw[hs] at hA ⊢;refine Calls.callWith_builtin (by show (false || (backTo cpos (starEach es X.env)).any (·.1))=false;rw[hplain]<;>rfl) (Calls.evalArgs_plain ?_)
 exact thn hA fun us s2 ⟨vs,H2,I2,r2,q2⟩=>hm pins s2 σ H2 x vs v us Q I2 r1 r2 q2
end
noncomputable def MtM(X:Cx)(id:String)(r:V->List V->Hp->VK->Prop):Prop:=
 ∀(pins:List (Addr×Obj)) (s:Shared) (σ:St) (H:Hp) (x:V) (xs:List V) (v:Value) (us:List Value) (Q:VK),Inv X pins σ H s->aM x v->au xs us->r x xs H Q ->
  wpAny (model X.prog X.w) X.A (call (.builtin id) (v::us)) (EP X pins σ Q) X.xe s
theorem au.one:∀ {x:V} {us:List Value},au [x] us->∃u,us=[u]/\aM x u
 |_,_,.cons r .nil=>⟨_,rfl,r⟩
theorem au.two:∀ {x y:V} {us:List Value},au [x,y] us->∃u v,us=[u,v]/\aM x u/\aM y v
 |_,_,_,.cons r (.cons q .nil)=>⟨_,_,rfl,r,q⟩
theorem au.zero:∀ {us:List Value},au [] us->us=[]
 |_,.nil=>rfl
theorem au.dropLast{xs:List V}{us:List Value}(h:au xs us):au xs.dropLast us.dropLast:=by
 induction h with
 |nil=>exact .nil
 |cons r t ih=>
  cases t with
  |nil=>exact .nil
  |cons q t'=>exact .cons r ih
theorem au.rep{xs:List V}{us:List Value}(h:au xs us):∀k:Nat,au (List.replicate k xs).flatten (List.replicate k us).flatten
 |0=>.nil
 |k+1=>by
  rw[List.replicate_succ,List.replicate_succ,List.flatten_cons,List.flatten_cons];exact au.append h (au.rep h k)
theorem nC{α:Type}(l:List α):l.eraseIdx (l.length-1)=l.dropLast:=by
 induction l with
 |nil=>rfl
 |cons a r ih=>
  cases r with
  |nil=>rfl
  |cons b r=>
   have e:(a::b::r).length-1=((b::r).length-1)+1:=by
    have h1:(a::b::r).length=r.length+2:=rfl;have h2:(b::r).length=r.length+1:=rfl;omega
   rw[e,List.eraseIdx_cons_succ,ih]
   all_goals rfl
theorem kQ(its:List Value):∀(k:Nat)(acc:List Value),
  List.foldl (fun x1 x2=>x1++x2) acc.toArray (List.replicate k its.toArray)=(acc++(List.replicate k its).flatten).toArray
 |0,acc=>by simp
 |k+1,acc=>by
  have e:acc.toArray++its.toArray=(acc++its).toArray:=by simp
  have e2:(acc++its)++(List.replicate k its).flatten=acc++(List.replicate (k+1) its).flatten:=by
   rw[List.replicate_succ,List.flatten_cons,List.append_assoc]
  rw[←e2,←kQ its k (acc++its),←e,List.replicate_succ,List.foldl_cons]
section
variable{X:Cx}{pins:List (Addr×Obj)}{σ:St}{H:Hp}{s:Shared}{l b:Addr}{xs ys zs:List V}
theorem Inv.lset{its its':List Value}{n:Nat}{f:Array Value->Array Value}{t':Nat}(I:Inv X pins σ H s)(hH:H l=some (.lst xs))(e:s.heap.get? l=some { cls:=.type "list",data:=.seq its.toArray n })(hf:f its.toArray=its'.toArray)(hv:au ys its')(hz:ys.length<=sizeLine):
  Inv X pins σ (upd H l (.lst ys)) { s with heap:=s.heap.update l (Obj.mapSeq f),toks:=t' }:=by
 have q:=PySem.IsL.update e f;rw[hf] at q;refine I.write (x:=l) (e:=l) (by rw[hH];exact trivial) (.inl rfl) (fun b' u hb hu=>(Heap.get?_update_other s.heap (Obj.mapSeq f) (Ne.symm hb)).trans hu) ⟨_,q⟩ ?_
 exact⟨hz,its',_,hv,q⟩
theorem Inv.lnew{its:List Value}{t':Nat}(I:Inv X pins σ H s)(hv:au ys its)(hz:ys.length<=sizeLine):
  Inv X pins σ (upd H s.heap.objs.size (.lst ys)) { s with heap:=s.heap.push { cls:=.type "list",data:=.seq its.toArray },toks:=t' }:=
 I.laid (fun _ _ q=>Heap.get?_push_of_some _ q) (Nat.le_refl _) ⟨hz,its,0,hv,Heap.get?_push_size _ rfl⟩
theorem Inv.fresh(I:Inv X pins σ H s):H s.heap.objs.size=none:=I.hok.fresh (Nat.le_refl _)
theorem Inv.Bf(I:Inv X pins σ H s)(hH:H l=some (.lst xs)):xs.length<=sizeLine/\∃(its:List Value)(n:Nat),au xs its/\xs.length=its.length/\s.heap.get? l=some { cls:=.type "list",data:=.seq its.toArray n }:=by
 obtain⟨z,its,n,r,e⟩:=I.hok l _ hH;exact⟨z,its,n,r,r.length,e⟩
theorem mo{n:Nat}(h:n<=sizeLine):Builtin.List.listTooLong n=false:=by
 unfold Builtin.List.listTooLong;exact decide_eq_false (by omega)
end
section
variable{X:Cx}
noncomputable def lp:V->List V->Hp->VK->Prop:=fun x vs H Q=>∃l xs y,x=.ref l/\vs=[y]/\H l=some (.lst xs)/\xs.length<sizeLine/\Q .non (upd H l (.lst (xs++[y])))
theorem dY:MtM X "list.append" lp:=by
 intro pins s σ H x vs v us Q I rx rv h;obtain⟨l,xs,y,rfl,rfl,hH,hz,q⟩:=h;cases rx;obtain⟨u,rfl,ru⟩:=rv.one;obtain⟨z,its,n,r,hl,e⟩:=I.Bf hH;refine call_meets F.slot_list_append ⟨_,e,rfl⟩ F.entry_list_append (F.args_list_append_2 _ _) (PySem.list_append l its.toArray n u (by rw[List.size_toArray];omega)) ⟨e,?_⟩
 refine⟨.non,_,I.lset (its':=its++[u]) hH e (by simp) (r.append (.cons ru .nil)) ?_,rfl,q⟩
 rw[List.length_append,List.length_singleton];omega
noncomputable def zR:V->List V->Hp->VK->Prop:=fun x vs H Q=>∃l xs y,x=.ref l/\vs=[]/\H l=some (.lst xs)/\xs[xs.length-1]?=some y/\Q y (upd H l (.lst xs.dropLast))
theorem jG:MtM X "list.pop" zR:=by
 intro pins s σ H x vs v us Q I rx rv h;obtain⟨l,xs,y,rfl,rfl,hH,hy,q⟩:=h;cases rx;have hus:=rv.zero;subst hus;obtain⟨z,its,n,r,hl,e⟩:=I.Bf hH;obtain⟨u,hu,ru⟩:=r.get hy
 have hy':its.toArray[its.toArray.size-1]?=some u:=by
  show its.toArray[its.length-1]?=some u;rw[←Array.getElem?_toList,←hl]
  exact hu
 refine call_meets F.slot_list_pop ⟨_,e,rfl⟩ F.entry_list_pop (F.args_list_pop_1 _) (MeetsSeq.list_pop_last l its.toArray n u hy' (by rw[List.size_toArray];omega)) ⟨e,?_⟩
 refine⟨y,_,I.lset (its':=its.dropLast) hH e ?_ r.dropLast ?_,ru,q⟩
 ·show its.toArray.eraseIdxIfInBounds (its.toArray.size-1)=its.dropLast.toArray
  rw[List.size_toArray,List.eraseIdxIfInBounds_toArray,nC]
 ·rw[List.length_dropLast]
  omega
noncomputable def nV:R2:=fun x y H Q=>∃l b xs zs,x=.ref l/\y=.ref b/\H l=some (.lst xs)/\H b=some (.lst zs)/\xs.length+zs.length<=sizeLine/\∀p,H p=none->Q (.ref p) (upd H p (.lst (xs++zs)))
theorem cG:OpR X (binaryOp .Add) nV:=by
 intro pins s σ H x y v u Q I rx ry h;obtain⟨l,b,xs,zs,rfl,rfl,hH,hB,hz,q⟩:=h;cases rx;cases ry;obtain⟨z,its,n,r,hl,e⟩:=I.Bf hH;obtain⟨z2,its2,n2,r2,hl2,e2⟩:=I.Bf hB;refine PySem.P.add_list e e2 ?_ (by rw[List.size_toArray,List.size_toArray];omega)
 have ea:its.toArray++its2.toArray=(its++its2).toArray:=by simp
 rw[ea];exact⟨.ref _,_,I.lnew (t':=s.toks) (r.append r2) (by rw[List.length_append];omega),rfl,q _ I.fresh⟩
noncomputable def vo:R2:=fun x y H Q=>∃l k xs,x=.ref l/\y=.int k/\H l=some (.lst xs)/\-(2^63)<=k/\k<2^63/\xs.length*k.toNat<=sizeLine /\
 ∀p,H p=none->Q (.ref p) (upd H p (.lst (List.replicate k.toNat xs).flatten))
theorem vA{α:Type}(xs:List α)(k:Nat):(List.replicate k xs).flatten.length=k*xs.length:=by
 induction k with
 |zero=>simp
 |succ k ih=>rw[List.replicate_succ,List.flatten_cons,List.length_append,ih,Nat.succ_mul,Nat.add_comm]
theorem fM:OpR X (binaryOp .Mult) vo:=by
 intro pins s σ H x y v u Q I rx ry h;obtain⟨l,k,xs,rfl,rfl,hH,h1,h2,hz,q⟩:=h;cases rx;obtain⟨t,rfl⟩:=ry;obtain⟨z,its,n,r,hl,e⟩:=I.Bf hH;have hlen:its.toArray.size*k.toNat<=sizeLine:=by rw[List.size_toArray,←hl];exact hz
 have hcap:¬ its.toArray.size*k.toNat>(2^63-1) / 8:=by
  have:(sizeLine:Nat)<=(2^63-1) / 8:=by decide
  omega
 have hfit:¬ (!Builtin.List.listFitsIndex k)=true:=by
  rw[fitsIndex_both h1 h2];exact Bool.false_ne_true
 have hlong:¬ Builtin.List.listTooLong (its.toArray.size*k.toNat)=true:=by
  rw[mo hlen];exact Bool.false_ne_true
 have hnew:List.foldl (fun x1 x2=>x1++x2) #[] (List.replicate (if its.toArray.isEmpty=true then 0 else k.toNat) its.toArray)=(List.replicate k.toNat its).flatten.toArray:=by
  have f0:∀m:Nat,List.foldl (fun x1 x2=>x1++x2) #[] (List.replicate m its.toArray)=(List.replicate m its).flatten.toArray:=fun m=>by
   have:=kQ its m [];rw[List.nil_append] at this;exact this
  rw[f0]
  cases its with
  |nil=>simp
  |cons a r'=>rw[if_neg (by simp)]
 refine wpAny_binaryOp_repeat_ref (T:="list") (U:="int") (by decide) ⟨_,e,rfl⟩ (fun s'=>typeIs_int s' k t) noFill_list_mul F.fills_int_mul F.slot_int_rmul repeat_list F.slot_int_index.lookup
  (call_meets F.slot_int_rmul (typeIs_int s k t) F.entry_int_rmul (F.args_int_rmul_2 _ _) (int___rmul___int_list k t l its.toArray n)
   ⟨e,rfl,⟨_,e,rfl⟩,call_meets F.slot_list_mul ⟨_,e,rfl⟩ F.entry_list_mul (F.args_list_mul_2 _ _) (AutoListH.list___mul___list_int_3 l its.toArray n k t hfit hcap hlong) ⟨e,?_⟩⟩)
 rw[hnew];exact⟨.ref _,_,I.lnew (t':=s.toks) (r.rep k.toNat) (by rw[vA,Nat.mul_comm];exact hz),rfl,q _ I.fresh⟩
end
section
variable{prog:Program}{w:World}{A:Around}{E:Value->Shared->Prop}{s:Shared}
set_option maxRecDepth 100000 in
end
section
variable{X:Cx}{pins:List (Addr×Obj)}{σ:St}{H:Hp}{s:Shared}{a:Addr}{y v:V}{u r:Value}{o:Option V}{A:Around}{E:Value->Shared->Prop}
theorem Inv.big(I:Inv X pins σ H s):sysModules<s.heap.objs.size:=by
 have h:mainGlobals<s.heap.objs.size:=(I.mod.glob.keeps I.bk).lt;exact Nat.lt_trans (by decide) h
end
noncomputable def yI(i:Expr):Prop:=∀ov iv,subscripted i false ov iv=operate [ov,iv] (getItem ov iv)
theorem ve{prog:Program}{w:World}{A:Around}{E:Value->Shared->Prop}{s:Shared}{env:Env}{value slice:Expr}{pos:Pos}{T id:String}{Q:Value->Shared->Prop}(hl:typeLookup (.type T) "__getitem__"=pure (some (.builtin id)))(hs:yI slice)(h:wpAny (model prog w) A (eval value env) (fun o s₁=>wpAny (model prog w) A (eval slice env) (fun i s₂=>s₂.TypeIs o T/\wpAny (model prog w) A (getItem o i) Q E s₂) E s₁) E s):
  wpAny (model prog w) A (eval (.Subscript value slice pos) env) Q E s:=by
 refine Subscript_ (wpAny_mono h (fun o s₁ h₁=>wpAny_mono h₁ (fun i s₂ h₂=>?_) fun _ _ x=>x) fun _ _ x=>x);obtain⟨hT,h₂⟩:=h₂;unfold subscriptTail;refine wpAny_bind ?_;rw[getitemInPython_of_ne hT.not_modules];refine wpAny_bind (wpAny_specialOf hT hl ?_)
 have fin:wpAny (model prog w) A (subscripted slice false o i) (fun r s₃=>wpAny (model prog w) A (letTemporaryGo value o r >>= fun _=>pure r) Q E s₃) E s₂:=by
  rw[hs o i];exact wpAny_operating (wpAny_mono h₂ (fun r s₃ h₃=>wpAny_bind (wpAny_letTemporaryGo (wpAny_pure h₃))) fun _ _ x=>x)
 first
  |exact wpAny_pure (wpAny_bind fin)
  |exact wpAny_bind (wpAny_pure (wpAny_bind fin))
  |exact wpAny_bind fin
theorem su{P:Program}{w:World}{H:Hp}(h:Heap)(hb:sysModules<h.objs.size):bQ P w H (h.push { cls:=.type "dict",data:=.dict #[] }) h.objs.size (.dK []):=
 ⟨Nat.zero_le _,beq_eq_false_iff_ne.mpr (Ne.symm (Nat.ne_of_lt hb)),[],.nil,Heap.DictOf.new h⟩
noncomputable def tz:TE:=fun _ H Q=>∀p,H p=none->Q (.ref p) (upd H p (.dK []))
section
variable{X:Cx}{pos:Pos}
theorem tP:PE X (.Dict [] [] pos) tz:=.mk <| fun pins s σ H Q I h=>
 wpAny_Dict_empty ⟨.ref s.heap.objs.size,_,I.laid (a:=s.heap.objs.size) (o:=.dK []) (t':=s.toks) (fun _ _ q=>Heap.get?_push_of_some _ q) (Nat.le_refl _) (su s.heap I.big),rfl,h _ (I.hok.fresh (Nat.le_refl _))⟩
end
structure M1(X:Cx)(o:Expr)(m:Str)(apos:Pos)(e:Expr)(cpos:Pos):Prop where
 base:attributeBase o m X.env (eval o X.env)=eval o X.env
 few:((backTo cpos (starEach [e] X.env)).all (fun x=>!x.1) && (backToKw cpos (keywordEach [] X.env)).all (fun x=>x.1.isSome)
  && decide (([e]:List Expr).length+([]:List Keyword).length+(if ([]:List Keyword).isEmpty then 0 else 1)<30))=true
 line:(apos.endLine == cpos.line)=true
 trees:backTo cpos (starEach [e] X.env)=[(false,eval e X.env)]
structure M2(X:Cx)(o:Expr)(m:Str)(apos:Pos)(e f:Expr)(cpos:Pos):Prop where
 base:attributeBase o m X.env (eval o X.env)=eval o X.env
 few:((backTo cpos (starEach [e,f] X.env)).all (fun x=>!x.1) && (backToKw cpos (keywordEach [] X.env)).all (fun x=>x.1.isSome)
  && decide (([e,f]:List Expr).length+([]:List Keyword).length+(if ([]:List Keyword).isEmpty then 0 else 1)<30))=true
 line:(apos.endLine == cpos.line)=true
 trees:backTo cpos (starEach [e,f] X.env)=[(false,eval e X.env),(false,eval f X.env)]
end L2
namespace Att
open PySem PySem.W PySem.Calls PyProof.Rows
theorem iA{P:Params}{h:Heap}:∀(ns:List Int)(vs:List Value),WellAll P h vs (ns.map WData.int)->IntsAre vs ns:=by
 intro ns
 induction ns with
 |nil=>
  intro vs w;rw[List.map_nil] at w;cases w;exact .nil
 |cons n ns ih=>
  intro vs w;rw[List.map_cons] at w
  cases w with
  |cons a b=>
   cases a;exact .cons _ _ (ih _ b)
theorem qG{l:OpenLaw}{n:Nat}(hn:l.most=some n){P:Params}{h:Heap}{args:List WData}{vals:List Value}(hpre:l.row.toRowW.claim.pre args=true)(hwl:WellAll P h vals args):
  ∃a vs ns,vals=[Value.ref a]/\args=[WData.list (ns.map WData.int)]/\h.get? a=some { cls:=.type "list",data:=.seq vs.toArray }/\IntsAre vs ns/\ns.length<=n:=by
 have hsh:WShape.hasAll [] args [.list .int]=true:=(pre_splitW hpre).1;have hc:l.pre.holds [] { args:=args }=true:=(pre_splitW hpre).2;obtain⟨d,r,rfl,h1,h2⟩:=hasAllW_cons hsh;obtain rfl:=hasAllW_nil h2;obtain⟨xs,rfl,h3⟩:=hasW_list h1;obtain⟨ns,rfl⟩:=items_int h3
 have hlen:ns.length<=n:=by
  unfold OpenLaw.pre at hc
  have h4:(WTm.not (.lt (.lit (.int (n:Int))) (.len (.arg 0)))).holds [] { args:=[.list (ns.map .int)] }=true:=by
   have h4:=(holds_andW hc).1;rw[hn] at h4;exact h4
  have h5:=condW_of h4 (w_not (w_lt w_lit (w_len_list (w_arg rfl))));rw[List.length_map] at h5;refine Nat.le_of_not_lt fun q=>?_;have q':(n:Int)<((ns.length:Nat):Int):=by omega
  first
   |(rw[decide_eq_true q'] at h5;exact absurd h5 (by decide))
   |(simp at h5;omega)
 cases hwl with
 |cons w1 w2=>
  cases w2
  cases w1 with
  |list ho hall=>exact⟨_,_,ns,rfl,rfl,ho,iA ns _ hall,hlen⟩
theorem qJ(l:OpenLaw)(args:List WData):l.row.toRowW.claim.post args (.bool true) args=true:=
 postW_of (r:=l.row.toRowW) (X:=(true == true))
  (show WShape.has [] (.bool true) .bool=true by first|rfl|decide|simp[WShape.has,WShape.arms,WShape.armsAll])
  (show (WTm.eq .res (.lit (.bool true))).value [] { args:=args,res:=some (.bool true),after:=args }=some (.bool (true == true)) from w_eq_bool (w_res rfl) w_lit) rfl
theorem lK{l:OpenLaw}{n:Nat}{q:Program}{loose:List Str}{XP:(Str->Option Value)->Heap->Prop}{YP:World->Heap->Prop}{d:DefRec}(hn:l.most=some n)(hdf:d.params.defaults=[])
  (call:∀(w:World)(s₀ s₁:Shared)(mg mb:Str->Option Value)(fa:Addr)(o:Obj)(pm cd doc:Value)(a:Addr)(vs:List Value)(ns:List Int),
   Ground q loose [] XP w s₀ mg mb s₁.heap->YP w s₁.heap ->
   s₁.heap.get? fa=some o->o.data=.func (docDef d.name d.params d.body d.scope pm cd doc)->s₁.heap.CodeRec cd d.name->mg d.name=some (.ref fa) ->
   s₁.heap.get? a=some { cls:=.type "list",data:=.seq vs.toArray }->IntsAre vs ns->ns.length<=n->s₁.gens=#[] ->
   codeAny (model l.prog w) callerA (.call (.ref fa) ⟨[.ref a],[]⟩) (fun r s'=>r=.ok (.ret (.bool true))/\OldK s₁.heap s'.heap/\s'.os=s₁.os/\AllBare s'.gens) s₁) :
  WalkO q loose XP YP l.row.toRowW d [] (fun f vs=>PySem.call f vs):=by
 intro w s₀ s₁ mg mb G Y fa o pm cd doc dV kV ho hd hcd hD hmg hg args vals as hpre hlay hrd hwl hlo;obtain rfl:dV=.none:=Dflts.none hD hdf;obtain rfl:kV=.none:=Dflts.noKw hD;obtain⟨a,vs,ns,rfl,rfl,hobj,hints,hlen⟩:=qG hn hpre hwl;refine enter_call (codeAny_mono (call w s₀ s₁ mg mb fa o pm cd doc a vs ns G Y ho (fd_plain hd) hcd hmg hobj hints hlen hg) fun r s' hq=>?_);obtain⟨rfl,h2,h3,h4⟩:=hq
 exact⟨.inl ⟨.bool true,.bool true,[],rfl,fun _=>rfl,.bool true,qJ l _,fun _=>⟨List.Pairwise.nil,fun _ hm=>(nomatch hm)⟩⟩,h2,h3,h4⟩
end Att
namespace L2
open PySem PySem.Spec PyProof.Rows
theorem kh:∀ {vs:List Value} {ns:List Int},IntsAre vs ns->au (ns.map V.int) vs
 |_,_,.nil=>.nil
 |_,_,.cons n t h=>.cons ⟨t,rfl⟩ (kh h)
noncomputable def zf(_:Hp):Prop:=True
noncomputable abbrev KOf{K:W.Frag}{h:Heap}(_:K.In h):W.Frag:=K
noncomputable def defArgs(s:Stmt):Arguments:=match s with
 |.FunctionDef _ a _ _ _ _ _ _ _ _=>a
 |_=>{ posonlyargs:=[],args:=[],vararg:=none,kwonlyargs:=[],kw_defaults:=[],kwarg:=none,defaults:=[] }
noncomputable def defBody(s:Stmt):List Stmt:=match s with
 |.FunctionDef _ _ b _ _ _ _ _ _ _=>b
 |_=>[]
noncomputable def defScope(s:Stmt):Scope:=match s with
 |.FunctionDef _ _ _ _ _ _ sc _ _ _=>sc
 |_=>{ kind:=.function,names:=[],isGenerator:=false,isCoroutine:=false }
noncomputable abbrev CX0:CXT:=fun _ _ _ _ _ _=>False
noncomputable abbrev E0:XK:=fun _ _ _=>False
theorem bP{X:Cx}:lc CX0 X E0:=fun _ _ _ _ _ _ _ h=>h.elim
structure Fun(K:W.Frag)(x qual:Str)(st:Stmt)(f:Addr)(fd:FuncData):Prop where
 ex:∃(oc:Value)(od:Option Addr)(kV doc pm:Value)(an:Option Addr)(cdv ct:Value) (osl:Array (Option Value)),
  fd=W.fnOf x qual (defArgs st) (defBody st) (defScope st) .none kV doc pm an cdv ct/\K.lookup f=some ⟨oc,od,.func fd,osl⟩/\W.codeIn K cdv qual=true
 kp:W.keepIn K (.ref f)=true
section
variable{P:Program}{w:World}{K:W.Frag}{mg:Str->Option Value}{base:Heap}
theorem Fun.ok{x qual:Str}{st:Stmt}{f:Addr}{fd:FuncData}{N ps:List Str}{k:Nat}{sp:Sp}(F:Fun K x qual st f fd)(S:aK N ps (defScope st))(len:∀vs H Q E,sp vs H Q E->vs.length=ps.length)
  (hbody:∀(cdv:Value)(A:Around)(outer:List Env)(s:Shared)(H:Hp)(vs:List V)(Q:VK)(E:XK),ci k (A.deeper (envOfC qual (defScope st) s.heap.objs.size f cdv))->sp vs H Q E ->
   ∃t,PSs (d9 CX0 P w K mg base N qual (defScope st) f cdv A outer s H E).nox (defBody st) t/\t { nx:=fun _ H'=>Q .non H',rt:=Q } (start N vs) H):aY P w K mg base CX0 (k+1) f fd ps sp:=by
 obtain⟨oc,od,kV,doc,pm,an,cdv,ct,osl,rfl,lk,hcd⟩:=F.ex;refine tV lk hcd S len fun A outer s H vs Q E hr hsp=>?_;obtain⟨t,h,q⟩:=hbody cdv A outer s H vs Q E hr hsp;exact⟨t,h.nox,q⟩
theorem Fun.binds{x qual:Str}{st:Stmt}{f:Addr}{fd:FuncData}{ps:List Str}(F:Fun K x qual st f fd)(h:∀(kV doc pm:Value)(an:Option Addr)(cdv ct:Value)(us:List Value),us.length=ps.length->bindArgs (W.fnOf x qual (defArgs st) (defBody st) (defScope st) .none kV doc pm an cdv ct) ⟨us,[]⟩=pure (ps.zip us)):bt K fd ps []:=by
 obtain⟨oc,od,kV,doc,pm,an,cdv,ct,osl,rfl,lk,hcd⟩:=F.ex;exact .all (h kV doc pm an cdv ct)
theorem nT{x qual:Str}{st:Stmt}{f:Addr}{oc:Value}{od an:Option Addr}{osl:Array (Option Value)}{kV doc pm cdv ct:Value}(l:K.lookup f=some ⟨oc,od,.func (W.fnOf x qual (defArgs st) (defBody st) (defScope st) .none kV doc pm an cdv ct),osl⟩)(c:W.codeIn K cdv qual=true)(k:W.keepIn K (.ref f)=true):Fun K x qual st f (W.fnOf x qual (defArgs st) (defBody st) (defScope st) .none kV doc pm an cdv ct):=⟨⟨oc,od,kV,doc,pm,an,cdv,ct,osl,rfl,l,c⟩,k⟩
end
theorem qi{n:Nat}(h:n<=1000):n<sizeLine:=Nat.lt_of_le_of_lt h (by decide)
section
variable{X:Cx}
theorem pv(i:Nat){x:Str}{pos:Pos}(hN:X.N[i]?=some x:=by rfl)(hv:Vis X.env.scope x:=by first|exact Or.inl rfl|exact Or.inr (Or.inl rfl)|exact Or.inr (Or.inr rfl))(hd:(x == ("__debug__":Str))=false:=by decide)(hcd:(x == ("__classdict__":Str))=false:=by decide):PE X (.Name x pos) (uH i):=nW hN hv hd hcd
end
theorem mE{c A B:Prop}[Decidable c](h1:c->A)(h2:¬ c->B):if c then A else B:=by
 by_cases h:c
 ·rw[if_pos h]
  exact h1 h
 ·rw[if_neg h]
  exact h2 h
noncomputable def cZ(H H':Hp):Prop:=∀b o,H b=some o->H' b=some o
theorem cZ.refl(H:Hp):cZ H H:=fun _ _ h=>h
theorem cZ.trans{H H1 H2:Hp}(a:cZ H H1)(b:cZ H1 H2):cZ H H2:=fun c o h=>b c o (a c o h)
end L2
set_option maxHeartbeats 1000000
namespace L2
open PySem PySem.Spec PyProof.Rows
noncomputable abbrev TL:=Addr->St->Hp->(St->Hp->Prop)->Prop
section
variable{X:Cx}
noncomputable def eN(H:Hp):V->Option String
 |.non=>some "NoneType"
 |.bl _=>some "bool"
 |.int _=>some "int"
 |.str _=>some "str"
 |.ref a=>match H a with
  |some (.lst _)=>some "list"
  |some (.tup _)=>some "tuple"
  |some (.dK _)=>some "dict"
  |some (.dT _)=>some "dict"
  |some (.frz _ (.lst _))=>some "list"
  |_=>none
 |_=>none
noncomputable def isA(H:Hp)(x:V)(T:String):Bool:=match eN H x with
 |some t=>t == T || (t == "bool" && T == "int")
 |none=>false
theorem qF{K:W.Frag}{H:Hp}{x:V}{t:String}(h:eN H x=some t):gY K H x (.type t):=by
 cases x with
 |non=>cases h;exact .non
 |bl b=>cases h;exact .bl b
 |int i=>cases h;exact .int i
 |str z=>cases h;exact .str z
 |byt b=>cases h
 |flt b=>cases h
 |ty n=>cases h
 |ref a=>
  unfold eN at h;dsimp only at h;split at h
  ·rename_i e;cases h;exact .lst e
  ·rename_i e;cases h;exact .tup e
  ·rename_i e;cases h;exact .dK e
  ·rename_i e;cases h;exact .dT e
  ·rename_i e;cases h;exact .frz e
  ·cases h
noncomputable def io:List String:=["NoneType","bool","int","str","list","tuple","dict"]
theorem m9{H:Hp}{x:V}{t:String}(h:eN H x=some t):t∈io:=by
 cases x with
 |non=>cases h;decide
 |bl b=>cases h;decide
 |int i=>cases h;decide
 |str z=>cases h;decide
 |byt b=>cases h
 |flt b=>cases h
 |ty n=>cases h
 |ref a=>
  unfold eN at h;dsimp only at h;split at h<;>first|(cases h;decide)|cases h
theorem xc(K:W.Frag){t T:String}(ht:t∈io)(hT:T∈io):W.kitOne K (.type t) (.type T)=some (t == T || (t == "bool" && T == "int")):=by
 simp only[io,List.mem_cons,List.not_mem_nil,or_false] at ht hT;rcases ht with rfl|rfl|rfl|rfl|rfl|rfl|rfl<;>rcases hT with rfl|rfl|rfl|rfl|rfl|rfl|rfl<;>with_unfolding_all rfl
theorem tI:dN X (.builtin "isinstance") (fun xs H Q=>∃x T,xs=[x,.ty T]/\T∈io/\(eN H x).isSome=true/\Q (.bl (isA H x T)) H):=by
 intro pins s σ H xs us Q I r h;obtain⟨x,T,rfl,hT,hs,q⟩:=h;obtain⟨u,w',rfl,rx,rT⟩:=zh r;cases (show w'=Value.type T from rT)
 obtain⟨t,ht⟩:=Option.isSome_iff_exists.mp hs;refine qp I rx (qF ht) (xc X.K (m9 ht) hT) fun tk=>⟨.bl (isA H x T),H,I.tok tk,?_,q⟩;show _=Value.bool (isA H x T);unfold isA;rw[ht]
end
end L2
set_option autoImplicit false
namespace L2
open PySem PySem.Spec PyProof.Rows
inductive D where
 |non|bl (b:Bool)|int (i:Int)|str (x:Str)|tup (ds:List D)|lst (ds:List D)
 |dk (ks:List Int)|dt (ks:List (List Int))
noncomputable def dkO(ks:List Int):List (Key×V):=ks.map fun k=>(Sum.inl k,V.int 1)
noncomputable def dtO(ks:List (List Int)):List (List Key×V):=ks.map fun k=>(k.map Sum.inl,V.int 1)
theorem pH:∀ {a b:List Int},dkO a=dkO b->a=b
 | [],[],_=>rfl
 |x::a,y::b,h=>by
  simp only[dkO,List.map_cons,List.cons.injEq,Prod.mk.injEq,Sum.inl.injEq,and_true] at h;rw[h.1,pH h.2]
 | [],_::_,h=>by simp[dkO] at h
 |_::_,[],h=>by simp[dkO] at h
theorem p6:∀ {a b:List Int},(a.map Sum.inl:List Key)=b.map Sum.inl->a=b
 | [],[],_=>rfl
 |x::a,y::b,h=>by
  simp only[List.map_cons,List.cons.injEq,Sum.inl.injEq] at h;rw[h.1,p6 h.2]
 | [],_::_,h=>by simp at h
 |_::_,[],h=>by simp at h
theorem o0:∀ {a b:List (List Int)},dtO a=dtO b->a=b
 | [],[],_=>rfl
 |x::a,y::b,h=>by
  simp only[dtO,List.map_cons,List.cons.injEq,Prod.mk.injEq,and_true] at h;rw[p6 h.1,o0 h.2]
 | [],_::_,h=>by simp[dtO] at h
 |_::_,[],h=>by simp[dtO] at h
mutual
noncomputable def Dat(H:Hp):D->V->Prop
 |.non,v=>v=.non
 |.bl b,v=>v=.bl b
 |.int i,v=>v=.int i
 |.str x,v=>v=.str x
 |.tup ds,v=>∃a xs,v=.ref a/\H a=some (.tup xs)/\ay H ds xs
 |.lst ds,v=>∃a xs,v=.ref a/\H a=some (.lst xs)/\ay H ds xs
 |.dk ks,v=>∃a xs,v=.ref a/\H a=some (.dK (dkO xs))/\xs=ks
 |.dt ks,v=>∃a xs,v=.ref a/\H a=some (.dT (dtO xs))/\xs=ks
noncomputable def ay(H:Hp):List D->List V->Prop
 | [],xs=>xs=[]
 |d::ds,xs=>∃x r,xs=x::r/\Dat H d x/\ay H ds r
end
mutual
noncomputable def dep:D->Nat
 |.tup ds=>fT ds+1
 |.lst ds=>fT ds+1
 |.dk _=>1000000
 |.dt _=>1000000
 |_=>0
noncomputable def fT:List D->Nat
 | []=>0
 |d::ds=>max (dep d) (fT ds)
end
mutual
noncomputable def eqD:D->D->Bool
 |.non,.non=>true
 |.bl a,.bl b=>a == b
 |.bl a,.int b=>(if a then 1 else 0) == b
 |.int a,.bl b=>a == (if b then 1 else 0)
 |.int a,.int b=>a == b
 |.str a,.str b=>a == b
 |.tup a,.tup b=>eS a b
 |.lst a,.lst b=>eS a b
 |.dk a,.dk b=>a == b
 |.dt a,.dt b=>a == b
 |_,_=>false
noncomputable def eS:List D->List D->Bool
 | [],[]=>true
 |x::xs,y::ys=>eqD x y && eS xs ys
 |_,_=>false
end
theorem lV:∀ {ds:List D} {d:D},d∈ds->dep d<=fT ds
 |d::ds,e,h=>by
  unfold fT;rcases List.mem_cons.mp h with rfl|h
  ·exact Nat.le_max_left _ _
  ·exact Nat.le_trans (lV h) (Nat.le_max_right _ _)
theorem ay.length:∀ {H:Hp} {ds:List D} {xs:List V},ay H ds xs->xs.length=ds.length
 |H,[],xs,h=>by
  have e:xs=[]:=by simpa[ay] using h
  rw[e];rfl
 |H,d::ds,xs,h=>by
  obtain⟨x,r,rfl,_,t⟩:∃x r,xs=x::r/\Dat H d x/\ay H ds r:=by simpa only[ay] using h
  rw[List.length_cons,List.length_cons,ay.length t]
theorem ay.get:∀ {H:Hp} {ds:List D} {xs:List V} {i:Nat} {d:D},ay H ds xs->ds[i]?=some d->∃x,xs[i]?=some x/\Dat H d x
 |H,[],xs,i,d,h,e=>by simp at e
 |H,d'::ds,xs,i,d,h,e=>by
  obtain⟨x,r,rfl,hx,t⟩:∃x r,xs=x::r/\Dat H d' x/\ay H ds r:=by simpa only[ay] using h
  cases i with
  |zero=>simp at e;subst e;exact⟨x,rfl,hx⟩
  |succ i=>simpa using ay.get t (i:=i) (by simpa using e)
theorem ay.of_get:∀ {H:Hp} {ds:List D} {xs:List V},xs.length=ds.length->(∀(i:Nat)(d:D)(x:V),ds[i]?=some d->xs[i]?=some x->Dat H d x)->ay H ds xs
 |H,[],[],_,_=>by simp[ay]
 |H,d::ds,x::xs,hl,h=>by
  simp only[ay];exact⟨x,xs,rfl,h 0 d x rfl rfl,ay.of_get (by simpa using hl) fun i d x e1 e2=>h (i+1) d x (by simpa using e1) (by simpa using e2)⟩
 |H,[],_::_,hl,_=>by simp at hl
 |H,_::_,[],hl,_=>by simp at hl
theorem ay.append:∀ {H:Hp} {ds es:List D} {xs ys:List V},ay H ds xs->ay H es ys->ay H (ds++es) (xs++ys)
 |H,[],es,xs,ys,h,h'=>by
  have e:xs=[]:=by simpa[ay] using h
  rw[e];exact h'
 |H,d::ds,es,xs,ys,h,h'=>by
  obtain⟨x,r,rfl,hx,t⟩:∃x r,xs=x::r/\Dat H d x/\ay H ds r:=by simpa only[ay] using h
  show ay H (d::(ds++es)) (x::(r++ys));simp only[ay];exact⟨x,r++ys,rfl,hx,ay.append t h'⟩
mutual
theorem Dat.same{H H':Hp}(e:cZ H H'):∀ {d:D} {v:V},Dat H d v->Dat H' d v
 |.non,v,h=>by simpa only[Dat] using h
 |.bl b,v,h=>by simpa only[Dat] using h
 |.int i,v,h=>by simpa only[Dat] using h
 |.str x,v,h=>by simpa only[Dat] using h
 |.tup ds,v,h=>by
  simp only[Dat] at h ⊢;obtain⟨a,xs,rfl,h1,h2⟩:=h;exact⟨a,xs,rfl,e a _ h1,ay.same e h2⟩
 |.lst ds,v,h=>by
  simp only[Dat] at h ⊢;obtain⟨a,xs,rfl,h1,h2⟩:=h;exact⟨a,xs,rfl,e a _ h1,ay.same e h2⟩
 |.dk ks,v,h=>by
  simp only[Dat] at h ⊢;obtain⟨a,xs,rfl,h1,h2⟩:=h;exact⟨a,xs,rfl,e a _ h1,h2⟩
 |.dt ks,v,h=>by
  simp only[Dat] at h ⊢;obtain⟨a,xs,rfl,h1,h2⟩:=h;exact⟨a,xs,rfl,e a _ h1,h2⟩
theorem ay.same{H H':Hp}(e:cZ H H'):∀ {ds:List D} {xs:List V},ay H ds xs->ay H' ds xs
 | [],xs,h=>by simpa only[ay] using h
 |d::ds,xs,h=>by
  simp only[ay] at h ⊢;obtain⟨x,r,rfl,h1,h2⟩:=h;exact⟨x,r,rfl,Dat.same e h1,ay.same e h2⟩
end
mutual
theorem Dat.inj{H:Hp}:∀ {d e:D} {v:V},Dat H d v->Dat H e v->d=e
 |.non,e,v,h,h'=>by
  simp only[Dat] at h;subst h;cases e<;>simp only[Dat] at h'<;>first|rfl|(obtain⟨_,_,h',_⟩:=h';cases h';done)|(cases h';done)
 |.bl b,e,v,h,h'=>by
  simp only[Dat] at h;subst h;cases e<;>simp only[Dat] at h'<;>first|(obtain⟨_,_,h',_⟩:=h';cases h';done)|(cases h';rfl)|(cases h';done)
 |.int i,e,v,h,h'=>by
  simp only[Dat] at h;subst h;cases e<;>simp only[Dat] at h'<;>first|(obtain⟨_,_,h',_⟩:=h';cases h';done)|(cases h';rfl)|(cases h';done)
 |.str x,e,v,h,h'=>by
  simp only[Dat] at h;subst h;cases e<;>simp only[Dat] at h'<;>first|(obtain⟨_,_,h',_⟩:=h';cases h';done)|(cases h';rfl)|(cases h';done)
 |.tup ds,e,v,h,h'=>by
  simp only[Dat] at h;obtain⟨a,xs,rfl,h1,h2⟩:=h
  cases e with
  |tup es=>
   simp only[Dat] at h';obtain⟨b,ys,e1,h3,h4⟩:=h';cases e1;rw[h1] at h3;cases h3;rw[ay.inj h2 h4]
  |lst es=>
   simp only[Dat] at h';obtain⟨b,ys,e1,h3,h4⟩:=h';cases e1;rw[h1] at h3;cases h3
  |dk es=>
   simp only[Dat] at h';obtain⟨b,ys,e1,h3,h4⟩:=h';cases e1;rw[h1] at h3;cases h3
  |dt es=>
   simp only[Dat] at h';obtain⟨b,ys,e1,h3,h4⟩:=h';cases e1;rw[h1] at h3;cases h3
  |_=>simp only[Dat] at h';cases h'
 |.lst ds,e,v,h,h'=>by
  simp only[Dat] at h;obtain⟨a,xs,rfl,h1,h2⟩:=h
  cases e with
  |lst es=>
   simp only[Dat] at h';obtain⟨b,ys,e1,h3,h4⟩:=h';cases e1;rw[h1] at h3;cases h3;rw[ay.inj h2 h4]
  |tup es=>
   simp only[Dat] at h';obtain⟨b,ys,e1,h3,h4⟩:=h';cases e1;rw[h1] at h3;cases h3
  |dk es=>
   simp only[Dat] at h';obtain⟨b,ys,e1,h3,h4⟩:=h';cases e1;rw[h1] at h3;cases h3
  |dt es=>
   simp only[Dat] at h';obtain⟨b,ys,e1,h3,h4⟩:=h';cases e1;rw[h1] at h3;cases h3
  |_=>simp only[Dat] at h';cases h'
 |.dk ds,e,v,h,h'=>by
  simp only[Dat] at h;obtain⟨a,xs,rfl,h1,rfl⟩:=h
  cases e with
  |tup es=>
   simp only[Dat] at h';obtain⟨b,ys,e1,h3,h4⟩:=h';cases e1;rw[h1] at h3;cases h3
  |lst es=>
   simp only[Dat] at h';obtain⟨b,ys,e1,h3,h4⟩:=h';cases e1;rw[h1] at h3;cases h3
  |dk es=>
   simp only[Dat] at h';obtain⟨b,ys,e1,h3,h4⟩:=h';cases e1;rw[h1] at h3;rw[←h4,pH (a:=xs) (b:=ys)]
   simpa using h3
  |dt es=>
   simp only[Dat] at h';obtain⟨b,ys,e1,h3,h4⟩:=h';cases e1;rw[h1] at h3;cases h3
  |_=>simp only[Dat] at h';cases h'
 |.dt ds,e,v,h,h'=>by
  simp only[Dat] at h;obtain⟨a,xs,rfl,h1,rfl⟩:=h
  cases e with
  |tup es=>
   simp only[Dat] at h';obtain⟨b,ys,e1,h3,h4⟩:=h';cases e1;rw[h1] at h3;cases h3
  |lst es=>
   simp only[Dat] at h';obtain⟨b,ys,e1,h3,h4⟩:=h';cases e1;rw[h1] at h3;cases h3
  |dk es=>
   simp only[Dat] at h';obtain⟨b,ys,e1,h3,h4⟩:=h';cases e1;rw[h1] at h3;cases h3
  |dt es=>
   simp only[Dat] at h';obtain⟨b,ys,e1,h3,h4⟩:=h';cases e1;rw[h1] at h3;rw[←h4,o0 (a:=xs) (b:=ys)]
   simpa using h3
  |_=>simp only[Dat] at h';cases h'
theorem ay.inj{H:Hp}:∀ {ds es:List D} {xs:List V},ay H ds xs->ay H es xs->ds=es
 | [],[],_,_,_=>rfl
 | [],e::es,xs,h,h'=>by
  simp only[ay] at h h';obtain⟨x,r,rfl,_⟩:=h';cases h
 |d::ds,[],xs,h,h'=>by
  simp only[ay] at h h';obtain⟨x,r,rfl,_⟩:=h;cases h'
 |d::ds,e::es,xs,h,h'=>by
  simp only[ay] at h h';obtain⟨x,r,rfl,h1,h2⟩:=h;obtain⟨x',r',e1,h3,h4⟩:=h';cases e1;rw[Dat.inj h1 h3,ay.inj h2 h4]
end
mutual
theorem uc:∀d:D,eqD d d=true
 |.non=>by simp[eqD]
 |.bl b=>by simp[eqD]
 |.int i=>by simp[eqD]
 |.str x=>by simp[eqD]
 |.tup ds=>by simp only[eqD];exact ej ds
 |.lst ds=>by simp only[eqD];exact ej ds
 |.dk ks=>by simp[eqD]
 |.dt ks=>by simp[eqD]
theorem ej:∀ds:List D,eS ds ds=true
 | []=>by simp[eS]
 |d::ds=>by simp only[eS,uc d,ej ds,Bool.and_self]
end
theorem iZ:∀ {ds es:List D},ds.length≠es.length->eS ds es=false
 | [],[],h=>absurd rfl h
 | [],_::_,_=>by simp[eS]
 |_::_,[],_=>by simp[eS]
 |d::ds,e::es,h=>by
  simp only[eS,iZ (ds:=ds) (es:=es) (by simpa using h),Bool.and_false]
theorem fS:∀ {ds es:List D},ds.length=es.length->(List.range ds.length).all (fun j=>eqD (ds.getD j .non) (es.getD j .non))=eS ds es
 | [],[],_=>by simp[eS]
 | [],_::_,h=>by simp at h
 |_::_,[],h=>by simp at h
 |d::ds,e::es,h=>by
  have ih:=fS (ds:=ds) (es:=es) (by simpa using h)
  rw[List.length_cons,List.range_succ_eq_map,List.all_cons,List.all_map];simp only[eS,←ih]
  rfl
end L2
namespace L2
open PySem PySem.Spec PyProof.Rows AutoSeq1
noncomputable def mm(h:Heap)(l:Addr):Prop:=∃es ep,h.get? l=some { cls:=.type "dict",data:=.dict es ep }
theorem gn:isSubtype (.type "NoneType") (.type "dict")=pure false:=by rw[isSubtype_type];kernel_rfl
theorem ib:isSubtype (.type "bool") (.type "dict")=pure false:=by rw[isSubtype_type];kernel_rfl
theorem ie:isSubtype (.type "int") (.type "dict")=pure false:=by rw[isSubtype_type];kernel_rfl
theorem iy:isSubtype (.type "str") (.type "dict")=pure false:=by rw[isSubtype_type];kernel_rfl
theorem ip:isSubtype (.type "tuple") (.type "dict")=pure false:=by rw[isSubtype_type];kernel_rfl
theorem hZ:isSubtype (.type "list") (.type "dict")=pure false:=by rw[isSubtype_type];kernel_rfl
theorem mh:isSubtype (.type "dict") (.type "NoneType")=pure false:=by rw[isSubtype_type];kernel_rfl
theorem oB:isSubtype (.type "dict") (.type "bool")=pure false:=by rw[isSubtype_type];kernel_rfl
theorem fC:isSubtype (.type "dict") (.type "int")=pure false:=by rw[isSubtype_type];kernel_rfl
theorem iI:isSubtype (.type "dict") (.type "str")=pure false:=by rw[isSubtype_type];kernel_rfl
theorem iG:isSubtype (.type "dict") (.type "tuple")=pure false:=by rw[isSubtype_type];kernel_rfl
theorem iL:isSubtype (.type "dict") (.type "list")=pure false:=by rw[isSubtype_type];kernel_rfl
section
variable(l b:Addr)(es:Array DictEntry)(ep:Nat)
noncomputable abbrev DO(es:Array DictEntry)(ep:Nat):Obj:={ cls:=.type "dict",data:=.dict es ep }
theorem yr:Meets (Builtin.«dict.__eq__» ⟨[.ref l,.none],[]⟩) (fun _ R s=>s.heap.get? l=some (DO es ep)/\R (.ok (.ret .notImplemented)) s):=
 .of_wp fun prog w A R s h=>by obtain⟨hp,g,d,tk,os⟩:=s;obtain⟨hl,h⟩:=h;have f1:=gn;wp_walk using wpAny_loadPart' hl,wpAny_load hl;exact⟨_,rfl,h⟩
theorem yl:Meets (Builtin.«dict.__ne__» ⟨[.ref l,.none],[]⟩) (fun _ R s=>s.heap.get? l=some (DO es ep)/\R (.ok (.ret .notImplemented)) s):=
 .of_wp fun prog w A R s h=>by obtain⟨hp,g,d,tk,os⟩:=s;obtain⟨hl,h⟩:=h;have f1:=gn;wp_walk using wpAny_loadPart' hl,wpAny_load hl;exact⟨_,rfl,h⟩
theorem yQ(c:Bool):Meets (Builtin.«dict.__eq__» ⟨[.ref l,.bool c],[]⟩) (fun _ R s=>s.heap.get? l=some (DO es ep)/\R (.ok (.ret .notImplemented)) s):=
 .of_wp fun prog w A R s h=>by obtain⟨hp,g,d,tk,os⟩:=s;obtain⟨hl,h⟩:=h;have f1:=ib;wp_walk using wpAny_loadPart' hl,wpAny_load hl;exact⟨_,rfl,h⟩
theorem yM(c:Bool):Meets (Builtin.«dict.__ne__» ⟨[.ref l,.bool c],[]⟩) (fun _ R s=>s.heap.get? l=some (DO es ep)/\R (.ok (.ret .notImplemented)) s):=
 .of_wp fun prog w A R s h=>by obtain⟨hp,g,d,tk,os⟩:=s;obtain⟨hl,h⟩:=h;have f1:=ib;wp_walk using wpAny_loadPart' hl,wpAny_load hl;exact⟨_,rfl,h⟩
theorem zQ(c:Int)(u:Tok):Meets (Builtin.«dict.__eq__» ⟨[.ref l,.int c u],[]⟩) (fun _ R s=>s.heap.get? l=some (DO es ep)/\R (.ok (.ret .notImplemented)) s):=
 .of_wp fun prog w A R s h=>by obtain⟨hp,g,d,tk,os⟩:=s;obtain⟨hl,h⟩:=h;have f1:=ie;wp_walk using wpAny_loadPart' hl,wpAny_load hl;exact⟨_,rfl,h⟩
theorem zk(c:Int)(u:Tok):Meets (Builtin.«dict.__ne__» ⟨[.ref l,.int c u],[]⟩) (fun _ R s=>s.heap.get? l=some (DO es ep)/\R (.ok (.ret .notImplemented)) s):=
 .of_wp fun prog w A R s h=>by obtain⟨hp,g,d,tk,os⟩:=s;obtain⟨hl,h⟩:=h;have f1:=ie;wp_walk using wpAny_loadPart' hl,wpAny_load hl;exact⟨_,rfl,h⟩
theorem zo(c:Str)(u:Tok):Meets (Builtin.«dict.__eq__» ⟨[.ref l,.str c u],[]⟩) (fun _ R s=>s.heap.get? l=some (DO es ep)/\R (.ok (.ret .notImplemented)) s):=
 .of_wp fun prog w A R s h=>by obtain⟨hp,g,d,tk,os⟩:=s;obtain⟨hl,h⟩:=h;have f1:=iy;wp_walk using wpAny_loadPart' hl,wpAny_load hl;exact⟨_,rfl,h⟩
theorem zG(c:Str)(u:Tok):Meets (Builtin.«dict.__ne__» ⟨[.ref l,.str c u],[]⟩) (fun _ R s=>s.heap.get? l=some (DO es ep)/\R (.ok (.ret .notImplemented)) s):=
 .of_wp fun prog w A R s h=>by obtain⟨hp,g,d,tk,os⟩:=s;obtain⟨hl,h⟩:=h;have f1:=iy;wp_walk using wpAny_loadPart' hl,wpAny_load hl;exact⟨_,rfl,h⟩
theorem yx(its:Array Value)(n:Nat)(dd:Option Addr)(sl:Array (Option Value)):Meets (Builtin.«dict.__eq__» ⟨[.ref l,.ref b],[]⟩) (fun _ R s=>s.heap.get? l=some (DO es ep)/\s.heap.get? b=some ⟨.type "tuple",dd,.seq its n,sl⟩/\R (.ok (.ret .notImplemented)) s):=
 .of_wp fun prog w A R s h=>by obtain⟨hp,g,d,tk,os⟩:=s;obtain⟨hl,hb,h⟩:=h;have f1:=ip;wp_walk using wpAny_loadPart' hl,wpAny_load hl,wpAny_loadPart' hb,wpAny_load hb;exact⟨_,rfl,h⟩
theorem y3(its:Array Value)(n:Nat)(dd:Option Addr)(sl:Array (Option Value)):Meets (Builtin.«dict.__ne__» ⟨[.ref l,.ref b],[]⟩) (fun _ R s=>s.heap.get? l=some (DO es ep)/\s.heap.get? b=some ⟨.type "tuple",dd,.seq its n,sl⟩/\R (.ok (.ret .notImplemented)) s):=
 .of_wp fun prog w A R s h=>by obtain⟨hp,g,d,tk,os⟩:=s;obtain⟨hl,hb,h⟩:=h;have f1:=ip;wp_walk using wpAny_loadPart' hl,wpAny_load hl,wpAny_loadPart' hb,wpAny_load hb;exact⟨_,rfl,h⟩
theorem zz(its:Array Value)(n:Nat)(dd:Option Addr)(sl:Array (Option Value)):Meets (Builtin.«dict.__eq__» ⟨[.ref l,.ref b],[]⟩) (fun _ R s=>s.heap.get? l=some (DO es ep)/\s.heap.get? b=some ⟨.type "list",dd,.seq its n,sl⟩/\R (.ok (.ret .notImplemented)) s):=
 .of_wp fun prog w A R s h=>by obtain⟨hp,g,d,tk,os⟩:=s;obtain⟨hl,hb,h⟩:=h;have f1:=hZ;wp_walk using wpAny_loadPart' hl,wpAny_load hl,wpAny_loadPart' hb,wpAny_load hb;exact⟨_,rfl,h⟩
theorem zN(its:Array Value)(n:Nat)(dd:Option Addr)(sl:Array (Option Value)):Meets (Builtin.«dict.__ne__» ⟨[.ref l,.ref b],[]⟩) (fun _ R s=>s.heap.get? l=some (DO es ep)/\s.heap.get? b=some ⟨.type "list",dd,.seq its n,sl⟩/\R (.ok (.ret .notImplemented)) s):=
 .of_wp fun prog w A R s h=>by obtain⟨hp,g,d,tk,os⟩:=s;obtain⟨hl,hb,h⟩:=h;have f1:=hZ;wp_walk using wpAny_loadPart' hl,wpAny_load hl,wpAny_loadPart' hb,wpAny_load hb;exact⟨_,rfl,h⟩
theorem Aj(c:Bool):Meets (Builtin.«int.__eq__» ⟨[.bool c,.ref l],[]⟩) (fun _ R s=>s.heap.get? l=some (DO es ep)/\R (.ok (.ret .notImplemented)) s):=
 .of_wp fun prog w A R s h=>by obtain⟨hp,g,d,tk,os⟩:=s;obtain⟨hl,h⟩:=h;have f1:=fC;wp_walk using wpAny_loadPart' hl,wpAny_load hl;exact⟨_,rfl,h⟩
theorem Ah(c:Bool):Meets (Builtin.«int.__ne__» ⟨[.bool c,.ref l],[]⟩) (fun _ R s=>s.heap.get? l=some (DO es ep)/\R (.ok (.ret .notImplemented)) s):=
 .of_wp fun prog w A R s h=>by obtain⟨hp,g,d,tk,os⟩:=s;obtain⟨hl,h⟩:=h;have f1:=fC;wp_walk using wpAny_loadPart' hl,wpAny_load hl;exact⟨_,rfl,h⟩
theorem yJ(c:Int)(u:Tok):Meets (Builtin.«int.__eq__» ⟨[.int c u,.ref l],[]⟩) (fun _ R s=>s.heap.get? l=some (DO es ep)/\R (.ok (.ret .notImplemented)) s):=
 .of_wp fun prog w A R s h=>by obtain⟨hp,g,d,tk,os⟩:=s;obtain⟨hl,h⟩:=h;have f1:=fC;wp_walk using wpAny_loadPart' hl,wpAny_load hl;exact⟨_,rfl,h⟩
theorem zM(c:Int)(u:Tok):Meets (Builtin.«int.__ne__» ⟨[.int c u,.ref l],[]⟩) (fun _ R s=>s.heap.get? l=some (DO es ep)/\R (.ok (.ret .notImplemented)) s):=
 .of_wp fun prog w A R s h=>by obtain⟨hp,g,d,tk,os⟩:=s;obtain⟨hl,h⟩:=h;have f1:=fC;wp_walk using wpAny_loadPart' hl,wpAny_load hl;exact⟨_,rfl,h⟩
theorem As(c:Str)(u:Tok):Meets (Builtin.«str.__eq__» ⟨[.str c u,.ref l],[]⟩) (fun _ R s=>s.heap.get? l=some (DO es ep)/\R (.ok (.ret .notImplemented)) s):=
 .of_wp fun prog w A R s h=>by obtain⟨hp,g,d,tk,os⟩:=s;obtain⟨hl,h⟩:=h;have f1:=iI;wp_walk using wpAny_loadPart' hl,wpAny_load hl;exact⟨_,rfl,h⟩
theorem AK(c:Str)(u:Tok):Meets (Builtin.«str.__ne__» ⟨[.str c u,.ref l],[]⟩) (fun _ R s=>s.heap.get? l=some (DO es ep)/\R (.ok (.ret .notImplemented)) s):=
 .of_wp fun prog w A R s h=>by obtain⟨hp,g,d,tk,os⟩:=s;obtain⟨hl,h⟩:=h;have f1:=iI;wp_walk using wpAny_loadPart' hl,wpAny_load hl;exact⟨_,rfl,h⟩
theorem AH(its:Array Value)(n:Nat)(dd:Option Addr)(sl:Array (Option Value)):Meets (Builtin.«tuple.__eq__» ⟨[.ref b,.ref l],[]⟩) (fun _ R s=>s.heap.get? l=some (DO es ep)/\s.heap.get? b=some ⟨.type "tuple",dd,.seq its n,sl⟩/\R (.ok (.ret .notImplemented)) s):=
 .of_wp fun prog w A R s h=>by obtain⟨hp,g,d,tk,os⟩:=s;obtain⟨hl,hb,h⟩:=h;have f1:=iG;wp_walk using wpAny_loadPart' hl,wpAny_load hl,wpAny_loadPart' hb,wpAny_load hb;exact⟨_,rfl,h⟩
theorem At(its:Array Value)(n:Nat)(dd:Option Addr)(sl:Array (Option Value)):Meets (Builtin.«tuple.__ne__» ⟨[.ref b,.ref l],[]⟩) (fun _ R s=>s.heap.get? l=some (DO es ep)/\s.heap.get? b=some ⟨.type "tuple",dd,.seq its n,sl⟩/\R (.ok (.ret .notImplemented)) s):=
 .of_wp fun prog w A R s h=>by obtain⟨hp,g,d,tk,os⟩:=s;obtain⟨hl,hb,h⟩:=h;have f1:=iG;wp_walk using wpAny_loadPart' hl,wpAny_load hl,wpAny_loadPart' hb,wpAny_load hb;exact⟨_,rfl,h⟩
theorem Ao(its:Array Value)(n:Nat)(dd:Option Addr)(sl:Array (Option Value)):Meets (Builtin.«list.__eq__» ⟨[.ref b,.ref l],[]⟩) (fun _ R s=>s.heap.get? l=some (DO es ep)/\s.heap.get? b=some ⟨.type "list",dd,.seq its n,sl⟩/\R (.ok (.ret .notImplemented)) s):=
 .of_wp fun prog w A R s h=>by obtain⟨hp,g,d,tk,os⟩:=s;obtain⟨hl,hb,h⟩:=h;have f1:=iL;wp_walk using wpAny_loadPart' hl,wpAny_load hl,wpAny_loadPart' hb,wpAny_load hb;exact⟨_,rfl,h⟩
theorem AD(its:Array Value)(n:Nat)(dd:Option Addr)(sl:Array (Option Value)):Meets (Builtin.«list.__ne__» ⟨[.ref b,.ref l],[]⟩) (fun _ R s=>s.heap.get? l=some (DO es ep)/\s.heap.get? b=some ⟨.type "list",dd,.seq its n,sl⟩/\R (.ok (.ret .notImplemented)) s):=
 .of_wp fun prog w A R s h=>by obtain⟨hp,g,d,tk,os⟩:=s;obtain⟨hl,hb,h⟩:=h;have f1:=iL;wp_walk using wpAny_loadPart' hl,wpAny_load hl,wpAny_loadPart' hb,wpAny_load hb;exact⟨_,rfl,h⟩
end
noncomputable def Eq3(A:Around)(s:Shared)(v u:Value)(b:Bool):Prop:=SeqAt.RcAt A s v u b/\SeqAt.EqAt A s v u b/\SeqAt.RcNeAt A s v u (!b)
section
variable{A:Around}{s:Shared}{l:Addr}
theorem d6{v:Value}(hne:v≠.ref l)(h:SeqAt.RcAt A s v (.ref l) false):SeqAt.EqAt A s v (.ref l) false:=fun prog w E Q q=>by
 unfold eqBool;refine wpAny_holding ?_;refine wpAny_ite_split (fun hab=>absurd (eq_of_beq hab) hne) (fun _=>?_);cases v<;>exact wpAny_bind (h prog w E _ (wpAny_truthy_bool q))
theorem tN(d:mm s.heap l)(hu:A.units<cLine):Eq3 A s .none (.ref l) false:=by
 obtain⟨es,ep,ho⟩:=d
 have a:SeqAt.RcAt A s .none (.ref l) false:=fun prog w E Q h=>SeqAt.rc_eq_decline_or (k:=false) rfl ⟨_,ho,rfl⟩ (by decide) mh F.slot_NoneType_eq F.slot_dict_eq_refl
  (fun _ hq=>call_gives F.slot_NoneType_eq rfl F.entry_NoneType_eq (F.args_NoneType_eq_2 _ _) (SeqAt.NoneType___eq___none_ref_0 l) hq)
  (fun _ hq=>call_meets F.slot_dict_eq_refl ⟨_,ho,rfl⟩ F.entry_dict_eq (F.args_dict_eq_2 _ _) (yr l es ep) ⟨ho,hq⟩)
  (fun _ hq=>wpAny_of_eq (rfl:isSame .none (.ref l)=pure false) hq) (.inr hu) h
 exact⟨a,d6 nofun a,fun prog w E Q h=>SeqAt.rc_ne_decline_or (k:=false) rfl ⟨_,ho,rfl⟩ (by decide) mh F.slot_NoneType_ne F.slot_dict_ne_refl
  (fun _ hq=>call_gives F.slot_NoneType_ne rfl F.entry_NoneType_ne (F.args_NoneType_ne_2 _ _) (SeqAt.NoneType___ne___none_ref_0 l) hq)
  (fun _ hq=>call_meets F.slot_dict_ne_refl ⟨_,ho,rfl⟩ F.entry_dict_ne (F.args_dict_ne_2 _ _) (yl l es ep) ⟨ho,hq⟩)
  (fun _ hq=>wpAny_of_eq (rfl:isSame .none (.ref l)=pure false) hq) (.inr hu) h⟩
theorem w6(c:Bool)(d:mm s.heap l)(hu:A.units<cLine):Eq3 A s (.bool c) (.ref l) false:=by
 obtain⟨es,ep,ho⟩:=d
 have a:SeqAt.RcAt A s (.bool c) (.ref l) false:=fun prog w E Q h=>SeqAt.rc_eq_decline_or (k:=false) rfl ⟨_,ho,rfl⟩ (by decide) oB F.slot_bool_eq F.slot_dict_eq_refl
  (fun _ hq=>call_meets F.slot_bool_eq rfl F.entry_int_eq (F.args_int_eq_2 _ _) (Aj l es ep c) ⟨ho,hq⟩)
  (fun _ hq=>call_meets F.slot_dict_eq_refl ⟨_,ho,rfl⟩ F.entry_dict_eq (F.args_dict_eq_2 _ _) (yQ l es ep c) ⟨ho,hq⟩)
  (fun _ hq=>wpAny_of_eq (rfl:isSame (.bool c) (.ref l)=pure false) hq) (.inr hu) h
 exact⟨a,d6 nofun a,fun prog w E Q h=>SeqAt.rc_ne_decline_or (k:=false) rfl ⟨_,ho,rfl⟩ (by decide) oB F.slot_bool_ne F.slot_dict_ne_refl
  (fun _ hq=>call_meets F.slot_bool_ne rfl F.entry_int_ne (F.args_int_ne_2 _ _) (Ah l es ep c) ⟨ho,hq⟩)
  (fun _ hq=>call_meets F.slot_dict_ne_refl ⟨_,ho,rfl⟩ F.entry_dict_ne (F.args_dict_ne_2 _ _) (yM l es ep c) ⟨ho,hq⟩)
  (fun _ hq=>wpAny_of_eq (rfl:isSame (.bool c) (.ref l)=pure false) hq) (.inr hu) h⟩
theorem wD(c:Int)(u:Tok)(d:mm s.heap l)(hu:A.units<cLine):Eq3 A s (.int c u) (.ref l) false:=by
 obtain⟨es,ep,ho⟩:=d
 have a:SeqAt.RcAt A s (.int c u) (.ref l) false:=fun prog w E Q h=>SeqAt.rc_eq_decline_or (k:=false) (typeIs_int s c u) ⟨_,ho,rfl⟩ (by decide) fC F.slot_int_eq F.slot_dict_eq_refl
  (fun _ hq=>call_meets F.slot_int_eq (typeIs_int s c u) F.entry_int_eq (F.args_int_eq_2 _ _) (yJ l es ep c u) ⟨ho,hq⟩)
  (fun _ hq=>call_meets F.slot_dict_eq_refl ⟨_,ho,rfl⟩ F.entry_dict_eq (F.args_dict_eq_2 _ _) (zQ l es ep c u) ⟨ho,hq⟩)
  (fun _ hq=>wpAny_of_eq (rfl:isSame (.int c u) (.ref l)=pure false) hq) (.inr hu) h
 exact⟨a,d6 nofun a,fun prog w E Q h=>SeqAt.rc_ne_decline_or (k:=false) (typeIs_int s c u) ⟨_,ho,rfl⟩ (by decide) fC F.slot_int_ne F.slot_dict_ne_refl
  (fun _ hq=>call_meets F.slot_int_ne (typeIs_int s c u) F.entry_int_ne (F.args_int_ne_2 _ _) (zM l es ep c u) ⟨ho,hq⟩)
  (fun _ hq=>call_meets F.slot_dict_ne_refl ⟨_,ho,rfl⟩ F.entry_dict_ne (F.args_dict_ne_2 _ _) (zk l es ep c u) ⟨ho,hq⟩)
  (fun _ hq=>wpAny_of_eq (rfl:isSame (.int c u) (.ref l)=pure false) hq) (.inr hu) h⟩
theorem vW(c:Str)(u:Tok)(d:mm s.heap l)(hu:A.units<cLine):Eq3 A s (.str c u) (.ref l) false:=by
 obtain⟨es,ep,ho⟩:=d
 have a:SeqAt.RcAt A s (.str c u) (.ref l) false:=fun prog w E Q h=>SeqAt.rc_eq_decline_or (k:=false) (typeIs_str s c u) ⟨_,ho,rfl⟩ (by decide) iI F.slot_str_eq F.slot_dict_eq_refl
  (fun _ hq=>call_meets F.slot_str_eq (typeIs_str s c u) F.entry_str_eq (F.args_str_eq_2 _ _) (As l es ep c u) ⟨ho,hq⟩)
  (fun _ hq=>call_meets F.slot_dict_eq_refl ⟨_,ho,rfl⟩ F.entry_dict_eq (F.args_dict_eq_2 _ _) (zo l es ep c u) ⟨ho,hq⟩)
  (fun _ hq=>wpAny_of_eq (rfl:isSame (.str c u) (.ref l)=pure false) hq) (.inr hu) h
 exact⟨a,d6 nofun a,fun prog w E Q h=>SeqAt.rc_ne_decline_or (k:=false) (typeIs_str s c u) ⟨_,ho,rfl⟩ (by decide) iI F.slot_str_ne F.slot_dict_ne_refl
  (fun _ hq=>call_meets F.slot_str_ne (typeIs_str s c u) F.entry_str_ne (F.args_str_ne_2 _ _) (AK l es ep c u) ⟨ho,hq⟩)
  (fun _ hq=>call_meets F.slot_dict_ne_refl ⟨_,ho,rfl⟩ F.entry_dict_ne (F.args_dict_ne_2 _ _) (zG l es ep c u) ⟨ho,hq⟩)
  (fun _ hq=>wpAny_of_eq (rfl:isSame (.str c u) (.ref l)=pure false) hq) (.inr hu) h⟩
theorem iN{b:Addr}{ob ol:Obj}{Q:Bool->Shared->Prop}{M:Model}{E:Value->Shared->Prop}(h1:s.heap.get? b=some ob)(h2:s.heap.get? l=some ol)(hb:ob.cls≠ol.cls)(hl:ol.cls≠.type "tuple")(q:Q false s):wpAny M A (isSame (.ref b) (.ref l)) Q E s:=
 SeqAt.wpAny_isSame_ref_other' (fun e=>by subst e;rw[h1] at h2;cases h2;exact hb rfl) h1 h2 hl q
theorem wH{b:Addr}{its:Array Value}(hb:s.heap.IsTuple b its)(d:mm s.heap l)(hu:A.units<cLine):Eq3 A s (.ref b) (.ref l) false:=by
 obtain⟨es,ep,ho⟩:=d;obtain⟨⟨cls,dd,data,sl⟩,hp,hc,n,hd⟩:=id hb;simp only at hc hd;subst hc hd;have ne:Value.ref b≠Value.ref l:=fun e=>by cases e;exact absurd (congrArg (fun o:Obj=>o.cls) (Option.some.inj (hp.symm.trans ho))) (by simp)
 have a:SeqAt.RcAt A s (.ref b) (.ref l) false:=fun prog w E Q h=>SeqAt.rc_eq_decline_or (k:=false) ⟨_,hp,rfl⟩ ⟨_,ho,rfl⟩ (by decide) iG F.slot_tuple_eq F.slot_dict_eq_refl
  (fun _ hq=>call_meets F.slot_tuple_eq ⟨_,hp,rfl⟩ F.entry_tuple_eq (F.args_tuple_eq_2 _ _) (AH l b es ep _ _ _ _) ⟨ho,hp,hq⟩)
  (fun _ hq=>call_meets F.slot_dict_eq_refl ⟨_,ho,rfl⟩ F.entry_dict_eq (F.args_dict_eq_2 _ _) (yx l b es ep _ _ _ _) ⟨ho,hp,hq⟩)
  (fun _ hq=>iN hp ho (by simp) (by simp) hq) (.inr hu) h
 exact⟨a,d6 ne a,fun prog w E Q h=>SeqAt.rc_ne_decline_or (k:=false) ⟨_,hp,rfl⟩ ⟨_,ho,rfl⟩ (by decide) iG F.slot_tuple_ne F.slot_dict_ne_refl
  (fun _ hq=>call_meets F.slot_tuple_ne ⟨_,hp,rfl⟩ F.entry_tuple_ne (F.args_tuple_ne_2 _ _) (At l b es ep _ _ _ _) ⟨ho,hp,hq⟩)
  (fun _ hq=>call_meets F.slot_dict_ne_refl ⟨_,ho,rfl⟩ F.entry_dict_ne (F.args_dict_ne_2 _ _) (y3 l b es ep _ _ _ _) ⟨ho,hp,hq⟩)
  (fun _ hq=>iN hp ho (by simp) (by simp) hq) (.inr hu) h⟩
theorem vQ{b:Addr}{its:Array Value}(hb:s.heap.IsList b its)(d:mm s.heap l)(hu:A.units<cLine):Eq3 A s (.ref b) (.ref l) false:=by
 obtain⟨es,ep,ho⟩:=d;obtain⟨⟨cls,dd,data,sl⟩,hp,hc,n,hd⟩:=id hb;simp only at hc hd;subst hc hd;have ne:Value.ref b≠Value.ref l:=fun e=>by cases e;exact absurd (congrArg (fun o:Obj=>o.cls) (Option.some.inj (hp.symm.trans ho))) (by simp)
 have a:SeqAt.RcAt A s (.ref b) (.ref l) false:=fun prog w E Q h=>SeqAt.rc_eq_decline_or (k:=false) ⟨_,hp,rfl⟩ ⟨_,ho,rfl⟩ (by decide) iL F.slot_list_eq F.slot_dict_eq_refl
  (fun _ hq=>call_meets F.slot_list_eq ⟨_,hp,rfl⟩ F.entry_list_eq (F.args_list_eq_2 _ _) (Ao l b es ep _ _ _ _) ⟨ho,hp,hq⟩)
  (fun _ hq=>call_meets F.slot_dict_eq_refl ⟨_,ho,rfl⟩ F.entry_dict_eq (F.args_dict_eq_2 _ _) (zz l b es ep _ _ _ _) ⟨ho,hp,hq⟩)
  (fun _ hq=>iN hp ho (by simp) (by simp) hq) (.inr hu) h
 exact⟨a,d6 ne a,fun prog w E Q h=>SeqAt.rc_ne_decline_or (k:=false) ⟨_,hp,rfl⟩ ⟨_,ho,rfl⟩ (by decide) iL F.slot_list_ne F.slot_dict_ne_refl
  (fun _ hq=>call_meets F.slot_list_ne ⟨_,hp,rfl⟩ F.entry_list_ne (F.args_list_ne_2 _ _) (AD l b es ep _ _ _ _) ⟨ho,hp,hq⟩)
  (fun _ hq=>call_meets F.slot_dict_ne_refl ⟨_,ho,rfl⟩ F.entry_dict_ne (F.args_dict_ne_2 _ _) (zN l b es ep _ _ _ _) ⟨ho,hp,hq⟩)
  (fun _ hq=>iN hp ho (by simp) (by simp) hq) (.inr hu) h⟩
end
end L2
namespace L2
open PySem PySem.Spec PyProof.Rows
section
variable{X:Cx}{pins:List (Addr×Obj)}{σ:St}{H:Hp}{s:Shared}
theorem qa:∀ {xs:List V} {us:List Value} {j:Nat} {x:V},au xs us->xs[j]?=some x->∀(h:j<us.toArray.size),aM x us.toArray[j]:=fun {xs us j x} r e h=>by
 obtain⟨u,h1,h2⟩:=r.get e
 have:us[j]?=some us.toArray[j]:=by
  rw[List.getElem?_eq_getElem (by simpa using h)]
  simp
 rw[h1] at this;cases this;exact h2
theorem eE(I:Inv X pins σ H s){a:Addr}{xs:List V}(h:H a=some (.tup xs)):∃its:List Value,au xs its/\s.heap.IsTuple a its.toArray:=by
 obtain⟨its,r,p,_⟩:=I.tuple (SqT.of (K:=X.K) h);exact⟨its,r,p⟩
theorem fW(I:Inv X pins σ H s){a:Addr}{xs:List V}(h:H a=some (.lst xs)):∃its:List Value,au xs its/\s.heap.IsList a its.toArray:=by
 obtain⟨its,r,p,_⟩:=I.list (SqL.of (K:=X.K) h);exact⟨its,r,p.isList⟩
theorem kf(I:Inv X pins σ H s){a:Addr}{kvs:List (Key×V)}(h:H a=some (.dK kvs)):mm s.heap a:=by
 obtain⟨_,_,vs,_,o,es,ep,e1,⟨c1,c2,c3⟩,e2,_⟩:=I.hok _ _ h;obtain⟨cls,dd,data,sl⟩:=o;simp only at c1 c2 c3 e2;subst c1 c2 c3 e2;exact⟨_,_,e1⟩
theorem j1(I:Inv X pins σ H s){a:Addr}{kvs:List (List Key×V)}(h:H a=some (.dT kvs)):mm s.heap a:=by
 obtain⟨_,_,vs,_,o,es,ep,e1,⟨c1,c2,c3⟩,e2,_⟩:=I.hok _ _ h;obtain⟨cls,dd,data,sl⟩:=o;simp only at c1 c2 c3 e2;subst c1 c2 c3 e2;exact⟨_,_,e1⟩
theorem rg{ds es:List D}:((List.range (min ds.length es.length)).all (fun j=>eqD (ds.getD j .non) (es.getD j .non)) && ds.length == es.length)=eS ds es:=by
 by_cases h:ds.length=es.length
 ·rw[←fS h]
  have:min ds.length es.length=ds.length:=by omega
  rw[this];simp[h]
 ·rw[iZ h]
  have:(ds.length == es.length)=false:=by simpa using h
  rw[this,Bool.and_false]
theorem nG(I:Inv X pins σ H s)(n:Nat):∀(d e:D)(x y:V)(v u:Value)(A:Around),dep d<=n->A.units+n<cLine->Dat H d x->Dat H e y->aM x v->aM y u ->
  SeqAt.RcAt A s v u (eqD d e)/\SeqAt.EqAt A s v u (eqD d e)/\SeqAt.RcNeAt A s v u (!eqD d e):=by
 induction n with
 |zero=>
  intro d e x y v u A hd hu hx hy rx ry;have hu':A.units<cLine:=by omega
  cases d with
  |tup ds=>simp only[dep] at hd;omega
  |lst ds=>simp only[dep] at hd;omega
  |dk ds=>simp only[dep] at hd;omega
  |dt ds=>simp only[dep] at hd;omega
  |non=>
   simp only[Dat] at hx;subst hx;cases rx
   cases e with
   |non=>simp only[Dat] at hy;subst hy;cases ry;exact⟨SeqAt.RcAt.none_none,SeqAt.EqAt.same _,SeqAt.RcNeAt.none_none⟩
   |bl b=>simp only[Dat] at hy;subst hy;cases ry;exact⟨SeqAt.RcAt.none_bool b,SeqAt.EqAt.none_bool b,SeqAt.RcNeAt.none_bool b⟩
   |int b=>simp only[Dat] at hy;subst hy;obtain⟨t,rfl⟩:=ry;exact⟨SeqAt.RcAt.none_int b t,SeqAt.EqAt.none_int b t,SeqAt.RcNeAt.none_int b t⟩
   |str b=>simp only[Dat] at hy;subst hy;obtain⟨t,rfl⟩:=ry;exact⟨SeqAt.RcAt.none_str b t,SeqAt.EqAt.none_str b t,SeqAt.RcNeAt.none_str b t⟩
   |tup es=>
    simp only[Dat] at hy;obtain⟨b,ys,rfl,hb,_⟩:=hy;cases ry;obtain⟨its,_,p⟩:=eE I hb;exact⟨SeqAt.RcAt.none_tuple p hu',SeqAt.EqAt.none_tuple p hu',SeqAt.RcNeAt.none_tuple p hu'⟩
   |lst es=>
    simp only[Dat] at hy;obtain⟨b,ys,rfl,hb,_⟩:=hy;cases ry;obtain⟨its,_,p⟩:=fW I hb;exact⟨SeqAt.RcAt.none_list p hu',SeqAt.EqAt.none_list p hu',SeqAt.RcNeAt.none_list p hu'⟩
   |dk es=>
    simp only[Dat] at hy;obtain⟨b,ys,rfl,hb,_⟩:=hy;cases ry;exact tN (kf I hb) hu'
   |dt es=>
    simp only[Dat] at hy;obtain⟨b,ys,rfl,hb,_⟩:=hy;cases ry;exact tN (j1 I hb) hu'
  |bl a=>
   simp only[Dat] at hx;subst hx;cases rx
   cases e with
   |non=>simp only[Dat] at hy;subst hy;cases ry;exact⟨SeqAt.RcAt.bool_none a,SeqAt.EqAt.bool_none a,SeqAt.RcNeAt.bool_none a⟩
   |bl b=>simp only[Dat] at hy;subst hy;cases ry;exact⟨SeqAt.RcAt.bool_bool a b,SeqAt.EqAt.bool_bool a b,SeqAt.RcNeAt.bool_bool a b⟩
   |int b=>simp only[Dat] at hy;subst hy;obtain⟨t,rfl⟩:=ry;exact⟨SeqAt.RcAt.bool_int a b t,SeqAt.EqAt.bool_int a b t,SeqAt.RcNeAt.bool_int a b t⟩
   |str b=>simp only[Dat] at hy;subst hy;obtain⟨t,rfl⟩:=ry;exact⟨SeqAt.RcAt.bool_str a b t,SeqAt.EqAt.bool_str a b t,SeqAt.RcNeAt.bool_str a b t⟩
   |tup es=>
    simp only[Dat] at hy;obtain⟨b,ys,rfl,hb,_⟩:=hy;cases ry;obtain⟨its,_,p⟩:=eE I hb;exact⟨SeqAt.RcAt.bool_tuple a p hu',SeqAt.EqAt.bool_tuple a p hu',SeqAt.RcNeAt.bool_tuple a p hu'⟩
   |lst es=>
    simp only[Dat] at hy;obtain⟨b,ys,rfl,hb,_⟩:=hy;cases ry;obtain⟨its,_,p⟩:=fW I hb;exact⟨SeqAt.RcAt.bool_list a p hu',SeqAt.EqAt.bool_list a p hu',SeqAt.RcNeAt.bool_list a p hu'⟩
   |dk es=>
    simp only[Dat] at hy;obtain⟨b,ys,rfl,hb,_⟩:=hy;cases ry;exact w6 a (kf I hb) hu'
   |dt es=>
    simp only[Dat] at hy;obtain⟨b,ys,rfl,hb,_⟩:=hy;cases ry;exact w6 a (j1 I hb) hu'
  |int a=>
   simp only[Dat] at hx;subst hx;obtain⟨t',rfl⟩:=rx
   cases e with
   |non=>simp only[Dat] at hy;subst hy;cases ry;exact⟨SeqAt.RcAt.int_none a t',SeqAt.EqAt.int_none a t',SeqAt.RcNeAt.int_none a t'⟩
   |bl b=>simp only[Dat] at hy;subst hy;cases ry;exact⟨SeqAt.RcAt.int_bool a t' b,SeqAt.EqAt.int_bool a t' b,SeqAt.RcNeAt.int_bool a t' b⟩
   |int b=>simp only[Dat] at hy;subst hy;obtain⟨t,rfl⟩:=ry;exact⟨SeqAt.RcAt.int_int a t' b t,SeqAt.EqAt.int_int a t' b t,SeqAt.RcNeAt.int_int a t' b t⟩
   |str b=>simp only[Dat] at hy;subst hy;obtain⟨t,rfl⟩:=ry;exact⟨SeqAt.RcAt.int_str a t' b t,SeqAt.EqAt.int_str a t' b t,SeqAt.RcNeAt.int_str a t' b t⟩
   |tup es=>
    simp only[Dat] at hy;obtain⟨b,ys,rfl,hb,_⟩:=hy;cases ry;obtain⟨its,_,p⟩:=eE I hb;exact⟨SeqAt.RcAt.int_tuple a t' p hu',SeqAt.EqAt.int_tuple a t' p hu',SeqAt.RcNeAt.int_tuple a t' p hu'⟩
   |lst es=>
    simp only[Dat] at hy;obtain⟨b,ys,rfl,hb,_⟩:=hy;cases ry;obtain⟨its,_,p⟩:=fW I hb;exact⟨SeqAt.RcAt.int_list a t' p hu',SeqAt.EqAt.int_list a t' p hu',SeqAt.RcNeAt.int_list a t' p hu'⟩
   |dk es=>
    simp only[Dat] at hy;obtain⟨b,ys,rfl,hb,_⟩:=hy;cases ry;exact wD a t' (kf I hb) hu'
   |dt es=>
    simp only[Dat] at hy;obtain⟨b,ys,rfl,hb,_⟩:=hy;cases ry;exact wD a t' (j1 I hb) hu'
  |str a=>
   simp only[Dat] at hx;subst hx;obtain⟨t',rfl⟩:=rx
   cases e with
   |non=>simp only[Dat] at hy;subst hy;cases ry;exact⟨SeqAt.RcAt.str_none a t',SeqAt.EqAt.str_none a t',SeqAt.RcNeAt.str_none a t'⟩
   |bl b=>simp only[Dat] at hy;subst hy;cases ry;exact⟨SeqAt.RcAt.str_bool a t' b,SeqAt.EqAt.str_bool a t' b,SeqAt.RcNeAt.str_bool a t' b⟩
   |int b=>simp only[Dat] at hy;subst hy;obtain⟨t,rfl⟩:=ry;exact⟨SeqAt.RcAt.str_int a t' b t,SeqAt.EqAt.str_int a t' b t,SeqAt.RcNeAt.str_int a t' b t⟩
   |str b=>simp only[Dat] at hy;subst hy;obtain⟨t,rfl⟩:=ry;exact⟨SeqAt.RcAt.str_str a t' b t,SeqAt.EqAt.str_str a t' b t,SeqAt.RcNeAt.str_str a t' b t⟩
   |tup es=>
    simp only[Dat] at hy;obtain⟨b,ys,rfl,hb,_⟩:=hy;cases ry;obtain⟨its,_,p⟩:=eE I hb;exact⟨SeqAt.RcAt.str_tuple a t' p hu',SeqAt.EqAt.str_tuple a t' p hu',SeqAt.RcNeAt.str_tuple a t' p hu'⟩
   |lst es=>
    simp only[Dat] at hy;obtain⟨b,ys,rfl,hb,_⟩:=hy;cases ry;obtain⟨its,_,p⟩:=fW I hb;exact⟨SeqAt.RcAt.str_list a t' p hu',SeqAt.EqAt.str_list a t' p hu',SeqAt.RcNeAt.str_list a t' p hu'⟩
   |dk es=>
    simp only[Dat] at hy;obtain⟨b,ys,rfl,hb,_⟩:=hy;cases ry;exact vW a t' (kf I hb) hu'
   |dt es=>
    simp only[Dat] at hy;obtain⟨b,ys,rfl,hb,_⟩:=hy;cases ry;exact vW a t' (j1 I hb) hu'
 |succ n ih=>
  intro d e x y v u A hd hu hx hy rx ry;have hu':A.units<cLine:=by omega
  by_cases h0:dep d<=n
  ·exact ih d e x y v u A h0 (by omega) hx hy rx ry
  have hin:A.in1.units+n<cLine:=by show A.units+1+n<cLine;omega
  have items:∀(ds es:List D)(xs ys:List V)(its its2:List Value),fT ds<=n->ay H ds xs->ay H es ys->au xs its->au ys its2 ->
    ∀j (h1:j<its.toArray.size) (h2:j<its2.toArray.size),SeqAt.EqAt A.in1 s its.toArray[j] its2.toArray[j] (eqD (ds.getD j .non) (es.getD j .non)):=by
   intro ds es xs ys its its2 hdp hxs hys r1 r2 j h1 h2;have l1:j<ds.length:=by rw[←hxs.length,r1.length];simpa using h1
   have l2:j<es.length:=by rw[←hys.length,r2.length];simpa using h2
   obtain⟨x',ex,hx'⟩:=hxs.get (List.getElem?_eq_getElem l1);obtain⟨y',ey,hy'⟩:=hys.get (List.getElem?_eq_getElem l2);have g1:ds.getD j .non=ds[j]:=by rw[List.getD_eq_getElem?_getD,List.getElem?_eq_getElem l1];rfl
   have g2:es.getD j .non=es[j]:=by rw[List.getD_eq_getElem?_getD,List.getElem?_eq_getElem l2];rfl
   rw[g1,g2];exact(ih ds[j] es[j] x' y' _ _ A.in1 (Nat.le_trans (lV (List.getElem_mem l1)) hdp) hin hx' hy' (qa r1 ex h1) (qa r2 ey h2)).2.1
  cases d with
  |non=>simp only[dep] at h0;omega
  |bl a=>simp only[dep] at h0;omega
  |int a=>simp only[dep] at h0;omega
  |str a=>simp only[dep] at h0;omega
  |dk ds=>simp only[dep] at hd;have:cLine=9900:=rfl;omega
  |dt ds=>simp only[dep] at hd;have:cLine=9900:=rfl;omega
  |tup ds=>
   simp only[dep] at hd;have hx0:=hx;simp only[Dat] at hx;obtain⟨a,xs,rfl,ha,hxs⟩:=hx;cases rx;obtain⟨its,r1,p⟩:=eE I ha
   cases e with
   |non=>simp only[Dat] at hy;subst hy;cases ry;exact⟨SeqAt.RcAt.tuple_none p hu',SeqAt.EqAt.tuple_none p hu',SeqAt.RcNeAt.tuple_none p hu'⟩
   |bl b=>simp only[Dat] at hy;subst hy;cases ry;exact⟨SeqAt.RcAt.tuple_bool b p hu',SeqAt.EqAt.tuple_bool b p hu',SeqAt.RcNeAt.tuple_bool b p hu'⟩
   |int b=>simp only[Dat] at hy;subst hy;obtain⟨t,rfl⟩:=ry;exact⟨SeqAt.RcAt.tuple_int b t p hu',SeqAt.EqAt.tuple_int b t p hu',SeqAt.RcNeAt.tuple_int b t p hu'⟩
   |str b=>simp only[Dat] at hy;subst hy;obtain⟨t,rfl⟩:=ry;exact⟨SeqAt.RcAt.tuple_str b t p hu',SeqAt.EqAt.tuple_str b t p hu',SeqAt.RcNeAt.tuple_str b t p hu'⟩
   |lst es=>
    simp only[Dat] at hy;obtain⟨b,ys,rfl,hb,_⟩:=hy;cases ry;obtain⟨its2,_,p2⟩:=fW I hb;exact⟨SeqAt.RcAt.tuple_list p p2 hu',SeqAt.EqAt.tuple_list p p2 hu',SeqAt.RcNeAt.tuple_list p p2 hu'⟩
   |dk es=>
    simp only[Dat] at hy;obtain⟨b,ys,rfl,hb,_⟩:=hy;cases ry;exact wH p (kf I hb) hu'
   |dt es=>
    simp only[Dat] at hy;obtain⟨b,ys,rfl,hb,_⟩:=hy;cases ry;exact wH p (j1 I hb) hu'
   |tup es=>
    have hy0:=hy;simp only[Dat] at hy;obtain⟨b,ys,rfl,hb,hys⟩:=hy;cases ry;obtain⟨its2,r2,p2⟩:=eE I hb;have it:=items ds es xs ys its its2 (by omega) hxs hys r1 r2
    have z1:its.toArray.size=ds.length:=by rw[←hxs.length,r1.length];simp
    have z2:its2.toArray.size=es.length:=by rw[←hys.length,r2.length];simp
    have e0:=rg (ds:=ds) (es:=es)
    have rc:SeqAt.RcAt A s (.ref a) (.ref b) (eS ds es):=by
     have:=SeqAt.RcAt.tuples p p2 hu' it;rw[z1,z2,e0] at this;exact this
    have rn:SeqAt.RcNeAt A s (.ref a) (.ref b) (!eS ds es):=by
     have:=SeqAt.RcNeAt.tuples p p2 hu' it;rw[z1,z2,e0] at this;exact this
    simp only[eqD];refine⟨rc,?_,rn⟩;by_cases hab:a=b
    ·subst hab
     have:D.tup ds=D.tup es:=hx0.inj hy0;cases this;rw[ej];exact SeqAt.EqAt.same _
    ·exact .of_refs hab rc
  |lst ds=>
   simp only[dep] at hd;have hx0:=hx;simp only[Dat] at hx;obtain⟨a,xs,rfl,ha,hxs⟩:=hx;cases rx;obtain⟨its,r1,p⟩:=fW I ha
   cases e with
   |non=>simp only[Dat] at hy;subst hy;cases ry;exact⟨SeqAt.RcAt.list_none p hu',SeqAt.EqAt.list_none p hu',SeqAt.RcNeAt.list_none p hu'⟩
   |bl b=>simp only[Dat] at hy;subst hy;cases ry;exact⟨SeqAt.RcAt.list_bool b p hu',SeqAt.EqAt.list_bool b p hu',SeqAt.RcNeAt.list_bool b p hu'⟩
   |int b=>simp only[Dat] at hy;subst hy;obtain⟨t,rfl⟩:=ry;exact⟨SeqAt.RcAt.list_int b t p hu',SeqAt.EqAt.list_int b t p hu',SeqAt.RcNeAt.list_int b t p hu'⟩
   |str b=>simp only[Dat] at hy;subst hy;obtain⟨t,rfl⟩:=ry;exact⟨SeqAt.RcAt.list_str b t p hu',SeqAt.EqAt.list_str b t p hu',SeqAt.RcNeAt.list_str b t p hu'⟩
   |tup es=>
    simp only[Dat] at hy;obtain⟨b,ys,rfl,hb,_⟩:=hy;cases ry;obtain⟨its2,_,p2⟩:=eE I hb;exact⟨SeqAt.RcAt.list_tuple p p2 hu',SeqAt.EqAt.list_tuple p p2 hu',SeqAt.RcNeAt.list_tuple p p2 hu'⟩
   |dk es=>
    simp only[Dat] at hy;obtain⟨b,ys,rfl,hb,_⟩:=hy;cases ry;exact vQ p (kf I hb) hu'
   |dt es=>
    simp only[Dat] at hy;obtain⟨b,ys,rfl,hb,_⟩:=hy;cases ry;exact vQ p (j1 I hb) hu'
   |lst es=>
    have hy0:=hy;simp only[Dat] at hy;obtain⟨b,ys,rfl,hb,hys⟩:=hy;cases ry;obtain⟨its2,r2,p2⟩:=fW I hb;have it:=items ds es xs ys its its2 (by omega) hxs hys r1 r2
    have z1:its.toArray.size=ds.length:=by rw[←hxs.length,r1.length];simp
    have z2:its2.toArray.size=es.length:=by rw[←hys.length,r2.length];simp
    have both:SeqAt.RcAt A s (.ref a) (.ref b) (eS ds es)/\SeqAt.RcNeAt A s (.ref a) (.ref b) (!eS ds es):=by
     by_cases hl:ds.length=es.length
     ·have r:=SeqAt.RcAt.lists p p2 (by rw[z1,z2];exact hl) hu' it
      have q:=SeqAt.RcNeAt.lists p p2 (by rw[z1,z2];exact hl) hu' it
      rw[z1,fS hl] at r q;exact⟨r,q⟩
     ·have hne:(its.toArray.size != its2.toArray.size)=true:=by rw[z1,z2];simpa using hl
      rw[iZ hl];exact⟨SeqAt.RcAt.lists_lengths p p2 hne hu',SeqAt.RcNeAt.lists_lengths p p2 hne hu'⟩
    simp only[eqD];refine⟨both.1,?_,both.2⟩;by_cases hab:a=b
    ·subst hab
     have:D.lst ds=D.lst es:=hx0.inj hy0;cases this;rw[ej];exact SeqAt.EqAt.same _
    ·exact .of_refs hab both.1
noncomputable def x0(neg:Bool):R2:=fun x y H Q=>∃d e,Dat H d x/\Dat H e y/\dep d<=100/\Q (.bl (if neg then !eqD d e else eqD d e)) H
theorem bD(hu:X.A.units+100<cLine):OpR X (compareOp .Eq) (x0 false):=by
 intro pins s σ H x y v u Q I rx ry h;obtain⟨d,e,hx,hy,hd,q⟩:=h;exact(nG I 100 d e x y v u X.A hd hu hx hy rx ry).1 X.prog X.w _ _ ⟨.bl _,H,I,rfl,q⟩
theorem gP(hu:X.A.units+100<cLine):OpR X (compareOp .NotEq) (x0 true):=by
 intro pins s σ H x y v u Q I rx ry h;obtain⟨d,e,hx,hy,hd,q⟩:=h;exact(nG I 100 d e x y v u X.A hd hu hx hy rx ry).2.2 X.prog X.w _ _ ⟨.bl _,H,I,rfl,q⟩
end
theorem rA{H:Hp}{p:Addr}{o:HO}(h:H p=none):cZ H (upd H p o):=fun b u e=>by
 rw[aq (bd e h)];exact e
theorem kz(H:Hp):∀ns:List Int,ay H (ns.map D.int) (ns.map V.int)
 | []=>by simp[ay]
 |n::r=>by
  simp only[List.map_cons,ay];exact⟨_,_,rfl,by simp[Dat],kz H r⟩
theorem ma{e k y:Int}(h:0<k)(h2:k<=2^64):jZ (e%k) y:=by
 have h1:=Int.emod_nonneg e (Int.ne_of_gt h);have h3:=Int.emod_lt_of_pos e h;exact .inl ⟨by omega,by omega⟩
theorem nO{x y:Int}(h:-(2^64)<x/\x<2^64):jZ x y:=.inl h
theorem rP{x y:Int}(h:-(2^64)<y/\y<2^64):jZ x y:=.inr h
section
variable{X:Cx}{tg a b l:Expr}{ta tb tl:TE}{pos:Pos}
theorem bo(K:W.Frag)(h:X.K=K):IxR X (rIx K):=h ▸ xJ
theorem b9(K:W.Frag)(h:X.K=K):dN X (.builtin "len") (fun xs H Q=>∃x n,xs=[x]/\uY K x H n/\Q (.int n) H):=h ▸ tQ
theorem eh(K:W.Frag)(h:X.K=K)(ha:PE X a ta)(he:∀whole,isTrue a X.env whole=(do let v ← whole;standAt a.pos;holding [v] (truthy v))):
  PT X a (fun σ H Q=>ta σ H fun x H'=>∃k,nz K x H' k/\Q k H'):=h ▸ ud ha he
end
noncomputable def Ay(J:It)(g:TG)(tb:TS)(D:fk)(σ:St)(H:Hp):Prop:=∃W:Nat->Nat->St->Hp->Prop,(∃m,W 0 m σ H)/\∀i m σ H,W i m σ H ->
 (J.stop i H/\D.nx σ H)\/(J.go i H/\∃N:St->Hp->Prop,(∀σ' H',N σ' H'->∃m',m'<m/\W (i+1) m' σ' H')/\∀x H',J.yld i H x H'->g x σ H' fun σ2 H2=>tb { D with nx:=N,ct:=N,bk:=D.nx } σ2 H2)
theorem vy(wi:TI)(g:TG)(tb:TS)(D:fk)(σ:St)(H:Hp):xm wi g tb D σ H=wi σ H fun J H1=>Ay J g tb D σ H1:=rfl
mutual
noncomputable def noL:D->Bool
 |.lst _=>false
 |.dk _=>false
 |.dt _=>false
 |.tup ds=>A5 ds
 |_=>true
noncomputable def A5:List D->Bool
 | []=>true
 |d::ds=>noL d && A5 ds
end
theorem lL:∀ {ds:List D},(∀d∈ds,noL d=true)->A5 ds=true
 | [],_=>by simp[A5]
 |d::ds,h=>by
  simp only[A5,Bool.and_eq_true];exact⟨h d (List.mem_cons_self ..),lL fun e he=>h e (List.mem_cons_of_mem _ he)⟩
end L2
namespace L2
end L2
namespace L2
open PySem
theorem ci.A4{k:Nat}{A:Around}(r:ci k A):A.units+100<cLine:=by have:=r.un;omega
end L2
namespace L2
open PySem PySem.Spec PyProof.Rows
end L2
namespace L2
open PySem
theorem ay.take{H:Hp}:∀ {ds:List D} {xs:List V} (n:Nat),ay H ds xs->ay H (ds.take n) (xs.take n):=fun {ds xs} n h=>by
 refine ay.of_get (by rw[List.length_take,List.length_take,h.length]) fun i d x e1 e2=>?_
 rw[List.getElem?_take] at e1 e2;split at e1
 ·rename_i hi
  rw[if_pos hi] at e2;obtain⟨x',h1,h2⟩:=h.get e1;rw[e2] at h1;cases h1;exact h2
 ·cases e1
theorem ay.drop{H:Hp}:∀ {ds:List D} {xs:List V} (n:Nat),ay H ds xs->ay H (ds.drop n) (xs.drop n):=fun {ds xs} n h=>by
 refine ay.of_get (by rw[List.length_drop,List.length_drop,h.length]) fun i d x e1 e2=>?_
 rw[List.getElem?_drop] at e1 e2;obtain⟨x',h1,h2⟩:=h.get e1;rw[e2] at h1;cases h1;exact h2
end L2
namespace L2
open PySem PySem.Spec PyProof.Rows
noncomputable def LD(H:Hp)(l:Addr)(ds:List D):Prop:=A5 ds=true/\∃xs,H l=some (.lst xs)/\ay H ds xs
theorem mj{ds es:List D}:A5 (ds++es)=(A5 ds && A5 es):=by
 induction ds with
 |nil=>simp[A5]
 |cons d ds ih=>simp[A5,ih,Bool.and_assoc]
inductive Tr where
 |lf (x:List D)
 |nd (x:List D) (l r:Tr)
namespace Tr
noncomputable def d:Tr->D
 |.lf x=>.tup x
 |.nd x l r=>.tup (x++[l.d,r.d])
noncomputable def size:Tr->Nat
 |.lf _=>1
 |.nd _ l r=>l.size+r.size+1
noncomputable def lvs:Tr->Nat
 |.lf _=>1
 |.nd _ l r=>l.lvs+r.lvs
noncomputable def dp:Tr->Nat
 |.lf _=>0
 |.nd _ l r=>1+max l.dp r.dp
noncomputable def post:Tr->List Tr
 |.lf x=>[.lf x]
 |.nd x l r=>l.post++r.post++[.nd x l r]
noncomputable def pre:Tr->List Tr
 |.lf x=>[.lf x]
 |.nd x l r=>.nd x l r::(r.pre++l.pre)
noncomputable def ok(lw:Str):Tr->Prop
 |.lf x=>x[0]?=some (.str lw)/\A5 x=true
 |.nd x l r=>(∃w,x[0]?=some (.str w)/\w≠lw)/\A5 x=true/\l.ok lw/\r.ok lw
theorem ok.noL{lw:Str}:∀ {t:Tr},t.ok lw->noL t.d=true
 |.lf x,h=>by simp only[d,L2.noL];exact h.2
 |.nd x l r,h=>by
  obtain⟨_,h1,h2,h3⟩:=h;simp only[d,L2.noL,mj,Bool.and_eq_true];exact⟨h1,by simp[A5,ok.noL h2,ok.noL h3]⟩
theorem ok.post{lw:Str}:∀ {t:Tr},t.ok lw->∀u∈t.post,u.ok lw
 |.lf x,h,u,hu=>by simp only[Tr.post,List.mem_singleton] at hu;subst hu;exact h
 |.nd x l r,h,u,hu=>by
  simp only[Tr.post,List.mem_append,List.mem_singleton] at hu;rcases hu with(hu|hu)|hu
  ·exact ok.post h.2.2.1 u hu
  ·exact ok.post h.2.2.2 u hu
  ·subst hu;exact h
theorem ok.A5{lw:Str}{ts:List Tr}(h:∀t∈ts,t.ok lw):A5 (ts.map d)=true:=lL fun e he=>by
 obtain⟨t,ht,rfl⟩:=List.mem_map.mp he;exact(h t ht).noL
end Tr
section
variable{X:Cx}
theorem fE{prog:Program}{w:World}{A:Around}{E:Value->Shared->Prop}{s:Shared}{t sl:Addr}{items:Array Value}{vl vu:Value}{lo hi:Option Int}{Q:Value->Shared->Prop}(ht:IsTup s.heap t items)(hs:s.heap.IsSliceOf sl vl vu .none)(pl:IsPart vl lo)(pu:IsPart vu hi)(hw:HT.sIx items.size 0 lo=0/\HT.sIx items.size items.size hi=items.size)(h:Q (.ref t) s):wpAny (model prog w) A (getItem (.ref t) (.ref sl)) Q E s:=by
 obtain⟨os,hos,hcs,hds⟩:=id hs;have hTs:s.TypeIs (.ref sl) "slice":=⟨os,hos,hcs⟩;unfold getItem
 try with_reducible refine wpAny_holding ?_
 first|refine wpAny_bind (wpAny_pure ?_)|skip
 refine wpAny_bind (wpAny_sequenceKey ht.typeIs (by decide) ?_)
 refine wpAny_bind (wpAny_callSpecial?_slot (name:=Str.ofString "__getitem__") ht.typeIs PyProof.Rows.slot_tuple_getitem
  (wpAny_call_entry PyProof.Rows.slot_tuple_getitem ht.typeIs PyProof.Rows.entry_tuple_getitem ?_ (PyProof.Rows.args_tuple_getitem _ _)))
 show wpAny _ _ (Builtin.Tuple.tupleItemsOf (.ref t) >>= _) _ _ s;refine wpAny_bind (tupleItemsOf_ ht ?_);refine wpAny_bind (wpAny_typeOf hTs ?_);rw[if_pos (by decide)]
 refine wpAny_bind (HT.sliceApplied_gen hs pl pu ?_)
 have hyes:(((HT.sIx items.size 0 lo:Nat):Int) == 0 && (1:Int) == 1 && (HT.sIx items.size items.size hi-HT.sIx items.size 0 lo) == items.size)=true:=by
  rw[hw.1,hw.2];simp
 show wpAny _ _ (if (((HT.sIx items.size 0 lo:Nat):Int) == 0 && (1:Int) == 1 && (HT.sIx items.size items.size hi-HT.sIx items.size 0 lo) == items.size)=true then _ else _) _ _ s
 rw[if_pos hyes];unfold Builtin.Tuple.tupleIsExact;refine wpAny_bind (wpAny_bind (wpAny_typeOf ht.typeIs (wpAny_pure ?_)));rw[if_pos (by decide)]
 exact wpAny_bind (wpAny_rule (wpAny_pure ⟨_,rfl,wpAny_pure h⟩))
noncomputable def pU(K:W.Frag):V->Option Int->Option Int->Hp->VK->Prop:=fun x lo hi H Q=>∃a xs,x=.ref a/\SqT K H a xs /\
 if HT.sIx xs.length 0 lo=0/\HT.sIx xs.length xs.length hi=xs.length then Q (.ref a) H else ∀p,H p=none->Q (.ref p) (upd H p (.tup (gU xs lo hi)))
theorem pB:SlR X (pU X.K):=by
 intro pins s σ H x v vl vu lo hi sl Q I rx hs pl pu h;obtain⟨a,xs,rfl,hx,h⟩:=h;by_cases hw:HT.sIx xs.length 0 lo=0/\HT.sIx xs.length xs.length hi=xs.length
 ·rw[if_pos hw] at h
  cases rx;obtain⟨its,r,ht,hz⟩:=I.tuple hx;have hlen:its.toArray.size=xs.length:=by rw[List.size_toArray];exact r.length.symm
  exact⟨"tuple",_,PyProof.Rows.slot_tuple_getitem.lookup,ht.typeIs,fE ht hs pl pu (by rw[hlen];exact hw) ⟨.ref a,H,I,rfl,h⟩⟩
 ·rw[if_neg hw] at h
  exact xK pins s σ H (.ref a) v vl vu lo hi sl Q I rx hs pl pu ⟨a,xs,rfl,hx,hw,h⟩
theorem t6(K:W.Frag)(h:X.K=K):SlR X (pU K):=h ▸ pB
theorem nH{xs:List V}{lo hi:Option Int}(h:HT.sIx xs.length 0 lo=0/\HT.sIx xs.length xs.length hi=xs.length):gU xs lo hi=xs:=by
 unfold gU;rw[h.1,h.2];simp
end
section
variable{X:Cx}
theorem tT(hu:X.A.units+100<cLine):OpR X (compareOp .Eq) (fun x y H Q=>∃a b xs,x=.ref a/\y=.ref b/\SqL X.K H a xs/\SqL X.K H b []/\Q (.bl xs.isEmpty) H):=by
 intro pins s σ H x y v u Q I rx ry h;obtain⟨a,b,xs,rfl,rfl,ha,hb,q⟩:=h;cases rx;cases ry;obtain⟨its,r1,p1,_⟩:=I.list ha;obtain⟨its2,r2,p2,_⟩:=I.list hb;cases r2;have hu':X.A.units<cLine:=by omega
 cases xs with
 |nil=>
  cases r1;have:=SeqAt.RcAt.lists (e:=fun _=>true) p1.isList p2.isList rfl hu' (fun j h1 _=>absurd h1 (by simp))
  exact this X.prog X.w _ _ ⟨.bl _,H,I,rfl,q⟩
 |cons x xs=>
  have hne:(its.toArray.size != ([]:List Value).toArray.size)=true:=by
   have:=r1.length;rw[List.size_toArray,←this]
   simp
  exact SeqAt.RcAt.lists_lengths p1.isList p2.isList hne hu' X.prog X.w _ _ ⟨.bl _,H,I,rfl,q⟩
end
noncomputable def wdD(w:List Int):D:=.tup (w.map D.int)
structure SN(n:Nat)(H:Hp)(S:Addr)(ad:Nat->Addr)(fs:Nat->List D):Prop where
 s:H S=some (.lst ((List.range n).map fun i=>.ref (ad i)))
 l:∀i,i<n->LD H (ad i) (fs i)
noncomputable def StE(w:World)(e:DictEntry)(p:Str×V):Prop:=e.hash=PyData.keyHash w.params p.1/\(∃t,e.key=.str p.1 t)/\aM p.2 e.val
noncomputable def StD(w:World)(K:W.Frag)(a:Addr)(kvs:List (Str×V)):Prop:=∃(o:Obj)(es:List DictEntry)(ep:Nat),K.lookup a=some o/\o.ExactDict/\o.data=.dict es.toArray ep/\Paired (StE w) es kvs
noncomputable def eX(kvs:List (Str×V))(x:Str):Option V:=(kvs.find? fun p=>decide (p.1=x)).map (·.2)
theorem StE.find{P:Program}{w:World}:∀ {es:List DictEntry} {kvs:List (Str×V)} {x:Str} {v:V},Paired (StE w) es kvs->eX kvs x=some v->∃u,findBy (aS P w).is es.toArray (Sum.inr x)=some u/\aM v u:=by
 intro es
 induction es with
 |nil=>intro kvs x v h hv;cases h;cases hv
 |cons e es ih=>
  intro kvs x v h hv
  cases h with
  | @cons _ p _ kvs r t=>
   obtain⟨h1,⟨tk,h2⟩,h3⟩:=r
   have hf:findBy (aS P w).is (e::es).toArray (Sum.inr x)=if eQ (Sum.inr x) e.key=true then some e.val else findBy (aS P w).is es.toArray (Sum.inr x):=by
    unfold findBy;simp only[List.find?_toArray,List.find?_cons,i8];cases eQ (Sum.inr x) e.key<;>simp
   by_cases hx:p.1=x
   ·have hk:eQ (Sum.inr x) e.key=true:=by rw[h2,←hx];exact kI _ _
    rw[hf,if_pos hk];unfold eX at hv;rw[List.find?_cons_of_pos (by simp[hx])] at hv
    cases hv;exact⟨_,rfl,h3⟩
   ·have hk:¬ eQ (Sum.inr x) e.key=true:=by
     rw[h2];intro z;rcases aU z with⟨i,t',e1,e2⟩|⟨y,t',e1,e2⟩
     ·cases e2
     ·injection e2 with e2 _
      injection e1 with e1;exact hx (e2.trans e1.symm)
    rw[hf,if_neg hk];unfold eX at hv;rw[List.find?_cons_of_neg (by simp[hx])] at hv
    exact ih t hv
theorem StE.keys{P:Program}{w:World}:∀ {es:List DictEntry} {kvs:List (Str×V)},Paired (StE w) es kvs->∀e∈es,∃k,(aS P w).is k e.key=true/\e.hash=(aS P w).hash k
 |_,_,.nil,e,h=>by cases h
 |_,_,.cons (a:=e0) (b:=p) r t,e,h=>by
  rcases List.mem_cons.mp h with rfl|h
  ·obtain⟨h1,⟨tk,h2⟩,_⟩:=r
   exact⟨Sum.inr p.1,by rw[h2];exact fo _ _ _ _,h1⟩
  ·exact StE.keys t e h
section
variable{X:Cx}{o i:Expr}{ty:TE}{pos:Pos}{a:Addr}{kvs:List (Str×V)}
noncomputable def vU(kvs:List (Str×V))(td ty:TE):TE:=fun σ H Q=>td σ H fun _ H0=>ty σ H0 fun y H1=>∃x v,y=.str x/\eX kvs x=some v/\Q v H1
theorem vi(hd:StD X.w X.K a kvs)(ho:PE X o (tC (.ref a)))(hi:PE X i ty)(hs:yI i):PE X (.Subscript o i pos) (vU kvs (tC (.ref a)) ty):=.mk <| by
 intro pins s σ H Q I h;obtain⟨ob,es,ep,hk,hx,hdat,hp⟩:=hd;refine ve PySem.F.slot_dict_getitem.lookup hs (thn (ho pins s σ H (fun x H1=>x=.ref a/\ty σ H1 fun y H1=>∃x v,y=.str x/\eX kvs x=some v/\Q v H1) I ⟨rfl,h⟩) fun u s1 ⟨x,H1,I1,rx,ex,q1⟩=>thn (hi pins s1 σ H1 _ I1 q1) fun iv s2 ⟨y,H2,I2,ry,k,v,ey,hv,q2⟩=>?_);subst ex;subst ey;obtain rfl:u=Value.ref a:=rx;obtain⟨t,rfl⟩:=ry;obtain⟨u',hf,ru⟩:=StE.find (P:=X.prog) hp hv
 have hg:s2.heap.get? a=some ob:=I2.kIn a ob hk;have hm:s2.heap.MapOf (aS X.prog X.w) a (findBy (aS X.prog X.w).is es.toArray):=⟨ob,es.toArray,ep,hg,hx,hdat,fun e he=>StE.keys hp e (by simpa using he),fun _=>rfl⟩
 exact⟨⟨ob,hg,hx.1⟩,wpAny_getItem_of (knd:=aS X.prog X.w) (fo _ _ _ _) hm hf ⟨v,H2,I2.tok _,ru,q2⟩⟩
end
open Classical in
noncomputable def eqF(H:Hp)(dx:D)(u:Value):Bool:=if h:∃d,∃x,aM x u/\Dat H d x then eqD (Classical.choose h) dx else false
theorem sM{H:Hp}{dx d:D}{x:V}{u:Value}(r:aM x u)(h:Dat H d x):eqF H dx u=eqD d dx:=by
 have hex:∃d,∃x,aM x u/\Dat H d x:=⟨d,x,r,h⟩;unfold eqF;rw[dif_pos hex];obtain⟨x',r',h'⟩:=Classical.choose_spec hex;have:x'=x:=r'.inj r;subst this;rw[Dat.inj h' h]
theorem o5{H:Hp}{dx:D}:∀ {ds:List D} {xs:List V} {its:List Value},ay H ds xs->au xs its->its.any (eqF H dx)=ds.any fun d=>eqD d dx
 | [],xs,its,h,r=>by
  simp only[ay] at h;subst h;cases r;rfl
 |d::ds,xs,its,h,r=>by
  simp only[ay] at h;obtain⟨x,xr,rfl,h1,h2⟩:=h
  cases r with
  |cons r1 r2=>rw[List.any_cons,List.any_cons,sM r1 h1,o5 h2 r2]
theorem mw{H:Hp}:∀ {ds:List D} {xs:List V} {its:List Value},ay H ds xs->au xs its->∀u∈its,∃d x,d∈ds/\aM x u/\Dat H d x
 | [],xs,its,h,r,u,hu=>by simp only[ay] at h;subst h;cases r;cases hu
 |d::ds,xs,its,h,r,u,hu=>by
  simp only[ay] at h;obtain⟨x,xr,rfl,h1,h2⟩:=h
  cases r with
  |cons r1 r2=>
   rcases List.mem_cons.mp hu with rfl|hu
   ·exact⟨d,x,List.mem_cons_self ..,r1,h1⟩
   ·obtain⟨d',x',m,q⟩:=mw h2 r2 u hu
    exact⟨d',x',List.mem_cons_of_mem _ m,q⟩
noncomputable def inD(dx:D)(ds:List D):Bool:=ds.any fun d=>eqD d dx
end L2
namespace L2
open PySem PySem.Spec PyProof.Rows
mutual
noncomputable def pyD:D->PyData
 |.non=>.none
 |.bl b=>.bool b
 |.int i=>.int i
 |.str x=>.str x
 |.tup ds=>.tuple (eT ds)
 |.lst ds=>.list (eT ds)
 |.dk ks=>.dict (ks.map fun k=>(.int k,.int 1))
 |.dt ks=>.dict (ks.map fun k=>(.tuple (k.map .int),.int 1))
noncomputable def eT:List D->List PyData
 | []=>[]
 |d::ds=>pyD d::eT ds
end
noncomputable def gy(d:D):Str:=(pyD d).shown
theorem m3{P:Program}{w:World}{h:Heap}:∀ {ks:List Int} {vs:List (Key×Value)} {es:List DictEntry},KV (dkO ks) vs->Pairs (aS P w) es vs ->
  ReadsAll h (es.map (·.key)) (ks.map PyData.int) []/\ReadsAll h (es.map (·.val)) (ks.map fun _=>PyData.int 1) []
 | [],vs,es,r,p=>by
  cases r;cases p;exact⟨.nil,.nil⟩
 |k::ks,vs,es,r,p=>by
  cases r with
  |cons r1 r2=>
   cases p with
   |cons hk hv p2=>
    obtain⟨e1,e2⟩:=r1;obtain⟨q1,q2⟩:=m3 r2 p2;dsimp only at e1 e2;rw[←e1] at hk
    rcases aU (k:=Sum.inl k) hk with⟨i,t,e3,e4⟩|⟨x,t,e3,e4⟩
    ·cases e3
     obtain⟨u,e2⟩:=e2;refine⟨?_,?_⟩
     ·show ReadsAll h (_::_) (_::_) ([]++[])
      refine .cons ?_ q1;dsimp only;rw[e4];exact .int k t
     ·show ReadsAll h (_::_) (_::_) ([]++[])
      refine .cons ?_ q2;dsimp only;rw[hv,e2];exact .int 1 u
    ·cases e3
theorem jj{h:Heap}:∀ {k:List Int} {its:List Value},au ((k.map Sum.inl).map kV) its->ReadsAll h its (k.map PyData.int) []
 | [],its,r=>by cases r;exact .nil
 |i::k,its,r=>by
  cases r with
  |cons r1 r2=>
   obtain⟨u,rfl⟩:=r1;exact ReadsAll.cons (as:=[]) (bs:=[]) (.int i u) (jj r2)
section
variable{X:Cx}{pins:List (Addr×Obj)}{σ:St}{H:Hp}{s:Shared}
theorem mL(I:Inv X pins σ H s):∀ {ks:List (List Int)} {xs:List (List Key×Addr×Value)},Paired (fun(p:List Key×V) (q:List Key×Addr×Value)=>p.1=q.1/\H q.2.1=some (.tup (p.1.map kV))/\aM p.2 q.2.2) (dtO ks) xs ->
  ReadsAll s.heap ((xs.map (entryOfKey (tupleKind (aS X.prog X.w)))).map (·.key)) (ks.map fun k=>PyData.tuple (k.map .int)) []/\ReadsAll s.heap ((xs.map (entryOfKey (tupleKind (aS X.prog X.w)))).map (·.val)) (ks.map fun _=>PyData.int 1) []
 | [],xs,r=>by cases r;exact⟨.nil,.nil⟩
 |k::ks,xs,r=>by
  cases r with
  |cons r1 r2=>
   obtain⟨e1,e2,e3⟩:=r1;obtain⟨q1,q2⟩:=mL I r2;obtain⟨its,rv,⟨o,h1,h2,n,h3⟩,_⟩:=I.tuple (SqT.of (K:=X.K) e2);obtain⟨u,e3⟩:=e3;refine⟨?_,?_⟩
   ·show ReadsAll s.heap (_::_) (_::_) ([]++[])
    refine .cons ?_ q1;show Reads s.heap (.ref _) (.tuple _) [];exact .tuple h1 h2 h3 (by simpa using jj rv)
   ·show ReadsAll s.heap (_::_) (_::_) ([]++[])
    refine .cons ?_ q2;dsimp only[entryOfKey];rw[e3];exact .int 1 u
mutual
theorem jx(I:Inv X pins σ H s):∀ {d:D} {v:V} {u:Value},Dat H d v->aM v u->∃as,Reads s.heap u (pyD d) as/\∀b∈as,∃o,H b=some o
 |.non,v,u,h,r=>by
  simp only[Dat] at h;subst h;cases r;exact⟨_,.none,by simp⟩
 |.bl b,v,u,h,r=>by
  simp only[Dat] at h;subst h;cases r;exact⟨_,.bool b,by simp⟩
 |.int i,v,u,h,r=>by
  simp only[Dat] at h;subst h;obtain⟨t,rfl⟩:=r;exact⟨_,.int i t,by simp⟩
 |.str x,v,u,h,r=>by
  simp only[Dat] at h;subst h;obtain⟨t,rfl⟩:=r;exact⟨_,.str x t,by simp⟩
 |.tup ds,v,u,h,r=>by
  simp only[Dat] at h;obtain⟨a,xs,rfl,ha,hd⟩:=h;cases r;obtain⟨its,rv,⟨o,h1,h2,n,h3⟩,_⟩:=I.tuple (SqT.of ha);obtain⟨as,hr,hm⟩:=fe I hd rv;exact⟨_,.tuple h1 h2 h3 (by simpa using hr),hm⟩
 |.lst ds,v,u,h,r=>by
  simp only[Dat] at h;obtain⟨a,xs,rfl,ha,hd⟩:=h;cases r;obtain⟨its,rv,⟨o,n,h1,h2,h3,h4⟩,_⟩:=I.list (SqL.of ha);obtain⟨as,hr,hm⟩:=fe I hd rv;refine⟨_,.list h1 h2 h4 (by simpa using hr),fun b hb=>?_⟩
  rcases List.mem_cons.mp hb with rfl|hb
  ·exact⟨_,ha⟩
  ·exact hm b hb
 |.dk ks,v,u,h,r=>by
  simp only[Dat] at h;obtain⟨a,xs,rfl,ha,rfl⟩:=h;cases r;obtain⟨_,_,vs,kv,o,es,ep,e1,⟨c1,_,_⟩,e2,_,p,_⟩:=I.hok _ _ ha;obtain⟨q1,q2⟩:=m3 (h:=s.heap) kv p;refine⟨_,.dict (kvs:=xs.map fun k=>(PyData.int k,PyData.int 1)) e1 c1 e2 (by simpa[List.map_map,Function.comp_def] using q1) (by simpa[List.map_map,Function.comp_def] using q2),fun b hb=>?_⟩
  simp only[List.append_nil,List.mem_singleton] at hb;subst hb;exact⟨_,ha⟩
 |.dt ks,v,u,h,r=>by
  simp only[Dat] at h;obtain⟨a,xs,rfl,ha,rfl⟩:=h;cases r;obtain⟨_,_,ys,pr,o,es,ep,e1,⟨c1,_,_⟩,e2,e3,_⟩:=I.hok _ _ ha;obtain⟨q1,q2⟩:=mL I pr;rw[←e3] at q1 q2
  refine⟨_,.dict (kvs:=xs.map fun k:List Int=>(PyData.tuple (k.map PyData.int),PyData.int 1)) e1 c1 e2 (by simpa[List.map_map,Function.comp_def] using q1) (by simpa[List.map_map,Function.comp_def] using q2),fun b hb=>?_⟩
  simp only[List.append_nil,List.mem_singleton] at hb;subst hb;exact⟨_,ha⟩
theorem fe(I:Inv X pins σ H s):∀ {ds:List D} {xs:List V} {us:List Value},ay H ds xs->au xs us->∃as,ReadsAll s.heap us (eT ds) as/\∀b∈as,∃o,H b=some o
 | [],xs,us,h,r=>by
  simp only[ay] at h;subst h;cases r;exact⟨_,.nil,by simp⟩
 |d::ds,xs,us,h,r=>by
  simp only[ay] at h;obtain⟨x,xr,rfl,h1,h2⟩:=h
  cases r with
  |cons r1 r2=>
   obtain⟨as,a1,m1⟩:=jx I h1 r1;obtain⟨bs,b1,m2⟩:=fe I h2 r2;exact⟨_,.cons a1 b1,fun b hb=>(List.mem_append.mp hb).elim (m1 b) (m2 b)⟩
end
end
mutual
noncomputable def wt:D->Nat
 |.non=>4
 |.bl _=>5
 |.int i=>i.natAbs.log2+3
 |.str x=>(reprText x).length
 |.tup ds=>wts ds+3
 |.lst ds=>wts ds+2
 |.dk ks=>(ks.map fun k=>k.natAbs.log2+10).sum+2
 |.dt ks=>(ks.map fun k=>(k.map fun i=>i.natAbs.log2+5).sum+10).sum+2
noncomputable def wts:List D->Nat
 | []=>0
 |d::ds=>wt d+2+wts ds
end
mutual
noncomputable def fit:D->Bool
 |.int i=>decide (i.natAbs.log2<1920)
 |.tup ds=>lF ds
 |.lst ds=>lF ds
 |.dk ks=>ks.all fun i=>decide (i.natAbs.log2<1920)
 |.dt ks=>ks.all fun k=>k.all fun i=>decide (i.natAbs.log2<1920)
 |_=>true
noncomputable def lF:List D->Bool
 | []=>true
 |d::ds=>fit d && lF ds
end
theorem kD:∀ {k:List Int},(k.all fun i=>decide (i.natAbs.log2<1920))=true->PyData.showableAll (k.map .int)=true
 | [],_=>rfl
 |i::k,h=>by
  simp only[List.all_cons,Bool.and_eq_true] at h;simp only[List.map_cons,PyData.showableAll,PyData.showable,Bool.and_eq_true];exact⟨h.1,kD h.2⟩
theorem oR:∀ {ks:List Int},(ks.all fun i=>decide (i.natAbs.log2<1920))=true->PyData.showableKv (ks.map fun k=>(PyData.int k,PyData.int 1))=true
 | [],_=>rfl
 |i::k,h=>by
  simp only[List.all_cons,Bool.and_eq_true] at h;simp only[List.map_cons,PyData.showableKv,PyData.showable,Bool.and_eq_true];exact⟨⟨h.1,by decide⟩,oR h.2⟩
theorem pq:∀ {ks:List (List Int)},(ks.all fun k=>k.all fun i=>decide (i.natAbs.log2<1920))=true->PyData.showableKv (ks.map fun k=>(PyData.tuple (k.map .int),PyData.int 1))=true
 | [],_=>rfl
 |i::k,h=>by
  simp only[List.all_cons,Bool.and_eq_true] at h;simp only[List.map_cons,PyData.showableKv,PyData.showable,Bool.and_eq_true];exact⟨⟨kD h.1,by decide⟩,pq h.2⟩
mutual
theorem jK:∀ {d:D},fit d=true->(pyD d).showable=true
 |.non,h=>rfl
 |.bl b,h=>rfl
 |.int i,h=>h
 |.str x,h=>rfl
 |.tup ds,h=>gN (ds:=ds) (by simpa only[fit] using h)
 |.lst ds,h=>gN (ds:=ds) (by simpa only[fit] using h)
 |.dk ks,h=>oR (ks:=ks) (by simpa only[fit] using h)
 |.dt ks,h=>pq (ks:=ks) (by simpa only[fit] using h)
theorem gN:∀ {ds:List D},lF ds=true->PyData.showableAll (eT ds)=true
 | [],h=>rfl
 |d::ds,h=>by
  simp only[lF,Bool.and_eq_true] at h;simp only[eT,PyData.showableAll,Bool.and_eq_true];exact⟨jK h.1,gN h.2⟩
end
mutual
theorem iQ:∀(d:D),dep d<=1000->(pyD d).hasDict=false/\(pyD d).depth=dep d
 |.non,_=>by simp[pyD,PyData.depth,PyData.hasDict,dep]
 |.bl b,_=>by simp[pyD,PyData.depth,PyData.hasDict,dep]
 |.int i,_=>by simp[pyD,PyData.depth,PyData.hasDict,dep]
 |.str x,_=>by simp[pyD,PyData.depth,PyData.hasDict,dep]
 |.tup ds,h=>by
  simp only[dep] at h;obtain⟨a,b⟩:=jr ds (by omega)
  simp only[pyD,PyData.depth,PyData.hasDict,dep,a,b,true_and]
 |.lst ds,h=>by
  simp only[dep] at h;obtain⟨a,b⟩:=jr ds (by omega)
  simp only[pyD,PyData.depth,PyData.hasDict,dep,a,b,true_and]
 |.dk ks,h=>by simp[dep] at h
 |.dt ks,h=>by simp[dep] at h
theorem jr:∀(ds:List D),fT ds<=1000->PyData.hasDictAll (eT ds)=false/\PyData.depthAll (eT ds)=fT ds
 | [],_=>by simp[eT,PyData.depthAll,PyData.hasDictAll,fT]
 |d::ds,h=>by
  simp only[fT] at h;obtain⟨a,b⟩:=iQ d (by omega)
  obtain⟨a',b'⟩:=jr ds (by omega)
  simp only[eT,PyData.hasDictAll,PyData.depthAll,fT,a,a',b,b',Bool.or_self,true_and]
end
theorem ic:∀(ts:List Str)(k:Nat)(acc:Str),(textFrom k acc ts).length<=acc.length+(ts.map fun t=>t.length+2).sum
 | [],k,acc=>by simp[textFrom]
 |t::ts,k,acc=>by
  have ih:=ic ts (k+1) (acc++(if k>0 then ", " else "":String)++t)
  have e:(acc++(if k>0 then ", " else "":String)++t).length<=acc.length+2+t.length:=by
   rw[strLen_append,strLen_append];have:(((if k>0 then ", " else "":String):Str)).length<=2:=by split<;>decide
   omega
  simp only[textFrom,List.map_cons,List.sum_cons];omega
theorem gD:∀ts:List Str,(Str.join ", " ts).length<=(ts.map fun t=>t.length+2).sum
 | []=>by simp[Str.join];decide
 | [x]=>by
  show x.length<=_;simp
 |x::y::r=>by
  have ih:=gD (y::r);show (x ++ ", "++Str.join ", " (y::r)).length<=_;rw[strLen_append,strLen_append];have e2:((", ":String):Str).length=2:=rfl;simp only[List.map_cons,List.sum_cons] at ih ⊢;omega
theorem iT(i:Int):((toString i:String):Str).length<=i.natAbs.log2+3:=by
 have h:=int_text_length_le (a:=i) (k:=i.natAbs.log2+1) (Nat.succ_pos _) (Nat.lt_succ_self _);rw[show ((toString i:String):Str).length=(toString i).length from PySem.ofString_length _]
 omega
theorem mM:∀(k:List Int),((PyData.shownAll (k.map .int)).map fun t=>t.length+2).sum<=(k.map fun i=>i.natAbs.log2+5).sum
 | []=>by simp[PyData.shownAll]
 |i::k=>by
  have h1:=iT i;have h2:=mM k;simp only[List.map_cons,PyData.shownAll,PyData.shown,List.sum_cons];omega
theorem mD(ps:List Str):(dictText ps).length<=(ps.map fun t=>t.length+2).sum+2:=by
 unfold dictText;rw[strLen_append,strLen_append];have h1:=gD ps;have h2:(("{":String):Str).length=1:=rfl;have h3:(("}":String):Str).length=1:=rfl;omega
theorem wG:∀(ks:List Int),((PyData.shownKv (ks.map fun k=>(PyData.int k,PyData.int 1))).map fun t=>t.length+2).sum<=(ks.map fun k=>k.natAbs.log2+10).sum
 | []=>by simp[PyData.shownKv]
 |i::k=>by
  have h1:=iT i;have h2:=wG k;have h3:=iT 1;have h4:((1:Int).natAbs).log2=0:=by decide
  have h5:((": ":String):Str).length=2:=rfl;simp only[List.map_cons,PyData.shownKv,PyData.shown,List.sum_cons,strLen_append];have h6:((toString (1:Int):String):Str).length=1:=rfl;omega
theorem wn:∀(ks:List (List Int)),((PyData.shownKv (ks.map fun k=>(PyData.tuple (k.map .int),PyData.int 1))).map fun t=>t.length+2).sum<=(ks.map fun k=>(k.map fun i=>i.natAbs.log2+5).sum+10).sum
 | []=>by simp[PyData.shownKv]
 |i::k=>by
  have h1:=mM i;have h2:=wn k;have h5:((": ":String):Str).length=2:=rfl
  have h7:(tupleText (PyData.shownAll (i.map .int))).length<=(i.map fun i=>i.natAbs.log2+5).sum+3:=by
   unfold tupleText;rw[strLen_append,strLen_append];have h1:=gD (PyData.shownAll (i.map .int));have h2:(("(":String):Str).length=1:=rfl;have h3:(((if (PyData.shownAll (i.map .int)).length == 1 then ",)" else ")":String)):Str).length<=2:=by split<;>decide
   omega
  simp only[List.map_cons,PyData.shownKv,PyData.shown,List.sum_cons,strLen_append];have h6:((toString (1:Int):String):Str).length=1:=rfl;omega
mutual
theorem ut:∀(d:D),(pyD d).shown.length<=wt d
 |.non=>by show (("None":String):Str).length<=4;decide
 |.bl b=>by cases b<;>(show (_:Str).length<=5)<;>decide
 |.int i=>iT i
 |.str x=>Nat.le_refl _
 |.tup ds=>by
  have h:=oq ds;show (tupleText (PyData.shownAll (eT ds))).length<=wts ds+3;unfold tupleText;rw[strLen_append,strLen_append];have h1:=gD (PyData.shownAll (eT ds));have h2:(("(":String):Str).length=1:=rfl;have h3:(((if (PyData.shownAll (eT ds)).length == 1 then ",)" else ")":String)):Str).length<=2:=by split<;>decide
  omega
 |.lst ds=>by
  have h:=oq ds;show (listText (PyData.shownAll (eT ds))).length<=wts ds+2;unfold listText;rw[strLen_append];have h1:=ic (PyData.shownAll (eT ds)) 0 "[";have h2:(("[":String):Str).length=1:=rfl;have h3:(("]":String):Str).length=1:=rfl;omega
 |.dk ks=>Nat.le_trans (mD _) (Nat.add_le_add_right (wG ks) 2)
 |.dt ks=>Nat.le_trans (mD _) (Nat.add_le_add_right (wn ks) 2)
theorem oq:∀(ds:List D),((PyData.shownAll (eT ds)).map fun t=>t.length+2).sum<=wts ds
 | []=>by simp[eT,PyData.shownAll,wts]
 |d::ds=>by
  have h1:=ut d;have h2:=oq ds;simp only[eT,PyData.shownAll,List.map_cons,List.sum_cons,wts];omega
end
section
variable{X:Cx}
theorem i2(hg:X.A.guards=some [])(hu:X.A.units+100<cLine):dN X (.builtin "repr") (fun xs H Q=>∃(a:Addr)(d:D),xs=[.ref a]/\Dat H d (.ref a)/\dep d<=90/\fit d=true/\wt d<=1000000/\Q (.str (gy d)) H):=by
 intro pins s σ H xs us Q I r h;obtain⟨a,d,rfl,hd,hdp,hf,hw,q⟩:=h;obtain⟨u,rfl,rx⟩:=gK r;have ru:=rx;cases rx;obtain⟨as,hr,_⟩:=jx I hd ru;obtain⟨nd,dp⟩:=iQ d (by omega)
 refine repr_of_reads' hr (jK hf) (fun z=>by rw[nd] at z;cases z) hg (by rw[dp];omega) (fun _ _ e=>e) (fun h' t tk hk=>?_) (Nat.le_trans (ut d) (Nat.le_trans hw (by decide)))
 exact⟨.str (gy d),H,I.kept (t':=tk) hk,⟨t,rfl⟩,q⟩
theorem eK(hg:X.A.guards=some [])(hu:X.A.units+100<cLine)(hs:(X.K.lookup sysModules).isSome=true):dN X (.builtin "repr") (fun xs H Q=>∃(a:Addr)(d:D),xs=[.ref a]/\Dat H d (.ref a)/\(pyD d).depth<=90/\fit d=true/\wt d<=1000000/\Q (.str (gy d)) H):=by
 intro pins s σ H xs us Q I r h;obtain⟨a,d,rfl,hd,hdp,hf,hw,q⟩:=h;obtain⟨u,rfl,rx⟩:=gK r;have ru:=rx;cases rx;obtain⟨as,hr,hm⟩:=jx I hd ru
 have hn:sysModules ∉ as:=fun z=>by
  obtain⟨o,e⟩:=hm _ z;obtain⟨ob,e2⟩:=Option.isSome_iff_exists.mp hs;have h1:=I.ok.mod.kin _ _ e2;have h2:=I.base.free _ _ (I.ok.bs _ _ h1).1 (I.ok.bs _ _ h1).2 (I.ok.noex _ _ h1);rw[e] at h2;cases h2
 refine repr_of_reads' hr (jK hf) (fun _=>hn) hg (by omega) (fun _ _ e=>e) (fun h' t tk hk=>?_) (Nat.le_trans (ut d) (Nat.le_trans hw (by decide)))
 exact⟨.str (gy d),H,I.kept (t':=tk) hk,⟨t,rfl⟩,q⟩
end
section
variable{prog:Program}{w:World}{A:Around}{E:Value->Shared->Prop}
theorem Ae{it a:Addr}{vs:Array Value}(ha:a≠it)(n:Nat):∀(i:Nat)(s:Shared)(Q:List Value->Shared->Prop),s.heap.IsListIter it a i->s.heap.IsList a vs->i+n<=vs.size ->
  (∀h',h'.IsListIter it a (i+n)->Heap.SameBut it s.heap h'->Q ((vs.toList.drop i).take n) { s with heap:=h' })->wpAny (model prog w) A (draw (.ref it) n) Q E s:=by
 induction n with
 |zero=>
  intro i s Q st ls le q;refine wpAny_pure ?_;have:=q s.heap st (Heap.SameBut.refl ..);simpa using this
 |succ n ih=>
  intro i s Q st ls le q;have lt:i<vs.size:=by omega
  refine wpAny_bind (m:=pyNext (.ref it)) (wpAny_pyNext_list_item st ls (x:=vs[i]) (by simp[lt]) fun h1 st1 sb1=>?_)
  refine wpAny_bind (wpAny_holding (ih (i+1) _ _ st1 (ls.extBut sb1.extBut ha) (by omega) fun h2 st2 sb2=>wpAny_pure ?_))
  have e1:vs.toList.drop i=vs[i]::vs.toList.drop (i+1):=by simp[List.drop_eq_getElem_cons,lt]
  have q2:=q h2 (by rw[←Nat.add_assoc,Nat.add_right_comm];exact st2) (sb1.trans sb2)
  rwa [e1,List.take_succ_cons] at q2
theorem uZ{a:Addr}{vs:Array Value}{s:Shared}{Q:List Value->Shared->Prop}(hh:A.handled=none)(ls:s.heap.IsList a vs)(q:∀h',Heap.ExtBut s.heap.objs.size s.heap h'->Q vs.toList { s with heap:=h' }):wpAny (model prog w) A (unpackItems (.ref a) vs.size none) Q E s:=by
 have ne:a≠s.heap.objs.size:=by
  obtain⟨o,ho,_⟩:=ls;exact Nat.ne_of_lt (Heap.lt_size ho)
 unfold unpackItems notIterableAtAll;refine wpAny_bind (wpAny_bind (wpAny_specialOf ls.typeIs PySem.F.slot_list_iter.lookup (wpAny_pure ?_)));simp only[Option.isNone_some,Bool.false_eq_true,if_false];refine wpAny_bind (wpAny_holding (wpAny_pyIter_list ls (wpAny_bind (wpAny_holding (Ae ne vs.size 0 _ _ ⟨_,Heap.get?_push_size _ rfl,rfl,rfl⟩ (ls.push _) (by omega) fun h1 st1 sb1=>?_)))))
 have eall:List.take vs.size (List.drop 0 vs.toList)=vs.toList:=by rw[List.drop_zero,List.take_of_length_le (by simp)]
 rw[eall,if_neg (by simp)]
 refine wpAny_bind (wpAny_holding (wpAny_pyNext_list_end hh st1 ((ls.push _).extBut sb1.extBut ne) (by simp) fun h2 eb=>?_))
 simp only[Option.isSome_none,Bool.false_eq_true,if_false];exact wpAny_pure (q h2 fun b o hb e=>eb b o hb (sb1.extBut b o hb (Heap.get?_push_of_some _ e)))
end
section
variable{X:Cx}{pos:Pos}
noncomputable def zO(K:W.Frag)(n:Nat)(t:TGs):TG:=fun v σ H Q=>∃a xs,v=.ref a/\SqL K H a xs/\xs.length=n/\t xs σ H Q
theorem yq{es:List Expr}{k:Nat}{t:TGs}{n:Nat}(hc:X.calm=true)(h:PGs X es t)(hn:(assignEach es X.env).length=n:=by rfl)(hst:(assignEach es X.env).findIdx? (·.1)=none:=by rfl):PG X (.Tuple es k pos) (zO X.K n t):=by
 intro pins s σ H v u Q I r hw;obtain⟨a,xs,e1,hq,hl,hw⟩:=hw;subst e1;cases r;obtain⟨its,rv,ht,hz⟩:=I.list hq;have hlen:(assignEach es X.env).length=its.toArray.size:=by simp[hn,←hl,rv.length]
 rw[assign_Tuple];refine wpAny_bind (wpAny_standAt ?_);unfold unpack;rw[hlen,hst];refine wpAny_bind (wpAny_holding (uZ (I.ok.hd hc) ht.isList fun h' hx=>?_));have I1:Inv X pins σ H { s with heap:=h' }:=I.kept (t':=s.toks) fun b o e=>hx b o (Nat.ne_of_lt (Heap.lt_size e)) e;exact h pins _ σ H xs _ Q I1 (by simpa using rv) hw
theorem kT(K:W.Frag)(h:X.K=K)(hu:X.A.units+100<cLine):OpR X (compareOp .Eq) (fun x y H Q=>∃a b xs,x=.ref a/\y=.ref b/\SqL K H a xs/\SqL K H b []/\Q (.bl xs.isEmpty) H):=h ▸ tT hu
end
section
variable{X:Cx}
theorem cn{es fs x1 pos te t}(ha:PE X (.Tuple fs x1 pos) te)(hr:PA X es t):PA X (.Tuple fs x1 pos::es) (gj te t):=ac ha hr (by rfl)
theorem rR{es fs pos te t}(ha:PE X (.List fs pos) te)(hr:PA X es t):PA X (.List fs pos::es) (gj te t):=ac ha hr (by rfl)
theorem ah{es c j pos te t}(ha:PE X (.Constant c j pos) te)(hr:PA X es t):PA X (.Constant c j pos::es) (gj te t):=ac ha hr (by rfl)
end
end L2
namespace L2
open PySem PySem.Spec PySem.Calls PyProof.Rows
noncomputable def Frz(H H':Hp):Prop:=∀b o u,H b=some (.frz o u)->H' b=some (.frz o u)
noncomputable def pL(H:Hp)(f:Addr)(q:Str)(params:Arguments)(body:Expr)(scope:Scope)(clos:List (Str×Addr)):Prop:=
 ∃(pm:Value)(c:Addr)(ctv:Value)(oc:Obj)(vs:Array Value)(t:Tok)(u u':HO),H f=some (.frz (W.kla_obj "<lambda>" q params body scope clos pm c ctv) u)/\H c=some (.frz oc u')/\oc.data=.fields vs/\vs[1]?=some (.str q t)
noncomputable def qr(K:W.Frag)(c P:Addr):Bool:=match K.lookup c with
 | some o=>(o.cls == .type "code") && c != P && (match o.data with
  | .fields vs=>(vs[11]? == some (.ref P)) && (match vs.getD 18 .none,vs.getD 7 .none,vs.getD 9 .none,vs.getD 10 .none with
   |.str _ _,.int _ _,.bool _,.int _ _=>true
   |_,_,_,_=>false)
  |_=>false)
 |none=>false
theorem qy{K:W.Frag}{h:Heap}{c P:Addr}(X:K.In h)(e:qr K c P=true):W.CodeHd h c P:=by
 unfold qr at e
 cases q:K.lookup c with
 |none=>rw[q] at e;cases e
 |some o=>
  rw[q] at e;simp only[Bool.and_eq_true] at e;obtain⟨⟨e1,e2⟩,e3⟩:=e
  cases d:o.data with
  |fields vs=>
   rw[d] at e3;simp only[Bool.and_eq_true] at e3;obtain⟨e4,e5⟩:=e3;have e4':vs[11]?=some (.ref P):=eq_of_beq e4;split at e5
   ·rename_i f tf g tg b x tt h18 h7 h9 h10
    refine⟨o,vs,f,tf,g,tg,b,x,tt,X _ _ q,eq_of_beq e1,d,e4',?_,h18,h7,h9,h10,by simpa using e2⟩
    simp[Array.getD_eq_getD_getElem?,e4']
   ·cases e5
  |_=>rw[d] at e3;cases e3
theorem nu{pos:Pos}{a b:Int}{c cv:Value}(l:List Value)(h:TriplesOk l)(e:codeAmong pos (l++[rawInt a,rawInt b,c])=some cv):codeAmong pos l=some cv\/cv=c:=by
 fun_induction TriplesOk l with
 |case1=>
  simp only[List.nil_append,rawInt,codeAmong] at e;split at e
  ·exact .inr (Option.some.inj e).symm
  ·cases e
 |case2 a' t b' u x dg ih=>
  simp only[List.cons_append,codeAmong] at e ⊢;split at e
  ·rename_i hc
   rw[if_pos hc];exact .inl e
  ·rename_i hc
   rw[if_neg hc];exact ih h e
 |case3 l h1 h2=>exact h.elim
section
variable{P:Program}{w:World}{H H':Hp}{h h':Heap}{p:Addr}{ps:Array Value}
theorem Un.lam{fs:List Addr}(hok:HOk P w H h)(hP:H p=some (.tbl ps))(k:∀b o,b≠p->h.get? b=some o->h'.get? b=some o)(hp':∃o,h'.get? p=some o)(same:∀b,b<h.objs.size->H' b=H b):Un fs [] H H' h h':=by
 have ne:∀b,H b=none->b≠p:=fun b n z=>by rw[z,hP] at n;cases n
 refine⟨fun b o q n _ _=>k b o (ne b n) q,fun b o q n _ _=>⟨o.slots,k b o (ne b n) q⟩,fun b o q n _=>(same b (Heap.lt_size q)).trans n,fun b o q _=>?_,fun b xs q=>(same b (hok.lt q)).trans q,fun b o u q=>(same b (hok.lt q)).trans q,fun b xs q=>⟨#[],?_⟩⟩
 ·by_cases hb:b=p
  ·rw[hb];exact hp'
  ·exact⟨o,k b o hb q⟩
 ·rw[(same b (hok.lt q)).trans q];simp
theorem HOk.lam(hok:HOk P w H h)(hP:H p=some (.tbl ps))(k:∀b o,b≠p->h.get? b=some o->h'.get? b=some o)(same:∀b,b<h.objs.size->H' b=H b)(newP:bQ P w H' h' p (.tbl ps))(new:∀b u,h.objs.size<=b->H' b=some u->bQ P w H' h' b u):HOk P w H' h':=fun b u e=>by
 rcases Nat.lt_or_ge b h.objs.size with hb|hb
 ·rw[same b hb] at e
  by_cases hp:b=p
  ·subst hp
   rw[hP] at e;cases e;exact newP
  ·refine(hok b u e).stay (fun c v hc q=>k c v ?_ q) (fun c q=>(same c (hok.lt q)).trans q) (fun c xs q=>(same c (hok.lt q)).trans q) fun c o u q=>(same c (hok.lt q)).trans q
   rcases hc with rfl|hc
   ·exact hp
   ·rintro rfl
    rw[hP] at hc;cases hc
 ·exact new b u hb e
end
noncomputable def yD(q:Str)(args:Arguments)(body:Expr)(scope:Scope)(clos:List (Str×Addr)):TE:=fun _ H Q=>∀f H',cZ H H'->H f=none->pL H' f q args body scope clos->Q (.ref f) H'
section
variable{X:Cx}{args:Arguments}{body:Expr}{scope:Scope}{pos:Pos}{x:Str}{c p:Addr}{clos:List (Str×Addr)}
theorem lq(hcode:X.env.code=.ref c)(hq:X.env.qual=x ++ ".<locals>.")(hm:(x,c,p)∈fZ X.K)(hh:qr X.K c p=true)(hcl:closureFor scope X.env=pure clos)(hdef:defaultsOf args X.env=([],[]):=by rfl):
  PE X (.Lambda args body scope pos) (yD (x ++ ".<locals>." ++ "<lambda>") args body scope clos):=.mk <| by
 intro pins s σ H Q I h;refine W.kla_eval hdef ?_;rw[hq];obtain⟨ps,eP,z0⟩:=(I.ok.tt.mono I.base.tbls) _ hm;obtain⟨qs,hP,tr,codes⟩:=I.hok _ _ eP;dsimp only at eP z0 hP;have C:W.CodeHd s.heap c p:=(qy I.ok.mod.kin hh).keeps I.bk;have hg:s.heap.Ns mainGlobals X.mg:=I.ok.mod.glob.keeps I.bk;obtain⟨bm,ob,b1,b2,b3,b4,b5,b6⟩:=I.ok.mod.bm
 have hgP:mainGlobals≠p:=fun q=>by
  obtain⟨o,es,ep,e,hd,_⟩:=hg;rw[q,hP] at e;cases e;cases hd
 have hbP:bm≠p:=fun q=>by
  have e:=I.bk _ _ b3;rw[q,hP] at e;cases e;cases b4
 have hbG:bm≠mainGlobals:=fun q=>by
  obtain⟨o,es,ep,e,hd,_⟩:=I.ok.mod.glob;rw[q,e] at b3;cases b3;rw[hd] at b6;cases b6
 have hB:s.heap.BuiltinsAt X.mg p:=⟨bm,ob,b1,b2,hbG,hbP,I.bk _ _ b3,b4,b5,b6⟩;have hps:p<s.heap.objs.size:=Heap.lt_size hP
 cases e:codeAmong pos qs.toList with
 |none=>
  refine W.kla_makeFunction (mg:=X.mg) hcl I.ok.glob hg hcode C hP tr e hgP hB fun c' ctv h' tk hx hge hlt hrec htb=>?_;obtain⟨c₂,oc,vs,t,e2,hoc,hd,hv⟩:=hrec;cases e2;have hps':p<h'.objs.size:=Heap.lt_size htb
  let H':Hp:=upd (upd H c' (.frz oc (.own p))) h'.objs.size (.frz (W.kla_obj "<lambda>" (x ++ ".<locals>." ++ "<lambda>") args body scope clos ((X.mg "__name__").getD .none) c' ctv) (.own h'.objs.size))
  have ef:H' h'.objs.size=some (.frz (W.kla_obj "<lambda>" (x ++ ".<locals>." ++ "<lambda>") args body scope clos ((X.mg "__name__").getD .none) c' ctv) (.own h'.objs.size)):=bT;have ec:H' c'=some (.frz oc (.own p)):=(aq (Nat.ne_of_lt hlt)).trans bT
  have same:∀b,b<s.heap.objs.size->H' b=H b:=fun b hb=>by
   have h1:b≠h'.objs.size:=Nat.ne_of_lt (Nat.lt_trans (Nat.lt_of_lt_of_le hb hge) hlt);have h2:b≠c':=Nat.ne_of_lt (Nat.lt_of_lt_of_le hb hge);exact(aq h1).trans (aq h2)
  have k:∀b o,b≠p->s.heap.get? b=some o->(h'.push (W.kla_obj "<lambda>" (x ++ ".<locals>." ++ "<lambda>") args body scope clos ((X.mg "__name__").getD .none) c' ctv)).get? b=some o:=fun b o n q=>Heap.get?_push_of_some _ (hx b o n q);have htb':=Heap.get?_push_of_some (W.kla_obj "<lambda>" (x ++ ".<locals>." ++ "<lambda>") args body scope clos ((X.mg "__name__").getD .none) c' ctv) htb;refine⟨.ref h'.objs.size,H',I.un (Un.lam I.hok eP k ⟨_,htb'⟩ same) (I.hok.lam eP k same ⟨_,htb',?_,?_⟩ ?_),rfl,h _ _ (fun b o q=>(same b (I.hok.lt q)).trans q) (I.hok.fresh (Nat.le_trans hge (Nat.le_of_lt hlt))) ⟨_,c',ctv,oc,vs,t,_,_,ef,ec,hd,hv⟩⟩
  ·rw[Array.toList_append]
   exact TriplesOk_snoc _ _ _ _ tr
  ·intro pos' cv q
   rw[Array.toList_append] at q;rcases nu _ tr q with q|rfl
   ·obtain⟨c1,o1,v1,t1,q1,a1,a2,a3,a4,a5⟩:=codes pos' cv q
    exact⟨c1,o1,v1,t1,q1,a1,(same c1 (I.hok.lt a2)).trans a2,a3,a4,a5⟩
   ·exact⟨c',oc,vs,t,_,rfl,ec,hd,hv,z0⟩
  ·intro b u hb q
   by_cases hbf:b=h'.objs.size
   ·subst hbf
    rw[ef] at q;cases q;exact⟨Heap.get?_push_size _ rfl,_,Heap.get?_push_size _ rfl⟩
   ·have q':upd H c' (.frz oc (.own p)) b=some u:=(aq hbf).symm.trans q
    by_cases hbc:b=c'
    ·subst hbc
     rw[bT] at q';cases q';exact⟨Heap.get?_push_of_some _ hoc,_,Heap.get?_push_of_some _ hoc⟩
    ·rw[aq hbc,I.hok.fresh hb] at q';cases q'
 |some cv=>
  obtain⟨c',oc,vs,t,q,rfl,ec,hd,hv,hq0⟩:=codes pos cv e
  have hqq:q=x ++ ".<locals>." ++ "<lambda>":=by
   rw[hq0] at z0;injection z0 with z0;injection z0
  subst hqq;refine W.kla_makeFunctionHit (mg:=X.mg) hcl I.ok.glob hg hcode C hP tr e hB fun ctv h' tk hk hsz=>?_;have hne:∀b u,H b=some u->b≠h'.objs.size:=fun b u q z=>absurd (Nat.lt_of_lt_of_le (I.hok.lt q) hsz) (by rw[z];exact Nat.lt_irrefl _)
  refine⟨.ref h'.objs.size,upd H h'.objs.size (.frz (W.kla_obj "<lambda>" (x ++ ".<locals>." ++ "<lambda>") args body scope clos ((X.mg "__name__").getD .none) c' ctv) (.own h'.objs.size)),I.laid (fun b u q=>Heap.get?_push_of_some _ (hk b u q)) hsz ?_,rfl,h _ _ (fun b o q=>(aq (hne b o q)).trans q) (I.hok.fresh hsz) ⟨_,c',ctv,oc,vs,t,_,_,bT,(aq (hne _ _ ec)).trans ec,hd,hv⟩⟩;exact⟨Heap.get?_push_size _ rfl,_,Heap.get?_push_size _ rfl⟩
end
structure Clo(P:Program)(w:World)(K:W.Frag)(mg:Str->Option Value)(base:Heap)(H₀:Hp)(k:Nat)(f:Addr)(n:Nat)(sp:Sp):Prop where
 fn:(∃(oc:Value)(od:Option Addr)(fd:FuncData) (sl:Array (Option Value)) (u:HO),H₀ f=some (.frz ⟨oc,od,.func fd,sl⟩ u))\/∃(oc:Value)(od:Option Addr)(fd:FuncData) (sl:Array (Option Value)),K.lookup f=some ⟨oc,od,.func fd,sl⟩
 len:∀vs H Q E,sp vs H Q E->vs.length=n
 run:∀(A:Around)(outer:List Env)(s:Shared)(H:Hp)(us:List Value)(vs:List V)(Q:VK)(E:XK),ci k A->mQ P w K mg base A outer s H->Frz H₀ H->au vs us->sp vs H Q E ->
  codeAny (model P w) A (.call (.ref f) ⟨us,[]⟩) (CR CX0 outer P w H s Q E) s
theorem Mod.mono{K:W.Frag}{mg:Str->Option Value}{b b':Heap}(m:Mod K mg b)(k:∀a o,b.get? a=some o->b'.get? a=some o):Mod K mg b':=
 ⟨m.kin.keeps k,m.glob.keeps k,let ⟨mb,h1,h2⟩:=m.blt;⟨mb,h1.keeps k,h2⟩,m.nolimit.keeps k,let ⟨bm,ob,h1,h2,h3,r⟩:=m.bm;⟨bm,ob,h1,h2,k _ _ h3,r⟩⟩
noncomputable def sq(X:Cx)(σ:St)(b:Heap):Prop:=∀(i:Nat)(x:Str)(v:V),X.N[i]?=some x->σ[i]?=some (some v)->X.env.scope.names.lookup x=some .cell->X.fn x=true->∃c u,X.env.cells.lookup x=some c/\b.IsCell c (some u)/\aM v u
theorem iu{h b b':Heap}:∀ {l:List Env},h.FunFrames b l->(∀a∈frs l,b'.get? a=none)->h.FunFrames b' l
 | [],_,_=>trivial
 |env::r,x,k=>by
  obtain⟨hk,⟨L,o,hf,hn,ho,hd⟩,hr⟩:=x;have hL:L∈frs (env::r):=by unfold frs;rw[List.filterMap_cons,hf];exact List.mem_cons_self
  refine⟨hk,⟨L,o,hf,k L hL,ho,hd⟩,iu hr fun a ha=>k a ?_⟩;unfold frs at ha ⊢;rw[List.filterMap_cons,hf];exact List.mem_cons_of_mem _ ha
theorem Inv.grow{X:Cx}{pins:List (Addr×Obj)}{σ:St}{H:Hp}{s:Shared}(I:Inv X pins σ H s):
  ∃b',(∀a o,X.base.get? a=some o->b'.get? a=some o)/\mQ X.prog X.w X.K X.mg b' X.A X.stack s H/\sq X σ b':=by
 have keep:∀a o,s.heap.get? a=some o->H a=none->a ∉ frs X.stack->(W.hideAll s.heap (trk s.heap H++frs X.stack)).get? a=some o:=fun a o e n hf=>W.hideAll_get _ e fun hm=>by
  rcases List.mem_append.mp hm with z|z
  ·have q:(H a).isSome=true:=(List.mem_filter.mp z).2
   rw[n] at q;simp at q
  ·exact hf z
 have sub:∀a o,X.base.get? a=some o->(W.hideAll s.heap (trk s.heap H++frs X.stack)).get? a=some o:=fun a o e=>keep a o (I.bs a o e).1 (I.bs a o e).2 fun hm=>by
  have:=(I.stack.mem hm).1;rw[e] at this;cases this
 have e0:=I.env0;refine⟨W.hideAll s.heap (trk s.heap H++frs X.stack),sub,⟨e0.frames,e0.mod.mono sub,fun a o e=>⟨W.of_hideAll _ e,?_⟩,Nat.le_of_eq (W.hideAll_size _ _),iu e0.funs fun a ha=>W.hideAll_none _ (List.mem_append_right _ ha),e0.frf,e0.tt,e0.hok,e0.bare⟩,?_⟩
 ·cases q:H a with
  |none=>rfl
  |some u=>
   have hm:a∈trk s.heap H:=List.mem_filter.mpr ⟨List.mem_range.mpr (I.hok.lt q),by simp[q]⟩
   rw[W.hideAll_none _ (List.mem_append_left _ hm)] at e;cases e
 ·intro i x v h1 h2 h3 h4
  obtain⟨m,hn,hl⟩:=I.loc;obtain⟨u,r,l⟩:=hl i x v h1 h2 (.inr (.inl h3));rcases l with⟨k,_⟩|⟨_,c,hc,o,ho,hd⟩
  ·have k':X.env.scope.names.lookup x=some .local:=k
   rw[h3] at k';cases k'
  ·refine⟨c,u,hc,⟨o,keep c o ho (I.freeC x c hc) fun hm=>?_,hd⟩,r⟩
   rcases List.mem_cons.mp (I.Bb c hm) with z|z
   ·exact I.cne x c hc z
   ·obtain⟨_,o',ho',_⟩:=I.ok.funs.mem z
    exact absurd (Nat.lt_of_lt_of_le (Heap.lt_size ho') (I.ok.cab x c h4 hc)) (Nat.lt_irrefl _)
noncomputable def sU(X:Cx)(spf:Heap->Sp)(t:TA):TE:=fun σ H Q=>t σ H fun vs H1=>∀b',(∀a o,X.base.get? a=some o->b'.get? a=some o)->sq X σ b'->spf b' vs H1 Q E0
section
variable{X:Cx}{k:Nat}{f:Addr}{fd:FuncData}{ps:List Str}{x:Str}{p pos:Pos}{e:Expr}{es:List Expr}{t:TA}{spf:Heap->Sp}
theorem gI(F:∀b',aY X.prog X.w X.K X.mg b' CX0 k f fd ps (spf b'))(hr:ci k X.A)(hg:Gl X x)(hm:X.mg x=some (.ref f))(hk:W.keepIn X.K (.ref f)=true)(hb:bt X.K fd ps [])(ha:PA X (e::es) t)(hdb:(x == ("__debug__":Str))=false:=by decide)(he:starEach (e::es) X.env=(false,eval e X.env)::starEach es X.env:=by rfl)(hpl:(backTo pos (starEach es X.env)).any (·.1)=false:=by rfl):
  PE X (.Call (.Name x p) (e::es) [] pos) (sU X spf t):=.mk <| by
 intro pins s σ H Q I h;refine wpAny_Call_Name_kw (eu I hg hm ?_ hdb);refine W.callWith_K (h₀:=X.base) I.ok.mod.kin hk (thn (ha pos pins s σ H _ I h) fun us s1 ⟨vs,H1,I1,r,q⟩=>⟨I1.kIn,?_⟩) he hpl;obtain⟨b',sub,e0,cb⟩:=I1.grow;have q:=q b' sub cb;have hl:(us++[]).length=ps.length:=by rw[List.append_nil,←r.length];exact(F b').len _ _ _ _ q
 have hbb:=hb s1 us I1.kIn hl;rw[List.append_nil] at hbb;refine wpAny_call (codeAny_mono ((F b').run X.A X.stack s1 H1 ⟨us,[]⟩ us vs Q E0 hr e0 hbb r q) fun r s' hq=>?_)
 cases r with
 |error e=>exact False.elim hq
 |ok fl=>
  cases fl with
  |ret u=>exact I1.after hq
  |next=>exact False.elim hq
  |brk=>exact False.elim hq
  |cont=>exact False.elim hq
end
noncomputable def mH(P:Program)(w:World)(K:W.Frag)(mg:Str->Option Value)(base:Heap)(N:List Str)(qual:Str)(scope:Scope)(f:Addr)(cd:Value)(cl:List (Str×Addr))(A:Around)(outer:List Env)(s:Shared)(H:Hp):Cx where
 prog:=P
 w:=w
 K:=K
 mg:=mg
 base:=base
 A:=A.deeper (W.envX qual scope s.heap.objs.size f cd cl)
 N:=N
 s₀:=s
 H₀:=H
 env:=W.envX qual scope s.heap.objs.size f cd cl
 outer:=outer
 stack:=W.envX qual scope s.heap.objs.size f cd cl::outer
 ex:=[]
 calm:=true
 fn:=fun _=>false
 pn:=[]
 xe:=fun _ _=>False
structure md(ps cs:List Str)(sc:Scope):Prop where
 kind:sc.kind=.function
 co:sc.isCoroutine=false
 gen:sc.isGenerator=false
 nd:(ps++cs).Nodup
 par:∀x∈ps,sc.names.lookup x=some .local
 free:∀x∈cs,sc.names.lookup x=some .free
 has:∀y∈sc.names,y.2≠.cell/\(y.2=.free->y.1∈cs)
noncomputable def kS(b:Heap)(cl:List (Str×Addr))(cs:List Str)(caps:List V):Prop:=caps.length=cs.length/\(∀x c,cl.lookup x=some c->x∈cs)/\(∀x y c,cl.lookup x=some c->cl.lookup y=some c->x=y) /\
 ∀(j:Nat)(x:Str)(v:V),cs[j]?=some x->caps[j]?=some v->∃c u,cl.lookup x=some c/\b.IsCell c (some u)/\aM v u
theorem iY{α:Type}:∀ {ps:List Str} {us:List α} {i:Nat} {x:Str} {u:α},ps.Nodup->ps[i]?=some x->us[i]?=some u->(ps.zip us).reverse.lookup x=some u:=by
 intro ps
 induction ps with
 |nil=>intro us i x u _ h;simp at h
 |cons p ps ih=>
  intro us i x u nd h1 h2
  cases us with
  |nil=>simp at h2
  |cons w us=>
   obtain⟨n1,n2⟩:=List.nodup_cons.mp nd;rw[List.zip_cons_cons,List.reverse_cons,List.lookup_append]
   cases i with
   |zero=>
    simp at h1 h2;subst h1 h2
    have:(ps.zip us).reverse.lookup p=none:=by
     rw[List.lookup_eq_none_iff];intro q hq;rw[List.mem_reverse] at hq;have:=(List.of_mem_zip (a:=q.1) (b:=q.2) hq).1;simp only[beq_eq_false_iff_ne,ne_eq,bne_iff_ne];intro z;exact n1 (z ▸ this)
    rw[this];simp[List.lookup]
   |succ i=>
    rw[ih n2 (by simpa using h1) (by simpa using h2)]
    rfl
structure qo(K:W.Frag)(x qual:Str)(st:Stmt)(f:Addr)(fd:FuncData)(c p:Addr):Prop where
 ex:∃(oc:Value)(od:Option Addr)(kV doc pm:Value)(an:Option Addr)(ct:Value) (osl:Array (Option Value)),
  fd=W.fnOf x qual (defArgs st) (defBody st) (defScope st) .none kV doc pm an (.ref c) ct/\K.lookup f=some ⟨oc,od,.func fd,osl⟩/\W.codeIn K (.ref c) qual=true
 tab:(x,c,p)∈fZ K
 hd:qr K c p=true
theorem qo.ok{P:Program}{w:World}{K:W.Frag}{mg:Str->Option Value}{base:Heap}{x qual:Str}{st:Stmt}{f c p:Addr}{fd:FuncData}{N ps:List Str}{k:Nat}{sp:Sp}(F:qo K x qual st f fd c p)(S:aK N ps (defScope st))(len:∀vs H Q E,sp vs H Q E->vs.length=ps.length)
  (hbody:∀(A:Around)(outer:List Env)(s:Shared)(H:Hp)(vs:List V)(Q:VK)(E:XK),ci k (A.deeper (envOfC qual (defScope st) s.heap.objs.size f (.ref c)))->sp vs H Q E ->
   ∃t,PSs (d9 CX0 P w K mg base N qual (defScope st) f (.ref c) A outer s H E).nox (defBody st) t/\t { nx:=fun _ H'=>Q .non H',rt:=Q } (start N vs) H):aY P w K mg base CX0 (k+1) f fd ps sp:=by
 obtain⟨oc,od,kV,doc,pm,an,ct,osl,rfl,lk,hcd⟩:=F.ex;refine tV lk hcd S len fun A outer s H vs Q E hr hsp=>?_;obtain⟨t,h,q⟩:=hbody A outer s H vs Q E hr hsp;exact⟨t,h.nox,q⟩
theorem vq{K:W.Frag}{x qual:Str}{st:Stmt}{f c p:Addr}{oc:Value}{od an:Option Addr}{osl:Array (Option Value)}{kV doc pm cdv ct:Value}(l:K.lookup f=some ⟨oc,od,.func (W.fnOf x qual (defArgs st) (defBody st) (defScope st) .none kV doc pm an cdv ct),osl⟩)(hc:W.codeIn K cdv qual=true)(e:cdv=.ref c)(t:(fZ K).contains (x,c,p)=true)(h:qr K c p=true):qo K x qual st f (W.fnOf x qual (defArgs st) (defBody st) (defScope st) .none kV doc pm an cdv ct) c p:=by
 subst e;exact⟨⟨oc,od,kV,doc,pm,an,ct,osl,rfl,l,hc⟩,by simpa using t,h⟩
noncomputable def ndB:List Nat->Bool
 | []=>true
 |a::r=>!(r.contains a) && ndB r
theorem o4{α:Type}(f:α->Nat):∀ {l:List α} {q:α},ndB (l.map f)=true->q∈l->l.find? (fun t=>f t == f q)=some q
 | [],_,_,m=>nomatch m
 |a::r,q,h,m=>by
  rw[List.map_cons,ndB,Bool.and_eq_true] at h;obtain⟨h1,h2⟩:=h;rcases List.mem_cons.mp m with e|m
  ·subst e
   rw[List.find?_cons_of_pos (by simp)]
  ·have ne:(f a == f q)=false:=by
    cases z:f a == f q with
    |false=>rfl
    |true=>
     have z':f a=f q:=eq_of_beq z
     have:(r.map f).contains (f a)=true:=by
      rw[z'];simpa using⟨q,m,rfl⟩
     rw[this] at h1;cases h1
   rw[List.find?_cons_of_neg (by rw[ne];simp)]
   exact o4 f h2 m
noncomputable def jW(K:W.Frag)(b:Addr):Option HO:=((fZ K).find? fun t=>t.2.2 == b).map fun t=>HO.tbl #[.str (t.1 ++ ".<locals>." ++ "<lambda>") 0]
theorem jA{K:W.Frag}{b:Addr}{o:HO}(e:jW K b=some o):∃t∈fZ K,t.2.2=b/\o=HO.tbl #[.str (t.1 ++ ".<locals>." ++ "<lambda>") 0]:=by
 unfold jW at e
 cases q:(fZ K).find? (fun t=>t.2.2 == b) with
 |none=>rw[q] at e;cases e
 |some t=>
  rw[q] at e;cases e;have:=List.find?_some q;exact⟨t,List.mem_of_find?_eq_some q,eq_of_beq this,rfl⟩
noncomputable def rH(K:W.Frag)(names:List Str):Bool:=W.noTabs K && ndB ((fZ K).map fun t=>t.2.2) && (fZ K).all fun t=>names.contains t.1
theorem vn{K:W.Frag}{t:Str×Addr×Addr}(h:t∈fZ K):W.tabIn K t.1=some t.2:=by
 unfold fZ at h;split at h
 ·obtain⟨e,_,q⟩:=List.mem_filterMap.mp h
  split at q
  ·rename_i x tk hx
   cases z:W.tabIn K x with
   |none=>rw[z] at q;cases q
   |some r=>rw[z] at q;cases q;exact z
  ·cases q
 ·cases h
theorem qP{P:Program}{w:World}{K:W.Frag}{mg mb:Str->Option Value}{CX:CXT}{k:Nat}{fa a:Addr}{fd:FuncData}{x:Str}{sp:Sp}{s₁:Shared}{vs:List Value}{ns:List Int}(KX:K.In s₁.heap)(hns:s₁.heap.Ns mainGlobals mg)(hb:s₁.heap.Ns builtinsNs mb)(hbb:∀x:Str,x≠"__name__"->mb x=bootBuiltins x)(hlim:s₁.heap.NoLimit)(hg:s₁.gens=#[])(hbm:∃bm ob,mg "__builtins__"=some (.ref bm)/\bm≠builtinsNs/\s₁.heap.get? bm=some ob/\ob.cls=.type "module"/\ob.dict=some builtinsNs/\ob.data=.plain)(hT:∀t∈fZ K,W.CodeHd s₁.heap t.2.1 t.2.2/\s₁.heap.get? t.2.2=some (W.tabObj #[]))(nt:W.noTabs K=true)(nd:ndB ((fZ K).map fun t=>t.2.2)=true)(ha:s₁.heap.get? a=some { cls:=.type "list",data:=.seq vs.toArray })(hi:IntsAre vs ns)(hl:ns.length<=sizeLine)(hr:ci k callerA)(F:∀base:Heap,aY P w K mg base CX k fa fd [x] sp)(hbind:∀(s:Shared)(u:Value),BindsTo s fd ⟨[u],[]⟩ [(x,u)])(hsp:∀H:Hp,SqL K H a (ns.map V.int)->sp [.ref a] H (fun v _=>v=.bl true) fun _ _ _=>False)(hCX:∀H e s',CX [] H s₁ (fun _ _ _=>False) e s'->False):
  codeAny (model P w) callerA (.call (.ref fa) ⟨[.ref a],[]⟩) (fun r s'=>r=.ok (.ret (.bool true))/\OldK s₁.heap s'.heap/\s'.os=s₁.os/\AllBare s'.gens) s₁:=by
 have rv:=kh hi;have lenV:=hi.length
 have tabNot:∀b o,K.lookup b=some o->jW K b=none:=fun b o e=>by
  cases q:jW K b with
  |none=>rfl
  |some u=>
   obtain⟨t,ht,rfl,_⟩:=jA q;have e1:=(hT t ht).2;rw[KX _ _ e] at e1;cases e1;have h2:=List.all_eq_true.mp nt _ (W.mem_of_lookupK e);exact absurd (show false=true from h2) Bool.false_ne_true
 have tabA:jW K a=none:=by
  cases q:jW K a with
  |none=>rfl
  |some u=>
   obtain⟨t,ht,e,_⟩:=jA q;have e1:=(hT t ht).2;rw[e,ha] at e1;cases e1
 have core:∀H:Hp,(∀b,b≠a->H b=jW K b)->(H a=none\/(K.lookup a=none/\H a=some (.frz { cls:=.type "list",data:=.seq vs.toArray } (.lst (ns.map V.int)))))->SqL K H a (ns.map V.int) ->
   codeAny (model P w) callerA (.call (.ref fa) ⟨[.ref a],[]⟩) (fun r s'=>r=.ok (.ret (.bool true))/\OldK s₁.heap s'.heap/\s'.os=s₁.os/\AllBare s'.gens) s₁:=by
  intro H hH hA hS
  have what:∀b u,H b=some u->(b=a/\K.lookup a=none/\u=.frz { cls:=.type "list",data:=.seq vs.toArray } (.lst (ns.map V.int)))\/∃t∈fZ K,t.2.2=b/\u=HO.tbl #[.str (t.1 ++ ".<locals>." ++ "<lambda>") 0]:=fun b u e=>by
   by_cases hb:b=a
   ·subst hb
    rcases hA with z|⟨z1,z2⟩
    ·rw[z] at e;cases e
    ·rw[z2] at e;cases e
     exact .inl ⟨rfl,z1,rfl⟩
   ·rw[hH b hb] at e
    exact .inr (jA e)
  have hok:HOk P w H s₁.heap:=fun b u e=>by
   rcases what b u e with⟨rfl,_,rfl⟩|⟨t,ht,rfl,rfl⟩
   ·exact⟨ha,by rw[List.length_map];exact hl,vs,_,rv,ha⟩
   ·exact⟨#[],(hT t ht).2,trivial,fun pos cv q=>by cases q⟩
  have tt:qx K H:=fun t ht=>by
   refine⟨#[.str (t.1 ++ ".<locals>." ++ "<lambda>") 0],?_,rfl⟩
   have ne:t.2.2≠a:=fun z=>by
    have e1:=(hT t ht).2;rw[z,ha] at e1;cases e1
   rw[hH _ ne];unfold jW;rw[o4 (fun t:Str×Addr×Addr=>t.2.2) nd ht];rfl
  have base_of:∀ {b:Addr} {o:Obj},s₁.heap.get? b=some o->H b=none->(kZ s₁.heap H).get? b=some o:=fun e n=>sX e n
  have freeB:∀ {b:Addr} {o:Obj},s₁.heap.get? b=some o->o.cls≠.none->o.cls≠.type "list"->H b=none:=fun {b o} e c1 c2=>by
   cases q:H b with
   |none=>rfl
   |some u=>
    rcases what b u q with⟨rfl,_,_⟩|⟨t,ht,rfl,_⟩
    ·rw[ha] at e;cases e;exact absurd rfl c2
    ·rw[(hT t ht).2] at e;cases e;exact absurd rfl c1
  have noD:∀ {b:Addr} {o:Obj} {es:Array DictEntry} {ep:Nat},s₁.heap.get? b=some o->o.data=.dict es ep->H b=none:=fun {b o es ep} e d=>by
   cases q:H b with
   |none=>rfl
   |some u=>
    rcases what b u q with⟨rfl,_,_⟩|⟨t,ht,rfl,_⟩
    ·rw[ha] at e;cases e;cases d
    ·rw[(hT t ht).2] at e;cases e;cases d
  have nsK:∀ {b:Addr} {m:Str->Option Value},s₁.heap.Ns b m->(kZ s₁.heap H).Ns b m:=fun {b m} ⟨o,es,ep,e,d,r⟩=>⟨o,es,ep,base_of e (noD e d),d,r⟩
  have hKb : K.In (kZ s₁.heap H):=fun b o e=>base_of (KX b o e) (by
   cases q:H b with
   |none=>rfl
   |some u=>
    by_cases hb:b=a
    ·subst hb
     rcases hA with z|⟨z1,_⟩
     ·rw[z] at q;cases q
     ·rw[e] at z1;cases z1
    ·rw[hH b hb,tabNot b o e] at q;cases q)
  have hM:Mod K mg (kZ s₁.heap H):=⟨hKb,nsK hns,⟨mb,nsK hb,hbb⟩,let ⟨mc,h1,h2⟩:=hlim;⟨mc,nsK h1,h2⟩,
   let ⟨bm,ob,b1,b2,b3,b4,b5,b6⟩:=hbm;⟨bm,ob,b1,b2,base_of b3 (freeB b3 (by rw[b4];nofun) (by rw[b4];decide)),b4,b5,b6⟩⟩
  have e0:mQ P w K mg (kZ s₁.heap H) callerA [] s₁ H:=⟨rfl,hM,fun b o e=>uK e,Nat.le_of_eq (qg _ _),trivial,fun b hb=>absurd (show b∈([]:List Addr) from hb) (by simp),tt,hok,.of_eq hg⟩
  refine codeAny_mono ((F _).run callerA [] s₁ H ⟨[.ref a],[]⟩ [.ref a] [.ref a] _ _ hr e0 (hbind s₁ (.ref a)) (.cons rfl .nil) (hsp H hS)) fun r s' h=>?_
  cases r with
  |error e=>exact(hCX H e s' h).elim
  |ok fl=>
   cases fl with
   |next=>exact False.elim h
   |brk=>exact False.elim h
   |cont=>exact False.elim h
   |ret u=>
    obtain⟨v,H',os,bare,un,hok',r',q⟩:=h;have q':v=.bl true:=q;subst q';obtain rfl:u=Value.bool true:=r';refine⟨rfl,⟨fun b o e=>?_,fun b o e=>un.there b o e (by simp)⟩,os,bare⟩
    cases q:H b with
    |none=>exact .inl (un.keep b o e q (by intro z;exact absurd (show b∈([]:List Addr) from z) (by simp)) (by simp))
    |some u=>
     rcases what b u q with⟨rfl,_,rfl⟩|⟨t,ht,rfl,rfl⟩
     ·have z2:=un.frzs _ _ _ q
      obtain⟨e1,_⟩:=hok _ _ q;obtain⟨e2,_⟩:=hok' _ _ z2;rw[e] at e1;cases e1;exact .inl e2
     ·obtain⟨more,z2⟩:=un.tbls _ _ q
      obtain⟨qs,e2,_⟩:=hok' _ _ z2;have e1:=(hT t ht).2;rw[e] at e1;obtain rfl:=Option.some.inj e1;exact .inr (.inl ⟨((hT t ht).1.tab (hT t ht).2).isCodeTable,rfl,#[],qs,rfl,by rw[Array.empty_append];exact e2⟩)
 cases hk:K.lookup a with
 |some o=>
  have e:=KX a o hk;rw[ha] at e;cases e;exact core (fun b=>jW K b) (fun _ _=>rfl) (.inl tabA) (.inr ⟨_,vs.toArray,_,hk,rfl,rfl,rfl,by rw[List.size_toArray,lenV];exact hl,by simpa using rv⟩)
 |none=>
  refine core (fun b=>if b=a then some (.frz { cls:=.type "list",data:=.seq vs.toArray } (.lst (ns.map V.int))) else jW K b) (fun b hb=>if_neg hb) (.inr ⟨hk,if_pos rfl⟩) (.inl (.inr ⟨_,if_pos rfl⟩))
theorem tM{l:W.OpenLaw}{n k:Nat}{q:Program}{loose:List Str}{XP:(Str->Option Value)->Heap->Prop}{YP:World->Heap->Prop}{d:DefRec}{K:Params->W.Frag}{CX:CXT}{sp:W.Frag->Sp}{x:Str}(hn:l.most=some n)(hn2:n<=sizeLine)(hdf:d.params.defaults=[])(hr:ci k callerA)(hY:∀(w:World)(h:Heap),YP w h->(K w.params).In h)(tabs:∀w:World,rH (K w.params) ((recsOf q).map (·.name))=true)
  (F:∀(w:World)(mg:Str->Option Value)(fa:Addr)(h:Heap),(K w.params).In h->h.Ns mainGlobals mg->mg d.name=some (.ref fa) ->
   ∃fd:FuncData,(∀(s:Shared)(u:Value),BindsTo s fd ⟨[u],[]⟩ [(x,u)])/\∀base:Heap,aY l.prog w (K w.params) mg base CX k fa fd [x] (sp (K w.params)))
  (hsp:∀(K:W.Frag)(H:Hp)(a:Addr)(ns:List Int),ns.length<=n->zf H->SqL K H a (ns.map V.int)->sp K [.ref a] H (fun v _=>v=.bl true) fun _ _ _=>False)
  (hCX:∀(H:Hp)(s:Shared)(e:Value)(s':Shared),CX [] H s (fun _ _ _=>False) e s'->False) :
  W.WalkO q loose XP YP l.row.toRowW d [] (fun f vs=>PySem.call f vs):=by
 refine Att.lK hn hdf fun w s₀ s₁ mg mb fa o pm cd doc a vs ns G Y ho hd hcd hmg hobj hints hlen hg=>?_;have KX:=hY w _ Y;have tb:=tabs w;unfold rH at tb;rw[Bool.and_eq_true,Bool.and_eq_true] at tb;obtain⟨⟨t1,t2⟩,t3⟩:=tb;obtain⟨fd,hb,hF⟩:=F w mg fa _ KX G.T.g hmg;refine qP KX G.T.g G.T.b G.T.builtins G.T.nolimit hg G.T.bmain (fun t ht=>?_) t1 t2 hobj hints (Nat.le_trans hlen hn2) hr hF hb (fun H hS=>hsp _ H a ns hlen trivial hS) fun H e s'=>hCX H s₁ e s'
 have hc:=List.all_eq_true.mp t3 t ht;have hm:t.1∈(recsOf q).map (·.name):=by simpa using hc
 obtain⟨r,hr1,hr2⟩:=List.mem_map.mp hm
 cases z:(recsOf q).find? (fun e=>e.name == t.1) with
 |none=>
  have:=List.find?_eq_none.mp z r hr1;rw[hr2] at this;simp at this
 |some d'=>exact W.tab_of G.T KX z (vn ht)
end L2
namespace L2
open PySem PySem.Spec PySem.Calls PyProof.Rows
open AutoSeq1 (wpAny_loadPart')
section
variable{prog:Program}{w:World}{A:Around}{E:Value->Shared->Prop}{S:Shared}
set_option maxHeartbeats 2000000 in
end
end L2
namespace L2
open PySem PySem.Spec PySem.Calls PyProof.Rows
structure Src(prog:Program)(w:World)(A:Around)(j q:Addr)(its:Array Value)(It1:Nat->Heap->Prop)(Sq1:Heap->Prop):Prop where
 item:∀(n:Nat)(v:Value)(S:Shared)(Q:Value->Shared->Prop)(E:Value->Shared->Prop),It1 n S.heap->Sq1 S.heap->its[n]?=some v->(∀h1,It1 (n+1) h1->Heap.SameBut j S.heap h1->Q v { S with heap:=h1 })->wpAny (model prog w) A (Builtin.SmallTypes.nextOf (.ref j)) Q E S
 stop:∀(n:Nat)(S:Shared)(Q:Value->Shared->Prop)(E:Value->Shared->Prop),It1 n S.heap->Sq1 S.heap->its[n]?=none->(∀h1 e,Heap.ExtBut j S.heap h1->(∃o,h1.get? e=some o/\o.cls=.type "StopIteration")->E (.ref e) { S with heap:=h1 })->wpAny (model prog w) A (Builtin.SmallTypes.nextOf (.ref j)) Q E S
 mv:∀(n:Nat)(h h1:Heap),It1 n h->(∀o,h.get? j=some o->h1.get? j=some o)->It1 n h1
 sv:∀(h h1:Heap),Sq1 h->(∀o,h.get? q=some o->h1.get? q=some o)->Sq1 h1
 live:∀(n:Nat)(h:Heap),It1 n h->∃o vs,h.get? j=some o/\o.data=.fields vs
structure Kd(cls:String)(Sa:W.Frag->Hp->Addr->List V->Prop)(Iti:Heap->Addr->Addr->Nat->Prop)(Is:Heap->Addr->Array Value->Prop):Prop where
 got:∀ {X:Cx} {pins:List (Addr×Obj)} {σ:St} {H:Hp} {s:Shared} {a:Addr} {xs:List V},Inv X pins σ H s->Sa X.K H a xs->∃its:List Value,au xs its/\Is s.heap a its.toArray
 inj:∀ {X:Cx} {pins:List (Addr×Obj)} {σ:St} {H:Hp} {s:Shared} {a:Addr} {xs ys:List V},Inv X pins σ H s->Sa X.K H a xs->Sa X.K H a ys->xs=ys
 src:∀(prog:Program)(w:World)(A:Around)(j q:Addr)(its:Array Value),A.handled=none->Src prog w A j q its (fun n h=>Iti h j q n) (fun h=>Is h q its)
 seq:∀ {h:Heap} {a:Addr} {its:Array Value},Is h a its->∃o n,h.get? a=some o/\o.data=.seq its n
 ne:∀ {X:Cx} {pins:List (Addr×Obj)} {σ:St} {H:Hp} {s:Shared} {a b:Addr} {xs:List V},Inv X pins σ H s->Sa X.K H a xs->oh X pins H b->a≠b
 itr:∀ {prog:Program} {w:World} {A:Around} {E:Value->Shared->Prop} {S:Shared} {a:Addr} {its:Array Value} {Q:Value->Shared->Prop},Is S.heap a its->Q (.ref S.heap.objs.size) { S with heap:=S.heap.push { cls:=.type cls,data:=.fields #[.ref a,.int 0 0] } }->wpAny (model prog w) A (pyIter (.ref a)) Q E S
 sv:∀ {h h1:Heap} {a:Addr} {its:Array Value},Is h a its->(∀ob,h.get? a=some ob->h1.get? a=some ob)->Is h1 a its
 new:∀ {h:Heap} {j q:Addr},h.get? j=some { cls:=.type cls,data:=.fields #[.ref q,.int 0 0] }->Iti h j q 0
section
variable{n:Nat}(hn:0<n)
include hn
end
structure zV(c:Nat->Nat->Bool):Prop where
 as:∀i j,c i j=true->c j i=false
 tr:∀i j k,c j i=false->c k j=false->c k i=false
section
variable{c:Nat->Nat->Bool}(L:zV c)
noncomputable def Dn(c:Nat->Nat->Bool)(p:Array Nat)(k:Nat):Prop:=∀i j,i<=j->j<k->c (p.getD i 0) (p.getD j 0)=false
include L
end
section
variable{c:Nat->Nat->Bool}(L:zV c)
include L
end
noncomputable def zC:List Int->List Int->Bool
 | [],[]=>false
 | [],_::_=>true
 |_::_,[]=>false
 |x::xs,y::ys=>if x=y then zC xs ys else decide (x<y)
end L2
namespace L2
open PySem PySem.Spec PyProof.Rows
inductive AV where
 |d (x:D)
 |r (v:V)
 |p (v:V) (P:Hp->Prop)
inductive OC where
 |own (xs:List AV)
 |frz (ds:List D)
 |dic (kvs:List (Str×AV))
noncomputable abbrev Om:=Addr->Option OC
noncomputable abbrev SA:=List (Option AV)
noncomputable abbrev Fs:=Addr->Bool
noncomputable def Om.put(Z:Om)(l:Addr)(c:OC):Om:=fun b=>if b=l then some c else Z b
theorem Om.A0{Z:Om}{l:Addr}{c:OC}:Z.put l c l=some c:=by unfold Om.put;rw[if_pos rfl]
theorem Om.A1{Z:Om}{l b:Addr}{c:OC}(h:b≠l):Z.put l c b=Z b:=by unfold Om.put;rw[if_neg h]
theorem Om.A3{Z:Om}{l:Addr}{c e:OC}:(Z.put l c).put l e=Z.put l e:=by funext b;unfold Om.put;split<;>rfl
theorem Om.A7{Z:Om}{l p:Addr}{c e:OC}(h:p≠l):(Z.put l c).put p e=(Z.put p e).put l c:=by
 funext b;unfold Om.put;split<;>split<;>simp_all
noncomputable def ow:Option OC->Bool
 |some (.own _)=>true
 |some (.dic _)=>true
 |_=>false
noncomputable def cut(F:Fs)(H:Hp)(Z:Om):Hp:=fun b=>if (ow (Z b) || F b)=true then none else H b
noncomputable def RV(G:Hp):AV->V->Prop
 |.d x,v=>Dat G x v
 |.r u,v=>v=u
 |.p u P,v=>v=u/\∀G',cZ G G'->P G'
noncomputable def RVs(G:Hp):List AV->List V->Prop
 | [],vs=>vs=[]
 |a::as,vs=>∃v r,vs=v::r/\RV G a v/\RVs G as r
noncomputable def RS(G:Hp)(ρ:SA)(σ:St):Prop:=ρ.length=σ.length/\∀(i:Nat)(a:AV),ρ[i]?=some (some a)->∃v,σ[i]?=some (some v)/\RV G a v
noncomputable def RKs(G:Hp):List (Str×AV)->List (Key×V)->Prop
 | [],ks=>ks=[]
 |p::r,ks=>∃v r',ks=((Sum.inr p.1:Key),v)::r'/\RV G p.2 v/\RKs G r r'
structure Rep(F:Fs)(H:Hp)(Z:Om):Prop where
 own:∀l xs,Z l=some (.own xs)->∃vs,H l=some (.lst vs)/\RVs (cut F H Z) xs vs
 frz:∀l ds,Z l=some (.frz ds)->Dat (cut F H Z) (.lst ds) (.ref l)
 hid:∀b,F b=true->Z b=none/\∃vs,H b=some (.lst vs)
 dic:∀l kvs,Z l=some (.dic kvs)->∃ks,H l=some (.dK ks)/\RKs (cut F H Z) kvs ks
structure Fr(F:Fs)(H:Hp)(Z:Om)(H':Hp)(Z':Om):Prop where
 st:∀b o,ow (Z b)=false->F b=false->H b=some o->H' b=some o/\ow (Z' b)=false
 hd:∀b,F b=true->H' b=H b
section
variable{F:Fs}{H H1 H2 H':Hp}{Z Z1 Z2 Z':Om}{G G':Hp}
theorem Fr.refl:Fr F H Z H Z:=⟨fun _ _ h _ e=>⟨e,h⟩,fun _ _=>rfl⟩
theorem Fr.trans(a:Fr F H Z H1 Z1)(b:Fr F H1 Z1 H2 Z2):Fr F H Z H2 Z2:=
 ⟨fun c o h f e=>let ⟨x,y⟩:=a.st c o h f e;b.st c o y f x,fun c h=>(b.hd c h).trans (a.hd c h)⟩
theorem bY{b:Addr}{o:HO}:cut F H Z b=some o↔ow (Z b)=false/\F b=false/\H b=some o:=by
 unfold cut;cases ow (Z b)<;>cases F b<;>simp
theorem Fr.same(a:Fr F H Z H' Z'):cZ (cut F H Z) (cut F H' Z'):=fun b o e=>by
 obtain⟨h,f,e⟩:=bY.mp e;obtain⟨x,y⟩:=a.st b o h f e;exact bY.mpr ⟨y,f,x⟩
theorem aV:cZ (cut F H Z) H:=fun b o e=>(bY.mp e).2.2
theorem RV.same(e:cZ G G'):∀ {a:AV} {v:V},RV G a v->RV G' a v
 |.d _,_,h=>Dat.same e h
 |.r _,_,h=>h
 |.p _ _,_,h=>⟨h.1,fun G2 s=>h.2 G2 (e.trans s)⟩
theorem RVs.same(e:cZ G G'):∀ {as:List AV} {vs:List V},RVs G as vs->RVs G' as vs
 | [],_,h=>h
 |_::_,_,⟨v,r,h1,h2,h3⟩=>⟨v,r,h1,h2.same e,h3.same e⟩
theorem RKs.same(e:cZ G G'):∀ {as:List (Str×AV)} {vs:List (Key×V)},RKs G as vs->RKs G' as vs
 | [],_,h=>h
 |_::_,_,⟨v,r,h1,h2,h3⟩=>⟨v,r,h1,h2.same e,h3.same e⟩
theorem RS.same(e:cZ G G'){ρ:SA}{σ:St}(h:RS G ρ σ):RS G' ρ σ:=⟨h.1,fun i a q=>let ⟨v,x,y⟩:=h.2 i a q;⟨v,x,y.same e⟩⟩
theorem RVs.length:∀ {as:List AV} {vs:List V},RVs G as vs->vs.length=as.length
 | [],_,h=>by cases h;rfl
 |_::_,_,⟨v,r,h1,_,h3⟩=>by subst h1;simp[h3.length]
theorem RVs.get:∀ {as:List AV} {vs:List V} {i:Nat} {a:AV},RVs G as vs->as[i]?=some a->∃v,vs[i]?=some v/\RV G a v
 | [],_,_,_,_,e=>by simp at e
 |_::_,_,0,_,⟨v,r,h1,h2,_⟩,e=>by subst h1;simp at e;subst e;exact⟨v,rfl,h2⟩
 |_::_,_,i+1,_,⟨v,r,h1,_,h3⟩,e=>by subst h1;simp at e;obtain⟨v',e1,e2⟩:=h3.get e;exact⟨v',by simpa using e1,e2⟩
theorem RVs.append:∀ {as bs:List AV} {vs us:List V},RVs G as vs->RVs G bs us->RVs G (as++bs) (vs++us)
 | [],_,_,_,h,k=>by cases h;exact k
 |_::_,_,_,_,⟨v,r,h1,h2,h3⟩,k=>by subst h1;exact⟨v,_,rfl,h2,h3.append k⟩
theorem RVs.one{a:AV}{v:V}(h:RV G a v):RVs G [a] [v]:=⟨v,[],rfl,h,rfl⟩
theorem RVs.dats:∀ {ds:List D} {vs:List V},RVs G (ds.map AV.d) vs↔ay G ds vs
 | [],_=>by simp[RVs,ay]
 |d::ds,vs=>by
  simp only[List.map_cons,RVs,ay,RV];constructor
  ·rintro⟨v,r,h1,h2,h3⟩;exact⟨v,r,h1,h2,RVs.dats.mp h3⟩
  ·rintro⟨v,r,h1,h2,h3⟩;exact⟨v,r,h1,h2,RVs.dats.mpr h3⟩
theorem RVs.set{as:List AV}{vs:List V}(i:Nat){a:AV}{v:V}(h:RVs G as vs)(k:RV G a v):RVs G (as.set i a) (vs.set i v):=by
 induction as generalizing vs i with
 |nil=>cases h;exact rfl
 |cons b as ih=>
  obtain⟨u,r,rfl,h2,h3⟩:=h
  cases i with
  |zero=>exact⟨v,r,rfl,k,h3⟩
  |succ i=>exact⟨u,_,rfl,h2,ih i h3⟩
theorem RVs.dropLast:∀ {as:List AV} {vs:List V},RVs G as vs->RVs G as.dropLast vs.dropLast
 | [],_,h=>by cases h;exact rfl
 | [a],_,⟨v,r,h1,h2,h3⟩=>by cases h3;subst h1;exact rfl
 |a::b::as,_,⟨v,r,h1,h2,h3⟩=>by
  obtain⟨u,r',rfl,k2,k3⟩:=id h3;subst h1;exact⟨v,_,rfl,h2,h3.dropLast⟩
theorem Rep.free(R:Rep F H Z){p:Addr}(h:H p=none):Z p=none/\F p=false:=by
 constructor
 ·cases e:Z p with
  |none=>rfl
  |some c=>cases c with
   |own xs=>obtain⟨vs,q,_⟩:=R.own p xs e;rw[h] at q;cases q
   |frz ds=>
    have q:=R.frz p ds e;simp only[Dat] at q;obtain⟨a,xs,e1,e2,_⟩:=q;cases e1;rw[aV _ _ e2] at h;cases h
   |dic kvs=>obtain⟨vs,q,_⟩:=R.dic p kvs e;rw[h] at q;cases q
 ·cases e:F p with
  |false=>rfl
  |true=>obtain⟨_,o,q⟩:=R.hid p e;rw[h] at q;cases q
theorem Rep.lay(R:Rep F H Z){p:Addr}{o:HO}(h:H p=none):Rep F (upd H p o) Z/\Fr F H Z (upd H p o) Z/\cut F (upd H p o) Z p=some o:=by
 have hs:=rA (o:=o) h
 have fr:Fr F H Z (upd H p o) Z:=⟨fun b u x f e=>⟨hs _ _ e,x⟩,fun b f=>by
  obtain⟨_,u,q⟩:=R.hid b f
  rw[aq (bd q h)]⟩
 obtain⟨f1,f2⟩:=R.free h;refine⟨⟨fun l xs e=>?_,fun l ds e=>(R.frz l ds e).same fr.same,fun b f=>?_,fun l ks e=>(by obtain⟨vs,e1,e2⟩:=R.dic l ks e;exact⟨vs,hs _ _ e1,e2.same fr.same⟩)⟩,fr,bY.mpr ⟨by rw[f1];rfl,f2,bT⟩⟩
 ·obtain⟨vs,e1,e2⟩:=R.own l xs e
  exact⟨vs,hs _ _ e1,e2.same fr.same⟩
 ·obtain⟨x,u,q⟩:=R.hid b f
  exact⟨x,u,hs _ _ q⟩
theorem qL{l:Addr}{xs ys:List AV}{o:HO}(h:Z l=some (.own xs)):cut F (upd H l o) (Z.put l (.own ys))=cut F H Z:=by
 funext b
 unfold cut Om.put;by_cases hb:b=l
 ·subst hb;rw[if_pos rfl,h];simp[ow]
 ·rw[if_neg hb,aq hb]
theorem Rep.write(R:Rep F H Z){l:Addr}{xs ys:List AV}{vs:List V}(h:Z l=some (.own xs))(hv:RVs (cut F H Z) ys vs):
  Rep F (upd H l (.lst vs)) (Z.put l (.own ys))/\Fr F H Z (upd H l (.lst vs)) (Z.put l (.own ys)):=by
 have c:=qL (F:=F) (H:=H) (ys:=ys) (o:=.lst vs) h
 refine ⟨⟨fun k zs e=>?_,fun k ds e=>?_,fun b f=>?_,fun k ks e=>(by
  have hk:k≠l:=fun z=>(by subst z;rw[Om.A0] at e;cases e)
  rw[Om.A1 hk] at e;rw[c,aq hk];exact R.dic k ks e)⟩,fun b o x f e=>?_,fun b f=>?_⟩
 ·rw[c]
  by_cases hk:k=l
  ·subst hk;rw[Om.A0] at e;cases e;exact⟨vs,bT,hv⟩
  ·rw[Om.A1 hk] at e;rw[aq hk];exact R.own k zs e
 ·rw[c]
  by_cases hk:k=l
  ·subst hk;rw[Om.A0] at e;cases e
  ·rw[Om.A1 hk] at e;exact R.frz k ds e
 ·obtain⟨x,o,q⟩:=R.hid b f
  have hb:b≠l:=fun z=>by subst z;rw[h] at x;cases x
  exact⟨by rw[Om.A1 hb];exact x,o,by rw[aq hb];exact q⟩
 ·have hb:b≠l:=fun z=>by subst z;rw[h] at x;cases x
  rw[Om.A1 hb,aq hb];exact⟨e,x⟩
 ·obtain⟨x,o,q⟩:=R.hid b f
  have hb:b≠l:=fun z=>by subst z;rw[h] at x;cases x
  exact aq hb
theorem Rep.mk'(R:Rep F H Z){l:Addr}{xs:List AV}{vs:List V}(h:H l=none)(hv:RVs (cut F H Z) xs vs):
  Rep F (upd H l (.lst vs)) (Z.put l (.own xs))/\Fr F H Z (upd H l (.lst vs)) (Z.put l (.own xs)):=by
 obtain⟨f1,f2⟩:=R.free h
 have c:cut F (upd H l (.lst vs)) (Z.put l (.own xs))=cut F H Z:=by
  funext b
  unfold cut Om.put;by_cases hb:b=l
  ·subst hb;rw[if_pos rfl,f1,f2,h];simp[ow]
  ·rw[if_neg hb,aq hb]
 refine ⟨⟨fun k zs e=>?_,fun k ds e=>?_,fun b f=>?_,fun k ks e=>(by
  have hk:k≠l:=fun z=>(by subst z;rw[Om.A0] at e;cases e)
  rw[Om.A1 hk] at e;rw[c,aq hk];exact R.dic k ks e)⟩,fun b o x f e=>?_,fun b f=>?_⟩
 ·rw[c]
  by_cases hk:k=l
  ·subst hk;rw[Om.A0] at e;cases e;exact⟨vs,bT,hv⟩
  ·rw[Om.A1 hk] at e;rw[aq hk];exact R.own k zs e
 ·rw[c]
  by_cases hk:k=l
  ·subst hk;rw[Om.A0] at e;cases e
  ·rw[Om.A1 hk] at e;exact R.frz k ds e
 ·obtain⟨x,o,q⟩:=R.hid b f
  have hb:b≠l:=bd q h;exact⟨by rw[Om.A1 hb];exact x,o,by rw[aq hb];exact q⟩
 ·have hb:b≠l:=bd e h
  rw[Om.A1 hb,aq hb];exact⟨e,x⟩
 ·obtain⟨x,o,q⟩:=R.hid b f
  exact aq (bd q h)
theorem Rep.freeze(R:Rep F H Z){l:Addr}{ds:List D}(h:Z l=some (.own (ds.map AV.d))):
  Rep F H (Z.put l (.frz ds))/\Fr F H Z H (Z.put l (.frz ds))/\Dat (cut F H (Z.put l (.frz ds))) (.lst ds) (.ref l):=by
 have fr:Fr F H Z H (Z.put l (.frz ds)):=⟨fun b o x f e=>⟨e,by
  by_cases hb:b=l
  ·subst hb;rw[h] at x;cases x
  ·rw[Om.A1 hb];exact x⟩,fun _ _=>rfl⟩
 obtain⟨vs,e1,e2⟩:=R.own l _ h
 have hF:F l=false:=by
  cases e:F l with
  |false=>rfl
  |true=>have:=(R.hid l e).1;rw[h] at this;cases this
 have dl:Dat (cut F H (Z.put l (.frz ds))) (.lst ds) (.ref l):=by
  simp only[Dat];exact⟨l,vs,rfl,bY.mpr ⟨by rw[Om.A0];rfl,hF,e1⟩,(RVs.dats.mp e2).same fr.same⟩
 refine ⟨⟨fun k zs e=>?_,fun k es e=>?_,fun b f=>?_,fun k ks e=>(by
  have hk:k≠l:=fun z=>(by subst z;rw[Om.A0] at e;cases e)
  rw[Om.A1 hk] at e;obtain⟨us,q1,q2⟩:=R.dic k ks e;exact⟨us,q1,q2.same fr.same⟩)⟩,fr,dl⟩
 ·by_cases hk:k=l
  ·subst hk;rw[Om.A0] at e;cases e
  ·rw[Om.A1 hk] at e
   obtain⟨us,q1,q2⟩:=R.own k zs e;exact⟨us,q1,q2.same fr.same⟩
 ·by_cases hk:k=l
  ·subst hk;rw[Om.A0] at e;cases e;exact dl
  ·rw[Om.A1 hk] at e;exact(R.frz k es e).same fr.same
 ·obtain⟨x,o,q⟩:=R.hid b f
  have hb:b≠l:=fun z=>by subst z;rw[h] at x;cases x
  exact⟨by rw[Om.A1 hb];exact x,o,q⟩
end
noncomputable def LP{α β:Type}(R:Hp->α->β->Prop)(F:Fs)(H:Hp)(Z:Om)(Q':α->Om->Prop)(Q:β->Hp->Prop):Prop:=
 ∀a Z' v H',Rep F H' Z'->Fr F H Z H' Z'->R (cut F H' Z') a v->Q' a Z'->Q v H'
theorem LP.fr{α β:Type}{R:Hp->α->β->Prop}{F:Fs}{H H1:Hp}{Z Z1:Om}{Q':α->Om->Prop}{Q:β->Hp->Prop}(k:LP R F H Z Q' Q)(f:Fr F H Z H1 Z1):LP R F H1 Z1 Q' Q:=
 fun a Z' v H' rp fr rv q=>k a Z' v H' rp (f.trans fr) rv q
structure Ref{α β:Type}(R:Hp->α->β->Prop)(t:St->Hp->(β->Hp->Prop)->Prop)(t':SA->Om->(α->Om->Prop)->Prop):Prop where
 run:∀(F:Fs)(H:Hp)(Z:Om)(σ:St)(ρ:SA)(Q:β->Hp->Prop)(Q':α->Om->Prop),Rep F H Z->RS (cut F H Z) ρ σ->t' ρ Z Q'->LP R F H Z Q' Q->t σ H Q
theorem Ref.go{α β:Type}{R:Hp->α->β->Prop}{t:St->Hp->(β->Hp->Prop)->Prop}{t':SA->Om->(α->Om->Prop)->Prop}(h:Ref R t t'){F:Fs}{H:Hp}{Z:Om}{σ:St}{ρ:SA}{Q:β->Hp->Prop}{Q':α->Om->Prop}(rp:Rep F H Z)(rs:RS (cut F H Z) ρ σ)(w:t' ρ Z Q')(k:∀a Z1 v H1,Rep F H1 Z1->Fr F H Z H1 Z1->RS (cut F H1 Z1) ρ σ->R (cut F H1 Z1) a v->Q' a Z1->Q v H1):t σ H Q:=
 h.run F H Z σ ρ Q Q' rp rs w fun a Z1 v H1 rp1 fr1 rv q=>k a Z1 v H1 rp1 fr1 (rs.same fr1.same) rv q
noncomputable abbrev AE:=SA->Om->(AV->Om->Prop)->Prop
noncomputable abbrev AT:=SA->Om->(Bool->Om->Prop)->Prop
noncomputable abbrev AA:=SA->Om->(List AV->Om->Prop)->Prop
noncomputable def REq{α:Type}(_:Hp)(a b:α):Prop:=a=b
noncomputable abbrev aZ(t:TE)(t':AE):Prop:=Ref RV t t'
noncomputable abbrev hJ(t:TT)(t':AT):Prop:=Ref REq t t'
noncomputable abbrev fJ(t:TA)(t':AA):Prop:=Ref RVs t t'
structure bx where
 nx:SA->Om->Prop
 rt:AV->Om->Prop
 bk:SA->Om->Prop:=fun _ _=>False
 ct:SA->Om->Prop:=fun _ _=>False
noncomputable abbrev AS:=bx->SA->Om->Prop
structure LE(F:Fs)(H:Hp)(Z:Om)(D':bx)(D:fk):Prop where
 nx:LP RS F H Z D'.nx D.nx
 rt:LP RV F H Z D'.rt D.rt
 bk:LP RS F H Z D'.bk D.bk
 ct:LP RS F H Z D'.ct D.ct
theorem LE.fr{F:Fs}{H H1:Hp}{Z Z1:Om}{D':bx}{D:fk}(k:LE F H Z D' D)(f:Fr F H Z H1 Z1):LE F H1 Z1 D' D:=⟨k.nx.fr f,k.rt.fr f,k.bk.fr f,k.ct.fr f⟩
structure eD(t:TS)(t':AS):Prop where
 run:∀(F:Fs)(H:Hp)(Z:Om)(σ:St)(ρ:SA)(D:fk)(D':bx),Rep F H Z->RS (cut F H Z) ρ σ->t' D' ρ Z->LE F H Z D' D->t D σ H
noncomputable abbrev AG:=AV->SA->Om->(SA->Om->Prop)->Prop
noncomputable abbrev AGs:=List AV->SA->Om->(SA->Om->Prop)->Prop
structure qB(g:TG)(g':AG):Prop where
 run:∀(F:Fs)(H:Hp)(Z:Om)(σ:St)(ρ:SA)(v:V)(a:AV)(Q:St->Hp->Prop)(Q':SA->Om->Prop),Rep F H Z->RS (cut F H Z) ρ σ->RV (cut F H Z) a v->g' a ρ Z Q'->LP RS F H Z Q' Q->g v σ H Q
structure pV(g:TGs)(g':AGs):Prop where
 run:∀(F:Fs)(H:Hp)(Z:Om)(σ:St)(ρ:SA)(v:List V)(a:List AV)(Q:St->Hp->Prop)(Q':SA->Om->Prop),Rep F H Z->RS (cut F H Z) ρ σ->RVs (cut F H Z) a v->g' a ρ Z Q'->LP RS F H Z Q' Q->g v σ H Q
noncomputable abbrev ASp:=List AV->Om->(AV->Om->Prop)->Prop
noncomputable def eU(sp:ASp):Sp:=fun vs H Q _=>∃(F:Fs)(xs:List AV)(Z:Om)(Q':AV->Om->Prop),Rep F H Z/\RVs (cut F H Z) xs vs/\sp xs Z Q'/\LP RV F H Z Q' Q
noncomputable def wv:AS:=fun D ρ Z=>D.nx ρ Z
noncomputable def uE(t u:AS):AS:=fun D ρ Z=>t { D with nx:=u D } ρ Z
noncomputable def wS(te:AE):AS:=fun D ρ Z=>te ρ Z fun _ Z1=>D.nx ρ Z1
noncomputable def y8(te:AE):AS:=fun D ρ Z=>te ρ Z D.rt
noncomputable def zI(c:AT)(t u:AS):AS:=fun D ρ Z=>c ρ Z fun b Z1=>if b=true then t D ρ Z1 else u D ρ Z1
noncomputable def uv(te:AE)(g:AG):AS:=fun D ρ Z=>te ρ Z fun x Z1=>g x ρ Z1 D.nx
noncomputable def lg(i:Nat):AG:=fun v ρ Z Q=>Q (ρ.set i (some v)) Z
noncomputable def wb:AGs:=fun vs ρ Z Q=>vs=[]/\Q ρ Z
noncomputable def se(t:AG)(u:AGs):AGs:=fun vs ρ Z Q=>∃v r,vs=v::r/\t v ρ Z fun ρ' Z'=>u r ρ' Z' Q
section
variable{t u:TS}{t' u':AS}{te:TE}{te':AE}{tc:TT}{tc':AT}{g:TG}{g':AG}{gs:TGs}{gs':AGs}
theorem RS.set{G:Hp}{ρ:SA}{σ:St}{i:Nat}{a:AV}{v:V}(h:RS G ρ σ)(r:RV G a v):RS G (ρ.set i (some a)) (σ.set i (some v)):=by
 refine⟨by simp[h.1],fun j b e=>?_⟩
 by_cases hj:j=i
 ·subst hj
  rw[List.getElem?_set] at e;rw[List.getElem?_set];simp only[if_true] at e ⊢;split at e
  ·rename_i hl
   cases e;rw[if_pos (h.1 ▸ hl)];exact⟨v,rfl,r⟩
  ·cases e
 ·rw[List.getElem?_set_ne (Ne.symm hj)] at e
  rw[List.getElem?_set_ne (Ne.symm hj)];exact h.2 j b e
theorem bO:eD vI wv:=⟨fun F H Z σ ρ D D' rp rs h k=>k.nx ρ Z σ H rp .refl rs h⟩
theorem aL(h1:eD t t')(h2:eD u u'):eD (yt t u) (uE t' u'):=⟨fun F H Z σ ρ D D' rp rs h k=>
 h1.run F H Z σ ρ _ _ rp rs h ⟨fun ρ1 Z1 σ1 H1 rp1 fr1 rs1 q=>h2.run F H1 Z1 σ1 ρ1 D D' rp1 rs1 q (k.fr fr1),k.rt,k.bk,k.ct⟩⟩
theorem lD(h:aZ te te'):eD (rF te) (wS te'):=⟨fun F H Z σ ρ D D' rp rs w k=>h.go rp rs w fun a Z1 v H1 rp1 fr1 rs1 rv q=>k.nx ρ Z1 σ H1 rp1 fr1 rs1 q⟩
theorem bz(h:aZ te te'):eD (zL te) (y8 te'):=⟨fun F H Z σ ρ D D' rp rs w k=>h.run F H Z σ ρ _ _ rp rs w k.rt⟩
theorem eV(hc:hJ tc tc')(h1:eD t t')(h2:eD u u'):eD (yi tc t u) (zI tc' t' u'):=⟨fun F H Z σ ρ D D' rp rs w k=>
 hc.go rp rs w fun a Z1 v H1 rp1 fr1 rs1 rv q=>by
  cases (show a=v from rv)
  cases a with
  |true=>rw[if_pos rfl] at q ⊢;exact h1.run F H1 Z1 σ ρ D D' rp1 rs1 q (k.fr fr1)
  |false=>rw[if_neg Bool.false_ne_true] at q ⊢;exact h2.run F H1 Z1 σ ρ D D' rp1 rs1 q (k.fr fr1)⟩
theorem aR(h:aZ te te')(hg:qB g g'):eD (qA te g) (uv te' g'):=⟨fun F H Z σ ρ D D' rp rs w k=>h.go rp rs w fun a Z1 v H1 rp1 fr1 rs1 rv q=>
 hg.run F H1 Z1 σ ρ v a _ _ rp1 rs1 rv q (k.nx.fr fr1)⟩
theorem ax{i:Nat}:qB (kO i) (lg i):=⟨fun F H Z σ ρ v a Q Q' rp rs rv w k=>k _ Z _ H rp .refl (rs.set rv) w⟩
theorem zy:pV zE wb:=⟨fun F H Z σ ρ vs as Q Q' rp rs rv w k=>by
 obtain⟨rfl,w⟩:=w
 exact⟨rv,k ρ Z σ H rp .refl rs w⟩⟩
theorem nB(h1:qB g g')(h2:pV gs gs'):pV (vT g gs) (se g' gs'):=⟨fun F H Z σ ρ vs as Q Q' rp rs rv w k=>by
 obtain⟨a,r,rfl,w⟩:=w;obtain⟨v,us,rfl,rv1,rv2⟩:=rv
 exact⟨v,us,rfl,h1.run F H Z σ ρ v a _ _ rp rs rv1 w fun ρ1 Z1 σ1 H1 rp1 fr1 rs1 q=>h2.run F H1 Z1 σ1 ρ1 us r Q Q' rp1 rs1 (rv2.same fr1.same) q (k.fr fr1)⟩⟩
end
noncomputable def vb(G:Hp)(as:List AV)(J:It):Prop:=∀(F:Fs)(H:Hp)(Z:Om),Rep F H Z->cZ G (cut F H Z)->J.stop as.length H /\
 ∀(i:Nat)(a:AV),as[i]?=some a->J.go i H/\∀x H',J.yld i H x H'->Rep F H' Z/\Fr F H Z H' Z/\RV (cut F H' Z) a x
noncomputable abbrev AI:=SA->Om->(List AV->Om->Prop)->Prop
noncomputable abbrev xQ(t:TI)(t':AI):Prop:=Ref vb t t'
noncomputable def fH(g:AG)(tb:AS)(D:bx):List AV->SA->Om->Prop
 | [],ρ,Z=>D.nx ρ Z
 |a::as,ρ,Z=>g a ρ Z fun ρ1 Z1=>tb { nx:=fH g tb D as,ct:=fH g tb D as,bk:=D.nx,rt:=D.rt } ρ1 Z1
noncomputable def Ai(wi:AI)(g:AG)(tb:AS):AS:=fun D ρ Z=>wi ρ Z fun as Z1=>fH g tb D as ρ Z1
theorem j3{α:Type}{as:List α}{i:Nat}(h:i<as.length):∃a,as[i]?=some a/\as.drop i=a::as.drop (i+1):=
 ⟨as[i],List.getElem?_eq_getElem h,List.drop_eq_getElem_cons h⟩
theorem pN{wi:TI}{wi':AI}{g:TG}{g':AG}{t:TS}{t':AS}(hi:xQ wi wi')(hg:qB g g')(hb:eD t t'):eD (xm wi g t) (Ai wi' g' t'):=⟨fun F H Z σ ρ D D' rp rs w k=>by
 rw[vy];refine hi.go rp rs w fun as Z1 J H1 rp1 fr1 rs1 it q=>?_;refine⟨fun i m σ2 H2=>m+i=as.length/\∃ρ2 Z2,Rep F H2 Z2/\RS (cut F H2 Z2) ρ2 σ2/\Fr F H1 Z1 H2 Z2/\fH g' t' D' (as.drop i) ρ2 Z2,⟨as.length,rfl,ρ,Z1,rp1,rs1,.refl,q⟩,?_⟩;rintro i m σ2 H2 ⟨hm,ρ2,Z2,rp2,rs2,fr2,q2⟩;obtain⟨stop,go⟩:=it F H2 Z2 rp2 fr2.same;by_cases hl:i<as.length
 ·obtain⟨a,ha,hd⟩:=j3 hl
  rw[hd] at q2;obtain⟨g1,y1⟩:=go i a ha;refine .inr ⟨g1,fun σ' H'=>m-1+(i+1)=as.length/\∃ρ' Z',Rep F H' Z'/\RS (cut F H' Z') ρ' σ'/\Fr F H1 Z1 H' Z'/\fH g' t' D' (as.drop (i+1)) ρ' Z',fun σ' H' z=>⟨m-1,by omega,z⟩,fun x H' hy=>?_⟩
  obtain⟨rp3,fr3,rv3⟩:=y1 x H' hy;have fr13:=(fr2.trans fr3);refine hg.run F H' Z2 σ2 ρ2 x a _ _ rp3 (rs2.same fr3.same) rv3 q2 fun ρ4 Z4 σ4 H4 rp4 fr4 rs4 q4=>?_;have k4:=k.fr ((fr1.trans fr13).trans fr4);refine hb.run F H4 Z4 σ4 ρ4 _ _ rp4 rs4 q4 ⟨?_,k4.rt,k4.nx,?_⟩
  ·exact fun ρ' Z' σ' H'' e1 e2 e3 e4=>⟨by omega,ρ',Z',e1,e3,(fr13.trans fr4).trans e2,e4⟩
  ·exact fun ρ' Z' σ' H'' e1 e2 e3 e4=>⟨by omega,ρ',Z',e1,e3,(fr13.trans fr4).trans e2,e4⟩
 ·have hi:i=as.length:=by omega
  subst hi;rw[List.drop_length] at q2
  exact .inl ⟨stop,k.nx ρ2 Z2 σ2 H2 rp2 (fr1.trans fr2) rs2 q2⟩⟩
noncomputable abbrev AL:=List AV->SA->Om->(List AV->SA->Om->Prop)->Prop
structure Fa(l:Addr)(F:Fs)(H:Hp)(Z:Om)(H':Hp)(Z':Om):Prop where
 st:∀b o,ow (Z b)=false->F b=false->H b=some o->H' b=some o/\ow (Z' b)=false
 hd:∀b,F b=true->b≠l->H' b=H b
noncomputable def LL(l:Addr)(F:Fs)(H:Hp)(Z:Om)(K':List AV->SA->Om->Prop)(K:St->Hp->Prop):Prop:=
 ∀xs vs ρ Z' σ H',Rep F H' Z'->Fa l F H Z H' Z'->RS (cut F H' Z') ρ σ->H' l=some (.lst vs)->RVs (cut F H' Z') xs vs->K' xs ρ Z'->K σ H'
structure AY(l:TL)(l':AL):Prop where
 run:∀(F:Fs)(H:Hp)(Z:Om)(σ:St)(ρ:SA)(acc:Addr)(vs:List V)(xs:List AV)(K:St->Hp->Prop)(K':List AV->SA->Om->Prop),Rep F H Z->RS (cut F H Z) ρ σ->F acc=true->H acc=some (.lst vs)->RVs (cut F H Z) xs vs ->
  l' xs ρ Z K'->LL acc F H Z K' K->l acc σ H K
noncomputable def und:List AV->Option (List D)
 | []=>some []
 |.d x::r=>(und r).map (x::·)
 |_=>none
theorem dD:∀ {xs:List AV} {ds:List D},und xs=some ds->xs=ds.map AV.d
 | [],ds,h=>by cases h;rfl
 |.d x::r,ds,h=>by
  simp only[und,Option.map_eq_some_iff] at h;obtain⟨es,e1,rfl⟩:=h;rw[dD e1];rfl
 |.r _::_,_,h=>by simp[und] at h
 |.p _ _::_,_,h=>by simp[und] at h
noncomputable def cj(Z:Om):AV->Option D
 |.d x=>some x
 |.r (.ref l)=>match Z l with
  |some (.own xs)=>(und xs).map D.lst
  |some (.frz ds)=>some (.lst ds)
  |_=>none
 |_=>none
noncomputable def cm(Z:Om):AV->Option (List AV)
 |.d (.lst ds)=>some (ds.map AV.d)
 |.r (.ref l)=>match Z l with
  |some (.own xs)=>some xs
  |some (.frz ds)=>some (ds.map AV.d)
  |_=>none
 |_=>none
noncomputable def fQ:AV->Option (List AV)
 |.d (.tup ds)=>some (ds.map AV.d)
 |_=>none
noncomputable def rZ(Z:Om)(x:AV)(K:D->Om->Prop):Prop:=match x with
 |.d x=>K x Z
 |.r (.ref l)=>match Z l with
  |some (.own xs)=>∃ds,und xs=some ds/\K (.lst ds) (Z.put l (.frz ds))
  |some (.frz ds)=>K (.lst ds) Z
  |_=>False
 |_=>False
section
variable{F:Fs}{H:Hp}{Z:Om}{x:AV}{v:V}
theorem fq(rp:Rep F H Z)(rv:RV (cut F H Z) x v){xs:List AV}(h:cm Z x=some xs):∃a vs,v=.ref a/\H a=some (.lst vs)/\RVs (cut F H Z) xs vs:=by
 cases x with
 |d x=>cases x with
  |lst ds=>
   simp only[cm,Option.some.injEq] at h;subst h;simp only[RV,Dat] at rv;obtain⟨a,vs,rfl,e1,e2⟩:=rv;exact⟨a,vs,rfl,aV _ _ e1,RVs.dats.mpr e2⟩
  |_=>simp[cm] at h
 |p u P=>simp[cm] at h
 |r u=>
  cases (show v=u from rv)
  cases v with
  |ref l=>
   simp only[cm] at h
   cases e:Z l with
   |none=>rw[e] at h;simp at h
   |some c=>
    rw[e] at h
    cases c with
    |own ys=>
     simp only[Option.some.injEq] at h;subst h;obtain⟨vs,e1,e2⟩:=rp.own l _ e;exact⟨l,vs,rfl,e1,e2⟩
    |frz ds=>
     simp only[Option.some.injEq] at h;subst h;have q:=rp.frz l ds e;simp only[Dat] at q;obtain⟨a,vs,e1,e2,e3⟩:=q;cases e1;exact⟨l,vs,rfl,aV _ _ e2,RVs.dats.mpr e3⟩
    |dic ks=>simp at h
  |_=>simp[cm] at h
theorem tL(rv:RV (cut F H Z) x v){xs:List AV}(h:fQ x=some xs):∃a vs,v=.ref a/\cut F H Z a=some (.tup vs)/\RVs (cut F H Z) xs vs:=by
 cases x with
 |d x=>cases x with
  |tup ds=>
   simp only[fQ,Option.some.injEq] at h;subst h;simp only[RV,Dat] at rv;obtain⟨a,vs,rfl,e1,e2⟩:=rv;exact⟨a,vs,rfl,e1,RVs.dats.mpr e2⟩
  |_=>simp[fQ] at h
 |p u P=>simp[fQ] at h
 |r u=>simp[fQ] at h
theorem jw(rp:Rep F H Z)(rv:RV (cut F H Z) x v){d:D}(h:cj Z x=some d):Dat H d v:=by
 cases x with
 |d x=>
  simp only[cj,Option.some.injEq] at h;subst h;exact Dat.same aV rv
 |p u P=>simp[cj] at h
 |r u=>
  cases (show v=u from rv)
  cases v with
  |ref l=>
   simp only[cj] at h
   cases e:Z l with
   |none=>rw[e] at h;simp at h
   |some c=>
    rw[e] at h
    cases c with
    |own ys=>
     simp only[Option.map_eq_some_iff] at h;obtain⟨ds,h1,rfl⟩:=h;cases dD h1;obtain⟨vs,e1,e2⟩:=rp.own l _ e;simp only[Dat];exact⟨l,vs,rfl,e1,(RVs.dats.mp e2).same aV⟩
    |frz ds=>
     simp only[Option.some.injEq] at h;subst h;exact(rp.frz l ds e).same aV
    |dic ks=>simp at h
  |_=>simp[cj] at h
theorem ly(rp:Rep F H Z)(rv:RV (cut F H Z) x v){ds:List D}(h:cj Z x=some (.lst ds)):∃a vs,v=.ref a/\H a=some (.lst vs)/\ay (cut F H Z) ds vs:=by
 have:cm Z x=some (ds.map AV.d):=by
  cases x with
  |d x=>simp only[cj,Option.some.injEq] at h;subst h;rfl
  |p u P=>simp[cj] at h
  |r u=>cases u with
   |ref l=>
    simp only[cj] at h;simp only[cm]
    cases e:Z l with
    |none=>rw[e] at h;simp at h
    |some c=>
     rw[e] at h
     cases c with
     |own ys=>
      simp only[Option.map_eq_some_iff] at h;obtain⟨es,h1,h2⟩:=h;cases h2;rw[dD h1]
     |frz es=>simp only[Option.some.injEq] at h;cases h;rfl
     |dic ks=>simp at h
   |_=>simp[cj] at h
 obtain⟨a,vs,e1,e2,e3⟩:=fq rp rv this;exact⟨a,vs,e1,e2,RVs.dats.mp e3⟩
theorem yo(rp:Rep F H Z)(rv:RV (cut F H Z) x v){K:D->Om->Prop}(h:rZ Z x K):∃d Z',Rep F H Z'/\Fr F H Z H Z'/\Dat (cut F H Z') d v/\K d Z':=by
 cases x with
 |d x=>exact⟨x,Z,rp,.refl,rv,h⟩
 |p u P=>exact h.elim
 |r u=>
  cases (show v=u from rv)
  cases v with
  |ref l=>
   simp only[rZ] at h
   cases e:Z l with
   |none=>rw[e] at h;exact h.elim
   |some c=>
    rw[e] at h
    cases c with
    |own ys=>
     obtain⟨ds,h1,h2⟩:=h;cases dD h1;obtain⟨q1,q2,q3⟩:=rp.freeze e;exact⟨_,_,q1,q2,q3,h2⟩
    |frz ds=>exact⟨_,_,rp,.refl,rp.frz l ds e,h⟩
    |dic ks=>exact h.elim
  |_=>exact h.elim
end
noncomputable abbrev A2:=AV->AV->Om->(AV->Om->Prop)->Prop
structure df(r:R2)(r':A2):Prop where
 run:∀(F:Fs)(H:Hp)(Z:Om)(v u:V)(x y:AV)(Q:VK)(Q':AV->Om->Prop),Rep F H Z->RV (cut F H Z) x v->RV (cut F H Z) y u->r' x y Z Q'->LP RV F H Z Q' Q->r v u H Q
structure AU(r:V->Hp->VK->Prop)(r':AV->Om->(AV->Om->Prop)->Prop):Prop where
 run:∀(F:Fs)(H:Hp)(Z:Om)(v:V)(x:AV)(Q:VK)(Q':AV->Om->Prop),Rep F H Z->RV (cut F H Z) x v->r' x Z Q'->LP RV F H Z Q' Q->r v H Q
structure jX(r:List V->Hp->VK->Prop)(r':List AV->Om->(AV->Om->Prop)->Prop):Prop where
 run:∀(F:Fs)(H:Hp)(Z:Om)(vs:List V)(xs:List AV)(Q:VK)(Q':AV->Om->Prop),Rep F H Z->RVs (cut F H Z) xs vs->r' xs Z Q'->LP RV F H Z Q' Q->r vs H Q
noncomputable def vg(i:Nat):AE:=fun ρ Z Q=>∃a,ρ[i]?=some (some a)/\Q a Z
noncomputable def aC(d:D):AE:=fun _ Z Q=>Q (.d d) Z
noncomputable def aOp(r:A2)(ta tb:AE):AE:=fun ρ Z Q=>ta ρ Z fun x Z1=>tb ρ Z1 fun y Z2=>r x y Z2 Q
noncomputable def zD:AA:=fun _ Z Q=>Q [] Z
noncomputable def wK(ta:AE)(tr:AA):AA:=fun ρ Z Q=>ta ρ Z fun x Z1=>tr ρ Z1 fun xs Z2=>Q (x::xs) Z2
noncomputable def yA(t:AA):AE:=fun ρ Z Q=>t ρ Z fun xs Z1=>xs.length<=sizeLine/\∃ds,und xs=some ds/\Q (.d (.tup ds)) Z1
noncomputable def Ad(t:AA):AE:=fun ρ Z Q=>t ρ Z fun xs Z1=>xs.length<=sizeLine/\∃ds,und xs=some ds/\Q (.d (.lst ds)) Z1
noncomputable def wT(t:AA):AE:=fun ρ Z Q=>t ρ Z fun xs Z1=>xs.length<=sizeLine/\∀p,Z1 p=none->Q (.r (.ref p)) (Z1.put p (.own xs))
noncomputable def wf(sp:ASp)(t:AA):AE:=fun ρ Z Q=>t ρ Z fun xs Z1=>sp xs Z1 Q
noncomputable def aCB(r:List AV->Om->(AV->Om->Prop)->Prop)(t:AA):AE:=fun ρ Z Q=>t ρ Z fun xs Z1=>r xs Z1 Q
noncomputable def vR(t:AE):AT:=fun ρ Z Q=>t ρ Z fun x Z1=>∃k,x=.d (.bl k)/\Q k Z1
noncomputable def zl(t u:AT):AT:=fun ρ Z Q=>t ρ Z fun c Z1=>if c=true then u ρ Z1 Q else Q false Z1
noncomputable def aOr(t u:AT):AT:=fun ρ Z Q=>t ρ Z fun c Z1=>if c=true then Q true Z1 else u ρ Z1 Q
noncomputable def zj(t:AT):AT:=fun ρ Z Q=>t ρ Z fun c Z1=>Q (!c) Z1
section
variable{ta tb tc:TE}{ta' tb' tc':AE}{t u:TT}{t' u':AT}{r r2:R2}{r' r2':A2}{s:TA}{s':AA}
theorem ae{i:Nat}:aZ (uH i) (vg i):=⟨fun F H Z σ ρ Q Q' rp rs h k=>by
 obtain⟨a,e,q⟩:=h;obtain⟨v,e1,e2⟩:=rs.2 i a e
 exact⟨v,e1,k a Z v H rp .refl e2 q⟩⟩
theorem ao{i:Int}:aZ (tC (.int i)) (aC (.int i)):=⟨fun F H Z σ ρ Q Q' rp rs h k=>k _ Z _ H rp .refl (by simp[RV,Dat]) h⟩
theorem aH{x:Str}:aZ (tC (.str x)) (aC (.str x)):=⟨fun F H Z σ ρ Q Q' rp rs h k=>k _ Z _ H rp .refl (by simp[RV,Dat]) h⟩
theorem rN{b:Bool}:aZ (tC (.bl b)) (aC (.bl b)):=⟨fun F H Z σ ρ Q Q' rp rs h k=>k _ Z _ H rp .refl (by simp[RV,Dat]) h⟩
theorem ii:aZ (tC .non) (aC .non):=⟨fun F H Z σ ρ Q Q' rp rs h k=>k _ Z _ H rp .refl (by simp[RV,Dat]) h⟩
noncomputable def zm(v:V):AE:=fun _ Z Q=>Q (.r v) Z
theorem d0{v:V}:aZ (tC v) (zm v):=⟨fun F H Z σ ρ Q Q' rp rs h k=>k (.r v) Z _ H rp .refl rfl h⟩
theorem am(h2:df r r')(ha:aZ ta ta')(hb:aZ tb tb'):aZ (tOp r ta tb) (aOp r' ta' tb'):=⟨fun F H Z σ ρ Q Q' rp rs h k=>
 ha.go rp rs h fun x Z1 v H1 rp1 fr1 rs1 rv1 q1=>hb.go rp1 rs1 q1 fun y Z2 u H2 rp2 fr2 rs2 rv2 q2=>h2.run F H2 Z2 v u x y Q Q' rp2 (rv1.same fr2.same) rv2 q2 (k.fr (fr1.trans fr2))⟩
theorem ai:fJ uN zD:=⟨fun F H Z σ ρ Q Q' rp rs h k=>k [] Z _ H rp .refl rfl h⟩
theorem aa(ha:aZ ta ta')(hs:fJ s s'):fJ (gj ta s) (wK ta' s'):=⟨fun F H Z σ ρ Q Q' rp rs h k=>
 ha.go rp rs h fun x Z1 v H1 rp1 fr1 rs1 rv1 q1=>hs.go rp1 rs1 q1 fun y Z2 u H2 rp2 fr2 rs2 rv2 q2=>k (x::y) Z2 (v::u) H2 rp2 (fr1.trans fr2) ⟨v,u,rfl,rv1.same fr2.same,rv2⟩ q2⟩
theorem d8(hs:fJ s s'):aZ (ux s) (yA s'):=⟨fun F H Z σ ρ Q Q' rp rs h k=>
 hs.go rp rs h fun xs Z1 vs H1 rp1 fr1 rs1 rv1 ⟨z,ds,hu,q1⟩=>⟨by rw[rv1.length];exact z,fun p hp=>by
  cases dD hu;obtain⟨rp2,fr2,hc⟩:=rp1.lay (o:=.tup vs) hp;refine k _ Z1 _ _ rp2 (fr1.trans fr2) ?_ q1;simp only[RV,Dat]
  exact⟨p,vs,rfl,hc,(RVs.dats.mp rv1).same fr2.same⟩⟩⟩
theorem gu(hs:fJ s s'):aZ (xy s) (Ad s'):=⟨fun F H Z σ ρ Q Q' rp rs h k=>
 hs.go rp rs h fun xs Z1 vs H1 rp1 fr1 rs1 rv1 ⟨z,ds,hu,q1⟩=>⟨by rw[rv1.length];exact z,fun p hp=>by
  cases dD hu;obtain⟨rp2,fr2,hc⟩:=rp1.lay (o:=.lst vs) hp;refine k _ Z1 _ _ rp2 (fr1.trans fr2) ?_ q1;simp only[RV,Dat]
  exact⟨p,vs,rfl,hc,(RVs.dats.mp rv1).same fr2.same⟩⟩⟩
theorem jD(hs:fJ s s'):aZ (xy s) (wT s'):=⟨fun F H Z σ ρ Q Q' rp rs h k=>
 hs.go rp rs h fun xs Z1 vs H1 rp1 fr1 rs1 rv1 ⟨z,q1⟩=>⟨by rw[rv1.length];exact z,fun p hp=>by
  obtain⟨rp2,fr2⟩:=rp1.mk' (vs:=vs) hp rv1
  exact k (.r (.ref p)) _ _ _ rp2 (fr1.trans fr2) rfl (q1 p (rp1.free hp).1)⟩⟩
theorem a8{sp:ASp}{E:XK}(hs:fJ s s'):aZ (mW (eU sp) [] E s) (wf sp s'):=⟨fun F H Z σ ρ Q Q' rp rs h k=>
 hs.go rp rs h fun xs Z1 vs H1 rp1 fr1 rs1 rv1 q=>⟨F,xs,Z1,Q',rp1,by rw[List.append_nil];exact rv1,q,k.fr fr1⟩⟩
theorem cP{r:List V->Hp->VK->Prop}{r':List AV->Om->(AV->Om->Prop)->Prop}(hr:jX r r')(hs:fJ s s'):aZ (tCB r s) (aCB r' s'):=⟨fun F H Z σ ρ Q Q' rp rs h k=>
 hs.go rp rs h fun xs Z1 vs H1 rp1 fr1 rs1 rv1 q=>hr.run F H1 Z1 vs xs Q Q' rp1 rv1 q (k.fr fr1)⟩
theorem aJ(ha:aZ ta ta'):hJ (wX ta) (vR ta'):=⟨fun F H Z σ ρ Q Q' rp rs h k=>
 ha.go rp rs h fun x Z1 v H1 rp1 fr1 rs1 rv1 ⟨c,e,q⟩=>by subst e;exact⟨c,by simpa[RV,Dat] using rv1,k c Z1 c H1 rp1 fr1 rfl q⟩⟩
theorem gC(h1:hJ t t')(h2:hJ u u'):hJ (yH t u) (zl t' u'):=⟨fun F H Z σ ρ Q Q' rp rs h k=>
 h1.go rp rs h fun c Z1 c' H1 rp1 fr1 rs1 rv1 q=>by
  cases (show c=c' from rv1)
  cases c with
  |true=>rw[if_pos rfl] at q ⊢;exact h2.run F H1 Z1 σ ρ Q Q' rp1 rs1 q (k.fr fr1)
  |false=>rw[if_neg Bool.false_ne_true] at q ⊢;exact k false Z1 false H1 rp1 fr1 rfl q⟩
theorem uw(h1:hJ t t')(h2:hJ u u'):hJ (tOr t u) (aOr t' u'):=⟨fun F H Z σ ρ Q Q' rp rs h k=>
 h1.go rp rs h fun c Z1 c' H1 rp1 fr1 rs1 rv1 q=>by
  cases (show c=c' from rv1)
  cases c with
  |true=>rw[if_pos rfl] at q ⊢;exact k true Z1 true H1 rp1 fr1 rfl q
  |false=>rw[if_neg Bool.false_ne_true] at q ⊢;exact h2.run F H1 Z1 σ ρ Q Q' rp1 rs1 q (k.fr fr1)⟩
theorem sD(h1:hJ t t'):hJ (Ac t) (zj t'):=⟨fun F H Z σ ρ Q Q' rp rs h k=>
 h1.go rp rs h fun c Z1 c' H1 rp1 fr1 rs1 rv1 q=>by
  cases (show c=c' from rv1)
  exact k _ Z1 _ H1 rp1 fr1 rfl q⟩
theorem vO{G:Hp}{c:Bool}{v:V}(h:RV G (.d (.bl c)) v):v=.bl c:=by simpa[RV,Dat] using h
noncomputable def fh(Z:Om)(x:AV):Option Bool:=match x with
 |.d .non=>some false
 |.d (.bl b)=>some b
 |.d (.int i)=>some (i != 0)
 |.d (.tup ds)=>some (!ds.isEmpty)
 |x=>(cm Z x).map fun xs=>!xs.isEmpty
noncomputable def zW(ta:AE):AT:=fun ρ Z Q=>ta ρ Z fun x Z1=>∃k,fh Z1 x=some k/\Q k Z1
theorem iw{α β:Type}{xs:List α}{ys:List β}(h:xs.length=ys.length):xs.isEmpty=ys.isEmpty:=by
 cases xs<;>cases ys<;>simp_all
theorem sQ{K:W.Frag}{F:Fs}{H1:Hp}{Z1:Om}{x:AV}{v:V}{c:Bool}(rp1:Rep F H1 Z1)(rv1:RV (cut F H1 Z1) x v)(e:fh Z1 x=some c):nz K v H1 c:=by
  have ls:∀ {xs:List AV},cm Z1 x=some xs->c=(!xs.isEmpty)->nz K v H1 c:=fun {xs} e1 e2=>by
   obtain⟨a,vs,rfl,e3,e4⟩:=fq rp1 rv1 e1;exact .inl ⟨vs,.inl (.inl e3),by rw[e2,iw e4.length.symm]⟩
  cases x with
  |d x=>cases x with
   |non=>simp only[fh,Option.some.injEq] at e;simp only[RV,Dat] at rv1;subst rv1;exact e.symm
   |bl b=>simp only[fh,Option.some.injEq] at e;simp only[RV,Dat] at rv1;subst rv1;exact e.symm
   |int b=>simp only[fh,Option.some.injEq] at e;simp only[RV,Dat] at rv1;subst rv1;exact e.symm
   |str b=>simp[fh,cm] at e
   |dk b=>simp[fh,cm] at e
   |dt b=>simp[fh,cm] at e
   |tup ds=>
    simp only[fh,Option.some.injEq] at e;simp only[RV,Dat] at rv1;obtain⟨a,vs,rfl,e1,e2⟩:=rv1;exact .inr (.inl ⟨vs,.inl (.inl (aV _ _ e1)),by rw[←e,iw e2.length]⟩)
   |lst ds=>
    simp only[fh,Option.map_eq_some_iff] at e;obtain⟨xs,e1,e2⟩:=e;exact ls e1 e2.symm
  |r u=>
   simp only[fh,Option.map_eq_some_iff] at e;obtain⟨xs,e1,e2⟩:=e;exact ls e1 e2.symm
  |p u P=>simp[fh,cm] at e
theorem lY{K:W.Frag}(ha:aZ ta ta'):hJ (fun σ H Q=>ta σ H fun x H'=>∃k,nz K x H' k/\Q k H') (zW ta'):=⟨fun F H Z σ ρ Q Q' rp rs h k=>
 ha.go rp rs h fun x Z1 v H1 rp1 fr1 rs1 rv1 ⟨c,e,q⟩=>⟨c,sQ rp1 rv1 e,k c Z1 c H1 rp1 fr1 rfl q⟩⟩
end
noncomputable def aI0(f:Int->Int->D):A2:=fun x y Z Q=>∃i j,x=.d (.int i)/\y=.d (.int j)/\Q (.d (f i j)) Z
noncomputable def aI(C:Int->Int->Prop)(f:Int->Int->D):A2:=fun x y Z Q=>∃i j,x=.d (.int i)/\y=.d (.int j)/\C i j/\Q (.d (f i j)) Z
section
variable{F:Fs}{H:Hp}{Z:Om}{Q:VK}{Q':AV->Om->Prop}
theorem LP.int(k:LP RV F H Z Q' Q)(rp:Rep F H Z){i:Int}(q:Q' (.d (.int i)) Z):Q (.int i) H:=k (.d (.int i)) Z _ H rp .refl (by simp[RV,Dat]) q
theorem LP.bl(k:LP RV F H Z Q' Q)(rp:Rep F H Z){i:Bool}(q:Q' (.d (.bl i)) Z):Q (.bl i) H:=k (.d (.bl i)) Z _ H rp .refl (by simp[RV,Dat]) q
theorem LP.str(k:LP RV F H Z Q' Q)(rp:Rep F H Z){i:Str}(q:Q' (.d (.str i)) Z):Q (.str i) H:=k (.d (.str i)) Z _ H rp .refl (by simp[RV,Dat]) q
theorem a6{G:Hp}{i:Int}{v:V}(h:RV G (.d (.int i)) v):v=.int i:=by simpa[RV,Dat] using h
theorem di{G:Hp}{i:Str}{v:V}(h:RV G (.d (.str i)) v):v=.str i:=by simpa[RV,Dat] using h
theorem n6{G:Hp}{v:V}(h:RV G (.d .non) v):v=.non:=by simpa[RV,Dat] using h
theorem LP.tup(k:LP RV F H Z Q' Q)(rp:Rep F H Z){ds:List D}{vs:List V}(hd:ay (cut F H Z) ds vs)(q:Q' (.d (.tup ds)) Z):∀p,H p=none->Q (.ref p) (upd H p (.tup vs)):=fun p hp=>by
 obtain⟨rp2,fr2,hc⟩:=rp.lay (o:=.tup vs) hp;refine k (.d (.tup ds)) Z _ _ rp2 fr2 ?_ q;simp only[RV,Dat];exact⟨p,vs,rfl,hc,hd.same fr2.same⟩
theorem LP.lst(k:LP RV F H Z Q' Q)(rp:Rep F H Z){ds:List D}{vs:List V}(hd:ay (cut F H Z) ds vs)(q:Q' (.d (.lst ds)) Z):∀p,H p=none->Q (.ref p) (upd H p (.lst vs)):=fun p hp=>by
 obtain⟨rp2,fr2,hc⟩:=rp.lay (o:=.lst vs) hp;refine k (.d (.lst ds)) Z _ _ rp2 fr2 ?_ q;simp only[RV,Dat];exact⟨p,vs,rfl,hc,hd.same fr2.same⟩
theorem LP.own(k:LP RV F H Z Q' Q)(rp:Rep F H Z){xs:List AV}{vs:List V}(hd:RVs (cut F H Z) xs vs)(q:∀p,Z p=none->Q' (.r (.ref p)) (Z.put p (.own xs))):∀p,H p=none->Q (.ref p) (upd H p (.lst vs)):=fun p hp=>by
 obtain⟨rp2,fr2⟩:=rp.mk' (vs:=vs) hp hd;exact k (.r (.ref p)) _ _ _ rp2 fr2 rfl (q p (rp.free hp).1)
end
theorem nc{f:Int->Int->Int}:df (rI0 fun i j=>.int (f i j)) (aI0 fun i j=>.int (f i j)):=⟨fun F H Z v u x y Q Q' rp h1 h2 ⟨i,j,e1,e2,q⟩ k=>by
 subst e1 e2;exact⟨i,j,a6 h1,a6 h2,k.int rp q⟩⟩
theorem j9{f:Int->Int->Bool}:df (rI0 fun i j=>.bl (f i j)) (aI0 fun i j=>.bl (f i j)):=⟨fun F H Z v u x y Q Q' rp h1 h2 ⟨i,j,e1,e2,q⟩ k=>by
 subst e1 e2;exact⟨i,j,a6 h1,a6 h2,k.bl rp q⟩⟩
theorem gO{C:Int->Int->Prop}{f:Int->Int->Int}:df (rI C fun i j=>.int (f i j)) (aI C fun i j=>.int (f i j)):=⟨fun F H Z v u x y Q Q' rp h1 h2 ⟨i,j,e1,e2,c,q⟩ k=>by
 subst e1 e2;exact⟨i,j,a6 h1,a6 h2,c,k.int rp q⟩⟩
noncomputable def yG(neg:Bool):A2:=fun x y Z Q=>∃a b,cj Z x=some a/\cj Z y=some b/\dep a<=100/\Q (.d (.bl (if neg then !eqD a b else eqD a b))) Z
theorem bH{neg:Bool}:df (x0 neg) (yG neg):=⟨fun F H Z v u x y Q Q' rp h1 h2 ⟨a,b,e1,e2,s,q⟩ k=>⟨a,b,jw rp h1 e1,jw rp h2 e2,s,k.bl rp q⟩⟩
noncomputable def Ab:A2:=fun x y Z Q=>∃ds es,x=.d (.tup ds)/\y=.d (.tup es)/\ds.length+es.length<=sizeLine/\Q (.d (.tup (ds++es))) Z
noncomputable def ki:R2:=fun x y H Q=>∃a b xs ys,x=.ref a/\y=.ref b/\H a=some (.tup xs)/\H b=some (.tup ys)/\xs.length+ys.length<=sizeLine /\
 (xs=[]->Q (.ref b) H)/\(ys=[]->Q (.ref a) H)/\∀p,H p=none->Q (.ref p) (upd H p (.tup (xs++ys)))
theorem bC{X:Cx}:OpR X (binaryOp .Add) ki:=by
 intro pins s σ H x y v u Q I rx ry h;obtain⟨a,b,xs,ys,rfl,rfl,ha,hb,hz,g1,g2,g3⟩:=h;by_cases hn:xs=[]
 ·subst hn
  cases rx;cases ry;obtain⟨its,r1,ht⟩:=eE I ha;obtain⟨its2,r2,hb2⟩:=eE I hb;cases r1;obtain⟨⟨cls,dd,data,sl⟩,ho,hc,n,hd⟩:=id ht;obtain⟨⟨cls2,dd2,data2,sl2⟩,ho2,hc2,n2,hd2⟩:=id hb2;simp only at hc hd hc2 hd2;subst hc hd hc2 hd2
  exact concat_meets ⟨_,ho,rfl⟩ ⟨_,ho2,rfl⟩ noFill_tuple_add seq_tuple_add PySem.F.slot_tuple_add PySem.F.entry_tuple_add (PySem.F.args_tuple_add_2 _ _)
   (tuple_addW0 a b _ _ n n2 dd dd2 sl sl2 (by simp)) ⟨ho,ho2,⟨.ref b,H,I,rfl,g1 rfl⟩⟩
 ·exact uX pins s σ H (.ref a) (.ref b) v u Q I rx ry ⟨a,b,xs,ys,rfl,rfl,SqT.of ha,SqT.of hb,hn,hz,g2,fun _ p hp=>g3 p hp⟩
theorem rd:df ki Ab:=⟨fun F H Z v u x y Q Q' rp h1 h2 ⟨ds,es,e1,e2,z,q⟩ k=>by
 subst e1 e2;have h1':=h1;have h2':=h2;simp only[RV,Dat] at h1 h2;obtain⟨a,xs,rfl,ha,hxs⟩:=h1;obtain⟨b,ys,rfl,hb,hys⟩:=h2;refine⟨a,b,xs,ys,rfl,rfl,aV _ _ ha,aV _ _ hb,by rw[hxs.length,hys.length];exact z,fun e=>?_,fun e=>?_,k.tup rp (hxs.append hys) q⟩
 ·have:ds=[]:=List.length_eq_zero_iff.mp (by rw[←hxs.length,e];rfl)
  subst this;exact k _ Z _ H rp .refl h2' q
 ·have:es=[]:=List.length_eq_zero_iff.mp (by rw[←hys.length,e];rfl)
  subst this;rw[List.append_nil] at q
  exact k _ Z _ H rp .refl h1' q⟩
theorem Rep.later{F:Fs}{H H':Hp}{Z:Om}(rp:Rep F H Z)(s:cZ H H'):Rep F H' Z/\Fr F H Z H' Z:=by
 have fr:Fr F H Z H' Z:=⟨fun b o x f e=>⟨s _ _ e,x⟩,fun b f=>by
  obtain⟨_,o,q⟩:=rp.hid b f
  rw[q,s _ _ q]⟩
 refine⟨⟨fun l xs e=>?_,fun l ds e=>(rp.frz l ds e).same fr.same,fun b f=>?_,fun l ks e=>(by obtain⟨vs,e1,e2⟩:=rp.dic l ks e;exact⟨vs,s _ _ e1,e2.same fr.same⟩)⟩,fr⟩
 ·obtain⟨vs,e1,e2⟩:=rp.own l xs e
  exact⟨vs,s _ _ e1,e2.same fr.same⟩
 ·obtain⟨x,o,q⟩:=rp.hid b f
  exact⟨x,o,s _ _ q⟩
noncomputable def Aq:A2:=fun x y Z Q=>∃xs i a,cm Z x=some xs/\y=.d (.int i)/\atI xs i=some a/\Q a Z
noncomputable def Ap:A2:=fun x y Z Q=>∃xs i a,fQ x=some xs/\y=.d (.int i)/\atI xs i=some a/\Q a Z
theorem RVs.atI{G:Hp}{xs:List AV}{vs:List V}{i:Int}{a:AV}(h:RVs G xs vs)(e:atI xs i=some a):∃v,L2.atI vs i=some v/\RV G a v:=by
 unfold L2.atI at e ⊢;rw[h.length]
 cases z:ixN xs.length i with
 |none=>rw[z] at e;cases e
 |some j=>
  rw[z] at e;exact h.get e
theorem za{K:W.Frag}:df (xn K) Aq:=⟨fun F H Z v u x y Q Q' rp h1 h2 ⟨xs,i,a,e1,e2,e3,q⟩ k=>by
 subst e2;obtain⟨l,vs,rfl,q1,q2⟩:=fq rp h1 e1;obtain⟨w,z1,z2⟩:=q2.atI e3
 exact⟨l,vs,i,w,rfl,a6 h2,.inl (.inl q1),z1,k a Z w H rp .refl z2 q⟩⟩
theorem Af{K:W.Frag}:df (xT K) Ap:=⟨fun F H Z v u x y Q Q' rp h1 h2 ⟨xs,i,a,e1,e2,e3,q⟩ k=>by
 subst e2;obtain⟨l,vs,rfl,q1,q2⟩:=tL h1 e1;obtain⟨w,z1,z2⟩:=q2.atI e3
 exact⟨l,vs,i,w,rfl,a6 h2,.inl (.inl (aV _ _ q1)),z1,k a Z w H rp .refl z2 q⟩⟩
noncomputable def aIx:A2:=fun x y Z Q=>∃xs i a,(cm Z x=some xs\/fQ x=some xs)/\y=.d (.int i)/\atI xs i=some a/\Q a Z
theorem gT{K:W.Frag}:df (rIx K) aIx:=⟨fun F H Z v u x y Q Q' rp h1 h2 ⟨xs,i,a,e1,e2,e3,q⟩ k=>by
 rcases e1 with e1|e1
 ·exact .inl (za.run F H Z v u x y Q Q' rp h1 h2 ⟨xs,i,a,e1,e2,e3,q⟩ k)
 ·exact .inr (.inl (Af.run F H Z v u x y Q Q' rp h1 h2 ⟨xs,i,a,e1,e2,e3,q⟩ k))⟩
noncomputable def Am(neg:Bool):A2:=fun x y Z Q=>∃a,x=.d a/\y=.d .non/\Q (.d (.bl (if neg then !eqD a .non else eqD a .non))) Z
theorem ye{G:Hp}{a:D}{v:V}(h:RV G (.d a) v):decide (v=.non)=eqD a .non:=by
 cases a<;>simp only[RV,Dat] at h
 all_goals first
  |(subst h;simp[eqD])
  |(obtain⟨_,_,rfl,_⟩:=h;simp[eqD])
theorem zB:df (fun x y H Q=>y=.non/\Q (.bl (decide (x=.non))) H) (Am false):=⟨fun F H Z v u x y Q Q' rp h1 h2 ⟨a,e1,e2,q⟩ k=>by
 subst e1 e2;exact⟨n6 h2,by rw[ye h1];exact k.bl rp q⟩⟩
noncomputable abbrev AC:=List AV->Om->(AV->Om->Prop)->Prop
theorem gp{G:Hp}{a:AV}{vs:List V}(h:RVs G [a] vs):∃v,vs=[v]/\RV G a v:=by
 obtain⟨v,r,rfl,h1,h2⟩:=h;cases h2;exact⟨v,rfl,h1⟩
theorem yP{G:Hp}{a b:AV}{vs:List V}(h:RVs G [a,b] vs):∃v u,vs=[v,u]/\RV G a v/\RV G b u:=by
 obtain⟨v,r,rfl,h1,h2⟩:=h;obtain⟨u,rfl,h3⟩:=gp h2;exact⟨v,u,rfl,h1,h3⟩
noncomputable def tH(Z:Om)(x:AV):Option Nat:=match fQ x with
 |some xs=>some xs.length
 |none=>(cm Z x).map List.length
noncomputable def zP:AC:=fun xs Z Q=>∃x n,xs=[x]/\tH Z x=some n/\Q (.d (.int n)) Z
theorem sd{K:W.Frag}:jX (fun xs H Q=>∃x n,xs=[x]/\uY K x H n/\Q (.int n) H) zP:=⟨fun F H Z vs xs Q Q' rp rv ⟨x,n,e1,e2,q⟩ k=>by
 subst e1;obtain⟨v,rfl,r⟩:=gp rv;refine⟨v,n,rfl,?_,k.int rp q⟩;unfold tH at e2
 cases z:fQ x with
 |some xs=>
  rw[z] at e2;cases e2;obtain⟨a,us,rfl,q1,q2⟩:=tL r z;exact .inr ⟨us,.inl (.inl (aV _ _ q1)),q2.length.symm⟩
 |none=>
  rw[z] at e2;simp only[Option.map_eq_some_iff] at e2;obtain⟨ys,e3,rfl⟩:=e2;obtain⟨a,us,rfl,q1,q2⟩:=fq rp r e3
  exact .inl ⟨us,.inl (.inl q1),q2.length.symm⟩⟩
noncomputable def aF1(f:Int->Int):AC:=fun xs Z Q=>∃i,xs=[.d (.int i)]/\Q (.d (.int (f i))) Z
theorem xf{f:Int->Int}:jX (fun xs H Q=>∃i,xs=[.int i]/\Q (.int (f i)) H) (aF1 f):=⟨fun F H Z vs xs Q Q' rp rv ⟨i,e1,q⟩ k=>by
 subst e1;obtain⟨v,rfl,r1⟩:=gp rv
 exact⟨i,by rw[a6 r1],k.int rp q⟩⟩
noncomputable def qj:D->Option Int
 |.int i=>some i
 |.bl k=>some (if k then 1 else 0)
 |_=>none
noncomputable def y9:AC:=fun xs Z Q=>∃d i,xs=[.d d]/\qj d=some i/\Q (.d (.int i)) Z
theorem wq:jX (fun xs H Q=>(∃i,xs=[.int i]/\Q (.int i) H)\/∃k,xs=[.bl k]/\Q (.int (if k then 1 else 0)) H) y9:=⟨fun F H Z vs xs Q Q' rp rv ⟨d,i,e1,e2,q⟩ k=>by
 subst e1;obtain⟨v,rfl,r1⟩:=gp rv
 cases d with
 |int j=>simp only[qj,Option.some.injEq] at e2;subst e2;exact .inl ⟨_,by rw[a6 r1],k.int rp q⟩
 |bl j=>simp only[qj,Option.some.injEq] at e2;subst e2;exact .inr ⟨j,by rw[vO r1],k.int rp q⟩
 |_=>cases e2⟩
noncomputable def mf(lo:Int)(n:Nat):List AV:=(List.range n).map fun i=>AV.d (.int (lo+(i:Nat)))
noncomputable def rD(ta:AA):AI:=fun ρ Z R=>ta ρ Z fun xs Z1=>∃j:Int,xs=[.d (.int j)]/\-(2^62)<=j/\j<2^62/\R (mf 0 j.toNat) Z1
section
variable{te:TE}{te':AE}{ta:TA}{ta':AA}{K:W.Frag}
theorem uO{G:Hp}{ds:List D}{a:Addr}(h:Dat G (.lst ds) (.ref a)):vb G (ds.map AV.d) (Itl K a):=fun F H Z rp s=>by
 have h2:=h.same s;simp only[Dat] at h2;obtain⟨_,vs,e,ha,hd⟩:=h2;cases e;have hq:SqL K H a vs:=.inl (.inl (aV _ _ ha));have hl:=hd.length;refine⟨⟨vs,hq,by simp;omega⟩,fun i x hx=>?_⟩
 obtain⟨v,e1,e2⟩:=(RVs.dats.mpr hd).get hx;refine⟨⟨vs,v,hq,e1⟩,fun y H' hy=>?_⟩;obtain⟨rfl,hy⟩:=hy;have:=hy vs hq;rw[e1] at this;cases this;exact⟨rp,.refl,e2⟩
theorem xb{G:Hp}{ds:List D}{a:Addr}(h:Dat G (.tup ds) (.ref a)):vb G (ds.map AV.d) (Itt K a):=fun F H Z rp s=>by
 have h2:=h.same s;simp only[Dat] at h2;obtain⟨_,vs,e,ha,hd⟩:=h2;cases e;have hq:SqT K H a vs:=.inl (.inl (aV _ _ ha));have hl:=hd.length;refine⟨⟨vs,hq,by simp;omega⟩,fun i x hx=>?_⟩
 obtain⟨v,e1,e2⟩:=(RVs.dats.mpr hd).get hx;refine⟨⟨vs,v,hq,e1⟩,fun y H' hy=>?_⟩;obtain⟨rfl,hy⟩:=hy;have:=hy vs hq;rw[e1] at this;cases this;exact⟨rp,.refl,e2⟩
theorem gS{G:Hp}{ds:List D}{v:V}(h:Dat G (.lst ds) v):∃a vs,v=.ref a/\G a=some (.lst vs):=by
 simp only[Dat] at h;obtain⟨a,vs,e,h,_⟩:=h;exact⟨a,vs,e,h⟩
theorem g9{G:Hp}{ds:List D}{v:V}(h:Dat G (.tup ds) v):∃a vs,v=.ref a/\G a=some (.tup vs):=by
 simp only[Dat] at h;obtain⟨a,vs,e,h,_⟩:=h;exact⟨a,vs,e,h⟩
theorem yu{G:Hp}{lo:Int}{n:Nat}:vb G (mf lo n) (Itr lo n):=fun F H Z rp s=>by
 refine⟨by simp[mf,Itr],fun i x hx=>?_⟩
 unfold mf at hx;rw[List.getElem?_map] at hx;by_cases hi:i<n
 ·rw[List.getElem?_range hi] at hx
  simp only[Option.map_some,Option.some.injEq] at hx;subst hx;refine⟨hi,fun y H' hy=>?_⟩;obtain⟨rfl,rfl⟩:=hy;exact⟨rp,.refl,by simp[RV,Dat]⟩
 ·rw[List.getElem?_eq_none (by simp;omega)] at hx
  cases hx
theorem n4(h:fJ ta ta'):xQ (wO ta) (rD ta'):=⟨fun F H Z σ ρ R R' rp rs w k=>h.go rp rs w fun xs Z1 vs H1 rp1 fr1 rs1 rv ⟨j,e,h1,h2,q⟩=>by
 subst e;obtain⟨v,rfl,r⟩:=gp rv
 exact⟨j,by rw[a6 r],h1,h2,k _ Z1 _ H1 rp1 fr1 yu q⟩⟩
noncomputable def xY:D->Option (List D)
 |.tup ds=>some ds
 |.lst ds=>some ds
 |_=>none
end
noncomputable def vM(n:Nat)(t:AGs):AG:=fun v ρ Z Q=>∃xs,cm Z v=some xs/\xs.length=n/\t xs ρ Z Q
noncomputable def vN(to ti:AE):AG:=fun v ρ Z Q=>to ρ Z fun o Z1=>ti ρ Z1 fun i Z2=>∃l k xs j,o=.r (.ref l)/\i=.d (.int k)/\Z2 l=some (.own xs)/\ixN xs.length k=some j/\Q ρ (Z2.put l (.own (xs.set j v)))
section
variable{K:W.Frag}{n:Nat}{gs:TGs}{gs':AGs}{to ti:TE}{to' ti':AE}
theorem y2(h:pV gs gs'):qB (zO K n gs) (vM n gs'):=⟨fun F H Z σ ρ v a Q Q' rp rs rv ⟨xs,e,hn,q⟩ k=>by
 obtain⟨b,vs,rfl,h1,h2⟩:=fq rp rv e
 exact⟨b,vs,rfl,.inl (.inl h1),by rw[h2.length];exact hn,h.run F H Z σ ρ vs _ Q Q' rp rs h2 q k⟩⟩
theorem rL(ho:aZ to to')(hi:aZ ti ti'):qB (yC to ti wz) (vN to' ti'):=⟨fun F H Z σ ρ v a Q Q' rp rs rv w k=>
 ho.go rp rs w fun x Z1 u H1 rp1 fr1 rs1 rv1 q1=>hi.go rp1 rs1 q1 fun y Z2 u2 H2 rp2 fr2 rs2 rv2 ⟨l,j,xs,i,e1,e2,e3,e4,q⟩=>by
  subst e1 e2;have e5:u=.ref l:=rv1;obtain⟨vs,z1,z2⟩:=rp2.own l xs e3;have rv':=rv.same (fr1.trans fr2).same;obtain⟨rp3,fr3⟩:=rp2.write e3 (z2.set i rv');have fr:=(fr1.trans fr2).trans fr3
  exact⟨l,vs,j,i,e5,a6 rv2,z1,by rw[z2.length];exact e4,k ρ _ σ _ rp3 fr (rs.same fr.same) q⟩⟩
end
noncomputable def eW{α:Type}(xs:List α)(lo hi:Option Int):List α:=(xs.drop (HT.sIx xs.length 0 lo)).take (HT.sIx xs.length xs.length hi-HT.sIx xs.length 0 lo)
noncomputable abbrev AO:=SA->Om->(Option Int->Om->Prop)->Prop
noncomputable def rO:AO:=fun _ Z Q=>Q none Z
noncomputable def tU(t:AE):AO:=fun ρ Z Q=>t ρ Z fun x Z1=>∃i,x=.d (.int i)/\Q (some i) Z1
theorem ay.cut{G:Hp}{ds:List D}{vs:List V}{lo hi:Option Int}(h:ay G ds vs):ay G (eW ds lo hi) (gU vs lo hi):=by
 unfold eW gU;rw[h.length];exact(h.drop _).take _
section
variable{K:W.Frag}{te ts:TE}{te' ts':AE}{tl th:TO}{tl' th':AO}
theorem cR:Ref REq pc rO:=⟨fun F H Z σ ρ Q Q' rp rs w k=>k none Z none H rp .refl rfl w⟩
theorem bS(h:aZ te te'):Ref REq (vK te) (tU te'):=⟨fun F H Z σ ρ Q Q' rp rs w k=>h.go rp rs w fun x Z1 v H1 rp1 fr1 rs1 rv ⟨i,e,q⟩=>by
 subst e;exact⟨i,a6 rv,k _ Z1 _ H1 rp1 fr1 rfl q⟩⟩
end
noncomputable def oM(to:AE)(t:AA):AE:=fun ρ Z Q=>to ρ Z fun x Z1=>∃l,x=.r (.ref l)/\(∃zs,Z1 l=some (.own zs))/\t ρ Z1 fun ys Z2=>∃xs y,ys=[y]/\Z2 l=some (.own xs)/\xs.length<sizeLine/\Q (.d .non) (Z2.put l (.own (xs++[y])))
noncomputable def ur(to:AE):AE:=fun ρ Z Q=>to ρ Z fun x Z1=>∃l xs y,x=.r (.ref l)/\Z1 l=some (.own xs)/\xs[xs.length-1]?=some y/\Q y (Z1.put l (.own xs.dropLast))
section
variable{K:W.Frag}{to:TE}{to':AE}{t:TA}{t':AA}
theorem iX(ho:aZ to to')(ht:fJ t t'):aZ (tBM K "list" lp to t) (oM to' t'):=⟨fun F H Z σ ρ Q Q' rp rs w k=>
 ho.go rp rs w fun x Z1 v H1 rp1 fr1 rs1 rv1 ⟨l,e,⟨zs,hz⟩,q1⟩=>by
  subst e;cases (show v=.ref l from rv1)
  obtain⟨us,z1,_⟩:=rp1.own l zs hz;refine⟨.inl ⟨rfl,us,.inl (.inl z1)⟩,ht.go rp1 rs1 q1 fun ys Z2 vs H2 rp2 fr2 rs2 rv2 ⟨xs,y,e1,e2,e3,q⟩=>?_⟩;subst e1;obtain⟨u,rfl,r⟩:=gp rv2;obtain⟨ws,z3,z4⟩:=rp2.own l xs e2;obtain⟨rp3,fr3⟩:=rp2.write e2 (z4.append (.one r))
  exact⟨l,ws,u,rfl,rfl,z3,by rw[z4.length];exact e3,k _ _ _ _ rp3 ((fr1.trans fr2).trans fr3) (by simp[RV,Dat]) q⟩⟩
theorem m6(ho:aZ to to'):aZ (Aa K "list" zR to) (ur to'):=⟨fun F H Z σ ρ Q Q' rp rs w k=>
 ho.go rp rs w fun x Z1 v H1 rp1 fr1 rs1 rv1 ⟨l,xs,y,e,hz,hy,q⟩=>by
  subst e;cases (show v=.ref l from rv1)
  obtain⟨us,z1,z2⟩:=rp1.own l xs hz;obtain⟨u,z3,z4⟩:=z2.get hy;obtain⟨rp3,fr3⟩:=rp1.write hz z2.dropLast
  exact⟨.inl ⟨rfl,us,.inl (.inl z1)⟩,l,us,u,rfl,rfl,z1,by rw[z2.length];exact z3,k y _ u _ rp3 (fr1.trans fr3) (z4.same fr3.same) q⟩⟩
end
noncomputable def tyD:D->String
 |.non=>"NoneType"|.bl _=>"bool"|.int _=>"int"|.str _=>"str"|.tup _=>"tuple"|.lst _=>"list"|.dk _=>"dict"|.dt _=>"dict"
noncomputable def isD(T:String)(d:D):Bool:=tyD d == T || (tyD d == "bool" && T == "int")
noncomputable def y7:AC:=fun xs Z Q=>∃x d T,xs=[x,.r (.ty T)]/\cj Z x=some d/\T∈io/\Q (.d (.bl (isD T d))) Z
theorem yB{H:Hp}{d:D}{v:V}(h:Dat H d v):eN H v=some (tyD d):=by
 cases d<;>simp only[Dat] at h
 all_goals first
  |(subst h;rfl)
  |(obtain⟨a,xs,rfl,h,_⟩:=h;simp[eN,h,tyD])
theorem zF:jX (fun xs H Q=>∃x T,xs=[x,.ty T]/\T∈io/\(eN H x).isSome=true/\Q (.bl (isA H x T)) H) y7:=⟨fun F H Z vs xs Q Q' rp rv ⟨x,d,T,e1,e2,e3,q⟩ k=>by
 subst e1;obtain⟨v,u,rfl,r1,r2⟩:=yP rv;cases (show u=.ty T from r2)
 have ht:=yB (jw rp r1 e2);refine⟨v,T,rfl,e3,by rw[ht];rfl,?_⟩
 have:isA H v T=isD T d:=by simp[isA,ht,isD]
 rw[this]
 exact k.bl rp q⟩
noncomputable def zJ:A2:=fun x y Z Q=>∃ds es,cj Z x=some (.lst ds)/\cj Z y=some (.lst es)/\ds.length+es.length<=sizeLine/\Q (.d (.lst (ds++es))) Z
theorem yk:df nV zJ:=⟨fun F H Z v u x y Q Q' rp h1 h2 ⟨ds,es,e1,e2,z,q⟩ k=>by
 obtain⟨a,vs,rfl,z1,z2⟩:=ly rp h1 e1;obtain⟨b,us,rfl,z3,z4⟩:=ly rp h2 e2
 exact⟨a,b,vs,us,rfl,rfl,z1,z3,by rw[z2.length,z4.length];exact z,k.lst rp (z2.append z4) q⟩⟩
noncomputable def jk:A2:=fun x y Z Q=>∃xs ys,cm Z x=some xs/\cm Z y=some ys/\xs.length+ys.length<=sizeLine/\∀p,Z p=none->Q (.r (.ref p)) (Z.put p (.own (xs++ys)))
theorem vG:df nV jk:=⟨fun F H Z v u x y Q Q' rp h1 h2 ⟨ds,es,e1,e2,z,q⟩ k=>by
 obtain⟨a,vs,rfl,z1,z2⟩:=fq rp h1 e1;obtain⟨b,us,rfl,z3,z4⟩:=fq rp h2 e2
 exact⟨a,b,vs,us,rfl,rfl,z1,z3,by rw[z2.length,z4.length];exact z,k.own rp (z2.append z4) q⟩⟩
noncomputable def rY:A2:=fun x y Z Q=>∃ds k,cj Z x=some (.lst ds)/\y=.d (.int k)/\-(2^63)<=k/\k<2^63/\ds.length*k.toNat<=sizeLine/\Q (.d (.lst (List.replicate k.toNat ds).flatten)) Z
theorem ay.rep{G:Hp}{ds:List D}{vs:List V}(h:ay G ds vs):∀n:Nat,ay G (List.replicate n ds).flatten (List.replicate n vs).flatten
 |0=>by simp[ay]
 |n+1=>by
  simp only[List.replicate_succ,List.flatten_cons];exact h.append (h.rep n)
theorem xI:df vo rY:=⟨fun F H Z v u x y Q Q' rp h1 h2 ⟨ds,k',e1,e2,b1,b2,z,q⟩ k=>by
 subst e2;obtain⟨a,vs,rfl,z1,z2⟩:=ly rp h1 e1
 exact⟨a,k',vs,rfl,a6 h2,z1,b1,b2,by rw[z2.length];exact z,k.lst rp (z2.rep _) q⟩⟩
section
variable{X:Cx}{tg:Expr}
noncomputable def nQ:D->Bool
 |.str _=>false
 |_=>true
theorem fV(hg:X.A.guards=some [])(hu:X.A.units+100<cLine):dN X (.builtin "repr") (fun xs H Q=>∃(x:V)(d:D),xs=[x]/\Dat H d x/\nQ d=true/\dep d<=90/\fit d=true/\wt d<=1000000/\Q (.str (gy d)) H):=by
 intro pins s σ H xs us Q I r h;obtain⟨x,d,rfl,hd,hs,hdp,hf,hw,q⟩:=h;obtain⟨u,rfl,ru⟩:=gK r
 cases d with
 |non=>
  simp only[Dat] at hd;subst hd;cases (show u=Value.none from ru)
  exact PySem.P.repr_of_none ⟨.str (gy .non),H,I.tok _,⟨_,rfl⟩,q⟩
 |bl b=>
  simp only[Dat] at hd;subst hd;cases (show u=Value.bool b from ru)
  exact PySem.P.repr_of_bool ⟨.str (gy (.bl b)),H,I.tok _,⟨_,by cases b<;>rfl⟩,q⟩
 |int i=>
  simp only[Dat] at hd;subst hd;obtain⟨t,rfl⟩:=ru;exact PySem.P.repr_of_int (by simpa[fit] using hf) ⟨.str (gy (.int i)),H,I.tok _,⟨_,rfl⟩,q⟩
 |str b=>cases hs
 |dk b=>simp[dep] at hdp
 |dt b=>simp[dep] at hdp
 |tup ds=>
  obtain⟨a,_,rfl,_⟩:=g9 hd;exact i2 hg hu pins s σ H [.ref a] [u] Q I r ⟨a,_,rfl,hd,hdp,hf,hw,q⟩
 |lst ds=>
  obtain⟨a,_,rfl,_⟩:=gS hd;exact i2 hg hu pins s σ H [.ref a] [u] Q I r ⟨a,_,rfl,hd,hdp,hf,hw,q⟩
noncomputable def rOr(r1 r2:R2):R2:=fun x y H Q=>r1 x y H Q\/r2 x y H Q
theorem aB{f:Value->Value->Sem Value}{r1 r2:R2}(h1:OpR X f r1)(h2:OpR X f r2):OpR X f (rOr r1 r2):=fun pins s σ H x y v u Q I rx ry h=>by
 rcases h with h|h
 ·exact h1 pins s σ H x y v u Q I rx ry h
 ·exact h2 pins s σ H x y v u Q I rx ry h
noncomputable def tD(K:W.Frag):V->Option Int->Option Int->Hp->VK->Prop:=fun x lo hi H Q=>yK K x lo hi H Q\/pU K x lo hi H Q
theorem yh(K:W.Frag)(hK:X.K=K):SlR X (tD K):=by
 subst hK;intro pins s σ H x v vl vu lo hi sl Q I rx hs pl pu h;rcases h with h|h
 ·exact vd pins s σ H x v vl vu lo hi sl Q I rx hs pl pu h
 ·exact pB pins s σ H x v vl vu lo hi sl Q I rx hs pl pu h
noncomputable def z8(K:W.Frag)(tl:TE):TI:=fun σ H R=>tl σ H fun x H1=>(∃a,x=.ref a/\(∃xs,SqL K H1 a xs)/\R (Itl K a) H1)\/∃a,x=.ref a/\(∃xs,SqT K H1 a xs)/\R (Itt K a) H1
theorem xk(K:W.Frag)(hK:X.K=K){l:Expr}{tl:TE}(hl:PE X l tl):PI X tg l (z8 K tl):=by
 subst hK;intro pins s σ H R I h;refine thn (hl pins s σ H _ I h) fun v s1 ⟨x,H1,I1,r1,q1⟩=>?_;rcases q1 with q1|q1
 ·obtain⟨a,e,⟨xs,hq⟩,q⟩:=q1
  subst e;cases r1;obtain⟨its,rv,p,hz⟩:=I1.list hq;refine wpAny_pyIter_list p.isList ?_;refine⟨s1.heap.objs.size,[s1.heap.objs.size],_,_,H1,rfl,I1.kept (t':=s1.toks) fun b o e=>Heap.get?_push_of_some _ e,qQ a _,⟨_,Heap.get?_push_size _ rfl,rfl,rfl⟩,fun b hb=>?_,q⟩;have e:b=s1.heap.objs.size:=by simpa using hb
  subst e;exact I1.Bh (Nat.le_refl _) (I1.hok.fresh (Nat.le_refl _))
 ·obtain⟨a,e,⟨xs,hq⟩,q⟩:=q1
  subst e;cases r1;obtain⟨its,rv,p,hz⟩:=I1.tuple hq;refine wpAny_pyIter_tuple (show s1.heap.IsTuple a its.toArray from p) ?_
  refine⟨s1.heap.objs.size,[s1.heap.objs.size],_,_,H1,rfl,I1.kept (t':=s1.toks) fun b o e=>Heap.get?_push_of_some _ e,og a _,⟨_,Heap.get?_push_size _ rfl,rfl,rfl⟩,fun b hb=>?_,q⟩;have e:b=s1.heap.objs.size:=by simpa using hb
  subst e;exact I1.Bh (Nat.le_refl _) (I1.hok.fresh (Nat.le_refl _))
noncomputable def wV(K:W.Frag)(ta tb:TE):TE:=fun σ H Q=>ta σ H fun x H1=>∃c,nz K x H1 c/\if c=true then tb σ H1 Q else Q x H1
variable{a b:Expr}{dg:List Expr}{pos:Pos}{ta tb:TE}
theorem va(K:W.Frag)(hK:X.K=K)(ha:PE X a ta)(hb:PE X (.BoolOp .And (b::dg) pos) tb):PE X (.BoolOp .And (a::b::dg) pos) (wV K ta tb):=.mk <| by
 subst hK;intro pins s σ H Q I h;refine BoolOp_and (thn (ha pins s σ H _ I h) fun v s1 ⟨x,H1,I1,r1,q1⟩=>?_);refine thn (tG pins s1 σ H1 x v (fun c H2=>H2=H1/\if c=true then tb σ H1 Q else Q x H1) I1 r1 ?_) fun c s2 ⟨H2,I2,e,q2⟩=>?_
 ·obtain⟨c,hc,q⟩:=q1
  exact⟨c,hc,rfl,q⟩
 ·subst e
  cases c with
  |true=>rw[if_pos rfl] at q2;exact hb pins s2 σ H2 Q I2 q2
  |false=>rw[if_neg Bool.false_ne_true] at q2;exact⟨x,H2,I2,r1,q2⟩
end
noncomputable def wU(ta tb:AE):AE:=fun ρ Z Q=>ta ρ Z fun x Z1=>∃c,fh Z1 x=some c/\if c=true then tb ρ Z1 Q else Q x Z1
noncomputable def wJ(te:AE):AI:=fun ρ Z R=>te ρ Z fun x Z1=>rZ Z1 x fun d Z2=>∃ds,xY d=some ds/\R (ds.map AV.d) Z2
noncomputable def xR:A2:=fun x y Z Q=>match x with
 |.d (.int i)=>∃j,y=.d (.int j)/\Q (.d (.int (i+j))) Z
 |.d (.tup ds)=>∃es,y=.d (.tup es)/\ds.length+es.length<=sizeLine/\Q (.d (.tup (ds++es))) Z
 |x=>∃ds es,cj Z x=some (.lst ds)/\cj Z y=some (.lst es)/\ds.length+es.length<=sizeLine/\Q (.d (.lst (ds++es))) Z
noncomputable def yO:A2:=fun x y Z Q=>match x with
 |.d (.int i)=>∃j,y=.d (.int j)/\jZ i j/\Q (.d (.int (i*j))) Z
 |x=>rY x y Z Q
section
variable{K:W.Frag}{te ta tb:TE}{te' ta' tb':AE}{tl th:TO}{tl' th':AO}{sa:TA}{sa':AA}
theorem yw(ha:aZ ta ta')(hb:aZ tb tb'):aZ (wV K ta tb) (wU ta' tb'):=⟨fun F H Z σ ρ Q Q' rp rs h k=>
 ha.go rp rs h fun x Z1 v H1 rp1 fr1 rs1 rv1 ⟨c,e,q⟩=>⟨c,sQ rp1 rv1 e,by
  cases c with
  |false=>rw[if_neg Bool.false_ne_true] at q ⊢;exact k x Z1 v H1 rp1 fr1 rv1 q
  |true=>rw[if_pos rfl] at q ⊢;exact hb.run F H1 Z1 σ ρ Q Q' rp1 rs1 q (k.fr fr1)⟩⟩
theorem yU(h:aZ te te'):xQ (z8 K te) (wJ te'):=⟨fun F H Z σ ρ R R' rp rs w k=>h.go rp rs w fun x Z1 v H1 rp1 fr1 rs1 rv q=>by
 obtain⟨d,Z2,rp2,fr2,hd,ds,hs,q2⟩:=yo rp1 rv q
 cases d with
 |lst es=>
  cases hs;obtain⟨a,vs,rfl,ha⟩:=gS hd;exact .inl ⟨a,rfl,⟨vs,.inl (.inl (aV _ _ ha))⟩,k _ Z2 _ H1 rp2 (fr1.trans fr2) (uO hd) q2⟩
 |tup es=>
  cases hs;obtain⟨a,vs,rfl,ha⟩:=g9 hd;exact .inr ⟨a,rfl,⟨vs,.inl (.inl (aV _ _ ha))⟩,k _ Z2 _ H1 rp2 (fr1.trans fr2) (xb hd) q2⟩
 |_=>cases hs⟩
theorem dO:df (rOr (rI0 fun i j=>.int (i+j)) (rOr ki nV)) xR:=⟨fun F H Z v u x y Q Q' rp h1 h2 q k=>by
 have ls:(∃ds es,cj Z x=some (.lst ds)/\cj Z y=some (.lst es)/\ds.length+es.length<=sizeLine/\Q' (.d (.lst (ds++es))) Z)->rOr (rI0 fun i j=>.int (i+j)) (rOr ki nV) v u H Q:=fun q=>
  .inr (.inr (yk.run F H Z v u x y Q Q' rp h1 h2 q k))
 cases x with
 |d x=>cases x with
  |int i=>
   obtain⟨j,rfl,q⟩:=q;exact .inl ⟨i,j,a6 h1,a6 h2,k.int rp q⟩
  |tup ds=>
   obtain⟨es,rfl,z,q⟩:=q;exact .inr (.inl (rd.run F H Z v u _ _ Q Q' rp h1 h2 ⟨ds,es,rfl,rfl,z,q⟩ k))
  |_=>exact ls q
 |_=>exact ls q⟩
theorem jF:df (rOr (rI jZ fun i j=>.int (i*j)) vo) yO:=⟨fun F H Z v u x y Q Q' rp h1 h2 q k=>by
 have ls:rY x y Z Q'->rOr (rI jZ fun i j=>.int (i*j)) vo v u H Q:=fun q=>.inr (xI.run F H Z v u x y Q Q' rp h1 h2 q k)
 cases x with
 |d x=>cases x with
  |int i=>
   obtain⟨j,rfl,c,q⟩:=q;exact .inl ⟨i,j,a6 h1,a6 h2,c,k.int rp q⟩
  |_=>exact ls q
 |_=>exact ls q⟩
end
noncomputable def wy:A2:=fun x y Z Q=>match x with
 |.d (.int i)=>∃j,y=.d (.int j)/\Q (.d (.int (i+j))) Z
 |.d (.tup ds)=>∃es,y=.d (.tup es)/\ds.length+es.length<=sizeLine/\Q (.d (.tup (ds++es))) Z
 |x=>jk x y Z Q
theorem xp:df (rOr (rI0 fun i j=>.int (i+j)) (rOr ki nV)) wy:=⟨fun F H Z v u x y Q Q' rp h1 h2 q k=>by
 have ls:jk x y Z Q'->rOr (rI0 fun i j=>.int (i+j)) (rOr ki nV) v u H Q:=fun q=>.inr (.inr (vG.run F H Z v u x y Q Q' rp h1 h2 q k))
 cases x with
 |d x=>cases x with
  |int i=>
   obtain⟨j,rfl,q⟩:=q;exact .inl ⟨i,j,a6 h1,a6 h2,k.int rp q⟩
  |tup ds=>
   obtain⟨es,rfl,z,q⟩:=q;exact .inr (.inl (rd.run F H Z v u _ _ Q Q' rp h1 h2 ⟨ds,es,rfl,rfl,z,q⟩ k))
  |_=>exact ls q
 |_=>exact ls q⟩
noncomputable def vD:V->Option D
 |.non=>some .non
 |.bl b=>some (.bl b)
 |.int i=>some (.int i)
 |.str x=>some (.str x)
 |_=>none
noncomputable def ww(kvs:List (Str×V))(ty:AE):AE:=fun ρ Z Q=>ty ρ Z fun y Z1=>∃x v d,y=.d (.str x)/\eX kvs x=some v/\vD v=some d/\Q (.d d) Z1
theorem xG{kvs:List (Str×V)}{a:Addr}{ty:TE}{ty':AE}(h:aZ ty ty'):aZ (vU kvs (tC (.ref a)) ty) (ww kvs ty'):=⟨fun F H Z σ ρ Q Q' rp rs w k=>h.go rp rs w fun y Z1 u H1 rp1 fr1 rs1 rv ⟨x,v,d,e1,e2,e3,q⟩=>by
 subst e1;refine⟨x,v,di rv,e2,?_⟩;refine k (.d d) Z1 v H1 rp1 fr1 ?_ q;cases v<;>simp only[vD,Option.some.injEq,reduceCtorEq] at e3
 all_goals (subst e3;simp[RV,Dat])⟩
noncomputable def eL(N:List Str)(xs:List AV):SA:=xs.map some++List.replicate (N.length-xs.length) none
theorem RS.start{G:Hp}{N:List Str}{xs:List AV}{vs:List V}(h:RVs G xs vs):RS G (eL N xs) (start N vs):=by
 refine⟨by simp[eL,L2.start,h.length],fun i a e=>?_⟩
 unfold eL at e;unfold L2.start;by_cases hi:i<xs.length
 ·rw[List.getElem?_append_left (by simpa using hi),List.getElem?_map] at e
  rw[List.getElem?_append_left (by simpa[h.length] using hi),List.getElem?_map]
  cases z:xs[i]? with
  |none=>rw[z] at e;simp at e
  |some b=>
   rw[z] at e;simp at e;subst e;obtain⟨v,e1,e2⟩:=h.get z;exact⟨v,by rw[e1];rfl,e2⟩
 ·rw[List.getElem?_append_right (by simpa using hi)] at e
  have:=List.mem_of_getElem? e;rw[List.mem_replicate] at this;cases this.2
theorem Fun.okA{P:Program}{w:World}{K:W.Frag}{mg:Str->Option Value}{base:Heap}{x qual:Str}{st:Stmt}{f:Addr}{fd:FuncData}{N ps:List Str}{k:Nat}{sp:ASp}(F:Fun K x qual st f fd)(S:aK N ps (defScope st))(len:∀xs Z Q,sp xs Z Q->xs.length=ps.length)
  (hbody:∀(cdv:Value)(A:Around)(outer:List Env)(s:Shared)(H:Hp)(E:XK),ci k (A.deeper (envOfC qual (defScope st) s.heap.objs.size f cdv)) ->
   ∃t t',PSs (d9 CX0 P w K mg base N qual (defScope st) f cdv A outer s H E).nox (defBody st) t/\eD t t'/\∀xs Z Q',sp xs Z Q'->t' { nx:=fun _ Z'=>Q' (.d .non) Z',rt:=Q' } (eL N xs) Z):aY P w K mg base CX0 (k+1) f fd ps (eU sp):=by
 refine F.ok S (fun vs H Q E h=>?_) (fun cdv A outer s H vs Q E hr h=>?_)
 ·obtain⟨F,xs,Z,Q',rp,rv,h,_⟩:=h
  rw[rv.length,len xs Z Q' h]
 ·obtain⟨t,t',h1,h2,h3⟩:=hbody cdv A outer s H E hr
  obtain⟨F,xs,Z,Q',rp,rv,h,kq⟩:=h;refine⟨t,h1,h2.run F H Z _ _ _ _ rp (RS.start rv) (h3 xs Z Q' h) ⟨?_,kq,fun _ _ _ _ _ _ _ z=>z.elim,fun _ _ _ _ _ _ _ z=>z.elim⟩⟩;exact fun ρ' Z' σ' H' e1 e2 e3 q=>kq (.d .non) Z' .non H' e1 e2 (by simp[RV,Dat]) q
theorem l9(D:bx)(ρ:SA)(Z:Om):wv D ρ Z=(D.nx ρ Z):=rfl
theorem oA(t u:AS)(D:bx)(ρ:SA)(Z:Om):uE t u D ρ Z=(t { D with nx:=u D } ρ Z):=rfl
theorem lS(te:AE)(D:bx)(ρ:SA)(Z:Om):wS te D ρ Z=(te ρ Z fun _ Z1=>D.nx ρ Z1):=rfl
theorem oK(te:AE)(D:bx)(ρ:SA)(Z:Om):y8 te D ρ Z=(te ρ Z D.rt):=rfl
theorem ph(c:AT)(t u:AS)(D:bx)(ρ:SA)(Z:Om):zI c t u D ρ Z=(c ρ Z fun b Z1=>if b=true then t D ρ Z1 else u D ρ Z1):=rfl
theorem pW(te:AE)(g:AG)(D:bx)(ρ:SA)(Z:Om):uv te g D ρ Z=(te ρ Z fun x Z1=>g x ρ Z1 D.nx):=rfl
theorem kK(i:Nat)(v:AV)(ρ:SA)(Z:Om)(Q:SA->Om->Prop):lg i v ρ Z Q=(Q (ρ.set i (some v)) Z):=rfl
theorem nb(vs:List AV)(ρ:SA)(Z:Om)(Q:SA->Om->Prop):wb vs ρ Z Q=(vs=[]/\Q ρ Z):=rfl
theorem ke(t:AG)(u:AGs)(vs:List AV)(ρ:SA)(Z:Om)(Q:SA->Om->Prop):se t u vs ρ Z Q=(∃v r,vs=v::r/\t v ρ Z fun ρ' Z'=>u r ρ' Z' Q):=rfl
theorem pQ(wi:AI)(g:AG)(tb:AS)(D:bx)(ρ:SA)(Z:Om):Ai wi g tb D ρ Z=(wi ρ Z fun as Z1=>fH g tb D as ρ Z1):=rfl
theorem pZ(i:Nat)(ρ:SA)(Z:Om)(Q:AV->Om->Prop):vg i ρ Z Q=(∃a,ρ[i]?=some (some a)/\Q a Z):=rfl
theorem wP(d:D)(z0:SA)(Z:Om)(Q:AV->Om->Prop):aC d z0 Z Q=(Q (.d d) Z):=rfl
theorem rG(r:A2)(ta tb:AE)(ρ:SA)(Z:Om)(Q:AV->Om->Prop):aOp r ta tb ρ Z Q=(ta ρ Z fun x Z1=>tb ρ Z1 fun y Z2=>r x y Z2 Q):=rfl
theorem pA(z0:SA)(Z:Om)(Q:List AV->Om->Prop):zD z0 Z Q=(Q [] Z):=rfl
theorem mU(ta:AE)(tr:AA)(ρ:SA)(Z:Om)(Q:List AV->Om->Prop):wK ta tr ρ Z Q=(ta ρ Z fun x Z1=>tr ρ Z1 fun xs Z2=>Q (x::xs) Z2):=rfl
theorem oG(t:AA)(ρ:SA)(Z:Om)(Q:AV->Om->Prop):yA t ρ Z Q=(t ρ Z fun xs Z1=>xs.length<=sizeLine/\∃ds,und xs=some ds/\Q (.d (.tup ds)) Z1):=rfl
theorem pi(t:AA)(ρ:SA)(Z:Om)(Q:AV->Om->Prop):Ad t ρ Z Q=(t ρ Z fun xs Z1=>xs.length<=sizeLine/\∃ds,und xs=some ds/\Q (.d (.lst ds)) Z1):=rfl
theorem nh(t:AA)(ρ:SA)(Z:Om)(Q:AV->Om->Prop):wT t ρ Z Q=(t ρ Z fun xs Z1=>xs.length<=sizeLine/\∀p,Z1 p=none->Q (.r (.ref p)) (Z1.put p (.own xs))):=rfl
theorem lZ(sp:ASp)(t:AA)(ρ:SA)(Z:Om)(Q:AV->Om->Prop):wf sp t ρ Z Q=(t ρ Z fun xs Z1=>sp xs Z1 Q):=rfl
theorem m8(t:AE)(ρ:SA)(Z:Om)(Q:Bool->Om->Prop):vR t ρ Z Q=(t ρ Z fun x Z1=>∃k,x=.d (.bl k)/\Q k Z1):=rfl
theorem pJ(t u:AT)(ρ:SA)(Z:Om)(Q:Bool->Om->Prop):zl t u ρ Z Q=(t ρ Z fun c Z1=>if c=true then u ρ Z1 Q else Q false Z1):=rfl
theorem t9(t u:AT)(ρ:SA)(Z:Om)(Q:Bool->Om->Prop):aOr t u ρ Z Q=(t ρ Z fun c Z1=>if c=true then Q true Z1 else u ρ Z1 Q):=rfl
theorem o6(t:AT)(ρ:SA)(Z:Om)(Q:Bool->Om->Prop):zj t ρ Z Q=(t ρ Z fun c Z1=>Q (!c) Z1):=rfl
theorem pO(v:V)(z0:SA)(Z:Om)(Q:AV->Om->Prop):zm v z0 Z Q=(Q (.r v) Z):=rfl
theorem pe(ta:AE)(ρ:SA)(Z:Om)(Q:Bool->Om->Prop):zW ta ρ Z Q=(ta ρ Z fun x Z1=>∃k,fh Z1 x=some k/\Q k Z1):=rfl
theorem qY(f:Int->Int->D)(x:AV)(y:AV)(Z:Om)(Q:AV->Om->Prop):aI0 f x y Z Q=(∃i j,x=.d (.int i)/\y=.d (.int j)/\Q (.d (f i j)) Z):=rfl
theorem w9(C:Int->Int->Prop)(f:Int->Int->D)(x:AV)(y:AV)(Z:Om)(Q:AV->Om->Prop):aI C f x y Z Q=(∃i j,x=.d (.int i)/\y=.d (.int j)/\C i j/\Q (.d (f i j)) Z):=rfl
theorem oS(neg:Bool)(x:AV)(y:AV)(Z:Om)(Q:AV->Om->Prop):yG neg x y Z Q=(∃a b,cj Z x=some a/\cj Z y=some b/\dep a<=100/\Q (.d (.bl (if neg then !eqD a b else eqD a b))) Z):=rfl
theorem sP(x:AV)(y:AV)(Z:Om)(Q:AV->Om->Prop):aIx x y Z Q=(∃xs i a,(cm Z x=some xs\/fQ x=some xs)/\y=.d (.int i)/\atI xs i=some a/\Q a Z):=rfl
theorem pz(xs:List AV)(Z:Om)(Q:AV->Om->Prop):zP xs Z Q=(∃x n,xs=[x]/\tH Z x=some n/\Q (.d (.int n)) Z):=rfl
theorem sw(f:Int->Int)(xs:List AV)(Z:Om)(Q:AV->Om->Prop):aF1 f xs Z Q=(∃i,xs=[.d (.int i)]/\Q (.d (.int (f i))) Z):=rfl
theorem o8(xs:List AV)(Z:Om)(Q:AV->Om->Prop):y9 xs Z Q=(∃d i,xs=[.d d]/\qj d=some i/\Q (.d (.int i)) Z):=rfl
theorem kA(ta:AA)(ρ:SA)(Z:Om)(R:List AV->Om->Prop):rD ta ρ Z R=(ta ρ Z fun xs Z1=>∃j:Int,xs=[.d (.int j)]/\-(2^62)<=j/\j<2^62/\R (mf 0 j.toNat) Z1):=rfl
theorem l5(n:Nat)(t:AGs)(v:AV)(ρ:SA)(Z:Om)(Q:SA->Om->Prop):vM n t v ρ Z Q=(∃xs,cm Z v=some xs/\xs.length=n/\t xs ρ Z Q):=rfl
theorem lR(to ti:AE)(v:AV)(ρ:SA)(Z:Om)(Q:SA->Om->Prop):vN to ti v ρ Z Q=(to ρ Z fun o Z1=>ti ρ Z1 fun i Z2=>∃l k xs j,o=.r (.ref l)/\i=.d (.int k)/\Z2 l=some (.own xs)/\ixN xs.length k=some j/\Q ρ (Z2.put l (.own (xs.set j v)))):=rfl
theorem ka(z0:SA)(Z:Om)(Q:Option Int->Om->Prop):rO z0 Z Q=(Q none Z):=rfl
theorem kE(t:AE)(ρ:SA)(Z:Om)(Q:Option Int->Om->Prop):tU t ρ Z Q=(t ρ Z fun x Z1=>∃i,x=.d (.int i)/\Q (some i) Z1):=rfl
theorem jS(to:AE)(t:AA)(ρ:SA)(Z:Om)(Q:AV->Om->Prop):oM to t ρ Z Q=(to ρ Z fun x Z1=>∃l,x=.r (.ref l)/\(∃zs,Z1 l=some (.own zs))/\t ρ Z1 fun ys Z2=>∃xs y,ys=[y]/\Z2 l=some (.own xs)/\xs.length<sizeLine/\Q (.d .non) (Z2.put l (.own (xs++[y])))):=rfl
theorem pC(xs:List AV)(Z:Om)(Q:AV->Om->Prop):y7 xs Z Q=(∃x d T,xs=[x,.r (.ty T)]/\cj Z x=some d/\T∈io/\Q (.d (.bl (isD T d))) Z):=rfl
theorem kR(x:AV)(y:AV)(Z:Om)(Q:AV->Om->Prop):jk x y Z Q=(∃xs ys,cm Z x=some xs/\cm Z y=some ys/\xs.length+ys.length<=sizeLine/\∀p,Z p=none->Q (.r (.ref p)) (Z.put p (.own (xs++ys)))):=rfl
theorem mJ(ta tb:AE)(ρ:SA)(Z:Om)(Q:AV->Om->Prop):wU ta tb ρ Z Q=(ta ρ Z fun x Z1=>∃c,fh Z1 x=some c/\if c=true then tb ρ Z1 Q else Q x Z1):=rfl
theorem lT(te:AE)(ρ:SA)(Z:Om)(R:List AV->Om->Prop):wJ te ρ Z R=(te ρ Z fun x Z1=>rZ Z1 x fun d Z2=>∃ds,xY d=some ds/\R (ds.map AV.d) Z2):=rfl
theorem sT(r:List AV->Om->(AV->Om->Prop)->Prop)(t:AA)(ρ:SA)(Z:Om)(Q:AV->Om->Prop):aCB r t ρ Z Q=(t ρ Z fun xs Z1=>r xs Z1 Q):=rfl
theorem mX(kvs:List (Str×V))(ty:AE)(ρ:SA)(Z:Om)(Q:AV->Om->Prop):ww kvs ty ρ Z Q=(ty ρ Z fun y Z1=>∃x v d,y=.d (.str x)/\eX kvs x=some v/\vD v=some d/\Q (.d d) Z1):=rfl
theorem ms(i:Int)(y:AV)(Z:Om)(Q:AV->Om->Prop):xR (.d (.int i)) y Z Q=(∃j,y=.d (.int j)/\Q (.d (.int (i+j))) Z):=rfl
theorem my(ds:List D)(y:AV)(Z:Om)(Q:AV->Om->Prop):xR (.d (.lst ds)) y Z Q=(∃es,cj Z y=some (.lst es)/\ds.length+es.length<=sizeLine/\Q (.d (.lst (ds++es))) Z):=by
 show (∃ds' es,cj Z (.d (.lst ds))=some (.lst ds')/\cj Z y=some (.lst es)/\ds'.length+es.length<=sizeLine/\Q (.d (.lst (ds'++es))) Z)=_;simp only[cj,Option.some.injEq,D.lst.injEq,exists_eq_left',exists_and_left]
theorem kg(l:Addr)(y:AV)(Z:Om)(Q:AV->Om->Prop):wy (.r (.ref l)) y Z Q=(jk (.r (.ref l)) y Z Q):=rfl
theorem mV(i:Int)(y:AV)(Z:Om)(Q:AV->Om->Prop):yO (.d (.int i)) y Z Q=(∃j,y=.d (.int j)/\jZ i j/\Q (.d (.int (i*j))) Z):=rfl
theorem rM(Z:Om)(x:D)(K:D->Om->Prop):rZ Z (.d x) K=K x Z:=rfl
theorem tw(Z:Om)(x:D):cj Z (.d x)=some x:=rfl
theorem ue(Z:Om)(ds:List D):cm Z (.d (.lst ds))=some (ds.map AV.d):=rfl
theorem qU(Z:Om)(ds:List D):cm Z (.d (.tup ds))=none:=rfl
theorem sE(Z:Om)(l:Addr):cm Z (.r (.ref l))=(match Z l with
  |some (.own xs)=>some xs
  |some (.frz ds)=>some (ds.map AV.d)
  |_=>none):=rfl
theorem rb(ds:List D):fQ (.d (.tup ds))=some (ds.map AV.d):=rfl
theorem tW(ds:List D):fQ (.d (.lst ds))=none:=rfl
theorem sI(v:V):fQ (.r v)=none:=rfl
theorem rW(Z:Om)(b:Bool):fh Z (.d (.bl b))=some b:=rfl
theorem rK(Z:Om)(l:Addr):fh Z (.r (.ref l))=(cm Z (.r (.ref l))).map fun xs=>!xs.isEmpty:=rfl
theorem me(x:D)(r:List AV):und (.d x::r)=(und r).map (x::·):=rfl
theorem p8:und []=some []:=rfl
theorem sG(Z:Om)(ds:List D):tH Z (.d (.lst ds))=some ds.length:=by simp[tH,fQ,cm]
theorem sK(ds:List D):xY (.lst ds)=some ds:=rfl
theorem sJ{g:AG}{tb:AS}{D:bx}{as:List AV}{ρ:SA}{Z:Om}(I:Nat->SA->Om->Prop)(h0:I 0 ρ Z)(hs:∀(i:Nat)(a:AV)(ρ:SA)(Z:Om)(N:SA->Om->Prop),as[i]?=some a->I i ρ Z->(∀ρ' Z',I (i+1) ρ' Z'->N ρ' Z')->g a ρ Z fun ρ1 Z1=>tb { nx:=N,ct:=N,bk:=D.nx,rt:=D.rt } ρ1 Z1)(hd:∀ρ Z,I as.length ρ Z->D.nx ρ Z):fH g tb D as ρ Z:=by
 have key:∀(n i:Nat)(ρ:SA)(Z:Om),i+n=as.length->I i ρ Z->fH g tb D (as.drop i) ρ Z:=by
  intro n
  induction n with
  |zero=>intro i ρ Z hi h;rw[List.drop_eq_nil_of_le (by omega)];exact hd ρ Z (by rw[←hi];exact h)
  |succ n ih=>
   intro i ρ Z hi h;obtain⟨a,ha,hdr⟩:=j3 (as:=as) (i:=i) (by omega)
   rw[hdr];exact hs i a ρ Z _ ha h fun ρ' Z' h'=>ih (i+1) ρ' Z' (by omega) h'
 simpa using key as.length 0 ρ Z (by omega) h0
theorem zZ{g:AG}{tb:AS}{D:bx}{ds:List L2.D}{ρ:SA}{Z:Om}(I:Nat->SA->Om->Prop)(h0:I 0 ρ Z)(hs:∀(i:Nat)(d:L2.D)(ρ:SA)(Z:Om)(N:SA->Om->Prop),ds[i]?=some d->I i ρ Z->(∀ρ' Z',I (i+1) ρ' Z'->N ρ' Z')->g (.d d) ρ Z fun ρ1 Z1=>tb { nx:=N,ct:=N,bk:=D.nx,rt:=D.rt } ρ1 Z1)(hd:∀ρ Z,I ds.length ρ Z->D.nx ρ Z):fH g tb D (ds.map AV.d) ρ Z:=
 sJ I h0 (fun i a ρ Z N ha h k=>by
  rw[List.getElem?_map,Option.map_eq_some_iff] at ha;obtain⟨d,h1,rfl⟩:=ha
  exact hs i d ρ Z N h1 h k) (fun ρ Z h=>hd ρ Z (by simpa using h))
theorem li{g:AG}{tb:AS}{D:bx}{lo:Int}{n:Nat}{ρ:SA}{Z:Om}(I:Nat->SA->Om->Prop)(h0:I 0 ρ Z)(hs:∀(i:Nat)(ρ:SA)(Z:Om)(N:SA->Om->Prop),i<n->I i ρ Z->(∀ρ' Z',I (i+1) ρ' Z'->N ρ' Z')->g (.d (.int (lo+(i:Nat)))) ρ Z fun ρ1 Z1=>tb { nx:=N,ct:=N,bk:=D.nx,rt:=D.rt } ρ1 Z1)(hd:∀ρ Z,I n ρ Z->D.nx ρ Z):fH g tb D (mf lo n) ρ Z:=
 sJ I h0 (fun i a ρ Z N ha h k=>by
  unfold mf at ha;rw[List.getElem?_map,Option.map_eq_some_iff] at ha;obtain⟨j,h1,rfl⟩:=ha;obtain⟨hj,rfl⟩:=List.getElem?_eq_some_iff.mp h1;simp only[List.getElem_range,List.length_range] at hj ⊢
  exact hs i ρ Z N hj h k) (fun ρ Z h=>hd ρ Z (by simpa[mf] using h))
structure Pn where
 f:Int
 x:Int
 i:Int
 h:0<=f
section
variable{α:Type}(a b c e:α)(l:List α)
theorem lr{xs:List α}{x:α}(j:Nat){i:Int}(hi:i=(j:Int))(h:xs[j]?=some x):atI xs i=some x:=by
 subst hi;have hj:=(List.getElem?_eq_some_iff.mp h).1;unfold atI ixN;rw[if_pos (by omega),if_pos (by omega)]
 simpa using h
theorem vS:atI (a::l) 0=some a:=lr 0 rfl rfl
theorem w4:atI (a::b::l) 1=some b:=lr 1 rfl rfl
theorem vZ:atI (a::b::c::l) 2=some c:=lr 2 rfl rfl
end
theorem sz1:(1<=sizeLine)=True:=eq_true (by decide)
theorem sz2:(2<=sizeLine)=True:=eq_true (by decide)
theorem sz3:(3<=sizeLine)=True:=eq_true (by decide)
theorem sz4:(4<=sizeLine)=True:=eq_true (by decide)
theorem sz5:(5<=sizeLine)=True:=eq_true (by decide)
theorem sz7:(7<=sizeLine)=True:=eq_true (by decide)
theorem sz9:(9<=sizeLine)=True:=eq_true (by decide)
theorem q9:ixN 3 1=some 1:=rfl
theorem sj:ixN 3 2=some 2:=rfl
theorem oV(a b:Int):eqD (.int a) (.int b)=(a == b):=by simp[eqD]
theorem oY(a b:Str):eqD (.str a) (.str b)=(a == b):=by simp[eqD]
theorem tm:eqD .non .non=true:=by simp[eqD]
theorem pf(a:Int):dep (.int a)=0:=by simp[dep]
theorem k7(a:Str):dep (.str a)=0:=by simp[dep]
theorem pw(a:Bool):qj (.bl a)=some (if a then 1 else 0):=rfl
noncomputable def Om.only(Z' Z:Om):Om:=fun b=>if (Z b).isSome=true then Z' b else none
noncomputable def Ex(Z Z':Om):Prop:=∀b,(Z b).isSome=true->Z' b=Z b
theorem Ex.refl(Z:Om):Ex Z Z:=fun _ _=>rfl
theorem Ex.none{Z Z':Om}(h:Ex Z Z'){l:Addr}(e:Z' l=none):Z l=none:=by
 cases z:Z l with
 |none=>rfl
 |some c=>have:=h l (by rw[z];rfl);rw[e,z] at this;cases this
theorem Ex.new{Z Z':Om}(h:Ex Z Z'){l:Addr}{c:OC}(e:Z' l=Option.none):Ex Z (Z'.put l c):=fun b hb=>by
 have:b≠l:=fun z=>by subst z;rw[h.none e] at hb;cases hb
 rw[Om.A1 this];exact h b hb
theorem Ex.over{Z Z':Om}(h:Ex Z Z'){l:Addr}{c:OC}(e:Z l=Option.none):Ex Z (Z'.put l c):=fun b hb=>by
 have:b≠l:=fun z=>by subst z;rw[e] at hb;cases hb
 rw[Om.A1 this];exact h b hb
theorem ba(Z:Om):Z.only Z=Z:=by
 funext b;unfold Om.only
 cases e:Z b<;>simp
theorem kW{Z Z':Om}(h:Ex Z Z'):Z'.only Z=Z:=by
 funext b;unfold Om.only
 cases e:Z b with
 |none=>simp
 |some c=>simp only[Option.isSome_some,if_true];rw[h b (by rw[e];rfl),e]
theorem tK{Z Z':Om}{p:Addr}{c:OC}(h:Ex (Z.put p c) Z')(hp:(Z p).isSome=true):Z'.only Z=Z.put p c:=by
 funext b;unfold Om.only
 by_cases hb:b=p
 ·subst hb;rw[if_pos hp,h b (by rw[Om.A0];rfl)]
 ·rw[Om.A1 hb]
  cases e:Z b with
  |none=>simp
  |some o=>simp only[Option.isSome_some,if_true];rw[h b (by rw[Om.A1 hb,e];rfl),Om.A1 hb,e]
theorem Rep.only{F:Fs}{H:Hp}{Z Z':Om}(rp:Rep F H Z'):Rep F H (Z'.only Z)/\cZ (cut F H Z') (cut F H (Z'.only Z)):=by
 have ho:∀b,ow (Z' b)=false->ow ((Z'.only Z) b)=false:=fun b h=>by
  unfold Om.only;split
  ·exact h
  ·rfl
 have sm:cZ (cut F H Z') (cut F H (Z'.only Z)):=fun b o e=>by
  obtain⟨h,f,e⟩:=bY.mp e;exact bY.mpr ⟨ho b h,f,e⟩
 have un:∀b c,(Z'.only Z) b=some c->Z' b=some c:=fun b c e=>by
  unfold Om.only at e;split at e
  ·exact e
  ·cases e
 refine⟨⟨fun l xs e=>?_,fun l ds e=>(rp.frz l ds (un _ _ e)).same sm,fun b f=>?_,fun l ks e=>(by obtain⟨vs,e1,e2⟩:=rp.dic l ks (un _ _ e);exact⟨vs,e1,e2.same sm⟩)⟩,sm⟩
 ·obtain⟨vs,e1,e2⟩:=rp.own l xs (un _ _ e)
  exact⟨vs,e1,e2.same sm⟩
 ·obtain⟨h1,h2⟩:=rp.hid b f
  refine⟨?_,h2⟩;unfold Om.only;rw[h1];simp
theorem Fr.only{F:Fs}{H H':Hp}{Z Z':Om}(fr:Fr F H Z H' Z'):Fr F H Z H' (Z'.only Z):=⟨fun b o h f e=>by
 obtain⟨x,y⟩:=fr.st b o h f e;refine⟨x,?_⟩;unfold Om.only;split
 ·exact y
 ·rfl,fr.hd⟩
theorem Fun.okD{P:Program}{w:World}{K:W.Frag}{mg:Str->Option Value}{base:Heap}{x qual:Str}{st:Stmt}{f:Addr}{fd:FuncData}{N ps:List Str}{k:Nat}{sp:ASp}(F:Fun K x qual st f fd)(S:aK N ps (defScope st))(len:∀xs Z Q,sp xs Z Q->xs.length=ps.length)
  (hbody:∀(cdv:Value)(A:Around)(outer:List Env)(s:Shared)(H:Hp)(E:XK),ci k (A.deeper (envOfC qual (defScope st) s.heap.objs.size f cdv)) ->
   ∃t t',PSs (d9 CX0 P w K mg base N qual (defScope st) f cdv A outer s H E).nox (defBody st) t/\eD t t'/\∀xs Z Q',sp xs Z Q'->t' { nx:=fun _ Z'=>Q' (.d .non) (Z'.only Z),rt:=fun a Z'=>∃d,a=.d d/\Q' (.d d) (Z'.only Z) } (eL N xs) Z):aY P w K mg base CX0 (k+1) f fd ps (eU sp):=by
 refine F.ok S (fun vs H Q E h=>?_) (fun cdv A outer s H vs Q E hr h=>?_)
 ·obtain⟨F,xs,Z,Q',rp,rv,h,_⟩:=h
  rw[rv.length,len xs Z Q' h]
 ·obtain⟨t,t',h1,h2,h3⟩:=hbody cdv A outer s H E hr
  obtain⟨F,xs,Z,Q',rp,rv,h,kq⟩:=h;refine⟨t,h1,h2.run F H Z _ _ _ _ rp (RS.start rv) (h3 xs Z Q' h) ⟨?_,?_,fun _ _ _ _ _ _ _ z=>z.elim,fun _ _ _ _ _ _ _ z=>z.elim⟩⟩
  ·exact fun ρ' Z' σ' H' e1 e2 e3 q=>kq (.d .non) (Z'.only Z) .non H' e1.only.1 e2.only (by simp[RV,Dat]) q
  ·rintro a Z' v H' e1 e2 e3 ⟨d,rfl,q⟩
   exact kq (.d d) (Z'.only Z) v H' e1.only.1 e2.only (e3.same e1.only.2) q
noncomputable def wl:Nat->List (List Int)
 |0=>[[]]
 |n+1=>(wl n).flatMap fun w=>[w++[0],w++[1]]
noncomputable def Wds(n:Nat)(ws:List (List Int)):Prop:=ws.Nodup/\∀w∈ws,w∈wl n
theorem uu{α:Type}{f:α->AV}{xs:List α}{i:Int}(h0:0<=i)(h1:i<xs.length):∃x,x∈xs/\xs[i.toNat]?=some x/\atI (xs.map f) i=some (f x):=by
 obtain⟨j,rfl⟩:=Int.eq_ofNat_of_zero_le h0;have hj:j<xs.length:=by omega
 exact⟨xs[j],List.getElem_mem hj,by simp[List.getElem?_eq_getElem hj],lr j rfl (by rw[List.getElem?_map,List.getElem?_eq_getElem hj];rfl)⟩
theorem oQ(x:List Int):fQ (.d (wdD x))=some ((x.map D.int).map AV.d):=rfl
inductive Sy where
 |is (i b:Int)
 |jn (an:Bool) (l r:Sy)
namespace Sy
noncomputable def d:Sy->D
 |.is i b=>.tup [.str "is",.int i,.int b]
 |.jn an l r=>.tup [.str (if an then "and" else "or"),l.d,r.d]
noncomputable def ok(n:Nat):Sy->Prop
 |.is i b=>0<=i/\i<n/\(b=0\/b=1)
 |.jn _ l r=>l.ok n/\r.ok n
noncomputable def dp:Sy->Nat
 |.is _ _=>0
 |.jn _ l r=>1+max l.dp r.dp
noncomputable def lvs:Sy->Nat
 |.is _ _=>1
 |.jn _ l r=>l.lvs+r.lvs
noncomputable def up:Sy->Prop
 |.is _ b=>b=1
 |.jn _ l r=>l.up/\r.up
noncomputable def val(w:List Int):Sy->Bool
 |.is i b=>decide (w.getD i.toNat 0=b)
 |.jn an l r=>if an then val w l && val w r else val w l || val w r
end Sy
inductive Ta where
 |en (i:Int)
 |nd (y:Bool) (ws:List (List Int)) (l r:Ta)
namespace Ta
noncomputable def d:Ta->D
 |.en i=>.tup [.str "end",.int i]
 |.nd y ws l r=>.tup [.str (if y then "yes" else "no"),.tup (ws.map wdD),l.d,r.d]
noncomputable def ok(n:Nat):Ta->Prop
 |.en i=>0<=i/\i<n
 |.nd _ ws l r=>Wds n ws/\l.ok n/\r.ok n
noncomputable def dp:Ta->Nat
 |.en _=>0
 |.nd _ _ l r=>1+max l.dp r.dp
noncomputable def lvs:Ta->Nat
 |.en _=>1
 |.nd _ _ l r=>l.lvs+r.lvs
noncomputable def size:Ta->Nat
 |.en _=>1
 |.nd _ _ l r=>l.size+r.size+1
noncomputable def bit(y n:List Int)(hy:Bool)(ws:List (List Int)):Bool:=decide ((if hy then y else n)∈ws)
noncomputable def fin(y n:List Int):Ta->Int
 |.en i=>i
 |.nd h ws a b=>if bit y n h ws then fin y n b else fin y n a
end Ta
theorem pk{i:Int}(h0:0<=i)(h1:i<=64):i.natAbs.log2<=6:=by
 have h8:∀n:Fin 65,n.val.log2<=6:=by decide +kernel
 exact h8 ⟨i.natAbs,by omega⟩
theorem pY:(("and":Str)=("is":Str))=False:=eq_false (by decide +kernel)
theorem p7:(("and":Str)=("or":Str))=False:=eq_false (by decide +kernel)
theorem oH:(("or":Str)=("is":Str))=False:=eq_false (by decide +kernel)
theorem Aw(F:Nat->SA->Om->Prop):∃Pv:Nat->SA->Om->Prop,∀i ρ Z,Pv i ρ Z↔F i ρ Z:=⟨F,fun _ _ _=>Iff.rfl⟩
noncomputable def om3(Z:Om)(p l1 l2:Addr)(c A B:OC):Om:=((Z.put p c).put l1 A).put l2 B
section
variable{Z:Om}{p l l1 l2:Addr}{c c' A A' B B':OC}
theorem lP(h1:p≠l1)(h2:p≠l2):om3 Z p l1 l2 c A B p=some c:=by unfold om3;rw[Om.A1 h2,Om.A1 h1,Om.A0]
theorem mT(h:l1≠l2):om3 Z p l1 l2 c A B l1=some A:=by unfold om3;rw[Om.A1 h,Om.A0]
theorem fF:om3 Z p l1 l2 c A B l2=some B:=by unfold om3;rw[Om.A0]
theorem t7(h1:p≠l1)(h2:p≠l2):(om3 Z p l1 l2 c A B).put p c'=om3 Z p l1 l2 c' A B:=by unfold om3;rw[Om.A7 h2,Om.A7 h1,Om.A3]
theorem lC(h:l1≠l2):(om3 Z p l1 l2 c A B).put l1 A'=om3 Z p l1 l2 c A' B:=by unfold om3;rw[Om.A7 h,Om.A3]
theorem jH:(om3 Z p l1 l2 c A B).put l2 B'=om3 Z p l1 l2 c A B':=by unfold om3;rw[Om.A3]
theorem gk{q:Addr}{o:OC}(h:Z.put p o q=none):q≠p/\Z q=none:=by
 have:q≠p:=fun z=>by subst z;rw[Om.A0] at h;cases h
 exact⟨this,by rwa [Om.A1 this] at h⟩
end
structure Ne4(p l1 l2 l3:Addr):Prop where
 p1:p≠l1
 p2:p≠l2
 p3:p≠l3
 a:l1≠l2
 b:l1≠l3
 c:l2≠l3
section
variable{Z:Om}{p l1 l2 l3:Addr}{c c' A A' B B' C C':OC}(h:Ne4 p l1 l2 l3)
include h
end
section
variable{P:Program}{w:World}{K:W.Frag}{mg:Str->Option Value}{base:Heap}
structure Cs(n:Nat)(ys zs:List (List Int)):Prop where
 y:Wds n ys
 z:Wds n zs
 y1:ys≠[]
 z1:zs≠[]
theorem pD{t u:AS}{D:bx}{ρ:SA}{Z:Om}(I:SA->Om->Prop)(h1:∀N:SA->Om->Prop,(∀ρ' Z',I ρ' Z'->N ρ' Z')->t { D with nx:=N } ρ Z)(h2:∀ρ' Z',I ρ' Z'->u D ρ' Z'):uE t u D ρ Z:=h1 (u D) h2
noncomputable def xF:ASp:=fun _ _ _=>False
theorem w8{f:Addr}{fd:FuncData}{ps:List Str}{k:Nat}:aY P w K mg base CX0 k f fd ps (eU xF):=
 ⟨fun _ _ _ _ h=>by obtain⟨_,_,_,_,_,_,h,_⟩:=h;exact h.elim,fun _ _ _ _ _ _ _ _ _ _ _ _ _ h=>by obtain⟨_,_,_,_,_,_,h,_⟩:=h;exact h.elim⟩
theorem l8(to:AE)(ρ:SA)(Z:Om)(Q:AV->Om->Prop):ur to ρ Z Q=(to ρ Z fun x Z1=>∃l xs y,x=.r (.ref l)/\Z1 l=some (.own xs)/\xs.getLast?=some y/\Q y (Z1.put l (.own xs.dropLast))):=by
 unfold ur;simp only[List.getLast?_eq_getElem?]
end
noncomputable def Ak(f:Addr)(caps:List V)(cA:List AV):AV:=.p (.ref f) (fun G=>RVs G cA caps)
theorem AF(b:Heap):kS b [] [] []:=⟨rfl,fun _ _ h=>(nomatch h),fun _ _ _ h=>(nomatch h),fun _ _ _ h=>(nomatch h)⟩
theorem xj{b:Heap}{x:Str}{c:Addr}{v:V}{u:Value}(h:b.IsCell c (some u))(r:aM v u):kS b [(x,c)] [x] [v]:=by
 have lk:∀y d,([(x,c)]:List (Str×Addr)).lookup y=some d->y=x/\d=c:=fun y d e=>by
  rw[List.lookup_cons] at e
  cases q:y == x with
  |true=>rw[q] at e;cases e;exact⟨eq_of_beq q,rfl⟩
  |false=>rw[q] at e;cases e
 refine⟨rfl,fun y d e=>?_,fun y z d e1 e2=>(lk y d e1).1.trans (lk z d e2).1.symm,fun j y w h1 h2=>?_⟩
 ·rw[(lk y d e).1];exact List.mem_singleton.mpr rfl
 ·cases j with
  |zero=>
   simp at h1 h2;subst h1 h2;exact⟨c,u,by simp[List.lookup],h,r⟩
  |succ j=>simp at h1
noncomputable def yZ(js:List Nat)(σ:St)(caps:List V):Prop:=caps.length=js.length/\∀(k j:Nat)(v:V),js[k]?=some j->caps[k]?=some v->σ[j]?=some (some v)
noncomputable def lJ:List Nat->SA->Option (List AV)
 | [],_=>some []
 |j::js,ρ=>match ρ[j]?,lJ js ρ with
  |some (some a),some r=>some (a::r)
  |_,_=>none
theorem r6{G:Hp}{ρ:SA}{σ:St}(rs:RS G ρ σ):∀ {js:List Nat} {cA:List AV},lJ js ρ=some cA->∃caps,yZ js σ caps/\RVs G cA caps
 | [],cA,h=>by cases h;exact⟨[],⟨rfl,fun _ _ _ h=>by simp at h⟩,rfl⟩
 |j::js,cA,h=>by
  simp only[lJ] at h
  cases e1:ρ[j]? with
  |none=>rw[e1] at h;simp at h
  |some o=>
   cases o with
   |none=>rw[e1] at h;simp at h
   |some a=>
    cases e2:lJ js ρ with
    |none=>rw[e1,e2] at h;simp at h
    |some r=>
     rw[e1,e2] at h;simp at h;subst h;obtain⟨caps,⟨c1,c2⟩,c3⟩:=r6 rs e2;obtain⟨v,v1,v2⟩:=rs.2 j a e1;refine⟨v::caps,⟨by simp[c1],fun k i u h1 h2=>?_⟩,v,caps,rfl,v2,c3⟩
     cases k with
     |zero=>simp at h1 h2;subst h1 h2;exact v1
     |succ k=>simp at h1 h2;exact c2 k i u h1 h2
theorem ng{ρ:SA}:∀ {js:List Nat} {cA:List AV},lJ js ρ=some cA->cA.length=js.length
 | [],cA,h=>by cases h;rfl
 |j::js,cA,h=>by
  simp only[lJ] at h
  cases e1:ρ[j]? with
  |none=>rw[e1] at h;simp at h
  |some o=>
   cases o with
   |none=>rw[e1] at h;simp at h
   |some a=>
    cases e2:lJ js ρ with
    |none=>rw[e1,e2] at h;simp at h
    |some r=>
     rw[e1,e2] at h;simp at h;subst h;simp[ng e2]
theorem qo.okD{P:Program}{w:World}{K:W.Frag}{mg:Str->Option Value}{base:Heap}{x qual:Str}{st:Stmt}{f c p:Addr}{fd:FuncData}{N ps:List Str}{k:Nat}{sp:ASp}(F:qo K x qual st f fd c p)(S:aK N ps (defScope st))(len:∀xs Z Q,sp xs Z Q->xs.length=ps.length)
  (hbody:∀(A:Around)(outer:List Env)(s:Shared)(H:Hp)(E:XK),ci k (A.deeper (envOfC qual (defScope st) s.heap.objs.size f (.ref c))) ->
   ∃t t',PSs (d9 CX0 P w K mg base N qual (defScope st) f (.ref c) A outer s H E).nox (defBody st) t/\eD t t'/\∀xs Z Q',sp xs Z Q'->t' { nx:=fun _ Z'=>Q' (.d .non) (Z'.only Z),rt:=fun a Z'=>∃d,a=.d d/\Q' (.d d) (Z'.only Z) } (eL N xs) Z):aY P w K mg base CX0 (k+1) f fd ps (eU sp):=by
 refine F.ok S (fun vs H Q E h=>?_) (fun A outer s H vs Q E hr h=>?_)
 ·obtain⟨F,xs,Z,Q',rp,rv,h,_⟩:=h
  rw[rv.length,len xs Z Q' h]
 ·obtain⟨t,t',h1,h2,h3⟩:=hbody A outer s H E hr
  obtain⟨F,xs,Z,Q',rp,rv,h,kq⟩:=h;refine⟨t,h1,h2.run F H Z _ _ _ _ rp (RS.start rv) (h3 xs Z Q' h) ⟨?_,?_,fun _ _ _ _ _ _ _ z=>z.elim,fun _ _ _ _ _ _ _ z=>z.elim⟩⟩
  ·exact fun ρ' Z' σ' H' e1 e2 e3 q=>kq (.d .non) (Z'.only Z) .non H' e1.only.1 e2.only (by simp[RV,Dat]) q
  ·rintro a Z' v H' e1 e2 e3 ⟨d,rfl,q⟩
   exact kq (.d d) (Z'.only Z) v H' e1.only.1 e2.only (e3.same e1.only.2) q
structure AZ(t2 t:TS)(t':AS):Prop where
 run:∀(F:Fs)(H:Hp)(Z:Om)(σ:St)(ρ:SA)(D:fk)(D':bx),Rep F H Z->RS (cut F H Z) ρ σ->t' D' ρ Z->LE F H Z D' { D with nx:=t2 D }->t D σ H
theorem xX{b:Heap}{x y:Str}{c d:Addr}{v z:V}{u p:Value}(hne:x≠y)(hcd:c≠d)(h:b.IsCell c (some u))(r:aM v u)(h':b.IsCell d (some p))(r':aM z p):kS b [(x,c),(y,d)] [x,y] [v,z]:=by
 have lk:∀k e,([(x,c),(y,d)]:List (Str×Addr)).lookup k=some e->(k=x/\e=c)\/(k=y/\e=d):=fun k e q=>by
  rw[List.lookup_cons] at q
  cases z1:k == x with
  |true=>rw[z1] at q;cases q;exact .inl ⟨eq_of_beq z1,rfl⟩
  |false=>
   rw[z1] at q;simp only[List.lookup_cons] at q
   cases z2:k == y with
   |true=>rw[z2] at q;cases q;exact .inr ⟨eq_of_beq z2,rfl⟩
   |false=>rw[z2] at q;cases q
 refine⟨rfl,fun k e q=>?_,fun k1 k2 e q1 q2=>?_,fun j k w h1 h2=>?_⟩
 ·rcases lk k e q with⟨rfl,_⟩|⟨rfl,_⟩<;>simp
 ·rcases lk k1 e q1 with⟨rfl,rfl⟩|⟨rfl,rfl⟩<;>rcases lk k2 _ q2 with⟨rfl,e2⟩|⟨rfl,e2⟩
  ·rfl
  ·exact absurd e2 hcd
  ·exact absurd e2.symm hcd
  ·rfl
 ·cases j with
  |zero=>
   simp at h1 h2;subst h1 h2;exact⟨c,u,by simp[List.lookup],h,r⟩
  |succ j=>
   cases j with
   |zero=>
    simp at h1 h2;subst h1 h2
    have hb:(y == x)=false:=by
     cases q:y == x with
     |false=>rfl
     |true=>exact absurd (eq_of_beq q).symm hne
    exact⟨d,p,by simp[List.lookup,hb],h',r'⟩
   |succ j=>simp at h1
theorem uM{b:Heap}{x y:Str}{c d:Addr}{v z:V}{u p:Value}(hne:x≠y)(hcd:c≠d)(h:b.IsCell c (some u))(r:aM v u)(h':b.IsCell d (some p))(r':aM z p):kS b [(y,d),(x,c)] [x,y] [v,z]:=by
 have lk:∀k e,([(y,d),(x,c)]:List (Str×Addr)).lookup k=some e->(k=x/\e=c)\/(k=y/\e=d):=fun k e q=>by
  rw[List.lookup_cons] at q
  cases z1:k == y with
  |true=>rw[z1] at q;cases q;exact .inr ⟨eq_of_beq z1,rfl⟩
  |false=>
   rw[z1] at q;simp only[List.lookup_cons] at q
   cases z2:k == x with
   |true=>rw[z2] at q;cases q;exact .inl ⟨eq_of_beq z2,rfl⟩
   |false=>rw[z2] at q;cases q
 refine⟨rfl,fun k e q=>?_,fun k1 k2 e q1 q2=>?_,fun j k w h1 h2=>?_⟩
 ·rcases lk k e q with⟨rfl,_⟩|⟨rfl,_⟩<;>simp
 ·rcases lk k1 e q1 with⟨rfl,rfl⟩|⟨rfl,rfl⟩<;>rcases lk k2 _ q2 with⟨rfl,e2⟩|⟨rfl,e2⟩
  ·rfl
  ·exact absurd e2 hcd
  ·exact absurd e2.symm hcd
  ·rfl
 ·cases j with
  |zero=>
   simp at h1 h2;subst h1 h2
   have hb:(x == y)=false:=by
    cases q:x == y with
    |false=>rfl
    |true=>exact absurd (eq_of_beq q) hne
   exact⟨c,u,by simp[List.lookup,hb],h,r⟩
  |succ j=>
   cases j with
   |zero=>
    simp at h1 h2;subst h1 h2;exact⟨d,p,by simp[List.lookup],h',r'⟩
   |succ j=>simp at h1
structure Pq where
 a:Addr
 ns:List Int
 i:Int
 f:Int
 h0:0<=i
 hf:0<=f
 hn:ns.length<=63
noncomputable def wI:A2:=fun x y Z Q=>∃i j,x=.d (.str i)/\y=.d (.str j)/\i.length+j.length<=sizeLine/\Q (.d (.str (i++j))) Z
theorem lO(x y:AV)(Z:Om)(Q:AV->Om->Prop):wI x y Z Q=(∃i j,x=.d (.str i)/\y=.d (.str j)/\i.length+j.length<=sizeLine/\Q (.d (.str (i++j))) Z):=rfl
theorem cD:df (fun x y H Q=>∃i j,x=.str i/\y=.str j/\i.length+j.length<=sizeLine/\Q (.str (i++j)) H) wI:=⟨fun F H Z v u x y Q Q' rp h1 h2 ⟨i,j,e1,e2,z,q⟩ k=>by
 subst e1 e2
 exact⟨i,j,di h1,di h2,z,k.str rp q⟩⟩
theorem qK{X:Cx}:dN X (.type "int") (fun xs H Q=>∃(z:Str)(n:Int),xs=[.str z]/\PySem.intText? z=some n/\z.length<=640/\Q (.int n) H):=by
 intro pins s σ H xs us Q I r h;obtain⟨z,n,rfl,hn,hl,q⟩:=h;obtain⟨u,rfl,t,rfl⟩:=gK r;exact W.KIN.call_text hn hl ⟨.int n,H,I.tok _,⟨_,rfl⟩,q⟩
noncomputable def we:AC:=fun xs Z Q=>∃(z:Str)(n:Int),xs=[.d (.str z)]/\PySem.intText? z=some n/\z.length<=640/\Q (.d (.int n)) Z
theorem mx(xs:List AV)(Z:Om)(Q:AV->Om->Prop):we xs Z Q=(∃(z:Str)(n:Int),xs=[.d (.str z)]/\PySem.intText? z=some n/\z.length<=640/\Q (.d (.int n)) Z):=rfl
theorem xl:jX (fun xs H Q=>∃(z:Str)(n:Int),xs=[.str z]/\PySem.intText? z=some n/\z.length<=640/\Q (.int n) H) we:=⟨fun F H Z vs xs Q Q' rp rv ⟨z,n,e,h1,h2,q⟩ k=>by
 subst e;obtain⟨v,rfl,r⟩:=gp rv
 exact⟨z,n,by rw[di r],h1,h2,k.int rp q⟩⟩
inductive tY:List (TE×TE)->List Str->List AE->Prop
 |nil:tY [] [] []
 |cons {k:Str} {tv:TE} {tv':AE} {r:List (TE×TE)} {ks:List Str} {ts:List AE}:aZ tv tv'->tY r ks ts->tY ((tC (.str k),tv)::r) (k::ks) (tv'::ts)
theorem yj{F:Fs}{H:Hp}{Z:Om}{y:AV}{u:V}(rp:Rep F H Z)(r:RV (cut F H Z) y u)(e:cj Z y=some (.lst [])):∃b,u=.ref b/\H b=some (.lst []):=by
 have hd:=jw rp r e;simp only[Dat] at hd;obtain⟨b,us,rfl,q1,q2⟩:=hd;have q2:us=[]:=q2;subst q2;exact⟨b,rfl,q1⟩
noncomputable def tx(l:List Nat):Str:=⟨l.toArray⟩
theorem dS(a b:List Nat):tx a++tx b=tx (a++b):=by
 show (⟨a.toArray++b.toArray⟩:Str)=⟨(a++b).toArray⟩;simp
theorem aw(a:List Nat):(tx a).length=a.length:=by simp[tx,Str.length]
theorem dR{a b:List Nat}:tx a=tx b↔a=b:=by
 constructor
 ·intro h
  have:=congrArg (fun z:Str=>z.cps.toList) h;simpa[tx] using this
 ·intro h;rw[h]
noncomputable def jn(s:List Nat):List (List Nat)->List Nat
 | []=>[]
 | [x]=>x
 |x::y::r=>x++s++jn s (y::r)
noncomputable def wj:AC:=fun xs Z Q=>∃i:Int,xs=[.d (.int i)]/\i.natAbs.log2<1920/\Q (.d (.str (Str.ofString (toString i)))) Z
theorem mr(xs:List AV)(Z:Om)(Q:AV->Om->Prop):wj xs Z Q=(∃i:Int,xs=[.d (.int i)]/\i.natAbs.log2<1920/\Q (.d (.str (Str.ofString (toString i)))) Z):=rfl
theorem yf:jX (fun xs H Q=>∃i:Int,xs=[.int i]/\i.natAbs.log2<1920/\Q (.str (toString i)) H) wj:=⟨fun F H Z vs xs Q Q' rp rv ⟨i,e,h1,q⟩ k=>by
 subst e;obtain⟨v,rfl,r⟩:=gp rv
 exact⟨i,by rw[a6 r],h1,k.str rp q⟩⟩
noncomputable def zt:A2:=fun x y Z Q=>∃z i c,x=.d (.str z)/\y=.d (.int i)/\z.length<=sizeLine/\atI z.cps.toList i=some c/\Q (.d (.str (tx [c]))) Z
theorem pd(x y:AV)(Z:Om)(Q:AV->Om->Prop):zt x y Z Q=(∃z i c,x=.d (.str z)/\y=.d (.int i)/\z.length<=sizeLine/\atI z.cps.toList i=some c/\Q (.d (.str (tx [c]))) Z):=rfl
theorem oJ{K:W.Frag}:df (rIx K) zt:=⟨fun F H Z v u x y Q Q' rp h1 h2 ⟨z,i,c,e1,e2,h3,h4,q⟩ k=>by
 subst e1 e2
 exact .inr (.inr ⟨z,i,c,di h1,a6 h2,h3,h4,k.str rp q⟩)⟩
noncomputable def zK:V->Option Int->Option Int->Hp->VK->Prop:=fun x lo hi H Q=>∃z:Str,x=.str z/\z.length<=sizeLine/\Q (.str (Txt.slice z lo hi)) H
theorem cV{X:Cx}:SlR X zK:=by
 intro pins s σ H x v vl vu lo hi sl Q I rx hs pl pu h;obtain⟨z,rfl,hz,q⟩:=h;obtain⟨t,rfl⟩:=rx
 obtain⟨l,e1,e2⟩:∃l:Option (Int×Tok),vl=partValue l/\l.map (·.1)=lo:=by
  cases pl with
  |none=>exact⟨none,rfl,rfl⟩
  |int i t=>exact⟨some (i,t),rfl,rfl⟩
 obtain⟨u,e3,e4⟩:∃l:Option (Int×Tok),vu=partValue l/\l.map (·.1)=hi:=by
  cases pu with
  |none=>exact⟨none,rfl,rfl⟩
  |int i t=>exact⟨some (i,t),rfl,rfl⟩
 subst e1 e3 e2 e4;refine⟨"str",_,F.slot_str_getitem.lookup,typeIs_str _ _ _,wpAny_getItem_str_slice (l:=l) (u:=u) (st:=none) hs rfl ?_⟩;exact post_val_or_str (y:=z) (z:=⟨((slicePicked z l u none).filterMap (z.cps[·]?)).toArray⟩) ⟨Nat.le_trans (Txt.slice_le z _ _) hz,fun t' k=>⟨.str (Txt.slice z (l.map (·.1)) (u.map (·.1))),H,I.tok k,⟨t',rfl⟩,q⟩⟩
noncomputable def zw(te:AE)(tl th:AO):AE:=fun ρ Z Q=>te ρ Z fun x Z1=>tl ρ Z1 fun lo Z2=>th ρ Z2 fun hi Z3=>∃z:Str,x=.d (.str z)/\z.length<=sizeLine/\Q (.d (.str (Txt.slice z lo hi))) Z3
theorem pp(te:AE)(tl th:AO)(ρ:SA)(Z:Om)(Q:AV->Om->Prop):zw te tl th ρ Z Q=(te ρ Z fun x Z1=>tl ρ Z1 fun lo Z2=>th ρ Z2 fun hi Z3=>∃z:Str,x=.d (.str z)/\z.length<=sizeLine/\Q (.d (.str (Txt.slice z lo hi))) Z3):=rfl
theorem ei{te:TE}{te':AE}{tl th:TO}{tl' th':AO}(he:aZ te te')(hl:Ref REq tl tl')(hh:Ref REq th th'):aZ (tSl zK te tl th) (zw te' tl' th'):=⟨fun F H Z σ ρ Q Q' rp rs w k=>
 he.go rp rs w fun x Z1 v H1 rp1 fr1 rs1 rv1 q1=>hl.go rp1 rs1 q1 fun lo Z2 lo' H2 rp2 fr2 rs2 e2 q2=>hh.go rp2 rs2 q2 fun hi Z3 hi' H3 rp3 fr3 rs3 e3 ⟨z,e,hz,q⟩=>by
  cases (show lo=lo' from e2)
  cases (show hi=hi' from e3)
  subst e
  exact⟨z,di rv1,hz,(k.fr ((fr1.trans fr2).trans fr3)).str rp3 q⟩⟩
noncomputable def wZ:R2:=fun x y H Q=>∃(z:Str)(i:Int),x=.str z/\y=.int i/\0<=i/\i<=1/\z.length<=sizeLine/\Q (.str (if i=1 then z else Str.empty)) H
theorem uP{X:Cx}:OpR X (binaryOp .Mult) wZ:=by
 intro pins s σ H x y v u Q I rx ry h;obtain⟨z,i,rfl,rfl,h0,h1,hz,q⟩:=h;obtain⟨t,rfl⟩:=rx;obtain⟨t',rfl⟩:=ry;by_cases hi:i=1
 ·subst hi
  rw[if_pos rfl] at q;refine P.mul_str (by decide) (fun _ h=>by simp at h) (fun _ h=>by simp at h) ?_
  simp only[show ¬ (1:Int)<1 by decide,if_false,beq_self_eq_true,Bool.true_or,if_true]
  exact⟨.str z,H,I,⟨t,rfl⟩,q⟩
 ·obtain rfl:i=0:=by omega
  rw[if_neg hi] at q;exact P.mul_str_none (by decide) (by decide) ⟨.str Str.empty,H,I.tok _,⟨_,rfl⟩,q⟩
noncomputable def wm:A2:=fun x y Z Q=>∃(z:Str)(i:Int),x=.d (.str z)/\y=.d (.int i)/\0<=i/\i<=1/\z.length<=sizeLine/\Q (.d (.str (if i=1 then z else Str.empty))) Z
theorem mO(x y:AV)(Z:Om)(Q:AV->Om->Prop):wm x y Z Q=(∃(z:Str)(i:Int),x=.d (.str z)/\y=.d (.int i)/\0<=i/\i<=1/\z.length<=sizeLine/\Q (.d (.str (if i=1 then z else Str.empty))) Z):=rfl
theorem xA:df wZ wm:=⟨fun F H Z v u x y Q Q' rp h1 h2 ⟨z,i,e1,e2,h3,h4,h5,q⟩ k=>by
 subst e1 e2
 exact⟨z,i,di h1,a6 h2,h3,h4,h5,k.str rp q⟩⟩
inductive PFs (X:Cx):List Expr->List TE->Prop
 |nil:PFs X [] []
 |cons {e:Expr} {t:TE} {es:List Expr} {ts:List TE}:PE X e t->PFs X es ts->PFs X (e::es) (t::ts)
inductive sO:List TE->List AE->Prop
 |nil:sO [] []
 |cons {t:TE} {t':AE} {ts:List TE} {ts':List AE}:aZ t t'->sO ts ts'->sO (t::ts) (t'::ts')
end L2
namespace L2
open PySem PySem.Spec PyProof.Rows PySem.W
noncomputable def CXx(P:Program)(w:World):CXT:=fun outer H s E e s'=>∃(a C t:Addr)(H':Hp)(B:Heap),e=.ref a/\s'.os=s.os/\AllBare s'.gens/\Un (frs outer) [] H H' s.heap s'.heap/\HOk P w H' B /\
 Heap.FlyingW B outer a (.ref C) (.ref t) s'.heap/\(∀b o,s.heap.get? b=some o->H b=none->b ∉ frs outer->B.get? b=some o)/\(∀b o,s.heap.get? b=some o->b ∉ frs outer->∃o',B.get? b=some o')/\E (.ref a) (some C) H'
theorem eM{P:Program}{w:World}{H:Hp}{h:Heap}{a:Addr}{o:HO}(x:bQ P w H h a o):∃u,h.get? a=some u:=by
 cases o with
 |lst xs=>obtain⟨_,_,_,_,e⟩:=x;exact⟨_,e⟩
 |tup xs=>obtain⟨_,_,_,⟨_,e,_⟩,_⟩:=x;exact⟨_,e⟩
 |dK kvs=>obtain⟨_,_,_,_,o,_,_,e,_⟩:=x;exact⟨_,e⟩
 |dT kvs=>obtain⟨_,_,_,_,o,_,_,e,_⟩:=x;exact⟨_,e⟩
 |set S n=>obtain⟨o,_,_,_,e,_⟩:=x;exact⟨_,e⟩
 |ins C dx fs=>obtain⟨_,_,_,e,_⟩:=x;exact⟨_,e⟩
 |own y=>obtain⟨_,e⟩:=x;exact⟨_,e⟩
 |xd fs=>obtain⟨_,⟨_,_,_,e,_⟩,_⟩:=x;exact⟨_,e⟩
 |rng lo hi=>obtain⟨_,_,_,e⟩:=x;exact⟨_,e⟩
 |frz ob u=>obtain⟨e,_⟩:=x;exact⟨_,e⟩
 |tbl ps=>obtain⟨qs,e,_⟩:=x;exact⟨_,e⟩
 |met f y=>exact⟨_,show h.get? a=some _ from x⟩
 |ext φ=>obtain⟨_,⟨_,e⟩,_⟩:=x;exact⟨_,e⟩
noncomputable abbrev gR:List Value:=[.type "ValueError",.type "Exception",.type "BaseException",.type "object"]
end L2
namespace L2
open PySem PySem.Spec PySem.Calls PyProof.Rows PySem.W PySem.Builtin PySem.Builtin.ObjectAttr PySem.Builtin.Getset_descriptor
noncomputable def el(K:W.Frag)(D:Addr):Bool:=(findIn K (.ref D) "__getattribute__" == some (some (.builtin "BaseException.__getattribute__")) && findIn K (.ref D) "__getattr__" == some none) && (clsIn K D).isSome && (findIn K (.ref D) "__class__" == some (some (.builtin "object.__class__"))) && (specialIn K (.builtin "object.__class__") "__get__" == some (some (.builtin "getset_descriptor.__get__"))) && (takesIn K (.builtin "object.__class__") == some true) && (mroIn K D (.type "object") == some true && mroIn K D (.type "BaseException") == some true)
noncomputable def kH(x D:Addr)(h:Heap):Prop:=∃o,h.get? x=some o/\o.cls=.ref D
theorem kH.ty{x D:Addr}{h:Heap}(e:kH x D h)(M:Model):Looks M h (typeOf (.ref x)) (.ref D):=by
 obtain⟨o,h1,h2⟩:=e;exact h2 ▸ (Looks.ld h1).andThen .now
theorem oa{K:W.Frag}{M:Model}{h:Heap}(X:K.In h){x C:Addr}{name:Str}{a g:Value}(ha:findIn K (.ref C) name=some (some a))(hg:specialIn K a "__get__"=some (some g))(ht:takesIn K a=some true):Looks M h (find (.ref x) (.ref C) name) (.bind g a):=by
 refine(looks_findIn (M:=M) X ha).andThen ((looks_specialIn (M:=M) X hg).andThen ?_);have dd:Looks M h (dataDescriptor? (some a) (some g)) (some (g,a)):=(looks_takesIn (M:=M) X ht).andThen .now;exact dd.andThen (Looks.tag .now)
section
variable{prog:Program}{w:World}{A:Around}{E:Value->Shared->Prop}{s:Shared}{K:W.Frag}{x D:Addr}
theorem qD{Q:Option Value->Shared->Prop}(X:K.In s.heap)(e:kH x D s.heap)(ok:el K D=true)(h:Q (some (.ref D)) { s with toks:=s.toks+1 }):wpAny (model prog w) A (getAttr? (.ref x) "__class__") Q E s:=by
 unfold el at ok;simp only[Bool.and_eq_true,beq_iff_eq] at ok;obtain⟨⟨⟨⟨⟨⟨hga,hgn⟩,_⟩,ha⟩,hn⟩,htk⟩,hm,hmb⟩:=ok;obtain⟨hh,gs,dr,tt,os⟩:=s;have T0:=e.ty (model prog w);have T1:=looks_findIn (M:=model prog w) X hga;have T2:=oa (M:=model prog w) (x:=x) X ha hn htk;have T3:=looks_findIn (M:=model prog w) X hgn;have T4:=looks_mroIn (M:=model prog w) X hm;unfold getAttr? getAttrBy? getAttrBy;refine wpAny_bind (wpAny_mkText (wpAny_bind (wpAny_attempt (wpAny_holding (wpAny_bind (T0.at (wpAny_bind (T1.at ?_))))))))
 dsimp only;rw[if_neg (by rw[show (Value.builtin "BaseException.__getattribute__" == Value.builtin "object.__getattribute__")=false from by decide +kernel,Bool.and_false];exact Bool.false_ne_true)]
 have T5:=looks_mroIn (M:=model prog w) X hmb;unfold getAttrByItsOwn hookBefore callGetattribute boundAndCalled;show wpAny _ _ (typeLookup (.ref D) "__getattr__" >>= _) _ _ _;refine wpAny_bind (T3.at (wpAny_bind (wpAny_attempt (wpAny_holding ?_))));show wpAny _ _ (bindSpecial (.builtin "BaseException.__getattribute__") (.ref x) >>= _) _ _ _;refine wpAny_bind (wpAny_of_eq (PySem.F.attrBase_ValueError.ga.bind _) (wpAny_call (codeAny_call_builtin PySem.F.attrBase_ValueError.ga.plain PySem.F.entry_bexc_ga ?_)))
 have ck:∀ {Q:Unit->Shared->Prop} {E:Value->Shared->Prop} {A:Around} {nv:Value},Q () ⟨hh,gs,dr,tt+1,os⟩->wpAny (model prog w) A (checkBuiltinCall "BaseException.__getattribute__" ⟨[.ref x,nv],[]⟩) Q E ⟨hh,gs,dr,tt+1,os⟩:=fun {Q E A nv} q=>by
  have b1:builtinKind "BaseException.__getattribute__"=some .slot:=by decide +kernel
  have b2:splitId "BaseException.__getattribute__"=some ("BaseException","__getattribute__"):=by decide +kernel
  have b3:=F.args_bexc_ga (.ref x) nv;simp only[checkBuiltinCall,b1,b2];refine wpAny_bind ?_;unfold isInstance;refine wpAny_bind (T0.at (T5.at ?_));rw[if_neg (by decide)]
  unfold argsOk at b3
  first|(rw[b3];exact wpAny_pure q)|(refine wpAny_of_eq b3 q)
 refine ck ?_
 repeat (first|with_reducible refine wpAny_bind (T0.at ?_)|with_reducible refine T0.at ?_|with_reducible refine wpAny_bind (T2.at ?_)|with_reducible refine T2.at ?_|wp_step)
 refine codeAny_call_builtin KF.slot_gs.plain KF.entry_gs (KF.slot_gs.check _ _ _ _ _ _ _ _ KF.type_class (KF.args_gs _ _ _) ?_);unfold Builtin.«getset_descriptor.__get__» descrGet;rw[dga_obj];refine wpAny_bind (wpAny_pure ?_);unfold descrGetter descrCheckInstance descrNameAndClass isInstance;simp only[KF.owner_class]
 repeat lk
 refine⟨Code.quiet_builtin _ (by decide +kernel),codeAny_builtin KF.entry_class ?_⟩
 unfold Builtin.«object.__class__» shownTypeOf
 repeat lk
 first|exact h|(repeat (first|assumption|wp_step))
theorem gv(ok:el K D=true):KitX K (.ref x) (.ref D) (kH x D) where
 ty:=fun M h _ e=>e.ty M
 it:=fun M h X _=>by
  unfold el at ok;simp only[Bool.and_eq_true,beq_iff_eq] at ok;obtain⟨⟨⟨⟨⟨_,hc⟩,_⟩,_⟩,_⟩,_⟩:=ok;unfold clsIn at hc;split at hc
  ·rename_i c' d' cd' sl' lk
   intro A' Q' E' s' k q;unfold isType loadHead;exact wpAny_bind (wpAny_loadPart (k _ _ (X _ _ lk)) (wpAny_pure q))
  ·cases hc
 ne:=fun h tp dd its n sl X htp=>by
  unfold el at ok;simp only[Bool.and_eq_true,beq_iff_eq] at ok;obtain⟨⟨⟨⟨⟨_,hc⟩,_⟩,_⟩,_⟩,_⟩:=ok;refine Bool.eq_false_iff.mpr fun q=>?_;have e:D=tp:=Value.ref.inj (beq_iff_eq.mp q);subst e;unfold clsIn at hc;split at hc
  ·rename_i c' d' cd' sl' lk
   have z:=(X _ _ lk).symm.trans htp;cases z
  ·cases hc
 ca:=fun X e k=>qD X e ok k
end
noncomputable def clV:V->Option Value
 |.ref a=>some (.ref a)
 |.ty n=>some (.type n)
 |_=>none
theorem t0{v:V}{u c:Value}(r:aM v u)(h:clV v=some c):u=c:=by
 cases v<;>simp[clV] at h<;>subst h<;>exact r
noncomputable def qR:List V->Option (List Value)
 | []=>some []
 |v::r=>match clV v,qR r with
  |some c,some cs=>some (c::cs)
  |_,_=>none
theorem o7:∀ {vs:List V} {us cs:List Value},au vs us->qR vs=some cs->us=cs
 | [],us,cs,r,h=>by cases r;cases h;rfl
 |v::vs,us,cs,r,h=>by
  cases r with
  |cons r1 rr=>
   simp only[qR] at h;split at h
   ·rename_i c cs' h1 h2
    cases h;rw[t0 r1 h1,o7 rr h2]
   ·cases h
theorem Inv.track{X:Cx}{pins:List (Addr×Obj)}{σ:St}{H:Hp}{s:Shared}(J:Inv X pins σ H s){a:Addr}{o:HO}(hn:H a=none)(h0:X.s₀.heap.get? a=none)(hL:a≠X.env.locals)(hC:∀x c,X.env.cells.lookup x=some c->c≠a)(hp:∀p∈X.pn++pins,p.1≠a)(ho:bQ X.prog X.w (upd H a o) s.heap a o):Inv X pins σ (upd H a o) s:=by
 have ne:∀b u,H b=some u->b≠a:=fun b u h z=>by subst z;rw[hn] at h;cases h
 refine⟨J.ok,J.os,J.bare,⟨J.base.keep,J.base.slot,fun b ob h1 h2 h3=>?_,J.base.there,fun b xs h=>?_,fun b ob u h=>?_,fun b ps h=>?_⟩,J.loc,J.cell,?_,fun x c h=>?_,fun p hm=>?_,fun b u h=>?_,J.len⟩
 ·rw[aq (fun z=>by subst z;rw[h0] at h1;cases h1)]
  exact J.base.free b ob h1 h2 h3
 ·have:=J.base.tups b xs h
  rw[aq (ne b _ this)];exact this
 ·have:=J.base.frzs b ob u h
  rw[aq (ne b _ this)];exact this
 ·obtain⟨more,this⟩:=J.base.tbls b ps h
  exact⟨more,by rw[aq (ne b _ this)];exact this⟩
 ·rw[aq (Ne.symm hL)];exact J.free
 ·rw[aq (hC x c h)];exact J.freeC x c h
 ·obtain⟨z1,z2,z3,z4,z5⟩:=J.pin p hm
  exact⟨z1,by rw[aq (hp p hm)];exact z2,z3,z4,z5⟩
 ·by_cases hb:b=a
  ·subst hb;rw[bT] at h;cases h;exact ho
  ·rw[aq hb] at h
   exact(J.hok b u h).stay (fun _ _ _ q=>q) (fun c q=>by rw[aq (ne c _ q)];exact q) (fun c xs q=>by rw[aq (ne c _ q)];exact q) fun c o' u' q=>by rw[aq (ne c _ q)];exact q
noncomputable def PEX(X:Cx)(CX:CXT)(e:Expr)(t:XK->TE):Prop:=∀(pins:List (Addr×Obj)) (s:Shared) (σ:St) (H:Hp) (Q:VK) (E:XK),Inv X pins σ H s->t E σ H Q ->
 wpAny (model X.prog X.w) X.A (eval e X.env) (EP X pins σ Q) (fun x s'=>∃H1 s1,Inv X pins σ H1 s1/\CX X.stack H1 s1 E x s') s
section
variable{X:Cx}{CX:CXT}{k:Nat}{f:Addr}{fd:FuncData}{ps:List Str}{sp:Sp}{x:Str}{p pos:Pos}{e:Expr}{es:List Expr}{t:TA}
theorem gh(F:aY X.prog X.w X.K X.mg X.base CX k f fd ps sp)(hr:ci k X.A)(hg:Gl X x)(hm:X.mg x=some (.ref f))(hk:W.keepIn X.K (.ref f)=true)(hb:bt X.K fd ps [])(ha:PA X.nox (e::es) t)(hdb:(x == ("__debug__":Str))=false:=by decide)(he:starEach (e::es) X.env=(false,eval e X.env)::starEach es X.env:=by rfl)(hpl:(backTo pos (starEach es X.env)).any (·.1)=false:=by rfl):
  PEX X CX (.Call (.Name x p) (e::es) [] pos) (fun E=>mW sp [] E t):=by
 intro pins s σ H Q E I h;refine wpAny_Call_Name_kw (eu I hg hm ?_ hdb);refine W.callWith_K (h₀:=X.base) I.ok.mod.kin hk (wpAny_mono (ha pos pins s σ H _ (I.wish _) h) (fun us s1 ⟨vs,H1,I1,r,q⟩=>⟨I1.kIn,?_⟩) fun _ _ z=>False.elim z) he hpl;have I1:=I1.unwish;have q:sp (vs++[]) H1 Q E:=q;rw[List.append_nil] at q;have hl:(us++[]).length=ps.length:=by rw[List.append_nil,←r.length];exact F.len _ _ _ _ q
 have hbb:=hb s1 us I1.kIn hl;rw[List.append_nil] at hbb;refine wpAny_call (codeAny_mono (F.run X.A X.stack s1 H1 ⟨us,[]⟩ us vs Q E hr I1.env0 hbb r q) fun r s' hq=>?_)
 cases r with
 |error e=>exact⟨H1,s1,I1,hq⟩
 |ok fl=>
  cases fl with
  |ret u=>exact I1.after hq
  |next=>exact False.elim hq
  |brk=>exact False.elim hq
  |cont=>exact False.elim hq
end
end L2
namespace L2
open PySem PySem.Spec PySem.Calls PyProof.Rows PySem.W
section
variable{X:Cx}{pins:List (Addr×Obj)}{σ:St}{H:Hp}{s:Shared}
theorem qO{M:Model}{A:Around}{E:Value->Shared->Prop}{i:Nat}{n:Str}{pos:Pos}{Q:Unit->Shared->Prop}(J:Inv X pins σ H s)(hN:X.N.Nodup)(hi:X.N[i]?=some n)(hl:X.env.scope.names.lookup n=some .local)(h:∀s',Inv X pins (σ.set i none) H s'->Q () s'):wpAny M A (do bindName X.env n .none;unbindBehindTheSuite X.env n pos) Q E s:=by
 have hcls:(X.env.scope.kind == .class || (X.env.scope.kind == .module && X.env.locals != X.env.globals))=false:=by rw[J.ok.kind];rfl
 obtain⟨m,hn,hk⟩:=J.loc;refine wpAny_nameGoes_keeps hl hn hcls fun h' v hn' hs=>h _ ?_;have at':∀b o,b≠X.env.locals->s.heap.get? b=some o->h'.get? b=some o:=fun b o hb q=>(hs.2 b hb).trans q;have ne0:∀b o,X.s₀.heap.get? b=some o->b≠X.env.locals:=fun b o e=>Nat.ne_of_lt (Nat.lt_of_lt_of_le (Heap.lt_size e) J.ok.above);have cel:∀x c v,X.env.cells.lookup x=some c->s.heap.IsCell c v->h'.IsCell c v:=fun x c v e ⟨o,q1,q2⟩=>⟨o,at' c o (J.cne x c e) q1,q2⟩
 refine⟨J.ok,J.os,J.bare,⟨fun b o e1 e2 e3 e4=>at' b o (ne0 b o e1) (J.base.keep b o e1 e2 e3 e4),fun b o e1 e2 e3 e4=>?_,J.base.free,fun b o e1 e2=>?_,J.base.tups,J.base.frzs,J.base.tbls⟩,⟨_,hn',fun j x w h1 h2 h3=>?_⟩,fun x c e=>?_,J.free,J.freeC,fun p hp=>?_,fun b o e=>?_,?_⟩
 ·obtain⟨sl,q⟩:=J.base.slot b o e1 e2 e3 e4
  exact⟨sl,at' b _ (ne0 b o e1) q⟩
 ·obtain⟨o',q⟩:=J.base.there b o e1 e2
  exact⟨o',at' b _ (ne0 b o e1) q⟩
 ·have hji:j≠i:=fun z=>by
   subst z;rw[List.getElem?_set] at h2;simp only[if_true] at h2;split at h2<;>cases h2
  rw[List.getElem?_set_ne (Ne.symm hji)] at h2;obtain⟨u,r,l⟩:=hk j x w h1 h2 h3
  have hxn:x≠n:=fun z=>by
   subst z;have b1:=List.getElem?_eq_some_iff.mp h1;have b2:=List.getElem?_eq_some_iff.mp hi;exact hji ((List.getElem_inj hN).mp (b1.2.trans b2.2.symm))
  refine⟨u,r,?_⟩;rcases l with⟨l1,l2⟩|⟨l1,c,l2,l3⟩
  ·exact .inl ⟨l1,by show (if x=n then v else m x)=some u;rw[if_neg hxn];exact l2⟩
  ·exact .inr ⟨l1,c,l2,cel x c _ l2 l3⟩
 ·obtain⟨v,q⟩:=J.cell x c e
  exact⟨v,cel x c v e q⟩
 ·obtain⟨z1,z2,z3,z4,z5⟩:=J.pin p hp
  exact⟨at' _ _ z3 z1,z2,z3,z4,z5⟩
 ·have nl:∀b u,H b=some u->b≠X.env.locals:=fun b u q z=>by subst z;rw[J.free] at q;cases q
  refine(J.hok b o e).stay (fun c u hc q=>at' c u ?_ q) (fun _ q=>q) (fun _ _ q=>q) fun _ _ _ q=>q;rcases hc with rfl|hc
  ·exact nl _ _ e
  ·exact nl _ _ hc
 ·rw[List.length_set];exact J.len
end
noncomputable def PSX(X:Cx)(CX:CXT)(st:Stmt)(t:XK->TS):Prop:=∀(pins:List (Addr×Obj)) (s:Shared) (σ:St) (H:Hp) (D:fk) (E:XK),Inv X pins σ H s->t E D σ H ->
 wpAny (model X.prog X.w) X.A (exec st X.env) (SP X pins D) (fun x s'=>∃H1 s1,Inv X pins σ H1 s1/\CX X.stack H1 s1 E x s') s
section
variable{X:Cx}{CX:CXT}{e:Expr}{te:XK->TE}{pos:Pos}
theorem u3{i:Nat}{x:Str}{pos':Pos}(hN:X.N.Nodup)(hi:X.N[i]?=some x)(hx:Loc X.env.scope x)(he:PEX X CX e te)(hs:swapsWith e (some (.Name x pos')) pos.line X.env=pure false:=by rfl)(hf:X.fn x=true\/X.env.scope.names.lookup x=some .local:=by first|exact .inl rfl|exact .inr rfl|assumption):
  PSX X CX (.Assign [.Name x pos'] e pos) (fun E=>qA (te E) (kO i)):=by
 intro pins s σ H D E I h;refine wpAny_Assign_Name (thn (he pins s σ H _ E I h) fun v s1 ⟨y,H1,I1,r1,q1⟩=>?_) hs;exact ff I1 hN hi hx r1 (fun s2 I2=>⟨_,H1,I2,q1⟩) hf
end
noncomputable def Cx.inX(X:Cx)(e:Value):Cx:={ X with A:=X.A.mark (some e),calm:=false,xe:=fun _ _=>False }
theorem Inv.inX{X:Cx}{pins:List (Addr×Obj)}{σ:St}{H:Hp}{s:Shared}(I:Inv X pins σ H s)(e:Value):Inv (X.inX e) pins σ H s:=
 ⟨⟨I.ok.mod,I.ok.kind,I.ok.glob,I.ok.blt,I.ok.above,I.ok.inj,I.ok.has,I.ok.cab,fun z=>(nomatch z),I.ok.frames,I.ok.stk,I.ok.exf,I.ok.bs,I.ok.bsz,I.ok.noex,I.ok.exfs,I.ok.funs,I.ok.frf,I.ok.tt⟩,I.os,I.bare,I.base,I.loc,I.cell,I.free,I.freeC,I.pin,I.hok,I.len⟩
theorem Inv.Bk{X:Cx}{e:Value}{pins:List (Addr×Obj)}{σ:St}{H:Hp}{s:Shared}(ok:X.Ok)(I:Inv (X.inX e) pins σ H s):Inv X pins σ H s:=⟨ok,I.os,I.bare,I.base,I.loc,I.cell,I.free,I.freeC,I.pin,I.hok,I.len⟩
end L2
namespace L2
open PySem PySem.Spec PyProof.Rows
noncomputable abbrev cL:=List AV->Om->(AV->Om->Prop)->(Addr->Om->Prop)->Prop
noncomputable def LX(F:Fs)(H:Hp)(Z:Om)(Ex:Addr->Om->Prop)(E:XK):Prop:=∀C Z' a H',Rep F H' Z'->Fr F H Z H' Z'->Ex C Z'->E (.ref a) (some C) H'
theorem LX.fr{F:Fs}{H H1:Hp}{Z Z1:Om}{Ex:Addr->Om->Prop}{E:XK}(k:LX F H Z Ex E)(f:Fr F H Z H1 Z1):LX F H1 Z1 Ex E:=fun C Z' a H' rp fr q=>k C Z' a H' rp (f.trans fr) q
noncomputable def fb(sp:cL):Sp:=fun vs H Q E=>∃(F:Fs)(xs:List AV)(Z:Om)(Q':AV->Om->Prop)(Ex:Addr->Om->Prop),Rep F H Z/\RVs (cut F H Z) xs vs/\sp xs Z Q' Ex/\LP RV F H Z Q' Q/\LX F H Z Ex E
noncomputable abbrev AXS:=bx->(Addr->Om->Prop)->SA->Om->Prop
structure eR(E:XK)(t:TS)(t':AXS):Prop where
 run:∀(F:Fs)(H:Hp)(Z:Om)(σ:St)(ρ:SA)(D:fk)(D':bx)(Ex:Addr->Om->Prop),Rep F H Z->RS (cut F H Z) ρ σ->t' D' Ex ρ Z->LE F H Z D' D->LX F H Z Ex E->t D σ H
noncomputable def xB(t:AS):AXS:=fun D _ ρ Z=>t D ρ Z
noncomputable def t5(t u:AXS):AXS:=fun D Ex ρ Z=>t { D with nx:=u D Ex } Ex ρ Z
noncomputable def zq(c:AT)(t u:AXS):AXS:=fun D Ex ρ Z=>c ρ Z fun b Z1=>if b=true then t D Ex ρ Z1 else u D Ex ρ Z1
theorem oW(t:AS)(D:bx)(Ex:Addr->Om->Prop)(ρ:SA)(Z:Om):xB t D Ex ρ Z=t D ρ Z:=rfl
theorem rm(t u:AXS)(D:bx)(Ex:Addr->Om->Prop)(ρ:SA)(Z:Om):t5 t u D Ex ρ Z=t { D with nx:=u D Ex } Ex ρ Z:=rfl
theorem p9(c:AT)(t u:AXS)(D:bx)(Ex:Addr->Om->Prop)(ρ:SA)(Z:Om):zq c t u D Ex ρ Z=c ρ Z fun b Z1=>if b=true then t D Ex ρ Z1 else u D Ex ρ Z1:=rfl
section
variable{E:XK}{t u:TS}{t' u':AXS}{ta:TA}{ta':AA}{tc:TT}{tc':AT}{sp:cL}{C:Addr}
theorem eI{a:AS}(h:eD t a):eR E t (xB a):=⟨fun F H Z σ ρ D D' Ex rp rs w k kx=>h.run F H Z σ ρ D D' rp rs w k⟩
theorem dG(h1:eR E t t')(h2:eR E u u'):eR E (yt t u) (t5 t' u'):=⟨fun F H Z σ ρ D D' Ex rp rs h k kx=>
 h1.run F H Z σ ρ _ _ Ex rp rs h ⟨fun ρ1 Z1 σ1 H1 rp1 fr1 rs1 q=>h2.run F H1 Z1 σ1 ρ1 D D' Ex rp1 rs1 q (k.fr fr1) (kx.fr fr1),k.rt,k.bk,k.ct⟩ kx⟩
theorem mK(hc:hJ tc tc')(h1:eR E t t')(h2:eR E u u'):eR E (yi tc t u) (zq tc' t' u'):=⟨fun F H Z σ ρ D D' Ex rp rs w k kx=>
 hc.go rp rs w fun a Z1 v H1 rp1 fr1 rs1 rv q=>by
  cases (show a=v from rv)
  cases a with
  |true=>rw[if_pos rfl] at q ⊢;exact h1.run F H1 Z1 σ ρ D D' Ex rp1 rs1 q (k.fr fr1) (kx.fr fr1)
  |false=>rw[if_neg Bool.false_ne_true] at q ⊢;exact h2.run F H1 Z1 σ ρ D D' Ex rp1 rs1 q (k.fr fr1) (kx.fr fr1)⟩
end
theorem PS.nox{X:Cx}{st:Stmt}{t:TS}(h:PS X.nox st t):PS X st t:=.mk <| fun pins s σ H D I hw=>
 wpAny_mono (h pins s σ H D (I.wish _) hw) (fun _ _ q=>q.unwish) fun _ _ z=>False.elim z
theorem RS.Bl{G:Hp}{ρ:SA}{σ:St}{i:Nat}(h:RS G ρ σ):RS G (ρ.set i none) (σ.set i none):=by
 refine⟨by simp[h.1],fun j b e=>?_⟩
 by_cases hj:j=i
 ·subst hj
  rw[List.getElem?_set] at e;simp only[if_true] at e;split at e<;>cases e
 ·rw[List.getElem?_set_ne (Ne.symm hj)] at e
  rw[List.getElem?_set_ne (Ne.symm hj)];exact h.2 j b e
theorem pj{G:Hp}:∀ {vs us:List V},RVs G (vs.map AV.r) us->us=vs
 | [],us,h=>h
 |v::vs,us,h=>by
  obtain⟨u,r,rfl,h1,h2⟩:=h;cases (show u=v from h1)
  rw[pj h2]
noncomputable def u7:AV->Option Bool
 |.d a=>some (eqD a .non)
 |.p (.ref _) _=>some false
 |_=>none
noncomputable def v0(neg:Bool):A2:=fun x y Z Q=>∃b,u7 x=some b/\y=.d .non/\Q (.d (.bl (if neg then !b else b))) Z
theorem mY(neg:Bool)(x y:AV)(Z:Om)(Q:AV->Om->Prop):v0 neg x y Z Q=∃b,u7 x=some b/\y=.d .non/\Q (.d (.bl (if neg then !b else b))) Z:=rfl
theorem sR(a:D):u7 (.d a)=some (eqD a .non):=rfl
theorem t8:df (fun x y H Q=>y=.non/\Q (.bl (decide (x=.non))) H) (v0 false):=⟨fun F H Z v u x y Q Q' rp h1 h2 ⟨b,e1,e2,q⟩ k=>by
 cases x with
 |d a=>
  cases e1;exact zB.run F H Z v u (.d a) y Q Q' rp h1 h2 ⟨a,rfl,e2,q⟩ k
 |r v'=>cases e1
 |p v' P=>
  cases v'<;>cases e1
  subst e2;obtain⟨rfl,_⟩:=h1
  exact⟨n6 h2,k.bl rp q⟩⟩
end L2
namespace L2
open PySem PySem.Spec PySem.Calls PyProof.Rows PySem.W
structure AW(P:Program)(w:World)(K:W.Frag)(mg:Str->Option Value)(base:Heap)(H₀:Hp)(k:Nat)(f:Addr)(n:Nat)(sp:Sp):Prop where
 fn:∃(oc:Value)(od:Option Addr)(fd:FuncData) (sl:Array (Option Value)) (u:HO),H₀ f=some (.frz ⟨oc,od,.func fd,sl⟩ u)
 len:∀vs H Q E,sp vs H Q E->vs.length=n
 run:∀(A:Around)(outer:List Env)(s:Shared)(H:Hp)(us:List Value)(vs:List V)(Q:VK)(E:XK),ci k A->mQ P w K mg base A outer s H->Frz H₀ H->au vs us->sp vs H Q E ->
  codeAny (model P w) A (.call (.ref f) ⟨us,[]⟩) (CR (CXx P w) outer P w H s Q E) s
noncomputable def fj(caps:List V)(cA:List AV)(sp:cL):Sp:=fun vs H Q E=>∃(F:Fs)(xs:List AV)(Z:Om)(Q':AV->Om->Prop)(Ex:Addr->Om->Prop),Rep F H Z/\RVs (cut F H Z) xs vs/\RVs (cut F H Z) cA caps/\sp xs Z Q' Ex/\LP RV F H Z Q' Q/\LX F H Z Ex E
end L2
namespace L2
open PySem PySem.Spec PySem.Calls PyProof.Rows
structure Ap3(z u o i j l p q r:Addr):Prop where
 uz:u≠z
 oz:o≠z
 iz:i≠z
 jz:j≠z
 lz:l≠z
 uo:u≠o
 ui:u≠i
 uj:u≠j
 ul:u≠l
 oi:o≠i
 oj:o≠j
 ol:o≠l
 ij:i≠j
 il:i≠l
 jl:j≠l
 np:∀c∈[z,u,o,i,j,l],p≠c
 nq:∀c∈[z,u,o,i,j,l],q≠c
 nr:∀c∈[z,u,o,i,j,l],r≠c
end L2
namespace L2
open PySem PySem.Spec PyProof.Rows
inductive O where
 |d (x:D)|box (b:Bool)|tup (os:List O)
noncomputable def Om.del(Z:Om)(l:Addr):Om:=fun b=>if b=l then none else Z b
end L2
namespace L2
open PySem PySem.Spec PyProof.Rows AutoSeq1
noncomputable def zb(neg:Bool):A2:=fun x y Z Q=>∃xs,cm Z x=some xs/\cj Z y=some (.lst [])/\Q (.d (.bl (if neg then !xs.isEmpty else xs.isEmpty))) Z
end L2
namespace L2
open PySem PySem.Spec PyProof PyProof.Rows PySem.SeqAt
open AutoSeq1 (wpAny_loadPart')
mutual
noncomputable def ltD:D->D->Bool
 |.int a,.int b=>decide (a<b)
 |.str a,.str b=>decide (a.cps.toList<b.cps.toList)
 |.tup xs,.tup ys=>zg xs ys
 |_,_=>false
noncomputable def zg:List D->List D->Bool
 | [],[]=>false
 | [],_::_=>true
 |_::_,[]=>false
 |x::xs,y::ys=>if eqD x y then zg xs ys else ltD x y
end
mutual
noncomputable def cmD:D->D->Bool
 |.int _,.int _=>true
 |.str _,.str _=>true
 |.tup xs,.tup ys=>yE xs ys
 |_,_=>false
noncomputable def yE:List D->List D->Bool
 |x::xs,y::ys=>if eqD x y then yE xs ys else cmD x y
 |_,_=>true
end
end L2
namespace L2
open PySem PySem.Spec PyProof PyProof.Rows PySem.SeqAt
end L2
namespace L2
open PySem PySem.Spec PySem.Calls PyProof PyProof.Rows PySem.SeqAt
section
variable{prog:Program}{w:World}{A:Around}{E:Value->Shared->Prop}{s:Shared}
noncomputable def wE(h0 h:Heap):Prop:=∀x o,h0.get? x=some o->h.get? x=some o
structure AX(prog:Program)(w:World)(A:Around)(h0:Heap)(s:Shared)(vs:List Value)(c:Nat->Nat->Bool)(b:Bool):Prop where
 kind:∀h,wE h0 h->∃fs T,W.KatTups h vs fs/\fs.length=vs.length/\(∀v∈fs,W.Looks (model prog w) h (typeOf v) T)/\(T == T)=true/\(T != Value.type "tuple")=b
 ask:∀h,wE h0 h->∀i j,i<vs.length->j<vs.length->∀(C:Bool->Shared->Prop)(E:Value->Shared->Prop),C (c i j) { s with heap:=h }->wpAny (model prog w) A (keyLt' (tuples' b) (vs.getD i Value.none) (vs.getD j Value.none)) C E { s with heap:=h }
end
section
variable{X:Cx}{pins:List (Addr×Obj)}{σ:St}{H:Hp}{s:Shared}{A:Around}
noncomputable def AJ(k:Bool)(d:D):Prop:=∃r,(k=true/\∃z,d=.tup (.str z::r))\/(k=false/\∃i,d=.tup (.int i::r))
end
structure Srt(W:List D)(key:D->List Int)(k:Bool):Prop where
 row:∀d∈W,AJ k d
 cmp:∀d∈W,∀e∈W,cmD d e=true
 lt:∀d∈W,∀e∈W,ltD d e=zC (key d) (key e)
end L2
namespace L2
open PySem PySem.Spec PyProof PyProof.Rows PySem.SeqAt
section
variable{K:W.Frag}{x qual:Str}{st:Stmt}{f:Addr}{fd:FuncData}
theorem Fun.A8{p0:Str}(F:Fun K x qual st f fd)(h:∀(kV doc pm:Value)(an:Option Addr)(cdv ct:Value)(u0:Value),bindArgs (W.fnOf x qual (defArgs st) (defBody st) (defScope st) .none kV doc pm an cdv ct) ⟨[u0],[]⟩=pure ([p0].zip [u0])):bt K fd [p0] []:=
 F.binds fun a b c d e g us hl=>match us,hl with | [u0],_=>h a b c d e g u0
theorem Fun.A6{p0 p1:Str}(F:Fun K x qual st f fd)(h:∀(kV doc pm:Value)(an:Option Addr)(cdv ct:Value)(u0 u1:Value),bindArgs (W.fnOf x qual (defArgs st) (defBody st) (defScope st) .none kV doc pm an cdv ct) ⟨[u0,u1],[]⟩=pure ([p0,p1].zip [u0,u1])):bt K fd [p0,p1] []:=
 F.binds fun a b c d e g us hl=>match us,hl with | [u0,u1],_=>h a b c d e g u0 u1
theorem Fun.Bc{p0 p1 p2:Str}(F:Fun K x qual st f fd)(h:∀(kV doc pm:Value)(an:Option Addr)(cdv ct:Value)(u0 u1 u2:Value),bindArgs (W.fnOf x qual (defArgs st) (defBody st) (defScope st) .none kV doc pm an cdv ct) ⟨[u0,u1,u2],[]⟩=pure ([p0,p1,p2].zip [u0,u1,u2])):bt K fd [p0,p1,p2] []:=
 F.binds fun a b c d e g us hl=>match us,hl with | [u0,u1,u2],_=>h a b c d e g u0 u1 u2
end
end L2
namespace L2
open PySem PySem.Spec PyProof.Rows
end L2
namespace L2
open PySem PySem.Spec PySem.Calls PyProof.Rows PySem.W
end L2
namespace L2
open PySem PySem.Spec PyProof.Rows
structure gl(K:W.Frag)(x:Str)(st:Stmt)(a:Addr)(fd:FuncData):Prop where
 g:W.nsIn K mainGlobals x=some (some (.ref a))
 f:Fun K x x st a fd
 e:W.keepIn K (.ref a)=true
theorem yy{K:W.Frag}{x:Str}{st:Stmt}{a:Addr}{oc:Value}{od an:Option Addr}{osl:Array (Option Value)}{kV doc pm cdv ct:Value}(g:W.nsIn K mainGlobals x=some (some (.ref a)))(l:K.lookup a=some ⟨oc,od,.func (W.fnOf x x (defArgs st) (defBody st) (defScope st) .none kV doc pm an cdv ct),osl⟩)(c:W.codeIn K cdv x=true)(e:W.keepIn K (.ref a)=true):gl K x st a (W.fnOf x x (defArgs st) (defBody st) (defScope st) .none kV doc pm an cdv ct):=⟨g,nT l c e,e⟩
theorem fsc{N P:List Str}{sc:Scope}(a:sc.kind=.function)(b:sc.isCoroutine=false)(c:sc.isGenerator=false)(h:N.Nodup/\N.take P.length=P/\(∀x∈P,sc.names.lookup x=some .local\/sc.names.lookup x=some .cell)/\∀y∈sc.names,y.2≠.free):aK N P sc:=⟨a,b,c,h.1,h.2.1,h.2.2.1,h.2.2.2⟩
section
variable{X:Cx}
theorem bU(hg:X.A.guards=some [])(hu:X.A.units+100<cLine)(hs:(X.K.lookup sysModules).isSome=true):dN X (.builtin "repr") (fun xs H Q=>∃(x:V)(d:D),xs=[x]/\Dat H d x/\nQ d=true/\(pyD d).depth<=90/\fit d=true/\wt d<=1000000/\Q (.str (gy d)) H):=by
 intro pins s σ H xs us Q I r h;obtain⟨x,d,rfl,hd,hn,hdp,hf,hw,q⟩:=h
 cases d with
 |non=>exact fV hg hu pins s σ H [x] us Q I r ⟨x,_,rfl,hd,hn,by simp[dep],hf,hw,q⟩
 |bl b=>exact fV hg hu pins s σ H [x] us Q I r ⟨x,_,rfl,hd,hn,by simp[dep],hf,hw,q⟩
 |int i=>exact fV hg hu pins s σ H [x] us Q I r ⟨x,_,rfl,hd,hn,by simp[dep],hf,hw,q⟩
 |str b=>cases hn
 |tup ds=>
  obtain⟨a,_,rfl,_⟩:=g9 hd;exact eK hg hu hs pins s σ H [.ref a] us Q I r ⟨a,_,rfl,hd,hdp,hf,hw,q⟩
 |lst ds=>
  obtain⟨a,_,rfl,_⟩:=gS hd;exact eK hg hu hs pins s σ H [.ref a] us Q I r ⟨a,_,rfl,hd,hdp,hf,hw,q⟩
 |dk ks=>
  have h0:=hd;simp only[Dat] at h0;obtain⟨a,_,rfl,_⟩:=h0;exact eK hg hu hs pins s σ H [.ref a] us Q I r ⟨a,_,rfl,hd,hdp,hf,hw,q⟩
 |dt ks=>
  have h0:=hd;simp only[Dat] at h0;obtain⟨a,_,rfl,_⟩:=h0;exact eK hg hu hs pins s σ H [.ref a] us Q I r ⟨a,_,rfl,hd,hdp,hf,hw,q⟩
end
noncomputable def tZ:AC:=fun xs Z Q=>∃x d,xs=[x]/\cj Z x=some d/\nQ d=true/\(pyD d).depth<=90/\fit d=true/\wt d<=1000000/\Q (.d (.str (gy d))) Z
theorem kC(xs:List AV)(Z:Om)(Q:AV->Om->Prop):tZ xs Z Q=(∃x d,xs=[x]/\cj Z x=some d/\nQ d=true/\(pyD d).depth<=90/\fit d=true/\wt d<=1000000/\Q (.d (.str (gy d))) Z):=rfl
theorem dQ:jX (fun xs H Q=>∃(x:V)(d:D),xs=[x]/\Dat H d x/\nQ d=true/\(pyD d).depth<=90/\fit d=true/\wt d<=1000000/\Q (.str (gy d)) H) tZ:=⟨fun F H Z vs xs Q Q' rp rv ⟨x,d,e1,e2,e3,h1,h2,h3,q⟩ k=>by
 subst e1;obtain⟨v,rfl,r⟩:=gp rv
 exact⟨v,d,rfl,jw rp r e2,e3,h1,h2,h3,k.str rp q⟩⟩
noncomputable def zT:AE:=fun _ Z Q=>Q (.d (.dk [])) Z
theorem pI(ρ:SA)(Z:Om)(Q:AV->Om->Prop):zT ρ Z Q=Q (.d (.dk [])) Z:=rfl
theorem yL:aZ tz zT:=⟨fun F H Z σ ρ Q Q' rp rs h k p hp=>by
 obtain⟨rp2,fr2,hc⟩:=rp.lay (o:=.dK []) hp;refine k _ Z _ _ rp2 fr2 ?_ h;simp only[RV,Dat]
 exact⟨p,[],rfl,hc,rfl⟩⟩
end L2
namespace L2
open PySem PySem.Spec PyProof.Rows
open AutoSeq1 (wpAny_loadPart')
end L2
namespace L2
open PySem PySem.Spec PyProof.Rows
noncomputable def yW(i:Nat)(t:AE)(o:A2):AS:=fun D ρ Z=>∃x,ρ[i]?=some (some x)/\t ρ Z fun y Z1=>o x y Z1 fun z Z2=>D.nx (ρ.set i (some z)) Z2
theorem pE(i:Nat)(t:AE)(o:A2)(D:bx)(ρ:SA)(Z:Om):yW i t o D ρ Z=(∃x,ρ[i]?=some (some x)/\t ρ Z fun y Z1=>o x y Z1 fun z Z2=>D.nx (ρ.set i (some z)) Z2):=rfl
theorem wr{i:Nat}{te:TE}{te':AE}{r:R2}{r':A2}(h2:df r r')(h:aZ te te'):eD (ze i te r) (yW i te' r'):=⟨fun F H Z σ ρ D D' rp rs w k=>by
 obtain⟨x,e,w⟩:=w;obtain⟨v,e1,e2⟩:=rs.2 i x e;refine⟨v,e1,h.go rp rs w fun y Z1 u H1 rp1 fr1 rs1 rv1 q1=>?_⟩;refine h2.run F H1 Z1 v u x y _ _ rp1 (e2.same fr1.same) rv1 q1 fun z Z2 v2 H2 rp2 fr2 rv2 q=>?_
 exact k.nx _ Z2 _ H2 rp2 (fr1.trans fr2) ((rs1.same fr2.same).set rv2) q⟩
noncomputable def StZ(K:W.Frag)(a:Addr)(ss:List Str):Prop:=∃(its:Array Value)(n:Nat),K.lookup a=some { cls:=.type "tuple",data:=.seq its n }/\its.size<=sizeLine/\au (ss.map V.str) its.toList
noncomputable def zx(K:W.Frag)(neg:Bool):R2:=fun x y H Q=>∃(z:Str)(a:Addr)(ss:List Str),x=.str z/\y=.ref a/\SqT K H a (ss.map V.str)/\Q (.bl (neg != decide (z∈ss))) H
theorem g7(H:Hp):∀ss:List Str,ay H (ss.map D.str) (ss.map V.str)
 | []=>rfl
 |s::ss=>⟨_,_,rfl,rfl,g7 H ss⟩
theorem vf(z:Str)(ss:List Str):inD (.str z) (ss.map D.str)=decide (z∈ss):=by
 unfold inD
 induction ss with
 |nil=>rfl
 |cons n ns ih=>
  rw[List.map_cons,List.any_cons,ih];simp only[List.mem_cons];by_cases h:z=n
  ·subst h;simp[eqD]
  ·have h':¬ n=z:=fun e=>h e.symm
   simp[h,h',eqD]
section
variable{X:Cx}
theorem yY{pins:List (Addr×Obj)}{σ:St}{H:Hp}{s:Shared}(I:Inv X pins σ H s)(hu:X.A.units+100<cLine){z:Str}{v:Value}(rx:aM (.str z) v){ss:List Str}{its:List Value}(r:au (ss.map V.str) its):∀w,w∈its.toArray->SeqAt.EqAt X.A.in1 s w v (eqF H (.str z) w):=fun w hw=>by
 obtain⟨d,y,hm,rz,hz⟩:=mw (g7 H ss) r w (by simpa using hw)
 rw[sM rz hz];refine(nG I 90 d (.str z) y (.str z) w v X.A.in1 ?_ (by show X.A.units+1+90<cLine;omega) hz (by simp[Dat]) rz rx).2.1
 obtain⟨j,_,rfl⟩:=List.mem_map.mp hm;simp[dep]
theorem qq(K:W.Frag)(hK:X.K=K)(hu:X.A.units+100<cLine):OpR X (compareOp .NotIn) (zx K true):=by
 subst hK;intro pins s σ H x y v u Q I rx ry h;obtain⟨z,a,ss,rfl,rfl,hq,q⟩:=h;cases ry;obtain⟨its,r,pl,_⟩:=I.tuple hq;refine SeqAt.notIn_tupleAt (eqF H (.str z)) pl (yY I hu rx r) ⟨.bl _,H,I,rfl,?_⟩;rw[show its.toArray.any (eqF H (.str z))=its.any (eqF H (.str z)) by simp,o5 (g7 H ss) r]
 have:=vf z ss;unfold inD at this;rw[this];simpa using q
end
noncomputable def zsA(K:W.Frag)(y:AV)(ss:List Str):Prop:=(∃a,y=.r (.ref a)/\StZ K a ss)\/∃a,y=.p (.ref a) fun G=>SqT K G a (ss.map V.str)
theorem SqT.same{K:W.Frag}{G H:Hp}{a:Addr}{xs:List V}(e:cZ G H)(h:SqT K G a xs):SqT K H a xs:=by
 rcases h with h|h
 ·rcases h with h|h
  ·exact .inl (.inl (e _ _ h))
  ·obtain⟨o,h⟩:=h
   exact .inl (.inr ⟨o,e _ _ h⟩)
 ·exact .inr h
theorem wg{K:W.Frag}{F:Fs}{H:Hp}{Z:Om}{y:AV}{ss:List Str}{v:V}(h:zsA K y ss)(rv:RV (cut F H Z) y v):∃a,v=.ref a/\SqT K (cut F H Z) a (ss.map V.str):=by
 rcases h with⟨a,rfl,h⟩|⟨a,rfl⟩
 ·obtain⟨its,n,hk,hz,r⟩:=h
  exact⟨a,rv,.inr ⟨_,its,n,hk,rfl,rfl,hz,r⟩⟩
 ·exact⟨a,rv.1,rv.2 _ (cZ.refl _)⟩
noncomputable def yR(K:W.Frag)(neg:Bool):A2:=fun x y Z Q=>∃(z:Str)(ss:List Str),x=.d (.str z)/\zsA K y ss/\Q (.d (.bl (neg != decide (z∈ss)))) Z
theorem pS(K:W.Frag)(neg:Bool)(x y:AV)(Z:Om)(Q:AV->Om->Prop):yR K neg x y Z Q=(∃(z:Str)(ss:List Str),x=.d (.str z)/\zsA K y ss/\Q (.d (.bl (neg != decide (z∈ss)))) Z):=rfl
theorem yN{K:W.Frag}{neg:Bool}:df (zx K neg) (yR K neg):=⟨fun F H Z v u x y Q Q' rp h1 h2 ⟨z,ss,e1,e2,q⟩ k=>by
 subst e1;obtain⟨a,rfl,hq⟩:=wg e2 h2
 exact⟨z,a,ss,di h1,rfl,hq.same aV,k.bl rp q⟩⟩
noncomputable def zU(K:W.Frag)(te:AE)(tl th:AO):AE:=fun ρ Z Q=>te ρ Z fun x Z1=>tl ρ Z1 fun lo Z2=>th ρ Z2 fun hi Z3=>∃ss,zsA K x ss/\∀a,Q (.p (.ref a) fun G=>SqT K G a ((eW ss lo hi).map V.str)) Z3
theorem pX(K:W.Frag)(te:AE)(tl th:AO)(ρ:SA)(Z:Om)(Q:AV->Om->Prop):zU K te tl th ρ Z Q=(te ρ Z fun x Z1=>tl ρ Z1 fun lo Z2=>th ρ Z2 fun hi Z3=>∃ss,zsA K x ss/\∀a,Q (.p (.ref a) fun G=>SqT K G a ((eW ss lo hi).map V.str)) Z3):=rfl
theorem m7(ss:List Str)(lo hi:Option Int):gU (ss.map V.str) lo hi=(eW ss lo hi).map V.str:=by
 unfold gU eW;simp
theorem zn{K:W.Frag}{te:TE}{te':AE}{tl th:TO}{tl' th':AO}(he:aZ te te')(hl:Ref REq tl tl')(hh:Ref REq th th'):aZ (tSl (pU K) te tl th) (zU K te' tl' th'):=⟨fun F H Z σ ρ Q Q' rp rs w k=>
 he.go rp rs w fun x Z1 v H1 rp1 fr1 rs1 rv1 q1=>hl.go rp1 rs1 q1 fun lo Z2 lo' H2 rp2 fr2 rs2 e2 q2=>by
  cases e2;refine hh.go rp2 rs2 q2 fun hi Z3 hi' H3 rp3 fr3 rs3 e3 q3=>?_;cases e3;obtain⟨ss,hz,q⟩:=q3;obtain⟨a,rfl,hq⟩:=wg hz ((rv1.same fr2.same).same fr3.same);have f:=(fr1.trans fr2).trans fr3;refine⟨a,_,rfl,hq.same aV,?_⟩;by_cases hw:HT.sIx (ss.map V.str).length 0 lo=0/\HT.sIx (ss.map V.str).length (ss.map V.str).length hi=(ss.map V.str).length
  ·rw[if_pos hw]
   refine k (.p (.ref a) fun G=>SqT K G a ((eW ss lo hi).map V.str)) Z3 _ H3 rp3 f ⟨rfl,fun G' s=>?_⟩ (q a);rw[←m7,nH hw]
   exact hq.same s
  ·rw[if_neg hw]
   intro p hp;rw[m7];obtain⟨rp4,fr4,hc⟩:=rp3.lay (o:=.tup ((eW ss lo hi).map V.str)) hp
   exact k (.p (.ref p) fun G=>SqT K G p ((eW ss lo hi).map V.str)) Z3 _ _ rp4 (f.trans fr4) ⟨rfl,fun G' s=>.inl (.inl (s _ _ hc))⟩ (q p)⟩
noncomputable def vP(K:W.Frag):V->List V->Hp->VK->Prop:=fun x vs H Q=>∃l b xs ss,x=.ref l/\vs=[.ref b]/\H l=some (.lst xs)/\StZ K b ss/\xs.length+ss.length<=sizeLine/\Q .non (upd H l (.lst (xs++ss.map V.str)))
theorem vh{X:Cx}(K:W.Frag)(hK:X.K=K):MtM X "list.extend" (vP K):=by
 subst hK;intro pins s σ H x vs v us Q I rx rv h;obtain⟨l,b,xs,ss,rfl,rfl,hH,⟨its2,n2,hk,hz2,r2⟩,hz,q⟩:=h;cases rx;obtain⟨u,rfl,ru⟩:=rv.one;cases ru;obtain⟨z,its,n,r,hl,e⟩:=I.Bf hH;have e2:=I.kIn b _ hk;have l2:its2.size=ss.length:=by have:=r2.length;simpa using this.symm
 have hsz:its.toArray.size+its2.size<=sizeLine:=by rw[List.size_toArray];omega
 have hlong:¬ (!its.toArray.isEmpty && Builtin.List.listTooLong (its.toArray.size+its2.size))=true:=by
  rw[mo hsz,Bool.and_false];exact Bool.false_ne_true
 refine call_meets F.slot_list_extend ⟨_,e,rfl⟩ F.entry_list_extend (F.args_list_extend_2 _ _)
  (AutoSeq1.list_extend_list_tuple_0 l its.toArray n b its2 n2 hlong (by rw[List.size_toArray];omega) (by omega)) ⟨e,e2,?_⟩
 refine⟨.non,_,I.lset (its':=its++its2.toList) hH e (by simp) (r.append r2) ?_,rfl,q⟩
 rw[List.length_append,List.length_map];omega
noncomputable def wN(K:W.Frag)(to:AE)(t:AA):AE:=fun ρ Z Q=>to ρ Z fun x Z1=>∃l,x=.r (.ref l)/\(∃zs,Z1 l=some (.own zs))/\t ρ Z1 fun ys Z2=>∃xs b ss,ys=[.r (.ref b)]/\StZ K b ss/\Z2 l=some (.own xs)/\xs.length+ss.length<=sizeLine/\Q (.d .non) (Z2.put l (.own (xs++(ss.map D.str).map AV.d)))
theorem mS(K:W.Frag)(to:AE)(t:AA)(ρ:SA)(Z:Om)(Q:AV->Om->Prop):wN K to t ρ Z Q=(to ρ Z fun x Z1=>∃l,x=.r (.ref l)/\(∃zs,Z1 l=some (.own zs))/\t ρ Z1 fun ys Z2=>∃xs b ss,ys=[.r (.ref b)]/\StZ K b ss/\Z2 l=some (.own xs)/\xs.length+ss.length<=sizeLine/\Q (.d .non) (Z2.put l (.own (xs++(ss.map D.str).map AV.d)))):=rfl
theorem l6(G:Hp):∀ss:List Str,RVs G ((ss.map D.str).map AV.d) (ss.map V.str)
 | []=>rfl
 |s::ss=>⟨_,_,rfl,by simp[RV,Dat],l6 G ss⟩
theorem xU{K:W.Frag}{to:TE}{to':AE}{t:TA}{t':AA}(ho:aZ to to')(ht:fJ t t'):aZ (tBM K "list" (vP K) to t) (wN K to' t'):=⟨fun F H Z σ ρ Q Q' rp rs w k=>
 ho.go rp rs w fun x Z1 v H1 rp1 fr1 rs1 rv1 ⟨l,e,⟨zs,hz⟩,q1⟩=>by
  subst e;cases (show v=.ref l from rv1)
  obtain⟨us,z1,_⟩:=rp1.own l zs hz;refine⟨.inl ⟨rfl,us,.inl (.inl z1)⟩,ht.go rp1 rs1 q1 fun ys Z2 vs H2 rp2 fr2 rs2 rv2 ⟨xs,b,ss,e1,hs,e2,e4,q⟩=>?_⟩;subst e1;obtain⟨u,rfl,r⟩:=gp rv2;cases (show u=.ref b from r)
  obtain⟨ws,z3,z4⟩:=rp2.own l xs e2;obtain⟨rp3,fr3⟩:=rp2.write e2 (z4.append (l6 _ ss))
  exact⟨l,b,ws,ss,rfl,rfl,z3,hs,by rw[z4.length];exact e4,k _ _ _ _ rp3 ((fr1.trans fr2).trans fr3) (by simp[RV,Dat]) q⟩⟩
theorem StE.none{P:Program}{w:World}:∀ {es:List DictEntry} {kvs:List (Str×V)} {x:Str},Paired (StE w) es kvs->eX kvs x=none->findBy (aS P w).is es.toArray (Sum.inr x)=none:=by
 intro es
 induction es with
 |nil=>intro kvs x h hv;rfl
 |cons e es ih=>
  intro kvs x h hv
  cases h with
  | @cons _ p _ kvs r t=>
   obtain⟨h1,⟨tk,h2⟩,h3⟩:=r
   have hf:findBy (aS P w).is (e::es).toArray (Sum.inr x)=if eQ (Sum.inr x) e.key=true then some e.val else findBy (aS P w).is es.toArray (Sum.inr x):=by
    unfold findBy;simp only[List.find?_toArray,List.find?_cons,i8];cases eQ (Sum.inr x) e.key<;>simp
   by_cases hx:p.1=x
   ·unfold eX at hv
    rw[List.find?_cons_of_pos (by simp[hx])] at hv
    cases hv
   ·have hk:¬ eQ (Sum.inr x) e.key=true:=by
     rw[h2];intro z;rcases aU z with⟨i,t',e1,e2⟩|⟨y,t',e1,e2⟩
     ·cases e2
     ·injection e2 with e2 _
      injection e1 with e1;exact hx (e2.trans e1.symm)
    rw[hf,if_neg hk];unfold eX at hv;rw[List.find?_cons_of_neg (by simp[hx])] at hv
    exact ih t hv
noncomputable def Ag(a:Addr)(kvs:List (Str×V)):R2:=fun x y H Q=>∃z:Str,x=.str z/\y=.ref a/\Q (.bl (eX kvs z).isSome) H
theorem xO{X:Cx}{a:Addr}{kvs:List (Str×V)}(hd:StD X.w X.K a kvs)(ha:(a == sysModules)=false):OpR X (compareOp .In) (Ag a kvs):=by
 intro pins s σ H x y v u Q I rx ry h;obtain⟨z,rfl,rfl,q⟩:=h;cases ry;obtain⟨t,rfl⟩:=rx;obtain⟨ob,es,ep,hk,hx,hdat,hp⟩:=hd;have hg:s.heap.get? a=some ob:=I.kIn a ob hk;have hm:s.heap.MapOf (aS X.prog X.w) a (findBy (aS X.prog X.w).is es.toArray):=⟨ob,es.toArray,ep,hg,hx,hdat,fun e he=>StE.keys hp e (by simpa using he),fun _=>rfl⟩
 refine wpAny_in_of (knd:=aS X.prog X.w) (k:=Sum.inr z) (fo _ _ _ _) ha hm ?_
 have e:(findBy (aS X.prog X.w).is es.toArray (Sum.inr z)).isSome=(eX kvs z).isSome:=by
  cases hv:eX kvs z with
  |none=>rw[StE.none hp hv];rfl
  |some v=>
   obtain⟨u',hf,_⟩:=StE.find (P:=X.prog) hp hv;rw[hf];rfl
 rw[e];exact⟨.bl _,H,I.tok _,rfl,q⟩
noncomputable def zr(a:Addr)(kvs:List (Str×V)):A2:=fun x y Z Q=>∃z:Str,x=.d (.str z)/\y=.r (.ref a)/\Q (.d (.bl (eX kvs z).isSome)) Z
theorem oO(a:Addr)(kvs:List (Str×V))(x y:AV)(Z:Om)(Q:AV->Om->Prop):zr a kvs x y Z Q=(∃z:Str,x=.d (.str z)/\y=.r (.ref a)/\Q (.d (.bl (eX kvs z).isSome)) Z):=rfl
theorem zA{a:Addr}{kvs:List (Str×V)}:df (Ag a kvs) (zr a kvs):=⟨fun F H Z v u x y Q Q' rp h1 h2 ⟨z,e1,e2,q⟩ k=>by
 subst e1 e2
 exact⟨z,di h1,h2,k.bl rp q⟩⟩
section
open PySem.SeqAt
open PySem.AutoSeq1 (wpAny_loadPart')
open PySem.MeetsSeq PySem.MeetsSeq2 PySem.MeetsSeq3
open HT
end
end L2
namespace L2
open PySem PySem.Spec PyProof.Rows
open PySem.Builtin.Str
theorem xP(l:List Nat)(c i:Nat):subAt (tx l) (tx [c]) i=decide (l[i]?=some c):=by
 simp only[subAt,tx,Str.length];rw[Bool.eq_iff_iff,beq_iff_eq,decide_eq_true_eq];simp only[List.size_toArray,List.length_singleton,List.extract_toArray,Array.mk.injEq,List.extract_eq_drop_take];rw[show i+1-i=1 by omega]
 cases h:l.drop i with
 |nil=>
  have:l.length<=i:=List.drop_eq_nil_iff.mp h;simp[List.getElem?_eq_none this]
 |cons x xs=>
  have:l[i]?=some x:=by
   have:=congrArg (·[0]?) h
   simpa using this
  simp[this]
theorem jc{β:Type}{f:Nat->β->Id (ForInStep β)}{g:β->Nat->β}(h:∀i b,f i b=(pure (.yield (g b i)):Id _)):∀ {xs:List Nat} {b:β},(forIn xs b f:Id β)=xs.foldl g b
 | [],b=>rfl
 |x::xs,b=>by
  rw[List.forIn_cons,h];exact jc h
end L2
namespace L2
open PySem PySem.Spec PyProof.Rows
noncomputable def wB:AC:=fun xs Z Q=>∃z:Str,xs=[.d (.str z)]/\z.length<=sizeLine/\Q (.d (.int z.length)) Z
theorem l0(xs:List AV)(Z:Om)(Q:AV->Om->Prop):wB xs Z Q=(∃z:Str,xs=[.d (.str z)]/\z.length<=sizeLine/\Q (.d (.int z.length)) Z):=rfl
theorem g8{K:W.Frag}:jX (fun xs H Q=>∃x n,xs=[x]/\uY K x H n/\Q (.int n) H) wB:=⟨fun F H Z vs xs Q Q' rp rv ⟨z,e1,e2,q⟩ k=>by
 subst e1;obtain⟨v,rfl,r⟩:=gp rv;cases di r
 exact⟨_,z.length,rfl,⟨e2,rfl⟩,k.int rp q⟩⟩
noncomputable def Dk(h h':Heap):Prop:=∀(b:Nat) o,h.objs[b]?=some o->∃o',h'.objs[b]?=some o'/\o'.dict=o.dict
theorem Dk.refl(h:Heap):Dk h h:=fun b o e=>⟨o,e,rfl⟩
theorem Dk.trans{a b c:Heap}(x:Dk a b)(y:Dk b c):Dk a c:=fun i o e=>by
 obtain⟨o1,e1,d1⟩:=x i o e;obtain⟨o2,e2,d2⟩:=y i o1 e1;exact⟨o2,e2,d2.trans d1⟩
theorem Dk.push(h:Heap)(o:Obj):Dk h (h.push o):=fun i u e=>by
 obtain⟨os,l⟩:=h;have hi:i<os.size:=(Array.getElem?_eq_some_iff.mp e).1;exact⟨u,by show (os.push o)[i]?=some u;rw[Array.getElem?_push,if_neg (Nat.ne_of_lt hi)];exact e,rfl⟩
theorem Dk.upd(h:Heap)(a:Addr){f:Obj->Obj}(hf:∀o,(f o).dict=o.dict):Dk h (h.update a f):=fun i u e=>by
 obtain⟨os,l⟩:=h;show ∃o',(os.modify a f)[i]?=some o'/\_;rw[Array.getElem?_modify];have e:os[i]?=some u:=e;by_cases hi:a=i
 ·rw[if_pos hi,e];exact⟨_,rfl,hf u⟩
 ·rw[if_neg hi,e];exact⟨_,rfl,rfl⟩
theorem Dk.at{h h':Heap}(x:Dk h h'){b:Addr}{o o':Obj}(e:h.get? b=some o)(e':h'.get? b=some o'):o'.dict=o.dict:=by
 have f:∀(g:Heap) u,g.get? b=some u->g.objs[b]?=some u:=fun g u z=>by
  unfold Heap.get? at z;split at z
  ·cases z
  ·exact z
 obtain⟨u,z1,z2⟩:=x b o (f h o e);have z3:u=o':=Option.some.inj (z1.symm.trans (f h' o' e'));rw[←z3];exact z2
noncomputable def Kp{α:Type}(m:Sem α):Prop:=∀(M:Model)(Γ:PySem.Ctx)(Q:α->Pos->Shared->Prop)(E:Value->Pos->Shared->Prop)(p:Pos)(s:Shared),Sem.wp M Γ m Q E p s ->
 Sem.wp M Γ m (fun a p' s'=>Q a p' s'/\Dk s.heap s'.heap) (fun e p' s'=>E e p' s'/\Dk s.heap s'.heap) p s
section
variable{α β:Type}
theorem a9(a:α):Kp (pure a:Sem α):=fun M Γ Q E p s h=>⟨h,Dk.refl _⟩
theorem fG(x:String):Kp (unsupported x:Sem α):=fun M Γ Q E p s h=>h
theorem aP{m:Sem α}{f:α->Sem β}(hm:Kp m)(hf:∀a,Kp (f a)):Kp (m >>= f):=fun M Γ Q E p s h=>by
 rw[Sem.wp_bind'] at h ⊢;refine Sem.wp_mono M Γ m (fun a p1 s1 ⟨h1,k1⟩=>?_) (fun e p1 s1 h1=>h1) p s (hm M Γ _ _ p s h);exact Sem.wp_mono M Γ _ (fun b p2 s2 ⟨h2,k2⟩=>⟨h2,k1.trans k2⟩) (fun e p2 s2 ⟨h2,k2⟩=>⟨h2,k1.trans k2⟩) p1 s1 (hf a M Γ Q E p1 s1 h1)
theorem eB{c:Prop}[Decidable c]{a b:Sem α}(ha:Kp a)(hb:Kp b):Kp (if c then a else b):=by split<;>assumption
theorem kU(a:Addr):Kp (load a):=fun M Γ Q E p s h=>by
 obtain⟨o,ho,h⟩:=h;exact⟨o,ho,h,Dk.refl _⟩
theorem kP(a:Addr){f:Obj->Obj}(hf:∀o,(f o).dict=o.dict):Kp (update a f):=fun M Γ Q E p s h=>by
 obtain⟨ha,h⟩:=h;exact⟨ha,h,Dk.upd _ _ hf⟩
theorem rS(o:Obj):Kp (alloc o):=fun M Γ Q E p s h=>⟨h,Dk.push _ _⟩
theorem jB:Kp stack:=fun M Γ Q E p s h=>⟨h,Dk.refl _⟩
end
theorem ug(f:Array Value->Array Value)(o:Obj):(Obj.mapFields f o).dict=o.dict:=by
 obtain⟨c,d,dt,sl⟩:=o;cases dt<;>rfl
theorem mR(v:Value):Kp (fieldsOf v):=by
 unfold fieldsOf;split
 ·refine aP (kU _) fun o=>?_
  split
  ·exact a9 _
  ·exact fG _
 ·exact fG _
theorem gH(v:Value)(i:Nat):Kp (field v i):=by
 unfold field;refine aP (mR v) fun o=>?_;split
 ·exact a9 _
 ·exact fG _
theorem fm(v:Value)(i:Nat)(x:Value):Kp (setField v i x):=by
 unfold setField;split
 ·unfold updateField
  refine aP (kU _) fun o=>?_;split
  ·exact eB (kP _ (ug _)) (fG _)
  ·exact fG _
 ·exact fG _
theorem eG(e:Value)(f:Option Addr):Kp (setFlight e f):=by
 unfold setFlight;exact aP (gH _ _) fun tb=>eB (fm _ _ _) (a9 _)
theorem qz(env:Env)(outer:List Env):Kp (behindIsImport env outer):=by
 unfold behindIsImport;refine eB (a9 _) (eB (a9 _) ?_);exact aP (gH _ _) fun _=>a9 _
theorem sh:Kp underTheClaimsCaller:=by
 unfold underTheClaimsCaller;exact aP jB fun _=>a9 _
theorem vC(env:Env)(i:Bool):∀l:List Env,Kp (keptBack env i l)
 | []=>by
  unfold keptBack;exact eB (a9 _) (aP sh fun _=>a9 _)
 |c::l=>by unfold keptBack;exact a9 _
theorem lN:∀l:List Env,Kp (readyFrames l)
 | []=>by unfold readyFrames;exact a9 _
 |env::outer=>by
  unfold readyFrames;split
  ·refine aP (kU _) fun o=>eB (a9 _) ?_
   exact aP (qz _ _) fun _=>aP (vC _ _ _) fun _=>aP (kP _ fun o=>rfl) fun _=>lN outer
  ·exact fG _
theorem nL(env:Env):Kp (PySem.frameOf env):=by
 unfold PySem.frameOf;refine aP (aP jB fun _=>a9 _) fun l=>aP ?_ fun o=>?_
 ·cases l.dropWhile (fun x=>x.frame != env.frame) with
  |nil=>unfold frameObject;exact a9 _
  |cons e r=>unfold frameObject;exact aP (lN _) fun _=>a9 _
 ·split
  ·exact a9 _
  ·exact fG _
theorem sW(f:Addr)(b:Bool):Kp (entryPlaceOf f b):=by
 unfold entryPlaceOf;refine aP jB fun l=>?_;split<;>exact a9 _
theorem oP(n:String)(d:Data):Kp (newObjAsIs (.type n) d):=by
 unfold newObjAsIs;exact aP (rS _) fun _=>a9 _
theorem uh(a b c d e:Value)(l:List Value):Kp (EntryCells.newEntry a b c d e l):=by
 unfold EntryCells.newEntry newFields newObj;dsimp only;exact eB (aP (fG _) fun _=>oP _ _) (oP _ _)
theorem p5(e:Value)(env:Env):Kp (noteFrame e env):=by
 unfold noteFrame;split
 ·rename_i f hf
  refine aP (gH _ _) fun hd=>?_;have fin:Kp (do setField e 1 (← EntryCells.newEntry hd (← PySem.frameOf env) .none (rawInt f) .none (← entryPlaceOf f (hd != .none)))):=aP (nL _) fun _=>aP (sW _ _) fun _=>aP (uh _ _ _ _ _ _) fun _=>fm _ _ _
  exact eB (aP (gH _ _) fun _=>eB (a9 _) (aP (fm _ _ _) fun _=>fin)) fin
 ·exact fG _
theorem iV(env:Env)(e:Value):Kp (leaving env e):=by
 unfold leaving;exact aP (p5 _ _) fun _=>eG _ _
theorem nj{α:Type}{M:Model}{A:Around}{m:Sem α}{Q:α->Shared->Prop}{E:Value->Shared->Prop}{s:Shared}(k:Kp m)(h:wpAny M A m Q E s):wpAny M A m (fun a s'=>Q a s'/\Dk s.heap s'.heap) (fun e s'=>E e s'/\Dk s.heap s'.heap) s:=
 fun Γ p hΓ=>k M Γ _ _ p s (h Γ p hΓ)
noncomputable def gJ(h:Heap)(C fI:Addr):Prop:=∃nm q N bs bm hd sn sub ab col dd k0 k1 k2 k3 k5 mN oI,h.get? C=some (excClassObj nm q C N bs bm hd sn sub ab col dd k0 k1 k2 k3 k5 "ValueError.__new__")/\h.Ns N mN/\mN "__init__"=some (.ref fI)/\OwnTail h gR bm/\h.get? fI=some oI/\oI.cls=.type "function"
theorem gJ.keeps{h h':Heap}{C fI:Addr}(x:gJ h C fI)(k:∀b o,h.get? b=some o->h'.get? b=some o):gJ h' C fI:=by
 obtain⟨nm,q,N,bs,bm,hd,sn,sub,ab,col,dd,k0,k1,k2,k3,k5,mN,oI,x1,x2,x3,x4,x5,x6⟩:=x;exact⟨nm,q,N,bs,bm,hd,sn,sub,ab,col,dd,k0,k1,k2,k3,k5,mN,oI,k _ _ x1,x2.keeps k,x3,x4.keeps k,k _ _ x5,x6⟩
section
variable{prog:Program}{w:World}{A:Around}{E:Value->Shared->Prop}{h:Heap}{g:Array GenState}{d:Drawn}{t:Nat}{os:OsState}{C fI:Addr}{dg:List Value}
theorem n9{Q:Fin->Shared->Prop}(x:gJ h C fI)(hrest:dg.length<=sizeLine)(hq:∀h' e,Heap.MadeExcOf h h' e (.ref C) dg->wpAny (model prog w) A (call (.ref fI) (.ref e::dg)) (fun r s'=>r=.none/\Q (.done (.ret (.ref e))) s') E ⟨h',g,d,t,os⟩):
  wpAny (model prog w) A (Builtin.«type.__call__» ⟨.ref C::dg,[]⟩) Q E ⟨h,g,d,t,os⟩:=by
 obtain⟨nm,q,N,bs,bm,hd,sn,sub,ab,col,dd,k0,k1,k2,k3,k5,mN,oI,hC,hn,hi,T,hfI,hfc⟩:=x;have F:=PySem.F.excBase_ValueError
 repeat (first|with_reducible refine wpAny_loadPart_at hC ?_|with_reducible refine wpAny_madeBy_exc hC ?_|wp_step)
 refine codeAny_call_builtin_code (Code.quiet_builtin _ F.quiet) (wpAny_check_new_subU F (by decide) T hC ?_)
 refine codeAny_exc_new_subU F (by decide) F T hC ?_ hrest
 show wpAny _ _ _ _ _ _;generalize hp:((h.push { cls:=.type "tuple",data:=.seq dg.toArray }).push { cls:=.ref C,data:=.fields #[.ref h.objs.size,.none,.none,.none,.bool false,.none] })=hh;have kp:∀b o,h.get? b=some o->hh.get? b=some o:=fun b o z=>by rw[←hp];exact Heap.get?_push_of_some _ (Heap.get?_push_of_some _ z)
 have ge:hh.get? (h.objs.size+1)=some { cls:=.ref C,data:=.fields #[.ref h.objs.size,.none,.none,.none,.bool false,.none] }:=by rw[←hp];heap_get
 have gt:hh.get? h.objs.size=some { cls:=.type "tuple",data:=.seq dg.toArray }:=by rw[←hp];exact Heap.get?_push_of_some _ (Heap.get?_push_at rfl rfl)
 have hC1:=kp _ _ hC;have hn1:=hn.keeps kp;have T1:=T.keeps kp;have own:(Value.ref C::bm).contains (.ref C)=true:=by simp
 unfold isInstance
 repeat (first|with_reducible refine wpAny_loadPart_at ge ?_|(with_reducible refine wpAny_isSubtype_exc hC1 ?_;rw[own])|wp_step)
 show wpAny _ _ (typeLookup (.ref C) _) _ _ _;refine wpAny_typeLookup_tail hC1 hn1 T1 F.mroIs F.init.lookup ?_;rw[hi];refine wpAny_holding (wpAny_bind ?_);unfold bindSpecial;refine wpAny_bind (wpAny_typeOf (T:="function") ⟨_,kp _ _ hfI,hfc⟩ ?_);rw[if_pos (by decide)]
 refine wpAny_pure (wpAny_bind (wpAny_mono (hq hh (h.objs.size+1) ⟨kp,Heap.get?_none_of_le (Nat.le_succ _),h.objs.size,ge,Heap.get?_none_of_le (Nat.le_refl _),gt⟩) (fun r s' hr=>?_) fun _ _ z=>z));obtain⟨rfl,z⟩:=hr
 wp_walk
 exact z
theorem jJ{Q:Value->Shared->Prop}(x:gJ h C fI)(hrest:dg.length<=sizeLine)(hq:∀h' e,Heap.MadeExcOf h h' e (.ref C) dg->wpAny (model prog w) (A.under (.builtin "type.__call__" ⟨.ref C::dg,[]⟩)) (call (.ref fI) (.ref e::dg)) (fun r s'=>r=.none/\Q (.ref e) s') E ⟨h',g,d,t,os⟩):
  wpAny (model prog w) A (call (.ref C) dg) Q E ⟨h,g,d,t,os⟩:=by
 obtain⟨nm,q,N,bs,bm,hd,sn,sub,ab,col,dd,k0,k1,k2,k3,k5,mN,oI,hC,_⟩:=id x;have f1:=tc_lookup;have f2:=tc_bind (.ref C);have hT:(⟨h,g,d,t,os⟩:Shared).TypeIs (.ref C) "type":=⟨_,hC,rfl⟩;refine wpAny_call (codeAny_of_tree ?_);show wpAny _ _ (callAny (.ref C) _) _ _ _
 repeat (any_goals (first|assumption|with_reducible refine wpAny_loadPart_at hC ?_|wp_step))
 refine⟨rfl,codeAny_call_builtin_at (Code.quiet_builtin _ (by decide +kernel)) entry_typeCall (wpAny_check_type_call_sub hC (n9 x hrest hq))⟩
end
end L2
namespace L2
open PySem PySem.Spec PySem.Calls PyProof.Rows PySem.W PySem.Builtin PySem.Builtin.ObjectAttr
noncomputable def s9:List Value->Bool
 |.ref _::r=>s9 r
 |l=>l == gR
theorem ko:∀ {l:List Value},s9 l=true->l.contains (.type "object")=true/\∀self:Value,refuseLoop self "__setattr__" l=pure ()
 |.ref c::r,e=>by
  obtain⟨a,b⟩:=ko (l:=r) e;exact⟨by rw[List.contains_cons,a,Bool.or_true],fun self=>by rw[refuseLoop_ref];exact b self⟩
 | [],e=>by cases e
 |.type n::r,e=>by
  have e:Value.type n::r=gR:=beq_iff_eq.mp e;rw[e];exact⟨by decide,PySem.F.store_ValueError.passes⟩
 |.none::r,e=>by cases beq_iff_eq.mp (show (Value.none::r == gR)=true from e)
 |.bool _::r,e=>by cases beq_iff_eq.mp (show (Value.bool _::r == gR)=true from e)
 |.int _ _::r,e=>by cases beq_iff_eq.mp (show (Value.int _ _::r == gR)=true from e)
 |.float _ _::r,e=>by cases beq_iff_eq.mp (show (Value.float _ _::r == gR)=true from e)
 |.str _ _::r,e=>by cases beq_iff_eq.mp (show (Value.str _ _::r == gR)=true from e)
 |.bytes _ _::r,e=>by cases beq_iff_eq.mp (show (Value.bytes _ _::r == gR)=true from e)
 |.ellipsis::r,e=>by cases beq_iff_eq.mp (show (Value.ellipsis::r == gR)=true from e)
 |.notImplemented::r,e=>by cases beq_iff_eq.mp (show (Value.notImplemented::r == gR)=true from e)
 |.builtin _::r,e=>by cases beq_iff_eq.mp (show (Value.builtin _::r == gR)=true from e)
noncomputable def m5(K:Frag)(C:Addr)(name:Str):Bool:=(clsIn K C).any (fun cd=>s9 cd.mro && cd.hasDict) && findIn K (.ref C) "__setattr__" == some (some (.builtin "object.__setattr__")) && findIn K (.ref C) name == some none
section
variable{prog:Program}{w:World}{A:Around}{E:Value->Shared->Prop}{s:Shared}{K:Frag}{x C:Addr}{o:Obj}{name:Str}{v:Value}
theorem vt{Q:Unit->Shared->Prop}(X:K.In s.heap)(hx:s.heap.get? x=some o)(hc:o.cls=.ref C)(hd:o.dict=none)(hf:∃vs,o.data=.fields vs)(ok:m5 K C name=true)(h:∀(h':Heap)(tk:Nat),h'.get? x=some { o with dict:=some s.heap.objs.size }->h'.Ns1 s.heap.objs.size (fun y=>if y=name then some v else none)->(∀b u,b≠x->s.heap.get? b=some u->h'.get? b=some u)->Q () { s with heap:=h',toks:=tk }):
  wpAny (model prog w) A (setAttr (.ref x) name v) Q E s:=by
 unfold m5 at ok;simp only[Bool.and_eq_true,beq_iff_eq] at ok;obtain⟨⟨hcd,hsa⟩,hna⟩:=ok;obtain⟨cd,hcd,hm⟩:=any_some hcd;simp only[Bool.and_eq_true] at hm;obtain⟨ho,hh⟩:=hm;obtain⟨has,pass⟩:=ko ho;obtain⟨vs,hf⟩:=hf;have I:InstAt s.heap x o C none:=⟨hx,hc,by unfold notCls;rw[hf],by rw[hd];trivial⟩
 refine set_plain X I hsa ?_;have SF:=PySem.F.store_object;have ne:cd.mro.isEmpty=false:=by cases q:cd.mro with|nil=>rw[q] at ho;cases ho|cons _ _=>rfl
 have sub:Looks (model prog w) s.heap (isInstance (.ref x) (.type "object")) true:=I.type.andThen (looks_mroIn X (by unfold mroIn;rw[hcd,Option.bind_some,if_neg (by rw[ne];decide),has]))
 refine codeAny_call_builtin SF.slot.plain SF.entry (@check_slot (model prog w) _ _ { s with toks:=s.toks+1 } "object.__setattr__" "object" "__setattr__" (.ref x) [.str name s.toks,v] [] _ SF.kind SF.split sub (SF.args (.ref x) (.str name s.toks) v) ?_);have hm:Looks (model prog w) s.heap (mroOf (.ref C)) cd.mro:=(looks_clsIn X hcd).andThen .now;rw[osa_eq,refuse_eq];refine wpAny_bind (wpAny_bind (Looks.here (s:={ s with toks:=s.toks+1 }) I.type (wpAny_bind (Looks.here (s:={ s with toks:=s.toks+1 }) hm ?_))))
 rw[pass];refine wpAny_pure (wpAny_bind (Looks.here (s:={ s with toks:=s.toks+1 }) I.type (wpAny_bind (Looks.here (s:={ s with toks:=s.toks+1 }) (looks_findIn X hna) (wpAny_bind (wpAny_pure ?_))))));show wpAny _ _ (storeInOwnDict (.ref x) (.ref C) (.str name s.toks) name v false) _ _ _;unfold storeInOwnDict ownDictForStores instanceDict;refine wpAny_bind (wpAny_pure ?_);rw[if_neg (show ¬ (Value.ref C == Value.type "module")=true from Bool.false_ne_true)]
 refine wpAny_bind (wpAny_bind (wpAny_loadPart hx ?_));rw[hc];refine wpAny_bind (Looks.here (s:={ s with toks:=s.toks+1 }) (looks_clsIn X hcd) ?_);rw[hh,if_neg (by decide)]
 dsimp only;rw[hd,hf];dsimp only;rw[if_neg (show ¬ (!true || !typeHasDict (.ref C))=true from Bool.false_ne_true)]
 have hxs:x≠s.heap.objs.size:=Nat.ne_of_lt (Heap.lt_size hx)
 have fr:(⟨o.cls,some s.heap.objs.size,o.data,o.slots⟩:Obj).isFreed=false:=by
  unfold Obj.isFreed;rw[hf]
 have x1:(s.heap.push { cls:=.type "dict",data:=.dict #[] }).get? x=some o:=Heap.get?_push_of_some _ hx;refine wpAny_bind (wpAny_alloc ?_);refine wpAny_bind (wpAny_update x1 (wpAny_pure ?_));generalize hg:((s.heap.push { cls:=.type "dict",data:=.dict #[] }).update x fun o=>{ cls:=o.cls,dict:=some s.heap.objs.size,data:=o.data,slots:=o.slots })=hp
 have gx:hp.get? x=some { o with dict:=some s.heap.objs.size }:=by
  rw[←hg]
  exact Heap.get?_update_self _ x1 fr
 have gd:hp.get? s.heap.objs.size=some { cls:=.type "dict",data:=.dict #[] }:=by
  rw[←hg]
  exact(Heap.get?_update_ne _ _ _ _ hxs.symm).trans (Heap.get?_push_at rfl rfl)
 have gb:∀b u,b≠x->s.heap.get? b=some u->hp.get? b=some u:=fun b u hb z=>by
  rw[←hg]
  exact(Heap.get?_update_ne _ _ _ _ hb).trans (Heap.get?_push_of_some _ z)
 have nd:hp.Ns s.heap.objs.size (fun _=>none):=⟨_,#[],_,gd,rfl,fun e he=>absurd he (by simp),fun _=>rfl⟩
 show wpAny _ _ (storeInDict s.heap.objs.size (.str name s.toks) name v) _ _ _;unfold storeInDict newKeyGuard;refine wpAny_bind (wpAny_pure (wpAny_bind (wpAny_nsSet1 (Heap.Ns1.of_empty nd) fun h' hn' hs=>?_)));obtain⟨oD,esD,epD,hoD,hdD,hcD⟩:=hn'.count (PySem.Within.cons name v PySem.Within.nil);refine wpAny_bind (wpAny_lookBehind hoD (by rw[hdD];exact pastItsLine_dict (Nat.le_trans hcD (by rw[List.length_cons,List.length_nil,sizeLine_eq];omega))) (wpAny_pure ?_))
 exact h h' _ ((hs.2 x hxs).trans gx) hn' fun b u hb z=>(hs.2 b (Nat.ne_of_lt (Heap.lt_size z))).trans (gb b u hb z)
structure xS(h h':Heap)(e:Addr)(o:Obj)(v:Value):Prop where
 at_:∃dx,h'.get? e=some { o with dict:=some dx }/\h'.Ns1 dx (fun y=>if y=("at":Str) then some v else none)/\h.get? dx=none/\h.objs.size<=dx
 keep:∀b u,b≠e->h.get? b=some u->h'.get? b=some u
theorem lW{qual:Str}{st:Stmt}{f:Addr}{fd:FuncData}{Q:Value->Shared->Prop}(F:Fun K "__init__" qual st f fd)(S:aK ["self","at"] ["self","at"] (defScope st))(l1:(defScope st).names.lookup ("self":Str)=some .local)(l2:(defScope st).names.lookup ("at":Str)=some .local)(hb:bt K fd ["self","at"] [])(body:∃p1 p2 p3 p4,defBody st=[.Assign [.Attribute (.Name "self" p1) "at" p2] (.Name "at" p3) p4])(X:K.In s.heap)(lim:s.heap.NoLimit)(hr:A.depth<recursionLimit)(hx:s.heap.get? x=some o)(hc:o.cls=.ref C)(hd:o.dict=none)(hf:∃vs,o.data=.fields vs)(ok:m5 K C "at"=true)(h:∀(h':Heap)(tk:Nat),xS s.heap h' x o v->Q .none { s with heap:=h',toks:=tk }):wpAny (model prog w) A (call (.ref f) [.ref x,v]) Q E s:=by
 obtain⟨oc,od,kV,doc,pm,an,cdv,ct,osl,rfl,lk,hcd⟩:=F.ex;obtain⟨p1,p2,p3,p4,hbd⟩:=body
 have hkind:∀y∈(["self","at"]:List Str).zip [Value.ref x,v],(defScope st).names.lookup y.1=some .local\/((defScope st).names.lookup y.1=some .cell/\((cellsFrom (s.heap.objs.size+1) (defScope st).names []).lookup y.1).isSome=true):=fun y hy=>by
  simp only[List.zip_cons_cons,List.zip_nil_right,List.mem_cons,List.not_mem_nil,or_false] at hy;rcases hy with rfl|rfl
  ·exact .inl l1
  ·exact .inl l2
 refine wpAny_call (codeAny_call_function hr (X _ _ lk) rfl S.co S.gen rfl (W.codeRec_of X hcd) (hb s [.ref x,v] X rfl _ _ _ _ ?_));refine wpAny_newFunctionEnv_cells S.kind hkind fun env he s1 y=>?_;have es:env.scope=defScope st:=by rw[he];rfl
 clear he;refine⟨lim.keeps y.toInCall.keep,codeAny_func ?_⟩;obtain⟨h1,tk,rfl,hk⟩:=y.done;have ns:=y.toInCall.ns;have k1:env.scope.names.lookup ("self":Str)=some .local:=by rw[es];exact l1
 have k2:env.scope.names.lookup ("at":Str)=some .local:=by rw[es];exact l2
 have kd:env.scope.kind=.function:=by rw[es];exact S.kind
 have m1:=fD (kindOf:=env.kindOf) (x:=("self":Str)) (P:=["self","at"]) (vs:=[Value.ref x,v]) (i:=0) (m:=fun _=>none) S.nd rfl rfl k1;have m2:=fD (kindOf:=env.kindOf) (x:=("at":Str)) (P:=["self","at"]) (vs:=[Value.ref x,v]) (i:=1) (m:=fun _=>none) S.nd rfl rfl k2;rw[hbd];refine wpAny_execs_cons (plainObj_wpAny_Assign_Attribute ?_);refine wpAny_Name (wpAny_loadName_local kd k2 ns m2 ?_) (by decide)
 refine wpAny_Name (wpAny_loadName_local kd k1 ns m1 ?_) (by decide)
 refine vt (X.keeps hk) (hk _ _ hx) hc hd hf ok fun h' tk' g1 g2 g3=>wpAny_execs_nil ?_
 have big:s.heap.objs.size<=h1.objs.size:=by
  obtain⟨oL,_,_,gL,_⟩:=ns;exact Nat.le_of_lt (Nat.lt_of_le_of_lt y.toInCall.fresh (Heap.lt_size gL))
 exact h h' tk' ⟨⟨_,g1,g2,Heap.get?_none_of_le big,big⟩,fun b u hb z=>g3 b u hb (hk b u z)⟩
end
end L2
namespace L2
open PySem PySem.Spec PyProof.Rows PySem.W
noncomputable def enC(C n:Nat):Nat:=(C+n)*(C+n)+n
theorem sZ{a b c d:Nat}(h:a+b<c+d):enC a b<enC c d:=by
 have h1:(a+b+1)*(a+b+1)<=(c+d)*(c+d):=Nat.mul_le_mul h h
 have h2:(a+b+1)*(a+b+1)=(a+b)*(a+b)+(a+b)+(a+b)+1:=by
  rw[Nat.add_mul,Nat.mul_add];omega
 unfold enC;omega
theorem u4{a b c d:Nat}(h:enC a b=enC c d):a=c/\b=d:=by
 rcases Nat.lt_trichotomy (a+b) (c+d) with z|z|z
 ·have:=sZ z;omega
 ·unfold enC at h;rw[z] at h;omega
 ·have:=sZ z;omega
noncomputable def atM(n:Nat)(tk:Tok):Str->Option Value:=fun y=>if y=("at":Str) then some (.int n tk) else none
structure l4(h:Heap)(e dx:Addr)(n:Nat):Prop where
 ob:∃o,h.get? e=some o/\o.dict=some dx
 ns:∃tk,h.Ns1 dx (atM n tk)
theorem ql{h h':Heap}{a:Addr}{m:Str->Option Value}(x:h.UpToSlots h')(hn:h.Ns1 a m):h'.Ns1 a m:=by
 obtain⟨o,es,ep,ho,hd,r⟩:=hn;obtain⟨sl,hs⟩:=x a o ho fun vs q=>by rw[hd] at q;cases q
 exact⟨_,es,ep,hs,hd,r⟩
theorem l4.on{h h':Heap}{e dx:Addr}{n:Nat}(x:l4 h e dx n)(u:h.UpToSlots h')(k:Dk h h')(th:∃o,h'.get? e=some o):l4 h' e dx n:=by
 obtain⟨o,e1,e2⟩:=x.ob;obtain⟨o',e3⟩:=th;obtain⟨tk,z⟩:=x.ns;exact⟨⟨o',e3,(k.at e1 e3).trans e2⟩,tk,ql u z⟩
noncomputable def CXn(P:Program)(w:World):CXT:=fun outer H s E e s'=>∃(a C t n dx:Addr)(H':Hp)(B:Heap),e=.ref a/\s'.os=s.os/\AllBare s'.gens/\Un (frs outer) [] H H' s.heap s'.heap/\HOk P w H' B /\
 Heap.FlyingW B outer a (.ref C) (.ref t) s'.heap/\(∀b o,s.heap.get? b=some o->H b=none->b ∉ frs outer->B.get? b=some o)/\(∀b o,s.heap.get? b=some o->b ∉ frs outer->∃o',B.get? b=some o')/\l4 s'.heap a dx n/\B.get? dx=none/\dx ∉ frs outer/\E (.ref a) (some (enC C n)) H'
structure y6(h h':Heap)(e C t n dx:Addr):Prop where
 keeps:∀b o,h.get? b=some o->h'.get? b=some o
 new:h.get? e=none
 there:h'.get? e=some ⟨.ref C,some dx,.fields #[.ref t,.none,.none,.none,.bool false,.none],#[]⟩
 dnew:h.get? dx=none
 ns:∃tk,h'.Ns1 dx (atM n tk)
section
variable{P:Program}{w:World}{K:W.Frag}{mg:Str->Option Value}{base:Heap}{N:List Str}{qual:Str}{scope:Scope}{f:Addr}{cd:Value}{A:Around}{outer:List Env}{s₀:Shared}{H₀:Hp}{E:XK}
theorem jY{pins:List (Addr×Obj)}{σ:St}{H:Hp}{s1:Shared}{h':Heap}{tk:Nat}{e C t n dx:Addr}(I:Inv (d9 (CXn P w) P w K mg base N qual scope f cd A outer s₀ H₀ E) pins σ H s1)(hx:y6 s1.heap h' e C t n dx)(hE:E (.ref e) (some (enC C n)) H):
  (d9 (CXn P w) P w K mg base N qual scope f cd A outer s₀ H₀ E).xe (.ref e) { s1 with heap:=h',toks:=tk }:=by
 have hfr:(A.deeper (envOfC qual scope s₀.heap.objs.size f cd)).frames=some (envOfC qual scope s₀.heap.objs.size f cd::outer):=I.ok.frames;have sf:∀b,b∈frs (envOfC qual scope s₀.heap.objs.size f cd::outer)->H b=none:=fun b hm=>I.A9 b hm;have hst:s1.heap.FunFrames base (envOfC qual scope s₀.heap.objs.size f cd::outer):=I.stack;show wpAny _ (A.deeper (envOfC qual scope s₀.heap.objs.size f cd)) (leaving (envOfC qual scope s₀.heap.objs.size f cd) (.ref e)) _ _ _
 have hF:(envOfC qual scope s₀.heap.objs.size f cd).frame=some s₀.heap.objs.size:=rfl;generalize envOfC qual scope s₀.heap.objs.size f cd=en at hfr sf hst hF ⊢;have hin:∀env∈(en::outer),∀b,env.frame=some b->b∈frs (en::outer):=fun env he b hb=>List.mem_filterMap.mpr ⟨env,he,hb⟩
 have hfs:∀b,b∈frs (en::outer)->b=s₀.heap.objs.size\/b∈frs outer:=fun b hb=>by
  obtain⟨env,he,hf⟩:=List.mem_filterMap.mp hb;rcases List.mem_cons.mp he with rfl|he
  ·rw[hF] at hf;exact .inl (Option.some.inj hf).symm
  ·exact .inr (List.mem_filterMap.mpr ⟨env,he,hf⟩)
 have hB:∀b o,s1.heap.get? b=some o->b≠s₀.heap.objs.size->b ∉ frs outer->(hideAll s1.heap (frs (en::outer))).get? b=some o:=fun b o hb h1 h2=>hideAll_get _ hb fun hm=>(hfs b hm).elim h1 h2;have lt0:∀b o,s₀.heap.get? b=some o->b≠s₀.heap.objs.size:=fun b o hb=>Nat.ne_of_lt (Heap.lt_size hb);have nex:∀b:Addr,b ∉ (d9 (CXn P w) P w K mg base N qual scope f cd A outer s₀ H₀ E).ex:=fun b z=>absurd (show b∈([]:List Addr) from z) (by simp)
 have low:∀b o,(hideAll s1.heap (frs (en::outer))).get? b=some o->s1.heap.get? b=some o:=fun b o q=>of_hideAll _ q
 have fresh:∀b,s1.heap.get? b=none->(hideAll s1.heap (frs (en::outer))).get? b=none:=fun b hb=>by
  cases hq:(hideAll s1.heap (frs (en::outer))).get? b with
  |none=>rfl
  |some o'=>have:=low b o' hq;rw[hb] at this;cases this
 have inS:∀b,b∈frs (en::outer)->∃o,s1.heap.get? b=some o/\∀vs,o.data≠.fields vs:=fun b hb=>by
  obtain⟨_,o2,q2,nf⟩:=hst.mem (b:=b) hb;exact⟨o2,q2,nf⟩
 have FF:=funFrames_hide hst hin;have hB2:∀b o,s1.heap.get? b=some o->b ∉ frs (en::outer)->(hideAll s1.heap (frs (en::outer))).get? b=some o:=fun b o hb h1=>hideAll_get _ hb h1;generalize hideAll s1.heap (frs (en::outer))=B at hB low fresh FF hB2;refine wpAny_mono (nj (iV _ _) (wpAny_leaving_firstW (s:={ s1 with heap:=h',toks:=tk }) (E:=fun _ _=>False) (Q:=fun _ s''=>∃h'',Heap.LeftW B (en::outer) e (.ref C) (.ref t) h' h''/\s''={ s1 with heap:=h'',toks:=tk }) (base:=B) (a0:=.ref t) hfr (FF.of_keeps fun b o hb _=>⟨o,hx.keeps b o hb,rfl⟩) hF hx.there (fun b o hb=>hx.keeps b o (low b o hb)) (fresh e hx.new) rfl rfl rfl fun h'' hL=>⟨h'',hL,rfl⟩)) (fun _ s'' z=>?_) fun _ _ z=>z.1.elim
 obtain⟨⟨h'',⟨k1,⟨_,_,k2⟩,k3,k4⟩,rfl⟩,kd⟩:=z;have keep:∀b o,s₀.heap.get? b=some o->H₀ b=none->b ∉ frs outer->B.get? b=some o:=fun b o hb hn ho=>hB b o (I.base.keep b o hb hn ho (nex b)) (lt0 b o hb) ho
 have there:∀b o,s₀.heap.get? b=some o->b ∉ frs outer->∃o',B.get? b=some o':=fun b o hb ho=>by
  obtain⟨o',q⟩:=I.base.there b o hb (nex b);exact⟨o',hB b o' q (lt0 b o hb) ho⟩
 have up:∀b,b∈frs outer->b∈frs (en::outer):=fun b ho=>by
  obtain⟨env,he,hf⟩:=List.mem_filterMap.mp ho;exact List.mem_filterMap.mpr ⟨env,List.mem_cons_of_mem _ he,hf⟩
 have slot:∀b o,s₀.heap.get? b=some o->H₀ b=none->b∈frs outer->∃sl,h''.get? b=some { o with slots:=sl }:=fun b o hb hn ho=>by
  obtain⟨sl,q⟩:=I.base.slot b o hb hn ho (nex b);obtain⟨o2,q2,nf⟩:=inS b (up b ho);rw[q] at q2;cases q2;obtain⟨sl2,q3⟩:=k4 b _ (hx.keeps b _ q) nf;exact⟨sl2,q3⟩
 have be:l4 h' e dx n:=⟨⟨_,hx.there,rfl⟩,hx.ns⟩
 have dnf:dx ∉ frs outer:=fun hm=>by
  obtain⟨o2,q2,_⟩:=inS dx (up dx hm);rw[hx.dnew] at q2;cases q2
 refine⟨e,C,t,n,dx,H,B,rfl,I.os,I.bare,⟨fun b o hb hn ho _=>k1 b o (keep b o hb hn ho),fun b o hb hn ho _=>slot b o hb hn ho,fun b o hb hn _=>I.base.free b o hb hn (nex b),fun b o hb _=>?_,I.base.tups,I.base.frzs,I.base.tbls⟩,?_,⟨k1,fresh e hx.new,k2,k3⟩,keep,there,be.on k4 kd ⟨_,(Heap.TracedAtW.there k3.at).choose_spec.1⟩,fresh dx hx.dnew,dnf,hE⟩
 ·by_cases ho:b∈frs outer
  ·by_cases hn:H₀ b=none
   ·obtain⟨sl,q⟩:=slot b o hb hn ho
    exact⟨_,q⟩
   ·exact absurd (I.ok.frf b ho) hn
  ·obtain⟨o',q⟩:=there b o hb ho
   exact⟨o',k1 b o' q⟩
 ·intro b o ha
  refine(I.hok b o ha).stay (fun c u hc q=>hB2 c u q fun hm=>?_) (fun _ q=>q) (fun _ _ q=>q) fun _ _ _ q=>q;have z:=sf c hm;rcases hc with rfl|hc
  ·rw[ha] at z;cases z
  ·rw[hc] at z;cases z
end
theorem ku{X:Cx}{en:Env}{E:XK}(hS:X.stack=en::X.outer)(hF:en.frame=some X.s₀.heap.objs.size)(hX:X.ex=[]){pins:List (Addr×Obj)}{σ:St}{H:Hp}{s1:Shared}{e:Value}{s2:Shared}(I:Inv X pins σ H s1)(hc:CXn X.prog X.w X.stack H s1 E e s2):
  wpAny (model X.prog X.w) X.A (leaving en e) (fun _ s''=>CXn X.prog X.w X.outer X.H₀ X.s₀ E e s'') (fun e' s''=>CXn X.prog X.w X.outer X.H₀ X.s₀ E e' s'') s2:=by
 obtain⟨a,C,t,n,dx,H',B,rfl,os,bare,un,hok,fl,keep,there,be,dB,dF,hE⟩:=hc;rw[hS] at un fl keep there dF;have hfr:X.A.frames=some (en::X.outer):=by rw[←hS];exact I.ok.frames
 have hst:s1.heap.FunFrames X.base (en::X.outer):=by rw[←hS];exact I.stack
 have nex:∀b:Addr,b ∉ X.ex:=fun b z=>absurd (show b∈([]:List Addr) from hX ▸ z) (by simp)
 have hfs:∀b,b∈frs (en::X.outer)->b=X.s₀.heap.objs.size\/b∈frs X.outer:=fun b hb=>by
  obtain⟨env,he,hf⟩:=List.mem_filterMap.mp hb;rcases List.mem_cons.mp he with rfl|he
  ·rw[hF] at hf;exact .inl (Option.some.inj hf).symm
  ·exact .inr (List.mem_filterMap.mpr ⟨env,he,hf⟩)
 have lt0:∀b o,X.s₀.heap.get? b=some o->b≠X.s₀.heap.objs.size:=fun b o hb=>Nat.ne_of_lt (Heap.lt_size hb);have nfs:∀b o,X.s₀.heap.get? b=some o->b ∉ frs X.outer->b ∉ frs (en::X.outer):=fun b o hb ho hm=>(hfs b hm).elim (lt0 b o hb) ho
 have up:∀b,b∈frs X.outer->b∈frs (en::X.outer):=fun b ho=>by
  obtain⟨env,he,hf⟩:=List.mem_filterMap.mp ho;exact List.mem_filterMap.mpr ⟨env,List.mem_cons_of_mem _ he,hf⟩
 refine wpAny_mono (nj (iV _ _) (wpAny_leaves_onW (E:=fun _ _=>False) (Q:=fun _ s''=>∃h',Heap.FlyingW B X.outer a (.ref C) (.ref t) h'/\s2.heap.UpToSlots h'/\s''={ s2 with heap:=h' }) hfr hF fl fun h' x1 x2=>⟨h',x1,x2,rfl⟩)) (fun _ s'' z=>?_) fun _ _ z=>z.1.elim;obtain⟨⟨h',x1,x2,rfl⟩,kd⟩:=z;have stay:=x1.1;have keep':∀b o,X.s₀.heap.get? b=some o->X.H₀ b=none->b ∉ frs X.outer->B.get? b=some o:=fun b o hb hn ho=>keep b o (I.base.keep b o hb hn ho (nex b)) (I.base.free b o hb hn (nex b)) (nfs b o hb ho)
 have there':∀b o,X.s₀.heap.get? b=some o->b ∉ frs X.outer->∃o',B.get? b=some o':=fun b o hb ho=>by
  obtain⟨o1,q⟩:=I.base.there b o hb (nex b);exact there b o1 q (nfs b o hb ho)
 have slot:∀b o,X.s₀.heap.get? b=some o->X.H₀ b=none->b∈frs X.outer->∃sl,h'.get? b=some { o with slots:=sl }:=fun b o hb hn ho=>by
  obtain⟨sl,q⟩:=I.base.slot b o hb hn ho (nex b);obtain⟨_,o2,q2,nf⟩:=hst.mem (b:=b) (up b ho);rw[q] at q2;cases q2;obtain⟨sl1,q1⟩:=un.slot b _ q (I.base.free b o hb hn (nex b)) (up b ho) (by simp)
  obtain⟨sl2,q3⟩:=x2 b _ q1 nf;exact⟨sl2,q3⟩
 refine⟨a,C,t,n,dx,H',B,rfl,os.trans I.os,bare,⟨fun b o hb hn ho _=>stay b o (keep' b o hb hn ho),fun b o hb hn ho _=>slot b o hb hn ho,fun b o hb hn _=>?_,fun b o hb _=>?_,fun b xs q=>un.tups b xs (I.base.tups b xs q),fun b o u q=>un.frzs b o u (I.base.frzs b o u q),fun b ps q=>?_⟩,hok,x1,keep',there',be.on x2 kd ⟨_,x1.there.choose_spec.1⟩,dB,fun q=>dF (up dx q),hE⟩
 ·obtain⟨o1,q⟩:=I.base.there b o hb (nex b)
  exact un.free b o1 q (I.base.free b o hb hn (nex b)) (by simp)
 ·by_cases ho:b∈frs X.outer
  ·obtain⟨sl,q⟩:=slot b o hb (I.ok.frf b ho) ho
   exact⟨_,q⟩
  ·obtain⟨o',q⟩:=there' b o hb ho
   exact⟨o',stay b o' q⟩
 ·obtain⟨m1,q1⟩:=I.base.tbls b ps q
  obtain⟨m2,q2⟩:=un.tbls b _ q1;exact⟨m1++m2,by rw[q2,Array.append_assoc]⟩
theorem xH{K:Frag}{h:Heap}{N:Addr}{m:Str->Option Value}{n:Str}{v:Value}(X:K.In h)(G:h.Ns N m)(e:nsIn K N n=some (some v)):m n=some v:=by
 obtain⟨o,es,ep,ho,hd,_,hf⟩:=G;rw[←hf]
 cases lk:K.lookup N with
 |none=>simp only[nsIn,lk] at e;cases e
 |some u=>
  have z:=X _ _ lk;rw[ho] at z;cases z;obtain⟨oc,od,oda,osl⟩:=o;simp only at hd;subst hd;simp only[nsIn,lk] at e;unfold nsFind findBy;rw[←Array.find?_toList]
  cases q:es.toList.find? (fun x=>x.key.isStr n) with
  |none=>rw[q] at e;dsimp only at e;split at e<;>cases e
  |some en=>rw[q] at e;cases e;rfl
noncomputable def qC(K:Frag)(C fI:Addr):Bool:=match K.lookup C with
 |some ⟨.type cl,_,.cls cd,sl⟩=>(cl == "type") && (match cd.mro with|.ref C'::bm=>decide (C'=C) && tailIn K gR bm|_=>false) && (match sl.toList with | [_,_,_,_,some (.builtin q),_]=>q == "ValueError.__new__"|_=>false) &&
  !cd.hasDel && nsOkIn K cd.ns && (nsIn K cd.ns "__init__" == some (some (.ref fI))) && isFn K (.ref fI) && m5 K C "at"
 |_=>false
theorem wW{K:Frag}{h:Heap}{C fI:Addr}(X:K.In h)(z:qC K C fI=true):gJ h C fI/\m5 K C "at"=true:=by
 unfold qC at z;split at z
 case h_2=>cases z
 case h_1 cl dd cd sl lk=>
  simp only[Bool.and_eq_true,beq_iff_eq,Bool.not_eq_true'] at z;obtain⟨⟨⟨⟨⟨⟨⟨e0,e1⟩,e2⟩,e3⟩,e4⟩,e5⟩,e6⟩,e7⟩:=z;refine⟨?_,e7⟩;split at e1
  case h_2=>cases e1
  case h_1 C' bm em=>
   split at e2
   case h_2=>cases e2
   case h_1 k0 k1 k2 k3 q k5 es=>
    simp only[Bool.and_eq_true,decide_eq_true_eq] at e1;obtain⟨rfl,tl⟩:=e1;have e2:=beq_iff_eq.mp e2;subst e0 e2;obtain⟨nm,bs,mro,ns,qn,hd,sn,sub,ab,col,del⟩:=cd;dsimp only at em e3 e4 e5;subst em e3;obtain⟨l⟩:=sl;simp only at es;subst es;obtain⟨oI,lI,cI⟩:=Option.map_eq_some_iff.mp (show (K.lookup fI).map (·.cls)=some (.type "function") from beq_iff_eq.mp e6)
    exact⟨nm,qn,ns,bs,bm,hd,sn,sub,ab,col,dd,k0,k1,k2,k3,k5,_,oI,X _ _ lk,.of_isNs (isNs_of_in X e4),xH X (.of_isNs (isNs_of_in X e4)) e5,tail_of_in X tl,X _ _ lI,cI⟩
section
variable{M:Model}{A:Around}{E:Value->Shared->Prop}{s:Shared}{env:Env}{C fI:Addr}
theorem sV{x:Sem Value}{Q:Flow->Shared->Prop}(hh:A.handled=none)(h:wpAny M A x (fun v s1=>∃e dx t,v=.ref e/\gJ s1.heap C fI/\s1.heap.get? e=some ⟨.ref C,some dx,.fields #[.ref t,.none,.none,.none,.bool false,.none],#[]⟩/\E (.ref e) s1) E s):
  wpAny M A (raiseStmt env (some x) none) Q E s:=by
 unfold raiseStmt;refine wpAny_bind (wpAny_mono h (fun v s1 h1=>?_) fun _ _ x=>x);obtain⟨e,dx,t,rfl,⟨nm,q,N,bs,bm,hd,sn,sub,ab,col,dd,k0,k1,k2,k3,k5,mN,oI,hC,_,_,T,_⟩,he,hE⟩:=h1;have hcB:(Value.ref C::bm).contains (.type "BaseException")=true:=by rw[List.contains_cons,T.hasType PySem.F.excBase_ValueError.hasBase,Bool.or_true]
 obtain⟨hp,g,d,tk,os⟩:=s1
 repeat (first|with_reducible refine wpAny_loadPart_at he ?_|with_reducible refine wpAny_loadPart_at hC ?_|(with_reducible refine wpAny_isSubtype_exc hC ?_;rw[hcB])|wp_step)
 exact wpAny_raiseNew_none hh hE
end
noncomputable def oX(C:Addr)(E:XK)(t:TA):TS:=fun _ σ H=>t σ H fun vs H1=>∃n:Nat,vs=[.int n]/\∀e,E (.ref e) (some (enC C n)) H1
section
variable{P:Program}{w:World}{K:W.Frag}{mg:Str->Option Value}{base:Heap}{N:List Str}{qual:Str}{scope:Scope}{f:Addr}{cd:Value}{A:Around}{outer:List Env}{s₀:Shared}{H₀:Hp}{E:XK}
theorem gr:lc (CXn P w) (d9 (CXn P w) P w K mg base N qual scope f cd A outer s₀ H₀ E) E:=fun pins σ H s e s' I hc=>
 ku (X:=d9 (CXn P w) P w K mg base N qual scope f cd A outer s₀ H₀ E) rfl rfl rfl I hc
theorem fx{x:Str}{C fI:Addr}{q:Str}{st:Stmt}{fd:FuncData}{e0:Expr}{t:TA}{np cpos pos:Pos}(hr:ci 1 (A.deeper (envOfC qual scope s₀.heap.objs.size f cd)))(hg:Gl (d9 (CXn P w) P w K mg base N qual scope f cd A outer s₀ H₀ E) x)(hm:mg x=some (.ref C))(hC:qC K C fI=true)(F:Fun K "__init__" q st fI fd)(S:aK ["self","at"] ["self","at"] (defScope st))(l1:(defScope st).names.lookup ("self":Str)=some .local)(l2:(defScope st).names.lookup ("at":Str)=some .local)(hb:bt K fd ["self","at"] [])(body:∃p1 p2 p3 p4,defBody st=[.Assign [.Attribute (.Name "self" p1) "at" p2] (.Name "at" p3) p4])(ha:PA (d9 (CXn P w) P w K mg base N qual scope f cd A outer s₀ H₀ E).nox [e0] t)(hdb:(x == ("__debug__":Str))=false:=by decide)(he:starEach [e0] (envOfC qual scope s₀.heap.objs.size f cd)=[(false,eval e0 (envOfC qual scope s₀.heap.objs.size f cd))]:=by rfl):
  PS (d9 (CXn P w) P w K mg base N qual scope f cd A outer s₀ H₀ E) (.Raise (some (.Call (.Name x np) [e0] [] cpos)) none pos) (oX C E t):=.mk <| by
 intro pins s σ H D I h;obtain⟨xi,so⟩:=wW I.ok.mod.kin hC;show wpAny (model P w) (A.deeper (envOfC qual scope s₀.heap.objs.size f cd)) (exec _ (envOfC qual scope s₀.heap.objs.size f cd)) _ _ _;rw[arm_exec_Raise];refine wpAny_bind (wpAny_standAt (sV (C:=C) (fI:=fI) hr.hd (wpAny_bind (wpAny_mono (wpAny_Call_ofName (eu I hg hm ?_ hdb)) (fun v s3 h3=>wpAny_bind (wpAny_standAt (wpAny_pure h3))) fun _ _ z=>z))))
 have ev:wpAny (model P w) (A.deeper (envOfC qual scope s₀.heap.objs.size f cd)) (spliced (backTo cpos (starEach [e0] (envOfC qual scope s₀.heap.objs.size f cd)))) _ _ s:=ha cpos pins s σ H _ (I.wish _) h;show wpAny _ _ (callWith cpos (.ref C) [] (backTo cpos (starEach [e0] (envOfC qual scope s₀.heap.objs.size f cd))) _) _ _ _;unfold callWith;rw[he] at ev ⊢;refine wpAny_bind (wpAny_holding (Calls.evalArgs_plain (wpAny_mono ev (fun us s2 hz=>wpAny_bind (wpAny_standAt ?_)) fun _ _ z=>False.elim z)))
 obtain⟨vs,H1,I1,rv,n,rfl,hE⟩:=hz;have I1:Inv (d9 (CXn P w) P w K mg base N qual scope f cd A outer s₀ H₀ E) pins σ H1 s2:=I1.unwish;obtain⟨u,rfl,ru⟩:=au.one rv;obtain⟨tk,rfl⟩:=ru;have xs:gJ s2.heap C fI:=xi.keeps I1.bk;obtain⟨nm,qn,NN,bs,bm,hd,sn,sub,ab,col,dd,k0,k1,k2,k3,k5,mN,oI,hCo,_⟩:=id xs;obtain⟨hp,g,d,tt,os⟩:=s2;refine wpAny_bind (wpAny_keeperOf_exc hCo ?_);show wpAny _ _ (do let r ← call (.ref C) [.int n tk] [];holding [r] point;pure r) _ _ _
 refine wpAny_bind (jJ xs (show 1<=sizeLine by decide) fun h' e hm=>?_)
 have K1:K.In h':=I1.kIn.keeps hm.keeps;have lim:h'.NoLimit:=(I1.ok.mod.nolimit.keeps I1.bk).keeps hm.keeps;obtain⟨ta,ht,_,_⟩:=hm.there;refine lW (s:=⟨h',g,d,tt,os⟩) F S l1 l2 hb body K1 lim (by rw[jP];have:=hr.dp;omega) ht rfl rfl ⟨_,rfl⟩ so fun h'' tk' mk=>⟨rfl,wpAny_bind (wpAny_holding (wpAny_point (wpAny_pure ?_)))⟩
 obtain⟨dx,z1,z2,z3,z4⟩:=mk.at_;have keeps:∀b o,hp.get? b=some o->h''.get? b=some o:=fun b o q=>mk.keep b o (fun z=>by subst z;rw[hm.new] at q;cases q) (hm.keeps b o q)
 have dn:hp.get? dx=none:=by
  cases q:hp.get? dx with
  |none=>rfl
  |some o=>have:=hm.keeps dx o q;rw[z3] at this;cases this
 exact⟨e,dx,ta,rfl,xs.keeps keeps,z1,jY (s1:=⟨hp,g,d,tt,os⟩) I1 ⟨keeps,hm.new,z1,dn,tk,z2⟩ (hE e)⟩
end
end L2
namespace L2
open PySem PySem.Spec PySem.Calls PyProof.Rows PySem.W
noncomputable def sL(a C dx:Addr)(h:Heap):Prop:=∃o,h.get? a=some o/\o.cls=.ref C/\o.dict=some dx/\W.notCls o=true
noncomputable def gc(a C dx:Addr):HO:=.ext (sL a C dx)
theorem ra(m:Nat)(tk:Tok)(f:Str):uy (([("at",.int m)]:List (Str×V)).lookup f) (atM m tk f):=by
 unfold atM;rw[List.lookup_cons];by_cases h:f=("at":Str)
 ·subst h
  rw[if_pos rfl,beq_self_eq_true];exact⟨tk,rfl⟩
 ·rw[if_neg h,beq_eq_false_iff_ne.mpr h]
  exact trivial
noncomputable def wL(K:W.Frag)(T:Addr)(i j:Nat)(tb:XK->TS):TS:=fun D σ H=>tb (fun x c H'=>∀a C m dx,x=.ref a->c=some (enC C m)->H' a=none->H' dx=none->dx≠a->exmOne K (.ref C) (.ref T)=some true/\D.nx ((σ.set i none).set j (some (.ref a))) (upd (upd H' a (gc a C dx)) dx (.xd [("at",.int m)]))) D σ H
theorem vm{X:Cx}{st:Stmt}{tb:XK->TS}{T:Addr}{tn n z:Str}{i j:Nat}{tp np zp ap hp pos:Pos}(hS:X.stack=X.env::X.outer)(hF:X.env.frame=some X.env.locals)(hX:X.ex=[])(hb:PSX X (CXn X.prog X.w) st tb)(hg:Gl X tn)(hm:X.mg tn=some (.ref T))(hN:X.N.Nodup)(hi:X.N[i]?=some n)(hj:X.N[j]?=some z)(hij:i≠j)(hn:X.env.scope.names.lookup n=some .local)(hz:X.env.scope.names.lookup z=some .local)(hdb:(tn == ("__debug__":Str))=false:=by decide)(hdn:(n == ("__debug__":Str))=false:=by decide)(hcn:(n == ("__classdict__":Str))=false:=by decide)(hs:∀v:Value,swapsWith (.Name n np) (some (.Name z zp)) ap.line X.env=pure false:=by intro _;rfl):
  PS X (.Try [st] [.ExceptHandler (some (.Name tn tp)) (some n) [.Assign [.Name z zp] (.Name n np) ap] hp] [] [] pos) (wL X.K T i j tb):=.mk <| by
 intro pins s σ H D I h;refine wpAny_Try_except (wpAny_execs_cons (wpAny_mono (hb pins s σ H D _ I h) (fun f s1 q=>?_) fun x s' hx=>?_))
 ·cases f with
  |next=>exact wpAny_execs_nil (wpAny_execs_nil q)
  |ret v=>exact q
  |brk=>exact q
  |cont=>exact q
 obtain⟨H1,s1,I1,a,C,t,m,dx,H',B,rfl,os,bare,un,hok,fl,keep,there,be,dB,dF,hE⟩:=hx;have hfr:X.A.frames=some (X.env::X.outer):=by rw[←hS];exact I1.ok.frames
 rw[hS] at un keep there fl dF;have hBa:B.get? a=none:=fl.2.1
 have hna:H' a=none:=by
  cases q:H' a with
  |none=>rfl
  |some u=>
   obtain⟨o,e⟩:=eM (hok a u q);rw[hBa] at e;cases e
 have hnd:H' dx=none:=by
  cases q:H' dx with
  |none=>rfl
  |some u=>
   obtain⟨o,e⟩:=eM (hok dx u q);rw[dB] at e;cases e
 have nda:dx≠a:=fun z=>by
  obtain⟨o1,q1,_⟩:=be.ob;obtain⟨tk,o2,es2,ep2,q2,q3,_⟩:=be.ns;obtain⟨oe,vs,q4,_,q5,_⟩:=fl.first;rw[z,q4] at q2;cases q2;rw[q5] at q3;cases q3
 obtain⟨hex,hnx⟩:=hE a C m dx rfl rfl hna hnd nda;have fst:=I1.stack;rw[hS] at fst
 have nonf:∀b o,s1.heap.get? b=some o->b∈frs (X.env::X.outer)->∀vs,o.data≠.fields vs:=fun b o hb ho=>by
  obtain⟨_,o2,q2,nf⟩:=fst.mem (b:=b) ho;rw[hb] at q2;cases q2;exact nf
 refine wpAny_mono (nj (p5 _ _) (wpAny_looks_onW (E:=fun _ _=>False) (Q:=fun _ s''=>∃h2,Heap.HeldW B (X.env::X.outer) a (.ref C) (.ref t) X.env.locals h2/\s'.heap.UpToSlots h2/\s''={ s' with heap:=h2 }) hfr hF fl fun h2 held up2=>⟨h2,held,up2,rfl⟩)) (fun _ s'' z=>?_) fun _ _ z=>z.1.elim;obtain⟨⟨h2,held,up2,rfl⟩,kd2⟩:=z;refine wpAny_mono (nj (eG _ _) (wpAny_landsW (s:={ s' with heap:=h2 }) (E:=fun _ _=>False) (Q:=fun _ s''=>∃h3,Heap.FlyingW B (X.env::X.outer) a (.ref C) (.ref t) h3/\h2.UpToSlots h3/\s''={ s' with heap:=h3 }) held fun h3 fl3 up3=>⟨h3,fl3,up3,rfl⟩)) (fun _ s'' z=>?_) fun _ _ z=>z.1.elim
 obtain⟨⟨h3,fl3,up3,rfl⟩,kd3⟩:=z
 have back:∀h4:Heap,Heap.FlyingW B (X.env::X.outer) a (.ref C) (.ref t) h4->s'.heap.UpToSlots h4->Dk s'.heap h4->Inv X pins σ (upd (upd H' a (gc a C dx)) dx (.xd [("at",.int m)])) { s' with heap:=h4 }:=fun h4 fl4 up4 kd4=>by
  have stay:=fl4.1
  have un4:Un (frs X.stack) [] H1 H' s1.heap h4:=by
   rw[hS]
   have slot:∀b o,s1.heap.get? b=some o->H1 b=none->b∈frs (X.env::X.outer)->∃sl,h4.get? b=some { o with slots:=sl }:=fun b o hb hn ho=>by
    obtain⟨sl1,q1⟩:=un.slot b o hb hn ho (by simp)
    obtain⟨sl2,q2⟩:=up4 b _ q1 (nonf b o hb ho);exact⟨sl2,q2⟩
   refine⟨fun b o hb hn ho _=>stay b o (keep b o hb hn ho),fun b o hb hn ho _=>slot b o hb hn ho,un.free,fun b o hb _=>?_,un.tups,un.frzs,un.tbls⟩;by_cases ho:b∈frs (X.env::X.outer)
   ·obtain⟨sl,q⟩:=slot b o hb (I1.A9 b (by rw[hS];exact ho)) ho
    exact⟨_,q⟩
   ·obtain⟨o',q⟩:=there b o hb ho
    exact⟨o',stay b o' q⟩
  have J:Inv X pins σ H' { s' with heap:=h4 }:=I1.call' (s':={ s' with heap:=h4 }) os un4 (hok.kept stay) bare (fun b z=>absurd z (by simp))
  have be4:=be.on up4 kd4 ⟨_,fl4.there.choose_spec.1⟩
  have ex4:sL a C dx h4:=by
   obtain⟨o,q1,q2⟩:=be4.ob;obtain⟨oe,vs,q3,q4,q5,_⟩:=fl4.first;rw[q1] at q3;cases q3;exact⟨o,q1,q4,q2,by unfold W.notCls;rw[q5]⟩
  have inB:∀b o,s1.heap.get? b=some o->b ∉ frs (X.env::X.outer)->b≠a:=fun b o hb ho z=>by
   subst z;obtain⟨o',q⟩:=there b o hb ho;rw[hBa] at q;cases q
  have fields:∃oe vs,h4.get? a=some oe/\oe.data=.fields vs:=by
   obtain⟨oe,vs,q1,_,q2,_⟩:=fl4.first;exact⟨oe,vs,q1,q2⟩
  have nfr:a ∉ frs (X.env::X.outer):=fun hm=>by
   obtain⟨_,o2,q2,nf⟩:=fl4.2.2.1.mem (b:=a) hm;obtain⟨oe,vs,q3,q4⟩:=fields;rw[q3] at q2;cases q2;exact nf vs q4
  have hL : a≠X.env.locals:=fun z=>nfr (by
   unfold frs;rw[List.filterMap_cons,hF]
   exact z ▸ List.mem_cons_self)
  have inS:∀b o,s1.heap.get? b=some o->b≠a:=fun b o hb=>by
   by_cases ho:b∈frs (X.env::X.outer)
   ·exact fun z=>nfr (z ▸ ho)
   ·exact inB b o hb ho
  have inBd:∀b o,s1.heap.get? b=some o->b≠dx:=fun b o hb z=>by
   subst z;obtain⟨o',q⟩:=there b o hb dF;rw[dB] at q;cases q
  have ndf : dx≠X.env.locals:=fun z=>dF (by
   unfold frs;rw[List.filterMap_cons,hF]
   exact z ▸ List.mem_cons_self)
  have J2:Inv X pins σ (upd H' a (gc a C dx)) { s' with heap:=h4 }:=?_
  ·refine J2.track (by rw[aq nda];exact hnd) ?_ ndf (fun x c hc=>?_) (fun p hp=>?_) ?_
   ·cases q:X.s₀.heap.get? dx with
    |none=>rfl
    |some o=>
     obtain⟨o',q'⟩:=I1.base.there dx o q (by rw[hX];simp)
     exact absurd rfl (inBd dx o' q')
   ·obtain⟨v,o,q,_⟩:=I1.cell x c hc
    exact inBd c o q
   ·exact inBd _ _ (I1.pin p hp).1
   ·obtain⟨tk,z⟩:=be4.ns
    exact⟨_,z,fun f=>ra m tk f⟩
  refine J.track hna ?_ hL (fun x c hc=>?_) (fun p hp=>?_) ⟨ex4,?_,fun g1 g2 ⟨o,q1,q2⟩ k=>⟨o,k o q1,q2⟩⟩
  ·cases q:X.s₀.heap.get? a with
   |none=>rfl
   |some o=>
    obtain⟨o',q'⟩:=I1.base.there a o q (by rw[hX];simp)
    exact absurd rfl (inS a o' q')
  ·obtain⟨v,o,q,_⟩:=I1.cell x c hc
   exact inS c o q
  ·exact inS _ _ (I1.pin p hp).1
  ·obtain⟨o,q,_⟩:=ex4
   exact⟨o,q⟩
 have J3:=back h3 fl3 (up2.trans up3) (kd2.trans kd3);refine wpAny_handleBy_cons (codeAny_handlers_test ?_) (by intro q;cases q)
 refine eu (X:=X.inX (.ref a)) (J3.inX _) hg hm ?_ hdb;refine(exm_one J3.kIn (kH.ty fl3.there _) hex).here ?_;show codeAny _ _ _ _ _;refine codeAny_handlers_suite_as ?_;refine wpAny_mono (nj (eG _ _) (wpAny_setFlight_noneW (s:={ s' with heap:=h3 }) (E:=fun _ _=>False) (Q:=fun _ s''=>∃h5,B.StaysIn h5/\h5.FunFrames B (X.env::X.outer)/\h5.TracedW B a (.ref C) (.ref t)/\(∀b o,h3.get? b=some o->(∀vs,o.data≠.fields vs)->h5.get? b=some o)/\s''={ s' with heap:=h5 }) fl3.1 fl3.2.2.1 fl3.2.2.2 fun h5 k1 k2 k3 k4=>⟨h5,k1,k2,k3,k4,rfl⟩)) (fun _ s'' z=>?_) fun _ _ z=>z.1.elim
 obtain⟨⟨h5,k1,k2,k3,k4,rfl⟩,kd5⟩:=z;have fl5:Heap.FlyingW B (X.env::X.outer) a (.ref C) (.ref t) h5:=⟨k1,hBa,k2,k3⟩;have J5:=back h5 fl5 ((up2.trans up3).trans fun b o hb hn=>⟨o.slots,k4 b o hb hn⟩) ((kd2.trans kd3).trans kd5);refine ff (X:=X.inX (.ref a)) (v:=.ref a) (J5.inX _) hN hi (.inl hn) rfl (fun s6 J6=>?_) (.inr hn);have ass:PS (X.inX (.ref a)) (.Assign [.Name z zp] (.Name n np) ap) (qA (uH i) (kO j)):=aA (X:=X.inX (.ref a)) hN hj (.inl hz) (nW (X:=X.inX (.ref a)) hi (.inl hn) hdn hcn) (hs .none) (.inr hz)
 refine wpAny_execs_cons (wpAny_mono (ass pins s6 (σ.set i (some (.ref a))) (upd (upd H' a (gc a C dx)) dx (.xd [("at",.int m)])) { nx:=fun σ' H2=>σ'=(σ.set i (some (.ref a))).set j (some (.ref a))/\H2=upd (upd H' a (gc a C dx)) dx (.xd [("at",.int m)]),rt:=fun _ _=>False } J6 ?_) (fun f s7 q=>?_) fun _ _ z=>False.elim z)
 ·have hil:i<σ.length:=by rw[J5.len];exact(List.getElem?_eq_some_iff.mp hi).1
  exact⟨.ref a,by rw[List.getElem?_set];simp[hil],rfl,rfl⟩
 cases f with
 |ret v=>obtain⟨_,_,_,_,_,q⟩:=q;exact q.elim
 |brk=>obtain⟨_,_,_,q⟩:=q;exact q.elim
 |cont=>obtain⟨_,_,_,q⟩:=q;exact q.elim
 |next=>
  obtain⟨σ7,H7,J7,e7,e8⟩:=q;subst e7 e8;refine wpAny_execs_nil ?_;show wpAny _ _ _ _ _ _;refine qO (Inv.Bk I1.ok J7) hN hi hn fun s8 J8=>?_;refine⟨_,_,J8,?_⟩;rw[List.set_comm _ _ (Ne.symm hij),List.set_set];exact hnx
end L2
namespace L2
open PySem PySem.Spec PySem.Calls PyProof.Rows PySem.W PySem.Builtin PySem.Builtin.ObjectAttr PySem.Builtin.Getset_descriptor
section
variable{prog:Program}{w:World}{A:Around}{E:Value->Shared->Prop}{s:Shared}{K:W.Frag}{x D dx:Addr}
theorem xx{Q:Value->Shared->Prop}{mA:Str->Option Value}{v:Value}{name:Str}(X:K.In s.heap)(e:sL x D dx s.heap)(hn:s.heap.Ns1 dx mA)(hv:mA name=some v)(hh:handedIn v=true)(hd:hasDictIn K D=true)(ha:findIn K (.ref D) name=some none)(ok:el K D=true)(h:Q v { s with toks:=s.toks+1 }):wpAny (model prog w) A (getAttr (.ref x) name true) Q E s:=by
 unfold el at ok;simp only[Bool.and_eq_true,beq_iff_eq] at ok;obtain⟨⟨⟨⟨⟨⟨hga,hgn⟩,_⟩,_⟩,_⟩,_⟩,hm,hmb⟩:=ok;obtain⟨o,e1,e2,e3,e4⟩:=e;obtain⟨od,g1,g2⟩:=j6 hn;have I:InstAt s.heap x o D (some od):=⟨e1,e2,e4,by rw[e3];exact g1⟩
 obtain⟨hp,gs,dr,tt,os⟩:=s;have T0:=I.type (M:=model prog w);have T1:=looks_findIn (M:=model prog w) X hga;have T2:=looks_find (M:=model prog w) X I (findObj_own hd ha rfl (by rw[g2,hv]))
 have T3:=looks_findIn (M:=model prog w) X hgn;have T5:=looks_mroIn (M:=model prog w) X hmb;unfold getAttr getAttrBy;refine wpAny_bind (wpAny_mkText (wpAny_holding (wpAny_bind (T0.at (wpAny_bind (T1.at ?_))))));dsimp only at *;rw[if_neg (by rw[show (Value.builtin "BaseException.__getattribute__" == Value.builtin "object.__getattribute__")=false from by decide +kernel,Bool.and_false];exact Bool.false_ne_true)]
 unfold getAttrByItsOwn hookBefore callGetattribute boundAndCalled;show wpAny _ _ (typeLookup (.ref D) "__getattr__" >>= _) _ _ _;refine wpAny_bind (T3.at (wpAny_bind (wpAny_attempt (wpAny_holding ?_))));rw[if_neg (show ¬ (true && onTheHeap (Value.builtin "BaseException.__getattribute__"))=true from Bool.false_ne_true)]
 refine wpAny_bind (wpAny_of_eq (PySem.F.attrBase_ValueError.ga.bind _) (wpAny_call (codeAny_call_builtin PySem.F.attrBase_ValueError.ga.plain PySem.F.entry_bexc_ga ?_)))
 have ck:∀ {Q:Unit->Shared->Prop} {E:Value->Shared->Prop} {A:Around} {nv:Value},Q () ⟨hp,gs,dr,tt+1,os⟩->wpAny (model prog w) A (checkBuiltinCall "BaseException.__getattribute__" ⟨[.ref x,nv],[]⟩) Q E ⟨hp,gs,dr,tt+1,os⟩:=fun {Q E A nv} q=>by
  have b1:builtinKind "BaseException.__getattribute__"=some .slot:=by decide +kernel
  have b2:splitId "BaseException.__getattribute__"=some ("BaseException","__getattribute__"):=by decide +kernel
  have b3:=F.args_bexc_ga (.ref x) nv;simp only[checkBuiltinCall,b1,b2];refine wpAny_bind ?_;unfold isInstance;refine wpAny_bind (T0.at (T5.at ?_));rw[if_neg (by decide)]
  unfold argsOk at b3
  first|(rw[b3];exact wpAny_pure q)|(refine wpAny_of_eq b3 q)
 refine ck ?_
 repeat (first|with_reducible refine wpAny_bind (T0.at ?_)|with_reducible refine T0.at ?_|with_reducible refine wpAny_bind (T2.at ?_)|with_reducible refine T2.at ?_|wp_step)
 show wpAny _ _ (handedOut v) _ _ _;rw[handedOut_of hh];exact wpAny_pure h
end
end L2
namespace L2
open PySem PySem.Spec PyProof.Rows
structure hI(E:XK){α β:Type}(R:Hp->α->β->Prop)(t:St->Hp->(β->Hp->Prop)->Prop)(t':SA->Om->(α->Om->Prop)->(Addr->Om->Prop)->Prop):Prop where
 run:∀(F:Fs)(H:Hp)(Z:Om)(σ:St)(ρ:SA)(Q:β->Hp->Prop)(Q':α->Om->Prop)(Ex:Addr->Om->Prop),Rep F H Z->RS (cut F H Z) ρ σ->t' ρ Z Q' Ex->LP R F H Z Q' Q->LX F H Z Ex E->t σ H Q
noncomputable abbrev AEX:=SA->Om->(AV->Om->Prop)->(Addr->Om->Prop)->Prop
noncomputable abbrev AAX:=SA->Om->(List AV->Om->Prop)->(Addr->Om->Prop)->Prop
theorem hI.go{E:XK}{α β:Type}{R:Hp->α->β->Prop}{t:St->Hp->(β->Hp->Prop)->Prop}{t':SA->Om->(α->Om->Prop)->(Addr->Om->Prop)->Prop}(h:hI E R t t'){F:Fs}{H:Hp}{Z:Om}{σ:St}{ρ:SA}{Q:β->Hp->Prop}{Q':α->Om->Prop}{Ex:Addr->Om->Prop}(rp:Rep F H Z)(rs:RS (cut F H Z) ρ σ)(w:t' ρ Z Q' Ex)(kx:LX F H Z Ex E)(k:∀a Z1 v H1,Rep F H1 Z1->Fr F H Z H1 Z1->RS (cut F H1 Z1) ρ σ->R (cut F H1 Z1) a v->LX F H1 Z1 Ex E->Q' a Z1->Q v H1):t σ H Q:=
 h.run F H Z σ ρ Q Q' Ex rp rs w (fun a Z1 v H1 rp1 fr1 rv q=>k a Z1 v H1 rp1 fr1 (rs.same fr1.same) rv (kx.fr fr1) q) kx
noncomputable def zS{α:Type}(a:SA->Om->(α->Om->Prop)->Prop):SA->Om->(α->Om->Prop)->(Addr->Om->Prop)->Prop:=fun ρ Z Q _=>a ρ Z Q
noncomputable def qT(ta:AEX)(tr:AAX):AAX:=fun ρ Z Q Ex=>ta ρ Z (fun x Z1=>tr ρ Z1 (fun xs Z2=>Q (x::xs) Z2) Ex) Ex
noncomputable def uk(sp:cL)(t:AAX):AEX:=fun ρ Z Q Ex=>t ρ Z (fun xs Z1=>sp xs Z1 Q Ex) Ex
noncomputable def wF(t:AAX):AEX:=fun ρ Z Q Ex=>t ρ Z (fun xs Z1=>xs.length<=sizeLine/\∃ds,und xs=some ds/\Q (.d (.tup ds)) Z1) Ex
noncomputable def mP(to:AE)(t:AAX):AEX:=fun ρ Z Q Ex=>to ρ Z fun x Z1=>∃l,x=.r (.ref l)/\(∃zs,Z1 l=some (.own zs))/\t ρ Z1 (fun ys Z2=>∃xs y,ys=[y]/\Z2 l=some (.own xs)/\xs.length<sizeLine/\Q (.d .non) (Z2.put l (.own (xs++[y])))) Ex
noncomputable def qb(te:AEX):AXS:=fun D Ex ρ Z=>te ρ Z (fun _ Z1=>D.nx ρ Z1) Ex
noncomputable def uL(c:AT)(tb:AXS):AXS:=fun D Ex ρ Z=>∃W:Nat->SA->Om->Prop,(∃m,W m ρ Z)/\∀m ρ Z,W m ρ Z ->
 c ρ Z fun b Z1=>if b=true then ∃N:SA->Om->Prop,(∀ρ' Z',N ρ' Z'->∃m',m'<m/\W m' ρ' Z')/\tb { D with nx:=N,ct:=N,bk:=D.nx } Ex ρ Z1 else D.nx ρ Z1
noncomputable def ml(C:Addr)(ta:AA):AXS:=fun _ Ex ρ Z=>ta ρ Z fun xs Z1=>∃n:Nat,xs=[.d (.int n)]/\Ex (enC C n) Z1
section
variable{α:Type}(a:SA->Om->(α->Om->Prop)->Prop)(ta:AEX)(tr:AAX)(sp:cL)(to:AE)(g:AG)(c:AT)(tb:AXS)(wi:AI)(C:Addr)(tn:AA)(D:bx)(ρ:SA)(Z:Om)(Q:AV->Om->Prop)(Ex:Addr->Om->Prop)
theorem pK(Q:α->Om->Prop):zS a ρ Z Q Ex=a ρ Z Q:=rfl
theorem kF(Q:List AV->Om->Prop):qT ta tr ρ Z Q Ex=ta ρ Z (fun x Z1=>tr ρ Z1 (fun xs Z2=>Q (x::xs) Z2) Ex) Ex:=rfl
theorem kB:uk sp tr ρ Z Q Ex=tr ρ Z (fun xs Z1=>sp xs Z1 Q Ex) Ex:=rfl
theorem mI:wF tr ρ Z Q Ex=tr ρ Z (fun xs Z1=>xs.length<=sizeLine/\∃ds,und xs=some ds/\Q (.d (.tup ds)) Z1) Ex:=rfl
theorem ia:mP to tr ρ Z Q Ex=to ρ Z fun x Z1=>∃l,x=.r (.ref l)/\(∃zs,Z1 l=some (.own zs))/\tr ρ Z1 (fun ys Z2=>∃xs y,ys=[y]/\Z2 l=some (.own xs)/\xs.length<sizeLine/\Q (.d .non) (Z2.put l (.own (xs++[y])))) Ex:=rfl
theorem jN:qb ta D Ex ρ Z=ta ρ Z (fun _ Z1=>D.nx ρ Z1) Ex:=rfl
theorem ir:ml C tn D Ex ρ Z=tn ρ Z fun xs Z1=>∃n:Nat,xs=[.d (.int n)]/\Ex (enC C n) Z1:=rfl
end
section
variable{E:XK}{t u:TS}{t' u':AXS}{ta:TA}{ta':AAX}{tc:TT}{tc':AT}{sp:cL}{C:Addr}{te:TE}{te':AEX}{g:TG}{g':AG}
theorem cu{α β:Type}{R:Hp->α->β->Prop}{t:St->Hp->(β->Hp->Prop)->Prop}{a:SA->Om->(α->Om->Prop)->Prop}(h:Ref R t a):hI E R t (zS a):=⟨fun F H Z σ ρ Q Q' Ex rp rs w k kx=>h.run F H Z σ ρ Q Q' rp rs w k⟩
theorem bn(h1:hI E RV te te')(h2:hI E RVs ta ta'):hI E RVs (gj te ta) (qT te' ta'):=⟨fun F H Z σ ρ Q Q' Ex rp rs w k kx=>
 h1.go rp rs w kx fun x Z1 v H1 rp1 fr1 rs1 rv1 kx1 q1=>h2.go rp1 rs1 q1 kx1 fun y Z2 u H2 rp2 fr2 rs2 rv2 kx2 q2=>k (x::y) Z2 (v::u) H2 rp2 (fr1.trans fr2) ⟨v,u,rfl,rv1.same fr2.same,rv2⟩ q2⟩
theorem iS(h:hI E RVs ta ta'):hI E RV (mW (fb sp) [] E ta) (uk sp ta'):=⟨fun F H Z σ ρ Q Q' Ex rp rs w k kx=>
 h.go rp rs w kx fun xs Z1 vs H1 rp1 fr1 rs1 rv kx1 q=>by
  rw[List.append_nil]
  exact⟨F,xs,Z1,Q',Ex,rp1,rv,q,k.fr fr1,kx1⟩⟩
theorem uq(h:hI E RVs ta ta'):hI E RV (ux ta) (wF ta'):=⟨fun F H Z σ ρ Q Q' Ex rp rs w k kx=>
 h.go rp rs w kx fun xs Z1 vs H1 rp1 fr1 rs1 rv1 _ ⟨z,ds,hu,q1⟩=>⟨by rw[rv1.length];exact z,fun p hp=>by
  cases dD hu;obtain⟨rp2,fr2,hc⟩:=rp1.lay (o:=.tup vs) hp;refine k _ Z1 _ _ rp2 (fr1.trans fr2) ?_ q1;simp only[RV,Dat]
  exact⟨p,vs,rfl,hc,(RVs.dats.mp rv1).same fr2.same⟩⟩⟩
theorem kb{K:W.Frag}{to:TE}{to':AE}(ho:aZ to to')(ht:hI E RVs ta ta'):hI E RV (tBM K "list" lp to ta) (mP to' ta'):=⟨fun F H Z σ ρ Q Q' Ex rp rs w k kx=>
 ho.go rp rs w fun x Z1 v H1 rp1 fr1 rs1 rv1 ⟨l,e,⟨zs,hz⟩,q1⟩=>by
  subst e;cases (show v=.ref l from rv1)
  obtain⟨us,z1,_⟩:=rp1.own l zs hz;refine⟨.inl ⟨rfl,us,.inl (.inl z1)⟩,ht.go rp1 rs1 q1 (kx.fr fr1) fun ys Z2 vs H2 rp2 fr2 rs2 rv2 _ ⟨xs,y,e1,e2,e3,q⟩=>?_⟩;subst e1;obtain⟨u,rfl,r⟩:=gp rv2;obtain⟨ws,z3,z4⟩:=rp2.own l xs e2;obtain⟨rp3,fr3⟩:=rp2.write e2 (z4.append (.one r))
  exact⟨l,ws,u,rfl,rfl,z3,by rw[z4.length];exact e3,k _ _ _ _ rp3 ((fr1.trans fr2).trans fr3) (by simp[RV,Dat]) q⟩⟩
theorem iJ(h:hI E RV te te'):eR E (rF te) (qb te'):=⟨fun F H Z σ ρ D D' Ex rp rs w k kx=>
 h.go rp rs w kx fun a Z1 v H1 rp1 fr1 rs1 _ _ q=>k.nx ρ Z1 σ H1 rp1 fr1 rs1 q⟩
theorem gG{tn:TA}{tn':AA}(ha:fJ tn tn'):eR E (oX C E tn) (ml C tn'):=⟨fun F H Z σ ρ D D' Ex rp rs w k kx=>
 ha.go rp rs w fun xs Z1 vs H1 rp1 fr1 rs1 rv ⟨n,e,q⟩=>by
  subst e;obtain⟨v,rfl,r⟩:=gp rv;cases a6 r
  exact⟨n,rfl,fun e=>kx _ Z1 e H1 rp1 fr1 q⟩⟩
theorem rq(hc:hJ tc tc')(hb:eR E t t'):eR E (rX tc t) (uL tc' t'):=⟨fun F H Z σ ρ D D' Ex rp rs w k kx=>by
 obtain⟨W,⟨m0,w0⟩,turn⟩:=w;refine⟨fun m σ1 H1=>∃ρ1 Z1,Rep F H1 Z1/\RS (cut F H1 Z1) ρ1 σ1/\Fr F H Z H1 Z1/\W m ρ1 Z1,⟨m0,ρ,Z,rp,rs,.refl,w0⟩,?_⟩;rintro m σ1 H1 ⟨ρ1,Z1,rp1,rs1,fr1,w1⟩;refine hc.go rp1 rs1 (turn m ρ1 Z1 w1) fun a Z2 v H2 rp2 fr2 rs2 rv q=>?_;cases (show a=v from rv)
 have k2:=k.fr (fr1.trans fr2)
 cases a with
 |true=>
  rw[if_pos rfl] at q ⊢;obtain⟨N,hN,q⟩:=q;refine⟨fun σ' H'=>∃ρ' Z',Rep F H' Z'/\RS (cut F H' Z') ρ' σ'/\Fr F H Z H' Z'/\N ρ' Z',?_,hb.run F H2 Z2 σ1 ρ1 _ _ Ex rp2 rs2 q ⟨?_,k2.rt,k2.nx,?_⟩ (kx.fr (fr1.trans fr2))⟩
  ·rintro σ' H' ⟨ρ',Z',e1,e2,e3,e4⟩
   obtain⟨m',hm,z⟩:=hN _ _ e4;exact⟨m',hm,ρ',Z',e1,e2,e3,z⟩
  ·exact fun ρ' Z' σ' H' e1 e2 e3 e4=>⟨ρ',Z',e1,e3,(fr1.trans fr2).trans e2,e4⟩
  ·exact fun ρ' Z' σ' H' e1 e2 e3 e4=>⟨ρ',Z',e1,e3,(fr1.trans fr2).trans e2,e4⟩
 |false=>
  rw[if_neg Bool.false_ne_true] at q ⊢
  exact k2.nx ρ1 Z2 σ1 H2 rp2 .refl rs2 q⟩
end
theorem Fun.okN{P:Program}{w:World}{K:W.Frag}{mg:Str->Option Value}{base:Heap}{x qual:Str}{st:Stmt}{f:Addr}{fd:FuncData}{N ps:List Str}{k:Nat}{sp:cL}(F:Fun K x qual st f fd)(S:aK N ps (defScope st))(len:∀xs Z Q Ex,sp xs Z Q Ex->xs.length=ps.length)
  (hbody:∀(cdv:Value)(A:Around)(outer:List Env)(s:Shared)(H:Hp)(E:XK),ci k (A.deeper (envOfC qual (defScope st) s.heap.objs.size f cdv)) ->
   ∃t t',PSs (d9 (CXn P w) P w K mg base N qual (defScope st) f cdv A outer s H E) (defBody st) t/\eR E t t'/\∀xs Z Q' Ex,sp xs Z Q' Ex->t' { nx:=fun _ Z'=>Q' (.d .non) (Z'.only Z),rt:=fun a Z'=>∃d,a=.d d/\Q' (.d d) (Z'.only Z) } (fun C Z'=>Ex C (Z'.only Z)) (eL N xs) Z):aY P w K mg base (CXn P w) (k+1) f fd ps (fb sp):=by
 obtain⟨oc,od,kV,doc,pm,an,cdv,ct,osl,rfl,lk,hcd⟩:=F.ex;refine tV lk hcd S (fun vs H Q E h=>?_) (fun A outer s H vs Q E hr h=>?_)
 ·obtain⟨F',xs,Z,Q',Ex,rp,rv,h,_⟩:=h
  rw[rv.length,len xs Z Q' Ex h]
 ·obtain⟨t,t',h1,h2,h3⟩:=hbody cdv A outer s H E hr
  obtain⟨F',xs,Z,Q',Ex,rp,rv,h,kq,kx⟩:=h;refine⟨t,h1,h2.run F' H Z _ _ _ _ _ rp (RS.start rv) (h3 xs Z Q' Ex h) ⟨?_,?_,fun _ _ _ _ _ _ _ z=>z.elim,fun _ _ _ _ _ _ _ z=>z.elim⟩ ?_⟩
  ·exact fun ρ' Z' σ' H' e1 e2 e3 q=>kq (.d .non) (Z'.only Z) .non H' e1.only.1 e2.only (by simp[RV,Dat]) q
  ·rintro a Z' v H' e1 e2 e3 ⟨d,rfl,q⟩
   exact kq (.d d) (Z'.only Z) v H' e1.only.1 e2.only (e3.same e1.only.2) q
  ·exact fun C Z' a H' e1 e2 q=>kx C (Z'.only Z) a H' e1.only.1 e2.only q
end L2
namespace L2
open PySem PySem.Spec PySem.Calls PyProof.Rows PySem.W
noncomputable def yT:Stmt->Stmt
 |.ClassDef _ _ _ (st::_) ..=>st
 |st=>st
structure lX(P:Program)(w:World)(K:W.Frag)(mg:Str->Option Value)(base:Heap)(H₀:Hp)(k:Nat)(f:Addr)(n:Nat)(sp:Sp):Prop where
 fn:∃(oc:Value)(od:Option Addr)(fd:FuncData) (sl:Array (Option Value)) (u:HO),H₀ f=some (.frz ⟨oc,od,.func fd,sl⟩ u)
 len:∀vs H Q E,sp vs H Q E->vs.length=n
 run:∀(A:Around)(outer:List Env)(s:Shared)(H:Hp)(us:List Value)(vs:List V)(Q:VK)(E:XK),ci k A->mQ P w K mg base A outer s H->Frz H₀ H->au vs us->sp vs H Q E ->
  codeAny (model P w) A (.call (.ref f) ⟨us,[]⟩) (CR (CXn P w) outer P w H s Q E) s
noncomputable def oE(X:Cx)(k i:Nat)(E:XK):TE:=fun σ H Q=>∃f sp,σ[i]?=some (some (.ref f))/\lX X.prog X.w X.K X.mg X.base X.H₀ k f 0 sp/\sp [] H Q E
theorem na{X:Cx}{k i:Nat}{x:Str}{p pos:Pos}(hr:ci k X.A)(hN:X.N[i]?=some x)(hv:Vis X.env.scope x)(hd:(x == ("__debug__":Str))=false:=by decide)(hcd:(x == ("__classdict__":Str))=false:=by decide):
  PEX X (CXn X.prog X.w) (.Call (.Name x p) [] [] pos) (oE X k i):=by
 intro pins s σ H Q E I h;obtain⟨f,sp,ev,C,h⟩:=h
 have at':∀ {σ1:St} {H1:Hp} {s1:Shared},Inv X pins σ1 H1 s1->W.FnAt f s1.heap:=fun {σ1 H1 s1} J=>by
  obtain⟨oc,od,fd,sl,u,q⟩:=C.fn;exact⟨oc,od,fd,sl,(J.hok _ _ (J.base.frzs _ _ _ q)).1⟩
 refine wpAny_Call_Name_kw (wpAny_mono (nW (X:=X.nox) hN hv hd hcd pins s σ H (fun v H1=>v=.ref f/\H1=H) (I.wish _) ⟨_,ev,rfl,rfl⟩) (fun u s1 ⟨v,H1,I1,r,e1,e2⟩=>?_) fun _ _ z=>False.elim z);subst e1 e2;have I1:=I1.unwish;obtain rfl:u=Value.ref f:=r;refine W.callWith_F0 (at' I1) ?_;rw[List.append_nil];refine wpAny_call (codeAny_mono (C.run X.A X.stack s1 H1 [] [] Q E hr I1.env0 (fun b o u q=>I1.base.frzs b o u q) .nil h) fun r s' hq=>?_)
 cases r with
 |error e=>exact⟨H1,s1,I1,hq⟩
 |ok fl=>
  cases fl with
  |ret u=>exact I1.after hq
  |next=>exact False.elim hq
  |brk=>exact False.elim hq
  |cont=>exact False.elim hq
theorem u5{P:Program}{w:World}{K:W.Frag}{mg:Str->Option Value}{base:Heap}{H₀:Hp}{k:Nat}{f:Addr}{q:Str}{params:Arguments}{body:Expr}{scope:Scope}{cl:List (Str×Addr)}{ps cs:List Str}{caps:List V}{sp:Sp}(L:pL H₀ f q params body scope cl)(S:md ps cs scope)(C:kS base cl cs caps)(hb:∀(pm:Value)(c:Addr)(ctv:Value)(us:List Value),us.length=ps.length->bindArgs (W.kla_fn "<lambda>" q params body scope cl pm (.ref c) ctv) ⟨us,[]⟩=pure (ps.zip us))(len:∀vs H Q E,sp vs H Q E->vs.length=ps.length)
  (hbody:∀(cd:Value)(A:Around)(outer:List Env)(s:Shared)(H:Hp)(vs:List V)(Q:VK)(E:XK),ci k (A.deeper (W.envX q scope s.heap.objs.size f cd cl))->sp vs H Q E ->
   ∃t,PEX (mH P w K mg base (ps++cs) q scope f cd cl A outer s H) (CXn P w) body t/\t E ((vs++caps).map some) H Q):lX P w K mg base H₀ (k+1) f ps.length sp:=by
 obtain⟨pm,c,ctv,oc,vc,tc,u1,u2,e1,e2,e3,e4⟩:=L;refine⟨⟨_,_,_,_,_,e1⟩,len,fun A outer s H us vs Q E hr e0 hF r hsp=>?_⟩;have hl:=len _ _ _ _ hsp;have hlu:us.length=ps.length:=r.length.symm.trans hl;have f1:=(e0.hok _ _ (hF _ _ _ e1)).1;have f2:=(e0.hok _ _ (hF _ _ _ e2)).1;have lim:s.heap.NoLimit:=e0.mod.nolimit.keeps fun b o e=>(e0.bs b o e).1;have nps:ps.Nodup:=S.nd.sublist (List.sublist_append_left _ _)
 refine W.kla_callFunE hr.depth f1 rfl S.co S.gen rfl ⟨c,oc,vc,tc,rfl,f2,e3,e4⟩ ?_;rw[hb pm c ctv us hlu];refine wpAny_pure (wpAny_newFunctionEnv (fun y hy=>(S.has y hy).1) (fun y hy=>S.par y.1 (List.of_mem_zip (a:=y.1) (b:=y.2) hy).1) (fun h₁ hns hsb=>⟨lim.fresh _ hsb,?_⟩) S.kind);show codeAny _ _ (.expr body (W.envX q scope s.heap.objs.size f (.ref c) cl)) _ _;have hk₁:∀b o,s.heap.get? b=some o->h₁.get? b=some o:=fun b o e=>hsb.extBut b o (Nat.ne_of_lt (Heap.lt_size e)) (Heap.get?_push_of_some _ e)
 obtain⟨c1,c2,c3,c4⟩:=C;obtain⟨t,ht,hq⟩:=hbody (.ref c) A outer s H vs Q E (hr.deeper _) hsp
 have capC:∀x c,cl.lookup x=some c->∃v,base.IsCell c v:=fun x c e=>by
  obtain⟨j,hj⟩:=List.getElem?_of_mem (c2 x c e);have hj2:j<caps.length:=by rw[c1];exact(List.getElem?_eq_some_iff.mp hj).1
  obtain⟨c',u,z1,z2,_⟩:=c4 j x caps[j] hj (List.getElem?_eq_getElem hj2);rw[e] at z1;cases z1;exact⟨_,z2⟩
 have noA:∀b:Addr,b ∉ (mH P w K mg base (ps++cs) q scope f (.ref c) cl A outer s H).ex:=fun b z=>absurd (show b∈([]:List Addr) from z) (by simp)
 have I:Inv (mH P w K mg base (ps++cs) q scope f (.ref c) cl A outer s H) [] ((vs++caps).map some) H { s with heap:=h₁,toks:=s.toks+(ps.zip us).length }:=by
  refine⟨⟨e0.mod,S.kind,rfl,rfl,Nat.le_refl _,c3,fun y hy=>?_,fun y c h=>(nomatch h),fun _=>hr.hd,Around.frames_deeper e0.frames,.inr ⟨rfl,rfl⟩,fun b z=>absurd z (noA b),e0.bs,e0.bsz,fun b _ _=>noA b,fun b z=>absurd z (noA b),e0.funs,e0.frf,e0.tt⟩,
   rfl,e0.bare,Un.kept hk₁,⟨_,hns,fun i y v h1 h2 h3=>?_⟩,fun y c h=>?_,e0.hok.fresh (Nat.le_refl _),fun y c h=>?_,fun p hp=>absurd (show p∈([]:List (Addr×Obj)) from hp) (by simp),e0.hok.kept hk₁,?_⟩
  ·have hy:scope.names.lookup y=some .cell\/scope.names.lookup y=some .free:=hy
   rcases hy with hy|hy
   ·exact absurd rfl (S.has _ (PySem.mem_of_lookup hy)).1
   ·have hm:=(S.has _ (PySem.mem_of_lookup hy)).2 rfl
    obtain⟨j,hj⟩:=List.getElem?_of_mem hm;have hj2:j<caps.length:=by rw[c1];exact(List.getElem?_eq_some_iff.mp hj).1
    obtain⟨c',u,z1,z2,_⟩:=c4 j y caps[j] hj (List.getElem?_eq_getElem hj2);exact⟨c',z1⟩
  ·have h1:(ps++cs)[i]?=some y:=h1
   rw[List.getElem?_map] at h2
   cases hv:(vs++caps)[i]? with
   |none=>rw[hv] at h2;cases h2
   |some v'=>
    rw[hv] at h2;cases h2;rcases Nat.lt_or_ge i ps.length with hi|hi
    ·rw[List.getElem?_append_left hi] at h1
     rw[List.getElem?_append_left (by rw[hl];exact hi)] at hv
     obtain⟨u,hu,ru⟩:=r.get hv;exact⟨u,ru,.inl ⟨S.par y (List.mem_of_getElem? h1),iY nps h1 hu⟩⟩
    ·rw[List.getElem?_append_right hi] at h1
     rw[List.getElem?_append_right (by rw[hl];exact hi),hl] at hv
     obtain⟨c',u,z1,z2,z3⟩:=c4 _ y v h1 hv;refine⟨u,z3,.inr ⟨.inr (S.free y (List.mem_of_getElem? h1)),c',z1,?_⟩⟩;obtain⟨o,ho,hd⟩:=z2;exact⟨o,hk₁ _ _ (e0.bs _ _ ho).1,hd⟩
  ·obtain⟨v,o,ho,hd⟩:=capC y c h
   exact⟨v,o,hk₁ _ _ (e0.bs _ _ ho).1,hd⟩
  ·obtain⟨v,o,ho,hd⟩:=capC y c h
   exact(e0.bs _ _ ho).2
  ·show ((vs++caps).map some).length=(ps++cs).length
   rw[List.length_map,List.length_append,List.length_append,hl,c1]
 refine W.kla_codeExpr (wpAny_mono (ht [] _ _ H _ E I hq) (fun v s' ⟨v',H',J,rv,q'⟩=>?_) fun e s' ⟨H1,s1,J,hc⟩=>?_)
 ·exact⟨v',H',J.os,J.bare,J.base,J.hok,rv,q'⟩
 ·exact ku (X:=mH P w K mg base (ps++cs) q scope f (.ref c) cl A outer s H) rfl rfl rfl J hc
theorem gi{P:Program}{w:World}{K:W.Frag}{mg:Str->Option Value}{base:Heap}{H₀:Hp}{k:Nat}{f:Addr}{q:Str}{params:Arguments}{body:Expr}{scope:Scope}{cl:List (Str×Addr)}{ps cs:List Str}{caps:List V}{cA:List AV}{sp spf:cL}(L:pL H₀ f q params body scope cl)(S:md ps cs scope)(C:kS base cl cs caps)(hb:∀(pm:Value)(c:Addr)(ctv:Value)(us:List Value),us.length=ps.length->bindArgs (W.kla_fn "<lambda>" q params body scope cl pm (.ref c) ctv) ⟨us,[]⟩=pure (ps.zip us))(len:∀xs Z Q Ex,sp xs Z Q Ex->xs.length=ps.length)
  (hbody:∀(cd:Value)(A:Around)(outer:List Env)(s:Shared)(H:Hp),ci k (A.deeper (W.envX q scope s.heap.objs.size f cd cl)) ->
   ∃t t',PEX (mH P w K mg base (ps++cs) q scope f cd cl A outer s H) (CXn P w) body (fun E=>mW (fb spf) [] E t)/\fJ t t'/\∀xs Z Q Ex,sp xs Z Q Ex->t' ((xs++cA).map some) Z fun ys Z1=>spf ys Z1 Q Ex):lX P w K mg base H₀ (k+1) f ps.length (fj caps cA sp):=by
 refine u5 L S C hb (fun vs H Q E h=>?_) (fun cd A outer s H vs Q E hr h=>?_)
 ·obtain⟨F,xs,Z,Q',Ex,rp,rv,_,h,_⟩:=h
  rw[rv.length,len xs Z Q' Ex h]
 ·obtain⟨t,t',h1,h2,h3⟩:=hbody cd A outer s H hr
  obtain⟨F,xs,Z,Q',Ex,rp,rv,rc,h,kq,kx⟩:=h
  have rs:RS (cut F H Z) ((xs++cA).map some) ((vs++caps).map some):=by
   have:=rv.append rc;refine⟨by simp[this.length,rv.length,rc.length],fun i a e=>?_⟩
   rw[List.getElem?_map,Option.map_eq_some_iff] at e;obtain⟨b,hb,e⟩:=e;cases e;obtain⟨v,e1,e2⟩:=this.get hb;exact⟨v,by rw[List.getElem?_map,e1];rfl,e2⟩
  refine⟨_,h1,h2.go rp rs (h3 xs Z Q' Ex h) fun ys Z1 us H1 rp1 fr1 rs1 rv1 q1=>?_⟩;rw[List.append_nil];exact⟨F,ys,Z1,Q',Ex,rp1,rv1,q1,kq.fr fr1,kx.fr fr1⟩
noncomputable def gz(a C m:Addr):AV:=.p (.ref a) (fun G=>∃dx,G a=some (gc a C dx)/\G dx=some (.xd [("at",.int m)]))
noncomputable def ya(K:W.Frag)(T:Addr)(i j m y:Nat)(f:Addr)(caps:List V)(cA:List AV)(sp:cL):AS:=fun D ρ Z=>ρ[m]?=some (some (Ak f caps cA))/\sp [] Z (fun v Z2=>D.nx (ρ.set y (some v)) Z2)
 (fun c Z2=>∃C n,c=enC C n/\W.exmOne K (.ref C) (.ref T)=some true/\∀a,D.nx ((ρ.set i none).set j (some (gz a C n))) Z2)
theorem mz{F:Fs}{H:Hp}{Z:Om}(rp:Rep F H Z){a C m dx:Addr}(h1:H a=none)(h2:H dx=none)(h3:dx≠a):Rep F (upd (upd H a (gc a C dx)) dx (.xd [("at",.int m)])) Z/\Fr F H Z (upd (upd H a (gc a C dx)) dx (.xd [("at",.int m)])) Z/\RV (cut F (upd (upd H a (gc a C dx)) dx (.xd [("at",.int m)])) Z) (gz a C m) (.ref a):=by
 obtain⟨rp1,fr1,hc1⟩:=rp.lay (o:=gc a C dx) h1;obtain⟨rp2,fr2,hc2⟩:=rp1.lay (o:=.xd [("at",.int m)]) (show upd H a (gc a C dx) dx=none by rw[aq h3];exact h2)
 exact⟨rp2,fr1.trans fr2,rfl,fun G' s=>⟨dx,s _ _ (fr2.same _ _ hc1),s _ _ hc2⟩⟩
theorem vF{X:Cx}{k:Nat}{K:W.Frag}{T:Addr}{i j m y:Nat}{f:Addr}{caps:List V}{cA:List AV}{sp:cL}(C:lX X.prog X.w X.K X.mg X.base X.H₀ k f 0 (fj caps cA sp)):eD (wL K T i j fun E=>qA (oE X k m E) (kO y)) (ya K T i j m y f caps cA sp):=⟨fun F H Z σ ρ D D' rp rs w k=>by
 obtain⟨e,w⟩:=w;obtain⟨v,e1,e2⟩:=rs.2 m _ e;obtain⟨rfl,e3⟩:=e2;refine⟨f,_,e1,C,F,[],Z,_,_,rp,rfl,e3 _ (cZ.refl _),w,fun a Z2 v H2 rp2 fr2 rv2 q2=>k.nx _ Z2 _ H2 rp2 fr2 ((rs.same fr2.same).set rv2) q2,?_⟩;rintro c Z2 a H2 rp2 fr2 ⟨C0,n0,ec,q1,q2⟩ a' C1 m1 dx z1 z2 z3 z4 z5;cases z1;rw[ec] at z2;obtain⟨rfl,rfl⟩:=u4 (Option.some.inj z2);obtain⟨rp3,fr3,rx⟩:=mz rp2 (C:=C0) (m:=n0) z3 z4 z5
 exact⟨q1,k.nx _ Z2 _ _ rp3 (fr2.trans fr3) (((rs.same fr2.same).same fr3.same).Bl.set rx) (q2 a)⟩⟩
theorem mG{K:W.Frag}{x D dx:Addr}(ok:el K D=true):KitX K (.ref x) (.ref D) (sL x D dx):=
 have up:∀h,sL x D dx h->kH x D h:=fun h ⟨o,a,b,_⟩=>⟨o,a,b⟩
 { ty:=fun M h X e=>(gv ok).ty M h X (up h e),it:=fun M h X e=>(gv (x:=x) ok).it M h X (up h e),ne:=(gv (x:=x) ok).ne,ca:=fun X e k=>(gv ok).ca X (up _ e) k }
noncomputable def isB(K:W.Frag)(H:Hp)(f:Value->Option Bool)(x:V)(b:Bool):Prop:=(x=.non/\f (.type "NoneType")=some b)\/∃a C dx,x=.ref a/\H a=some (gc a C dx)/\el K C=true/\f (.ref C)=some b
noncomputable def yX(K:W.Frag):List V->Hp->VK->Prop:=fun xs H Q=>∃x c cv b,xs=[x,c]/\clV c=some cv/\isB K H (fun t=>kitOne K t cv) x b/\Q (.bl b) H
theorem mi{X:Cx}(K:W.Frag)(hK:X.K=K):dN X (.builtin "isinstance") (yX K):=by
 subst hK;intro pins s σ H xs us Q I r h;obtain⟨x,c,cv,b,rfl,hc,hx,q⟩:=h;obtain⟨u1,u2,rfl,r1,r2⟩:=au.two r;have e2:=t0 r2 hc;subst e2;rcases hx with⟨rfl,hb⟩|⟨a,C,dx,rfl,ha,ok,hb⟩
 ·obtain rfl:u1=Value.none:=r1
  exact kia_one kitx_none I.kIn trivial hb (by intro z;cases z) fun tk=>⟨.bl b,H,I.tok tk,rfl,q⟩
 ·obtain rfl:u1=Value.ref a:=r1
  exact kia_one (mG ok) I.kIn (I.hok a _ ha).1 hb (by intro z;cases z) fun tk=>⟨.bl b,H,I.tok tk,rfl,q⟩
noncomputable def wa(K:W.Frag):List V->Hp->VK->Prop:=fun xs H Q=>∃x tp cs cvs b,xs=[x,.ref tp]/\H tp=some (.tup cs)/\qR cs=some cvs/\isB K H (fun t=>kitAny K t cvs) x b/\Q (.bl b) H
theorem qd{X:Cx}(K:W.Frag)(hK:X.K=K):dN X (.builtin "isinstance") (wa K):=by
 subst hK;intro pins s σ H xs us Q I r h;obtain⟨x,tp,cs,cvs,b,rfl,ht,hc,hx,q⟩:=h;obtain⟨u1,u2,rfl,r1,r2⟩:=au.two r;obtain rfl:u2=Value.ref tp:=r2;obtain⟨_,its,rv,⟨ot,e1,e2,e3⟩,_⟩:=I.hok tp _ ht;have e4:=o7 rv hc;subst e4;obtain⟨n,e3⟩:=e3;obtain⟨oc,od,oda,osl⟩:=ot;dsimp only at e2 e3;subst e2 e3;rcases hx with⟨rfl,hb⟩|⟨a,C,dx,rfl,ha,ok,hb⟩
 ·obtain rfl:u1=Value.none:=r1
  exact kia_tup kitx_none I.kIn trivial e1 hb (by intro z;cases z) fun tk=>⟨.bl b,H,I.tok tk,rfl,q⟩
 ·obtain rfl:u1=Value.ref a:=r1
  exact kia_tup (mG ok) I.kIn (I.hok a _ ha).1 e1 hb (by intro z;cases z) fun tk=>⟨.bl b,H,I.tok tk,rfl,q⟩
noncomputable def nJ(K:W.Frag)(f:Value->Option Bool)(x:AV)(b:Bool):Prop:=(x=.d .non/\f (.type "NoneType")=some b)\/∃a C m,x=gz a C m/\el K C=true/\f (.ref C)=some b
theorem nJ.of{K:W.Frag}{f:Value->Option Bool}{x:AV}{b:Bool}{F:Fs}{H:Hp}{Z:Om}{v:V}(h:nJ K f x b)(r:RV (cut F H Z) x v):isB K H f v b:=by
 rcases h with⟨rfl,hb⟩|⟨a,C,m,rfl,ok,hb⟩
 ·exact .inl ⟨n6 r,hb⟩
 ·obtain⟨rfl,h2⟩:=r
  obtain⟨dx,z,_⟩:=h2 _ (cZ.refl _);exact .inr ⟨a,C,dx,rfl,(bY.mp z).2.2,ok,hb⟩
noncomputable def vL(K:W.Frag):AC:=fun xs Z Q=>∃x c cv b,xs=[x,.r c]/\clV c=some cv/\nJ K (fun t=>W.kitOne K t cv) x b/\Q (.d (.bl b)) Z
theorem lM(K:W.Frag)(xs:List AV)(Z:Om)(Q:AV->Om->Prop):vL K xs Z Q=∃x c cv b,xs=[x,.r c]/\clV c=some cv/\nJ K (fun t=>W.kitOne K t cv) x b/\Q (.d (.bl b)) Z:=rfl
theorem vY{K:W.Frag}:jX (yX K) (vL K):=⟨fun F H Z vs xs Q Q' rp rv ⟨x,c,cv,b,e,h1,h2,q⟩ k=>by
 subst e;obtain⟨v,u,rfl,r1,r2⟩:=yP rv;have e2:u=c:=r2;rw[e2]
 exact⟨v,c,cv,b,rfl,h1,h2.of r1,k.bl rp q⟩⟩
noncomputable def wM(K:W.Frag)(tx:AE)(tcs:AA):AE:=fun ρ Z Q=>tx ρ Z fun x Z1=>tcs ρ Z1 fun cs Z2=>∃vs cvs b,cs=vs.map AV.r/\vs.length<=1000/\qR vs=some cvs/\nJ K (fun t=>W.kitAny K t cvs) x b/\Q (.d (.bl b)) Z2
theorem mF(K:W.Frag)(tx:AE)(tcs:AA)(ρ:SA)(Z:Om)(Q:AV->Om->Prop):wM K tx tcs ρ Z Q=tx ρ Z fun x Z1=>tcs ρ Z1 fun cs Z2=>∃vs cvs b,cs=vs.map AV.r/\vs.length<=1000/\qR vs=some cvs/\nJ K (fun t=>W.kitAny K t cvs) x b/\Q (.d (.bl b)) Z2:=rfl
theorem xo{K:W.Frag}{tx:TE}{tx':AE}{tcs:TA}{tcs':AA}(hx:aZ tx tx')(hc:fJ tcs tcs'):aZ (tCB (wa K) (gj tx (gj (ux tcs) uN))) (wM K tx' tcs'):=⟨fun F H Z σ ρ Q Q' rp rs w k=>
 hx.go rp rs w fun x Z1 v H1 rp1 fr1 rs1 rv1 q1=>hc.go rp1 rs1 q1 fun cs Z2 us H2 rp2 fr2 rs2 rv2 ⟨vs,cvs,b,e,hl,h1,h2,q⟩=>by
  subst e;cases pj rv2;refine⟨Nat.le_of_lt (qi hl),fun p hp=>?_⟩;obtain⟨rp3,fr3,hc3⟩:=rp2.lay (o:=.tup us) hp
  exact⟨v,p,us,cvs,b,rfl,bT,h1,h2.of (rv1.same (fr2.trans fr3).same),(k.fr ((fr1.trans fr2).trans fr3)).bl rp3 q⟩⟩
theorem ua(a C m:Addr):u7 (gz a C m)=some false:=rfl
noncomputable def nD(K:W.Frag)(C:Addr):Bool:=el K C && hasDictIn K C && findIn K (.ref C) "at" == some none
noncomputable def tAt(K:W.Frag)(te:TE):TE:=fun σ H Q=>te σ H fun x H1=>∃a C dx m,x=.ref a/\H1 a=some (gc a C dx)/\H1 dx=some (.xd [("at",.int m)])/\nD K C=true/\Q (.int m) H1
noncomputable def aAt(K:W.Frag)(te:AE):AE:=fun ρ Z Q=>te ρ Z fun x Z1=>∃a C m,x=gz a C m/\nD K C=true/\Q (.d (.int m)) Z1
theorem qW(K:W.Frag)(te:AE)(ρ:SA)(Z:Om)(Q:AV->Om->Prop):aAt K te ρ Z Q=te ρ Z fun x Z1=>∃a C m,x=gz a C m/\nD K C=true/\Q (.d (.int m)) Z1:=rfl
theorem zX{K:W.Frag}{te:TE}{te':AE}(h:aZ te te'):aZ (tAt K te) (aAt K te'):=⟨fun F H Z σ ρ Q Q' rp rs w k=>
 h.go rp rs w fun x Z1 v H1 rp1 fr1 rs1 rv1 ⟨a,C,m,e,ok,q⟩=>by
  subst e;obtain⟨rfl,h2⟩:=rv1;obtain⟨dx,z1,z2⟩:=h2 _ (cZ.refl _)
  exact⟨a,C,dx,m,rfl,(bY.mp z1).2.2,(bY.mp z2).2.2,ok,(k.fr fr1).int rp1 q⟩⟩
theorem wQ{X:Cx}(K:W.Frag)(hK:X.K=K){e:Expr}{te:TE}{pos:Pos}(he:PE X e te)(hb:attributeBase e "at" X.env (eval e X.env)=eval e X.env:=by rfl):PE X (.Attribute e "at" pos) (tAt K te):=.mk <| by
 subst hK;intro pins s σ H Q I h;refine vx hb (thn (he pins s σ H _ I h) fun u s1 ⟨x,H1,I1,rx,a,C,dx,m,ex,ea,ed,ok,q⟩=>?_);subst ex;obtain rfl:u=Value.ref a:=rx;obtain⟨mA,hn,hm⟩:=I1.hok dx _ ed;have hv:=hm "at";unfold nD at ok;simp only[Bool.and_eq_true,beq_iff_eq] at ok;obtain⟨⟨o1,o2⟩,o3⟩:=ok
 cases e:mA ("at":Str) with
 |none=>rw[e] at hv;exact hv.elim
 |some v=>
  rw[e] at hv;obtain⟨tk,rfl⟩:∃tk,v=Value.int m tk:=hv;exact xx I1.kIn (I1.hok a _ ea).1 hn e rfl o2 o3 o1 ⟨.int m,H1,I1.tok _,⟨tk,rfl⟩,q⟩
noncomputable def wR(C:Addr)(t:TA):TE:=fun σ H Q=>t σ H fun vs H1=>∃n:Nat,vs=[.int n]/\∀a dx,H1 a=none->H1 dx=none->dx≠a->Q (.ref a) (upd (upd H1 a (gc a C dx)) dx (.xd [("at",.int n)]))
noncomputable def wC(C:Addr)(t:AA):AE:=fun ρ Z Q=>t ρ Z fun xs Z1=>∃n:Nat,xs=[.d (.int n)]/\∀a,Q (gz a C n) Z1
theorem lQ(C:Addr)(t:AA)(ρ:SA)(Z:Om)(Q:AV->Om->Prop):wC C t ρ Z Q=t ρ Z fun xs Z1=>∃n:Nat,xs=[.d (.int n)]/\∀a,Q (gz a C n) Z1:=rfl
theorem yn{C:Addr}{t:TA}{t':AA}(h:fJ t t'):aZ (wR C t) (wC C t'):=⟨fun F H Z σ ρ Q Q' rp rs w k=>
 h.go rp rs w fun xs Z1 vs H1 rp1 fr1 rs1 rv ⟨n,e,q⟩=>by
  subst e;obtain⟨v,rfl,r⟩:=gp rv;cases a6 r;refine⟨n,rfl,fun a dx z1 z2 z3=>?_⟩;obtain⟨rp3,fr3,rx⟩:=mz rp1 (C:=C) (m:=n) z1 z2 z3
  exact k _ Z1 _ _ rp3 (fr1.trans fr3) rx (q a)⟩
theorem vH{X:Cx}{x:Str}{C fI:Addr}{q:Str}{st:Stmt}{fd:FuncData}{e0:Expr}{t:TA}{np cpos:Pos}(hX:X.ex=[])(hr:ci 1 X.A)(hg:Gl X x)(hm:X.mg x=some (.ref C))(hC:qC X.K C fI=true)(F:Fun X.K "__init__" q st fI fd)(S:aK ["self","at"] ["self","at"] (defScope st))(l1:(defScope st).names.lookup ("self":Str)=some .local)(l2:(defScope st).names.lookup ("at":Str)=some .local)(hb:bt X.K fd ["self","at"] [])(body:∃p1 p2 p3 p4,defBody st=[.Assign [.Attribute (.Name "self" p1) "at" p2] (.Name "at" p3) p4])(ha:PA X [e0] t)(hdb:(x == ("__debug__":Str))=false:=by decide)(he:starEach [e0] X.env=[(false,eval e0 X.env)]:=by rfl):PE X (.Call (.Name x np) [e0] [] cpos) (wR C t):=.mk <| by
 intro pins s σ H Q I h;obtain⟨xi,so⟩:=wW I.ok.mod.kin hC;refine wpAny_Call_ofName (eu I hg hm ?_ hdb);have ev:wpAny (model X.prog X.w) X.A (spliced (backTo cpos (starEach [e0] X.env))) _ _ s:=ha cpos pins s σ H _ I h;show wpAny _ _ (callWith cpos (.ref C) [] (backTo cpos (starEach [e0] X.env)) _) _ _ _;unfold callWith;rw[he] at ev ⊢;refine wpAny_bind (wpAny_holding (Calls.evalArgs_plain (wpAny_mono ev (fun us s2 hz=>wpAny_bind (wpAny_standAt ?_)) fun _ _ z=>z)))
 obtain⟨vs,H1,I1,rv,n,rfl,hQ⟩:=hz;obtain⟨u,rfl,ru⟩:=au.one rv;obtain⟨tk,rfl⟩:=ru;have xs:gJ s2.heap C fI:=xi.keeps I1.bk;obtain⟨nm,qn,NN,bs,bm,hd,sn,sub,ab,col,dd,k0,k1,k2,k3,k5,mN,oI,hCo,_⟩:=id xs;obtain⟨hp,g,d,tt,os⟩:=s2;refine wpAny_bind (wpAny_keeperOf_exc hCo ?_);show wpAny _ _ (do let r ← call (.ref C) [.int n tk] [];holding [r] point;pure r) _ _ _
 refine wpAny_bind (jJ xs (show 1<=sizeLine by decide) fun h' e hm=>?_)
 have K1:X.K.In h':=I1.kIn.keeps hm.keeps;have lim:h'.NoLimit:=(I1.ok.mod.nolimit.keeps I1.bk).keeps hm.keeps;obtain⟨ta,ht,_,_⟩:=hm.there;refine lW (s:=⟨h',g,d,tt,os⟩) F S l1 l2 hb body K1 lim (by rw[jP];have:=hr.dp;omega) ht rfl rfl ⟨_,rfl⟩ so fun h'' tk' mk=>⟨rfl,wpAny_bind (wpAny_holding (wpAny_point (wpAny_pure ?_)))⟩
 obtain⟨dx,z1,z2,z3,z4⟩:=mk.at_;have keeps:∀b o,hp.get? b=some o->h''.get? b=some o:=fun b o q=>mk.keep b o (fun z=>by subst z;rw[hm.new] at q;cases q) (hm.keeps b o q)
 have dn:hp.get? dx=none:=by
  cases q:hp.get? dx with
  |none=>rfl
  |some o=>have:=hm.keeps dx o q;rw[z3] at this;cases this
 have nde:dx≠e:=fun z=>by rw[z,ht] at z3;cases z3
 have J:=I1.kept (h':=h'') (t':=tk') keeps;have nex:∀b:Addr,b ∉ X.ex:=fun b z=>absurd (show b∈([]:List Addr) from hX ▸ z) (by simp)
 have new:∀b,hp.get? b=none->H1 b=none/\X.s₀.heap.get? b=none/\b≠X.env.locals/\(∀y c,X.env.cells.lookup y=some c->c≠b)/\∀p∈X.pn++pins,p.1≠b:=fun b hb=>by
  refine⟨?_,?_,fun z=>?_,fun y c hc z=>?_,fun p hp z=>?_⟩
  ·cases q:H1 b with
   |none=>rfl
   |some o=>obtain⟨u,z⟩:=eM (I1.hok b o q);rw[hb] at z;cases z
  ·cases q:X.s₀.heap.get? b with
   |none=>rfl
   |some o=>obtain⟨u,z⟩:=I1.base.there b o q (nex b);rw[hb] at z;cases z
  ·obtain⟨m,⟨o,_,_,q,_⟩,_⟩:=I1.loc
   rw[←z,hb] at q;cases q
  ·obtain⟨v,o,q,_⟩:=I1.cell y c hc
   rw[z,hb] at q;cases q
  ·have q:=(I1.pin p hp).1
   rw[z,hb] at q;cases q
 obtain⟨a1,a2,a3,a4,a5⟩:=new e hm.new;obtain⟨b1,b2,b3,b4,b5⟩:=new dx dn;have J1:=J.track (a:=e) (o:=gc e C dx) a1 a2 a3 a4 a5 ⟨⟨_,z1,rfl,rfl,rfl⟩,⟨_,z1⟩,fun g1 g2 ⟨o,q1,q2⟩ k=>⟨o,k o q1,q2⟩⟩;have J2:=J1.track (a:=dx) (o:=.xd [("at",.int n)]) (by rw[aq nde];exact b1) b2 b3 b4 b5 ⟨_,z2,fun f=>ra n tk f⟩
 exact⟨.ref e,_,J2,rfl,hQ e dx a1 b1 nde⟩
noncomputable def jt(kc:Nat)(C:Addr)(P:Program)(w:World)(K:W.Frag)(mg:Str->Option Value)(base:Heap):Sp:=fun vs H Q _=>∃(F:Fs)(Z:Om)(Q':AV->Om->Prop)(f:Addr)(c:List V)(a:List AV)(s:cL),
 vs=[.ref f]/\Rep F H Z/\lX P w K mg base H kc f 0 (fj c a s)/\RVs (cut F H Z) a c/\s [] Z (fun v Z1=>∃d,v=.d d/\Q' (.d (.tup [.str "told",d])) (Z1.only Z)) (fun c' Z1=>∃n:Nat,c'=enC C n/\Q' (.d (.tup [.str "text",.int n])) (Z1.only Z))/\LP RV F H Z Q' Q
noncomputable def y4(X:Cx)(kc:Nat)(js:List Nat)(q:Str)(a:Arguments)(b:Expr)(sc:Scope)(cl:List (Str×Addr))(s:List AV->cL):Prop:=
 ∀(b':Heap)(H:Hp)(f:Addr)(σ:St)(caps:List V)(cA:List AV),pL H f q a b sc cl->sq X σ b'->yZ js σ caps->cA.length=js.length->lX X.prog X.w X.K X.mg b' H kc f 0 (fj caps cA (s cA))
noncomputable def r9(js:List Nat)(C:Addr)(s:List AV->cL):AE:=fun ρ Z Q=>∃a,lJ js ρ=some a/\s a [] Z (fun v Z1=>∃d,v=.d d/\Q (.d (.tup [.str "told",d])) (Z1.only Z)) (fun c' Z1=>∃n:Nat,c'=enC C n/\Q (.d (.tup [.str "text",.int n])) (Z1.only Z))
theorem j4(js:List Nat)(C:Addr)(s:List AV->cL)(ρ:SA)(Z:Om)(Q:AV->Om->Prop):r9 js C s ρ Z Q=∃a,lJ js ρ=some a/\s a [] Z (fun v Z1=>∃d,v=.d d/\Q (.d (.tup [.str "told",d])) (Z1.only Z)) (fun c' Z1=>∃n:Nat,c'=enC C n/\Q (.d (.tup [.str "text",.int n])) (Z1.only Z)):=rfl
theorem iK{X:Cx}{kc:Nat}{C:Addr}{q:Str}{js:List Nat}{p:Arguments}{b:Expr}{sc:Scope}{l:List (Str×Addr)}{s:List AV->cL}(h:y4 X kc js q p b sc l s):
  aZ (sU X (fun b'=>jt kc C X.prog X.w X.K X.mg b') (gj (yD q p b sc l) uN)) (r9 js C s):=⟨fun F H Z σ ρ Q Q' rp rs w kq=>by
 obtain⟨a,e,w⟩:=w;intro f1 H2 m1 _ M1 b' sub cb;obtain⟨rp3,fr3⟩:=rp.later m1;obtain⟨c,v1,r1⟩:=r6 (rs.same fr3.same) e
 exact⟨F,Z,Q',f1,c,a,s a,rfl,rp3,h b' H2 f1 σ c a M1 cb v1 (ng e),r1,w,kq.fr fr3⟩⟩
end L2
namespace L2
open PySem PySem.Spec PyProof.Rows
noncomputable def zY(neg:Bool):V->V->Hp->VK->Prop:=fun x y H Q=>∃a b,x=.str a/\y=.str b/\Q (.bl (if neg then !Txt.contains b a else Txt.contains b a)) H
theorem kr{X:Cx}:OpR X (compareOp .NotIn) (zY true):=by
 intro pins s σ H x y v u Q I rx ry h;obtain⟨a,b,rfl,rfl,q⟩:=h;obtain⟨t1,rfl⟩:=rx;obtain⟨t2,rfl⟩:=ry;exact SB.notContains ⟨.bl _,H,I,rfl,q⟩
noncomputable def z6(neg:Bool):A2:=fun x y Z Q=>∃a b,x=.d (.str a)/\y=.d (.str b)/\Q (.d (.bl (if neg then !Txt.contains b a else Txt.contains b a))) Z
theorem pR(neg:Bool)(x y:AV)(Z:Om)(Q:AV->Om->Prop):z6 neg x y Z Q=∃a b,x=.d (.str a)/\y=.d (.str b)/\Q (.d (.bl (if neg then !Txt.contains b a else Txt.contains b a))) Z:=rfl
theorem wY{neg:Bool}:df (zY neg) (z6 neg):=⟨fun F H Z v u x y Q Q' rp h1 h2 ⟨a,b,e1,e2,q⟩ k=>by
 subst e1 e2
 exact⟨a,b,di h1,di h2,k.bl rp q⟩⟩
open PySem.Builtin.Str
theorem pM(l:List Nat)(c:Nat):∀(m s:Nat)(acc:Array Nat)(free:Nat),s+m=l.length+1->(acc.size=0->free<=s) ->
  ((List.range' s m).foldl (fun(b:Array Nat×Nat) i=>if (decide (b.1.size<1) && decide (b.2<=i) && decide (i+(tx [c]).length<=l.length) && subAt (tx l) (tx [c]) i)=true then (b.1.push i,i+(tx [c]).length) else b) (acc,free)).1.isEmpty=(acc.isEmpty && !decide (c∈l.drop s))
 |0,s,acc,free,h,_=>by
  rw[List.drop_eq_nil_of_le (by omega)]
  simp
 |m+1,s,acc,free,h,hf=>by
  rw[List.range'_succ,List.foldl_cons];have e1:(tx [c]).length=1:=aw [c];have ih:=fun a f hh=>pM l c m (s+1) a f (by omega) hh
  by_cases h0:acc.size=0
  ·have hfs:=hf h0
   have ea:acc.isEmpty=true:=by simpa using h0
   by_cases hs:s<l.length
   ·have ed:l.drop s=l[s]::l.drop (s+1):=List.drop_eq_getElem_cons hs
    simp only[xP,e1,h0,hfs,decide_true,Bool.true_and,show s+1<=l.length by omega,List.getElem?_eq_getElem hs,Option.some.injEq,decide_eq_true_eq,Nat.lt_add_one] at ih ⊢
    by_cases hc:l[s]=c
    ·have hm:decide (c∈l.drop s)=true:=decide_eq_true (by rw[ed,hc];exact List.mem_cons_self)
     rw[if_pos (by simpa using hc),ih _ _ (by simp),hm]
     simp
    ·have hm:decide (c∈l.drop s)=decide (c∈l.drop (s+1)):=decide_eq_decide.mpr (by rw[ed,List.mem_cons];exact⟨fun z=>z.resolve_left (Ne.symm hc),.inr⟩)
     rw[if_neg (by simpa using hc),ih _ _ (fun _=>by omega),hm]
   ·have e2:decide (s+1<=l.length)=false:=decide_eq_false (by omega)
    simp only[e1,e2,Bool.and_false,Bool.false_and,Bool.false_eq_true,if_false] at ih ⊢;rw[ih _ _ (fun _=>by omega),List.drop_eq_nil_of_le (by omega),List.drop_eq_nil_of_le (by omega)]
  ·have ea:acc.isEmpty=false:=by simpa[Array.isEmpty] using h0
   have e3:decide (acc.size<1)=false:=decide_eq_false (by omega)
   simp only[e3,Bool.false_and,Bool.false_eq_true,if_false];rw[ih _ _ (fun z=>absurd z h0),ea];simp
theorem uA(l:List Nat)(c:Nat):Txt.contains (tx l) (tx [c])=decide (c∈l):=by
 have h:=pM l c (l.length+1) 0 #[] 0 (by omega) (fun _=>Nat.le_refl _)
 simp only[List.drop_zero] at h;unfold Txt.contains occurrences;simp only[Std.Legacy.Range.forIn_eq_forIn_range',Std.Legacy.Range.size,aw];rw[jc (g:=fun(b:Array Nat×Nat) i=>if (decide (b.1.size<1) && decide (b.2<=i) && decide (i+(tx [c]).length<=l.length) && subAt (tx l) (tx [c]) i)=true then (b.1.push i,i+(tx [c]).length) else b) (h:=fun i b=>by simp only[aw];split<;>rfl)]
 simp only[aw] at h ⊢;rw[show (l.length+1-0+1-1) / 1=l.length+1 by omega]
 have h2:=congrArg (!·) h
 simp only[Array.isEmpty_empty,Bool.true_and,Bool.not_not] at h2;rw[←h2]
 simp;rfl
end L2
set_option maxHeartbeats 4000000
namespace My
open PySem PySem.Spec L2
noncomputable def top(i:Nat):Stmt:=PySem.Challenge.pw_unlikeplace_k62_texts_of_no_saying.main.body.getD i (.Pass ⟨0,0,0,0⟩)
noncomputable abbrev dM:Stmt:=top 14
noncomputable abbrev fX:Stmt:=top 15
noncomputable abbrev hU:Stmt:=top 16
noncomputable abbrev fO:Stmt:=top 17
noncomputable abbrev dW:Stmt:=top 18
noncomputable abbrev k9:Stmt:=top 20
noncomputable abbrev jd:Stmt:=top 21
noncomputable abbrev f7:Stmt:=top 22
noncomputable abbrev dh:Stmt:=top 23
noncomputable abbrev ji:Stmt:=top 24
noncomputable abbrev jL:Stmt:=top 25
noncomputable abbrev g5:Stmt:=top 26
noncomputable abbrev hW:Stmt:=top 27
noncomputable abbrev ik:Stmt:=top 28
theorem iC:aK ["thing"] ["thing"] (defScope dM):=fsc rfl rfl rfl (by decide +kernel)
theorem l7:aK ["text","at"] ["text","at"] (defScope fX):=fsc rfl rfl rfl (by decide +kernel)
theorem nA:aK ["text","at"] ["text","at"] (defScope hU):=fsc rfl rfl rfl (by decide +kernel)
theorem im:aK ["places","text","at","sign"] ["places","text","at"] (defScope fO):=fsc rfl rfl rfl (by decide +kernel)
theorem aG:aK ["places","text","at","waiting","joins","done","wanted","sign","other","one"] ["places","text"] (defScope dW):=fsc rfl rfl rfl (by decide +kernel)
theorem sk:aK ["_law_script"] ["_law_script"] (defScope k9):=fsc rfl rfl rfl (by decide +kernel)
theorem cc:aK ["_law_pen_here","_law_many","_law_cells","_law_place","_law_left","_law_cell","_law_number"] ["_law_pen_here","_law_many"] (defScope jd):=fsc rfl rfl rfl (by decide +kernel)
theorem ix:aK ["_law_pen_here","_law_places","_law_most","_law_join"] ["_law_pen_here","_law_places","_law_most"] (defScope f7):=fsc rfl rfl rfl (by decide +kernel)
theorem ee:aK ["_law_saying_here","_law_sign_here"] ["_law_saying_here"] (defScope dh):=fsc rfl rfl rfl (by decide +kernel)
theorem kt:aK ["_law_pen_here","_law_signs","_law_every"] ["_law_pen_here","_law_signs"] (defScope ji):=fsc rfl rfl rfl (by decide +kernel)
theorem dZ:aK ["_law_pen_here","_law_text","_law_signs","_law_at","_law_sign_here","_law_some"] ["_law_pen_here","_law_text","_law_signs"] (defScope jL):=fsc rfl rfl rfl (by decide +kernel)
theorem dA:aK ["_law_asked","_law_caught","_law_found","error"] ["_law_asked"] (defScope g5):=fsc rfl rfl rfl (by decide +kernel)
theorem cE:aK ["_law_places","_law_text","_law_figures","_law_due","_law_at","_law_sign_here","_law_want"] ["_law_places","_law_text"] (defScope hW):=fsc rfl rfl rfl (by decide +kernel)
theorem de:aK ["_law_script","_law_pen_here","_law_turn","_law_places","_law_saying_here","_law_text","_law_bent","_law_k","_law_found","_law_first_here","_law_thing"] ["_law_script"] (defScope ik):=fsc rfl rfl rfl (by decide +kernel)
noncomputable abbrev bE:Stmt:=yT (top 9)
theorem db:aK ["self","at"] ["self","at"] (defScope bE):=fsc rfl rfl rfl (by decide +kernel)
theorem aT:(defScope bE).names.lookup ("self":Str)=some .local/\(defScope bE).names.lookup ("at":Str)=some .local:=by decide +kernel
theorem da:∃p1 p2 p3 p4,defBody bE=[.Assign [.Attribute (.Name "self" p1) "at" p2] (.Name "at" p3) p4]:=⟨_,_,_,_,rfl⟩
set_option genInjectivity false in
structure Adr where
 bc:Addr
 dI:FuncData
 cC:Addr
 f9:FuncData
 cQ:Addr
 gQ:FuncData
 cH:Addr
 f6:FuncData
 aN:Addr
 bp:FuncData
 eJ:Addr
 lB:FuncData
 dC:Addr
 jO:FuncData
 bB:Addr
 dL:FuncData
 aO:Addr
 bJ:FuncData
 dy:Addr
 jM:FuncData
 dH:Addr
 jR:FuncData
 cJ:Addr
 fz:FuncData
 cN:Addr
 gX:FuncData
 eY:Addr
 kl:FuncData
 wo:World
 bq:Addr
 aW:Addr
 c0:Addr
 kJ:Addr
 vX:Addr
 cK:Addr
 cr:Addr
 br:Addr
 cq:Addr
 cw:Addr
 bM:Addr
 c9:Addr
 cg:Addr
 aj:Addr
 bX:Addr
 ja:FuncData
structure Txt(K:W.Frag)(mg:Str->Option Value)(t:Adr):Prop where
 i6:mg "must_be_text"=some (.ref t.bc)
 jq:Fun K "must_be_text" "must_be_text" dM t.bc t.dI
 i5:W.keepIn K (.ref t.bc)=true
 jE:bt K t.dI ["thing"] []
 nE:mg "must_end"=some (.ref t.cC)
 oy:Fun K "must_end" "must_end" fX t.cC t.f9
 nn:W.keepIn K (.ref t.cC)=true
 ny:bt K t.f9 ["text","at"] []
 kG:mg "sign_at"=some (.ref t.cQ)
 qt:Fun K "sign_at" "sign_at" hU t.cQ t.gQ
 kL:W.keepIn K (.ref t.cQ)=true
 j7:bt K t.gQ ["text","at"] []
 jI:mg "place_at"=some (.ref t.cH)
 ou:Fun K "place_at" "place_at" fO t.cH t.f6
 ju:W.keepIn K (.ref t.cH)=true
 iW:bt K t.f6 ["places","text","at"] []
 c8:mg "read_saying"=some (.ref t.aN)
 jT:Fun K "read_saying" "read_saying" dW t.aN t.bp
 c6:W.keepIn K (.ref t.aN)=true
 c7:bt K t.bp ["places","text"] []
 uS:mg "_law_pen"=some (.ref t.eJ)
 u6:Fun K "_law_pen" "_law_pen" k9 t.eJ t.lB
 uD:W.keepIn K (.ref t.eJ)=true
 vz:bt K t.lB ["_law_script"] []
 bW:mg "_law_draw"=some (.ref t.dC)
 sN:Fun K "_law_draw" "_law_draw" jd t.dC t.jO
 bZ:W.keepIn K (.ref t.dC)=true
 bV:bt K t.jO ["_law_pen_here","_law_many"] []
 fU:mg "_law_saying"=some (.ref t.bB)
 nX:Fun K "_law_saying" "_law_saying" f7 t.bB t.dL
 fP:W.keepIn K (.ref t.bB)=true
 fN:bt K t.dL ["_law_pen_here","_law_places","_law_most"] []
 cy:mg "_law_saying_text"=some (.ref t.aO)
 iB:Fun K "_law_saying_text" "_law_saying_text" dh t.aO t.bJ
 cB:W.keepIn K (.ref t.aO)=true
 cz:bt K t.bJ ["_law_saying_here"] []
 sr:mg "_law_sign"=some (.ref t.dy)
 tj:Fun K "_law_sign" "_law_sign" ji t.dy t.jM
 rf:W.keepIn K (.ref t.dy)=true
 tB:bt K t.jM ["_law_pen_here","_law_signs"] []
 q8:mg "_law_bend"=some (.ref t.dH)
 rk:Fun K "_law_bend" "_law_bend" jL t.dH t.jR
 sS:W.keepIn K (.ref t.dH)=true
 s0:bt K t.jR ["_law_pen_here","_law_text","_law_signs"] []
 fu:mg "_law_heard"=some (.ref t.cJ)
 qI:Fun K "_law_heard" "_law_heard" g5 t.cJ t.fz
 fA:W.keepIn K (.ref t.cJ)=true
 fB:bt K t.fz ["_law_asked"] []
 qN:mg "_law_first"=some (.ref t.cN)
 qH:Fun K "_law_first" "_law_first" hW t.cN t.gX
 qf:W.keepIn K (.ref t.cN)=true
 qm:bt K t.gX ["_law_places","_law_text"] []
 zd:mg "law"=some (.ref t.eY)
 AN:Fun K "law" "law" ik t.eY t.kl
 AQ:W.keepIn K (.ref t.eY)=true
 vX:bt K t.kl ["_law_script"] []
 x8:∀(s:Shared)(v:Value),BindsTo s t.kl ⟨[v],[]⟩ [("_law_script",v)]
 lG:mg "ValueError"=none
 qV:mg "abs"=none
 rC:mg "int"=none
 dq:mg "isinstance"=none
 gB:mg "len"=none
 lA:mg "range"=none
 eZ:mg "repr"=none
 vJ:mg "str"=none
 pb:mg "JOINS"=some (.ref t.c0)
 px:StD t.wo K t.c0 [("&",V.str "and"),("|",V.str "or")]
 jU:mg "PLACE_SIGNS"=some (.ref t.bq)
 j0:StZ K t.bq ["0","1","2","3","4"]
 g4:mg "BEHIND_BRACKET"=some (.ref t.aW)
 gW:StZ K t.aW [")","saying","join","saying"]
 eA:qo K "law" "law" ik t.eY t.kl t.kJ t.vX
 mZ:mg "TalkError"=some (.ref t.cK)
 rU:mg "NoCase"=some (.ref t.cr)
 nI:mg "NoSaying"=some (.ref t.br)
 sF:mg "NoTalk"=some (.ref t.cq)
 tF:mg "NoRise"=some (.ref t.cw)
 qE:mg "TooMany"=some (.ref t.bM)
 u8:mg "NoRow"=some (.ref t.c9)
 tR:mg "NoWord"=some (.ref t.cg)
 ek:mg "NoText"=some (.ref t.aj)
 dE:Fun K "__init__" "NoText.__init__" bE t.bX t.ja
 dJ:bt K t.ja ["self","at"] []
 ce:qC K t.aj t.bX=true
 cT:nD K t.aj=true
 bF:W.kitOne K (.ref t.aj) (.ref t.cr)=some false
 bL:W.kitOne K (.ref t.aj) (.ref t.cw)=some false
 bR:W.kitOne K (.ref t.aj) (.ref t.c9)=some false
 bi:W.kitOne K (.ref t.aj) (.ref t.br)=some false
 bG:W.kitOne K (.ref t.aj) (.ref t.cq)=some false
 bK:W.kitOne K (.ref t.aj) (.ref t.cg)=some false
 bv:W.kitOne K (.ref t.aj) (.ref t.bM)=some false
 bI:W.kitOne K (.ref t.aj) (.ref t.aj)=some true
 a7:W.kitOne K (.ref t.aj) (.type "ValueError")=some true
 bb:W.exmOne K (.ref t.aj) (.ref t.cK)=some true
 gf:W.kitOne K (.type "NoneType") (.ref t.cr)=some false
 gw:W.kitOne K (.type "NoneType") (.ref t.cw)=some false
 iH:W.kitOne K (.type "NoneType") (.ref t.c9)=some false
 eH:W.kitOne K (.type "NoneType") (.ref t.br)=some false
 gE:W.kitOne K (.type "NoneType") (.ref t.cq)=some false
 gM:W.kitOne K (.type "NoneType") (.ref t.cg)=some false
 fw:W.kitOne K (.type "NoneType") (.ref t.bM)=some false
 gg:W.kitOne K (.type "NoneType") (.ref t.aj)=some false
 dj:W.kitOne K (.type "NoneType") (.type "ValueError")=some false
 sm:(K.lookup sysModules).isSome=true
 gq:(t.c0 == sysModules)=false
set_option hygiene false
local macro_rules | `(tactic| walk_at "ab")=>`(tactic| simp only[l9,oA,lS,oK,ph,pW,kK,nb,ke,pQ,pZ,wP,rG,pA,mU,oG,pi,nh,lZ,mr,pd,pp,mO,lO,mx,m8,pJ,t9,o6,pO,pe,qY,w9,oS,sP,pz,sw,o8,kA,l5,lR,ka,kE,jS,l8,oW,p9,mY,sR,pC,kR,mJ,lT,kC,pI,pE,pS,pX,mS,oO,l0,pK,kF,kB,mI,ia,jN,ir,lM,mF,qW,lQ,j4,ua,pR,sT,mX,ms,pY,p7,oH,oQ,my,kg,mV,rM,tw,ue,qU,sE,rb,tW,sI,rW,rK,me,p8,sG,sK,eL,Om.A0,Om.A3,sz1,sz2,sz3,sz4,sz5,sz7,sz9,Int.toNat_natCast,q9,sj,vS,w4,vZ,oV,oY,tm,pf,k7,pw,Nat.zero_le,AV.d.injEq,AV.r.injEq,D.int.injEq,D.bl.injEq,D.str.injEq,D.tup.injEq,D.lst.injEq,OC.own.injEq,V.ref.injEq,V.ty.injEq,List.map_cons,List.map_nil,List.cons_append,List.nil_append,List.length_cons,List.length_nil,List.length_map,List.length_append,List.replicate,List.getElem?_cons_zero,List.getElem?_cons_succ,List.set_cons_zero,List.set_cons_succ,Option.some.injEq,Option.map_some,exists_eq',exists_eq_left',List.cons.injEq,and_true,true_and,and_assoc,exists_and_left,Nat.sub_self,Nat.reduceAdd,Nat.reduceSub,Nat.reduceLeDiff,Int.reduceLT,Int.reduceToNat,decide_eq_true_eq,Bool.not_true,Bool.not_false,if_true,if_false,Bool.false_eq_true,reduceCtorEq,false_and,and_false,or_false,false_or,beq_iff_eq,bne_iff_ne,ne_eq,Bool.true_eq_false])
local macro_rules | `(tactic| walk_at "a1")=>`(tactic| simp only[l9,lS,oK,ph,pW,kK,nb,ke,pQ,pZ,wP,rG,pA,mU,oG,pi,nh,lZ,mr,pd,pp,mO,lO,mx,m8,pJ,t9,o6,pO,pe,qY,w9,oS,sP,pz,sw,o8,kA,l5,lR,ka,kE,jS,l8,oW,p9,mY,sR,pC,kR,mJ,lT,kC,pI,pE,pS,pX,mS,oO,l0,pK,kF,kB,mI,ia,jN,ir,lM,mF,qW,lQ,j4,ua,pR,sT,mX,ms,pY,p7,oH,oQ,my,kg,mV,rM,tw,ue,qU,sE,rb,tW,sI,rW,rK,me,p8,sG,sK,eL,Om.A0,Om.A3,sz1,sz2,sz3,sz4,sz5,sz7,sz9,Int.toNat_natCast,q9,sj,vS,w4,vZ,oV,oY,tm,pf,k7,pw,Nat.zero_le,AV.d.injEq,AV.r.injEq,D.int.injEq,D.bl.injEq,D.str.injEq,D.tup.injEq,D.lst.injEq,OC.own.injEq,V.ref.injEq,V.ty.injEq,List.map_cons,List.map_nil,List.cons_append,List.nil_append,List.length_cons,List.length_nil,List.length_map,List.length_append,List.replicate,List.getElem?_cons_zero,List.getElem?_cons_succ,List.set_cons_zero,List.set_cons_succ,Option.some.injEq,Option.map_some,exists_eq',exists_eq_left',List.cons.injEq,and_true,true_and,and_assoc,exists_and_left,Nat.sub_self,Nat.reduceAdd,Nat.reduceSub,Nat.reduceLeDiff,Int.reduceLT,Int.reduceToNat,decide_eq_true_eq,Bool.not_true,Bool.not_false,if_true,if_false,Bool.false_eq_true,reduceCtorEq,false_and,and_false,or_false,false_or,beq_iff_eq,bne_iff_ne,ne_eq,Bool.true_eq_false])
local macro_rules | `(tactic| walk_at "s1")=>`(tactic| (try walk_at "a1");(first|rw[oA]|rw[rm]);walk_at "a1")
set_option hygiene true
section
variable{P:Program}{w:World}{K:W.Frag}{mg:Str->Option Value}{base:Heap}{t:Adr}
noncomputable def scr(K:W.Frag)(a:Addr)(ns:List Int):AV:=.p (.ref a) (fun H=>SqL K H a (ns.map V.int))
noncomputable def yF(K:W.Frag)(te:AE)(tl th:AO):AE:=fun ρ Z Q=>te ρ Z fun x Z1=>tl ρ Z1 fun lo Z2=>th ρ Z2 fun hi Z3=>∃a ns,x=scr K a ns/\Q (.d (.lst (eW (ns.map D.int) lo hi))) Z3
theorem z9{te:TE}{te':AE}{tl th:TO}{tl' th':AO}(he:aZ te te')(hl:Ref REq tl tl')(hh:Ref REq th th'):aZ (tSl (tD K) te tl th) (yF K te' tl' th'):=⟨fun F H Z σ ρ Q Q' rp rs w k=>
 he.go rp rs w fun x Z1 v H1 rp1 fr1 rs1 rv1 q1=>hl.go rp1 rs1 q1 fun lo Z2 lo' H2 rp2 fr2 rs2 e2 q2=>hh.go rp2 rs2 q2 fun hi Z3 hi' H3 rp3 fr3 rs3 e3 ⟨a,ns,e,q⟩=>by
  cases (show lo=lo' from e2)
  cases (show hi=hi' from e3)
  subst e;obtain⟨e4,e5⟩:=rv1.same (fr2.trans fr3).same
  exact .inl ⟨a,_,e4,e5 _ aV,(k.fr ((fr1.trans fr2).trans fr3)).lst rp3 (kz _ ns).cut q⟩⟩
structure Pl where
 ns:List Int
 i:Int
 f:Int
 h0:0<=i
 hf:0<=f
 hn:ns.length<=63
noncomputable def plO(c:Pl):OC:=.own [.d (.lst (c.ns.map D.int)),.d (.int c.i),.d (.int c.f)]
noncomputable def jy(Z:Om)(p:Addr):Prop:=∃c,Z p=some (plO c)
theorem bu{Z:Om}{p:Addr}{c:Pl}:jy (Z.put p (plO c)) p:=⟨c,Om.A0⟩
noncomputable def yd(K:W.Frag):ASp:=fun xs Z Q=>∃(a:Addr)(ns:List Int),xs=[scr K a ns]/\ns.length<=63/\∀p c,Z p=none->Q (.r (.ref p)) (Z.put p (plO c))
theorem xw(T:Txt K mg t):aY P w K mg base CX0 1 t.eJ t.lB ["_law_script"] (eU (yd K)):=by
 refine T.u6.okA sk (fun xs Z Q h=>by obtain⟨a,ns,rfl,_⟩:=h;rfl) (fun cdv A outer s H E hr=>⟨_,_,(al (aX (cM (ac (bf (yh K rfl) (pv 0) b8 (bj ak)) (ah ak (ah ak af)))))),(bz (jD (aa (z9 ae cR (bS ao)) (aa ao (aa ao ai))))),fun xs Z Q h=>?_⟩)
 obtain⟨a,ns,rfl,hn,k⟩:=h;walk_at "ab";unfold yF;walk_at "ab";refine⟨a,ns,rfl,fun p hp=>?_⟩;have e:eW (ns.map D.int) none (some 63)=(eW ns none (some 63)).map D.int:=by simp[eW]
 rw[e];exact k p ⟨eW ns none (some 63),0,0,Int.le_refl _,Int.le_refl _,Nat.le_trans (by simp only[eW,List.length_take,List.length_drop];omega) hn⟩ hp
noncomputable def iM:ASp:=fun xs Z Q=>∃(p:Addr)(m:Int),xs=[.r (.ref p),.d (.int m)]/\jy Z p/\0<m/\m<1073741824/\∀(r:Int)(c:Pl),0<=r->r<m->Q (.d (.int r)) (Z.put p (plO c))
theorem iO(T:Txt K mg t):aY P w K mg base CX0 1 t.dC t.jO ["_law_pen_here","_law_many"] (eU iM):=by
 refine T.sN.okA cc (fun xs Z Q h=>by obtain⟨p,m,rfl,_⟩:=h;rfl) (fun cdv A outer s H E hr=>⟨_,_,(ag (kY (pv 0) (yq (n:=3) rfl (jb (eF (i:=2) cc.nd rfl (Or.inl rfl)) (jb (eF (i:=3) cc.nd rfl (Or.inl rfl)) (jb (eF (i:=4) cc.nd rfl (Or.inl rfl)) vk)))))
   (ag (bA (av sH (pv 4) ak (aF _)) (ag (kY (az lh (pv 4) (pv 1)) (nR (pv 0) ak jQ))
   (al (aX (az ez (pv 4) (pv 1))))) bg)
   (ag (kY (az (aB cF (aB bC cG)) (pv 3) ak) (nR (pv 0) ak jQ))
   (ag (aA (i:=5) cc.nd rfl (Or.inl rfl) ak)
   (ag (bA (av sH (aD (b9 K rfl) (by rfl) T.gB (by kernel_rfl) (ac (pv 2) af)) ak (aF _)) (al (aA (i:=5) cc.nd rfl (Or.inl rfl) (dc (bo K rfl) (pv 2) (az ez (pv 3) (aD (b9 K rfl) (by rfl) T.gB (by kernel_rfl) (ac (pv 2) af))) (fun _ _=>rfl)))) bg)
   (ag (bA (PW.pt (et (av vV (pv 3) (aD (b9 K rfl) (by rfl) T.gB (by kernel_rfl) (ac (pv 2) af)) (aF _)) (dm (av yz (aD jv (by rfl) T.qV (by kernel_rfl) (ac (pv 5) af)) (az xZ ak ak) (aF _))))) (ag (kY (az lh (aD jv (by rfl) T.qV (by kernel_rfl) (ac (pv 5) af)) (pv 1)) (nR (pv 0) ak jQ))
   (al (aX (az ez (aD jv (by rfl) T.qV (by kernel_rfl) (ac (pv 5) af)) (pv 1))))) bg)
   (ag (aA (i:=6) cc.nd rfl (Or.inl rfl) (az ez (az (aB f8 fM) (az (aB cF (aB bC cG)) (az (aB cF (aB bC cG)) (az ez (pv 5) ak) (az (aB f8 fM) ak (pv 3))) ak) ak) ak))
   (ag (aA (i:=6) cc.nd rfl (Or.inl rfl) (az ez (az (aB cF (aB bC cG)) (az (aB cF (aB bC cG)) (az (aB f8 fM) (pv 6) (pv 6)) (az (aB f8 fM) ak (pv 6))) (pv 3)) ak))
   (ag (aA (i:=6) cc.nd rfl (Or.inl rfl) (az ez (az (aB cF (aB bC cG)) (az (aB f8 fM) (pv 6) ak) (az (aB f8 fM) ak (pv 3))) ak))
   (al (aX (az ez (az lh (az ez (az (aB f8 fM) (pv 6) (pv 6)) ak) ak) (pv 1))))))))))))),(aL (aR ae (y2 (nB ax (nB ax (nB ax zy)))))
   (aL (eV (aJ (am j9 ae ao)) (aL (aR (am gO ae ae) (rL ae ao))
   (bz (am gO ae ae))) bO)
   (aL (aR (am dO ae ao) (rL ae ao))
   (aL (aR ao ax)
   (aL (eV (aJ (am j9 (cP sd (aa ae ai)) ao)) (aR (am gT ae (am gO ae (cP sd (aa ae ai)))) ax) bO)
   (aL (eV (gC (aJ (am j9 ae (cP sd (aa ae ai)))) (aJ (am j9 (cP xf (aa ae ai)) (am gO ao ao)))) (aL (aR (am gO (cP xf (aa ae ai)) ae) (rL ae ao))
   (bz (am gO (cP xf (aa ae ai)) ae))) bO)
   (aL (aR (am gO (am jF (am dO (am dO (am gO ae ao) (am jF ao ae)) ao) ao) ao) ax)
   (aL (aR (am gO (am dO (am dO (am jF ae ae) (am jF ao ae)) ae) ao) ax)
   (aL (aR (am gO (am dO (am jF ae ao) (am jF ao ae)) ao) ax)
   (bz (am gO (am gO (am gO (am jF ae ae) ao) ao) ae))))))))))),fun xs Z Q h=>?_⟩)
 obtain⟨p,m,rfl,⟨c,hp⟩,hm,hm2,k⟩:=h;have fin:∀(r:Int)(c:Pl),Q (.d (.int (r%m))) (Z.put p (plO c)):=fun r c=>k _ c (Int.emod_nonneg _ (by omega)) (Int.emod_lt_of_pos _ hm)
 unfold plO at hp;walk_at "s1";rw[hp];refine⟨_,rfl,rfl,_,_,rfl,_,_,rfl,_,_,rfl,rfl,?_⟩;walk_at "s1";refine mE (fun h1=>?_) (fun h1=>?_)
 ·walk_at "ab"
  simp only[hp];walk_at "ab";exact⟨⟨hm,hm2⟩,hm,fin _ ⟨c.ns,c.i,c.f / m,c.h0,Int.ediv_nonneg c.hf (by omega),c.hn⟩⟩
 ·walk_at "s1"
  simp only[hp];walk_at "a1";walk_at "s1";refine pD (fun ρ' Z'=>Z'=Z.put p (OC.own [AV.d (D.lst (c.ns.map D.int)),AV.d (D.int (c.i+1)),AV.d (D.int c.f)])/\∃x:Int,ρ'=[some (AV.r (V.ref p)),some (AV.d (D.int m)),some (AV.d (D.lst (c.ns.map D.int))),some (AV.d (D.int c.i)),some (AV.d (D.int c.f)),some (AV.d (D.int x)),none]) (fun M kM=>?_) ?_
  ·walk_at "a1"
   refine mE (fun h2=>?_) (fun h2=>?_)
   ·have hx1:0<=c.i%(c.ns.length:Int):=Int.emod_nonneg _ (by omega)
    have hx2:c.i%(c.ns.length:Int)<(c.ns.length:Int):=Int.emod_lt_of_pos _ h2;obtain⟨y,_,_,ey⟩:=uu (f:=AV.d ∘ D.int) (xs:=c.ns) hx1 hx2;rw[←List.map_map] at ey
    exact⟨h2,_,ey,kM _ _ ⟨rfl,_,rfl⟩⟩
   ·exact kM _ _ ⟨rfl,_,rfl⟩
  rintro ρ Z' ⟨rfl,x,rfl⟩;have absn:∀z:Int,0<=(if z<0 then -z else z):=fun z=>by split<;>omega
  refine pD (fun ρ' Z'=>Z'=Z.put p (OC.own [AV.d (D.lst (c.ns.map D.int)),AV.d (D.int (c.i+1)),AV.d (D.int c.f)])/\ρ'=[some (AV.r (V.ref p)),some (AV.d (D.int m)),some (AV.d (D.lst (c.ns.map D.int))),some (AV.d (D.int c.i)),some (AV.d (D.int c.f)),some (AV.d (D.int x)),none]) (fun M kM=>?_) ?_
  ·walk_at "a1"
   refine mE (fun h2=>⟨⟨by decide,by decide,by decide⟩,mE (fun h3=>?_) (fun h3=>kM _ _ ⟨rfl,rfl⟩)⟩) (fun h2=>kM _ _ ⟨rfl,rfl⟩)
   walk_at "ab";exact⟨⟨hm,hm2⟩,hm,fin _ ⟨c.ns,c.i+1,(if x<0 then -x else x) / m,by have:=c.h0;omega,Int.ediv_nonneg (absn x) (by omega),c.hn⟩⟩
  rintro ρ Z' ⟨rfl,rfl⟩;walk_at "ab";exact⟨nO (by decide),rP (by decide),ma (by decide) (by decide),nO (by decide),rP (by decide),nO (by decide),ma (by decide) (by decide),⟨by decide,by decide⟩,hm,fin _ ⟨c.ns,c.i+1,c.f,by have:=c.h0;omega,c.hf,c.hn⟩⟩
theorem qc{H:Hp}{a:Addr}{ns:List Int}(h:SqL K H a (ns.map V.int)):RV (cut (fun _=>false) H (fun _=>none)) (scr K a ns) (.ref a):=by
 refine⟨rfl,fun G' s=>?_⟩;have s2:cZ H G':=fun b o e=>s b o (bY.mpr ⟨rfl,rfl,e⟩);rcases h with(h|⟨o,h⟩)|h
 ·exact .inl (.inl (s2 _ _ h))
 ·exact .inl (.inr ⟨o,s2 _ _ h⟩)
 ·exact .inr h
theorem AB{H:Hp}:Rep (fun _=>false) H (fun _=>none):=⟨fun _ _ h=>by simp at h,fun _ _ h=>by simp at h,fun _ h=>by simp at h,fun _ _ h=>by simp at h⟩
noncomputable def uJ(K:W.Frag):ASp:=fun xs Z Q=>∃(a:Addr)(ns:List Int),xs=[scr K a ns]/\ns.length<=63/\Z=(fun _=>none)/\∀Z',Q (.d (.bl true)) Z'
noncomputable def lv(K:W.Frag):Sp:=eU (uJ K)
theorem qS{K:W.Frag}{H:Hp}{a:Addr}{ns:List Int}(hl:ns.length<=63)(hO:zf H)(hS:SqL K H a (ns.map V.int)):lv K [.ref a] H (fun v _=>v=.bl true) fun _ _ _=>False:=
 ⟨fun _=>false,[scr K a ns],fun _=>none,fun a _=>a=.d (.bl true),AB,⟨_,_,rfl,qc hS,rfl⟩,⟨a,ns,rfl,hl,rfl,fun _=>rfl⟩,fun a Z' v H' _ _ rv q=>by subst q;exact vO rv⟩
theorem cU{n:Nat}(h:n<=10000):n<=sizeLine:=Nat.le_trans h (by decide)
theorem si(l:List Nat){a b:Nat}(hab:a<=b)(hb:b<=l.length):Txt.slice (tx l) (some (a:Int)) (some (b:Int))=tx ((l.drop a).take (b-a)):=by
 unfold Txt.slice;have h1:=StrLaws.sliced_plain (tx l) (a:=a) (b:=b) hab (by rw[aw];exact hb)
 have h2:=StrLaws.strSliceIndices_plain (a:=a) (b:=b) (len:=(tx l).length) hab (by rw[aw];exact hb)
 rw[h1,h2,List.length_map,List.length_range,aw];split
 ·rename_i h
  have hl:b-a=l.length:=by simpa using h
  have a0:a=0:=by omega
  subst a0;rw[List.drop_zero,List.take_of_length_le (by omega)]
 ·simp[tx]
theorem gF(a:Nat)(len:Nat):(if ((a:Int)<0) then (a:Int)+len else (a:Int))=a:=by rw[if_neg (by omega)]
theorem gm(l:List Nat){a b:Nat}(hab:a<=b):Txt.slice (tx l) (some (a:Int)) (some (b:Int))=tx ((l.drop a).take (b-a)):=by
 have e:Builtin.Str.strSliceIndices (some (a:Int)) (some (b:Int)) 1 (tx l).length=Builtin.Str.strSliceIndices (some ((min a l.length:Nat):Int)) (some ((min b l.length:Nat):Int)) 1 (tx l).length:=by
  unfold Builtin.Str.strSliceIndices;rw[aw];simp only[show (1:Int)>0 by decide,if_true,gF]
  congr 1<;>omega
 have h:=si l (a:=min a l.length) (b:=min b l.length) (by omega) (by omega)
 unfold Txt.slice at h ⊢;rw[e,h]
 congr 1
 by_cases ha:a<=l.length
 ·rw[show min a l.length=a by omega]
  by_cases hb:b<=l.length
  ·rw[show min b l.length=b by omega]
  ·rw[List.take_of_length_le (by simp;omega),List.take_of_length_le (by simp;omega)]
 ·rw[List.drop_eq_nil_of_le (by omega),List.drop_eq_nil_of_le (by omega)]
  simp
theorem ni(l:List Nat)(b:Nat):Txt.slice (tx l) none (some (b:Int))=tx (l.take b):=by
 have e:Builtin.Str.strSliceIndices none (some (b:Int)) 1 (tx l).length=Builtin.Str.strSliceIndices (some ((0:Nat):Int)) (some (b:Int)) 1 (tx l).length:=by
  unfold Builtin.Str.strSliceIndices;simp only[show (1:Int)>0 by decide,if_true]
  congr 1
 have h:=gm l (a:=0) (b:=b) (by omega)
 unfold Txt.slice at h ⊢;rw[e,h];simp
theorem q0(l:List Nat)(a:Nat):Txt.slice (tx l) (some (a:Int)) none=tx (l.drop a):=by
 have e:Builtin.Str.strSliceIndices (some (a:Int)) none 1 (tx l).length=Builtin.Str.strSliceIndices (some (a:Int)) (some ((a+l.length:Nat):Int)) 1 (tx l).length:=by
  unfold Builtin.Str.strSliceIndices;rw[aw];simp only[show (1:Int)>0 by decide,if_true,gF]
  congr 1
  omega
 have h:=gm l (a:=a) (b:=a+l.length) (by omega)
 unfold Txt.slice at h ⊢;rw[e,h,List.take_of_length_le (by simp)]
noncomputable def sgT(l:List Nat)(i:Nat):List Nat:=(l[i]?).toList
noncomputable def xg:ASp:=fun xs Z Q=>∃(l:List Nat)(i:Nat),xs=[.d (.str (tx l)),.d (.int i)]/\l.length<=10000/\Q (.d (.str (tx (sgT l i)))) Z
theorem tu(T:Txt K mg t):aY P w K mg base CX0 1 t.cQ t.gQ ["text","at"] (eU xg):=by
 refine T.qt.okD nA (fun xs Z Q h=>by obtain⟨l,i,rfl,_⟩:=h;rfl) (fun cdv A outer s H E hr=>⟨_,_,(al (aX (bf cV (pv 0) (bj (pv 1)) (bj (az (aB cF (aB bC cG)) (pv 1) ak))))),(bz (ei ae (bS ae) (bS (am dO ae ao)))),fun xs Z Q h=>?_⟩)
 obtain⟨l,i,rfl,hl,k⟩:=h;walk_at "a1";refine⟨by rw[aw];exact cU hl,?_⟩
 have e:=gm l (a:=i) (b:=i+1) (by omega)
 have e2:(l.drop i).take (i+1-i)=sgT l i:=by
  unfold sgT;rw[show i+1-i=1 by omega]
  cases h:l[i]? with
  |none=>rw[List.drop_eq_nil_of_le (List.getElem?_eq_none_iff.mp h)];rfl
  |some c=>
   obtain⟨hi,e⟩:=List.getElem?_eq_some_iff.mp h;rw[List.drop_eq_getElem_cons hi,e];rfl
 rw[e2] at e;rw[show ((i:Int)+1)=((i+1:Nat):Int) by omega,e,ba]
 exact k
noncomputable def xu(t:Adr):cL:=fun xs Z Q Ex=>∃d,xs=[.d d]/\(isD "str" d=true->Q (.d .non) Z)/\(isD "str" d=false->Ex (enC t.aj 0) Z)
theorem xz(T:Txt K mg t):aY P w K mg base (CXn P w) 3 t.bc t.dI ["thing"] (fb (xu t)):=by
 refine T.jq.okN iC (fun xs Z Q Ex h=>by obtain⟨d,rfl,_⟩:=h;rfl) (fun cdv A outer s H E hr=>⟨_,_,(al (bA (PT.nox (nK (eh K rfl (aD tI (by rfl) T.dq (by kernel_rfl) (ac (pv 0) (ac (oU (v:=.ty "str") (by rfl) T.vJ (by kernel_rfl) (by rfl)) af))) (fun _=>rfl)))) (al (fx (hr.mono (by omega)) (by rfl) T.ek T.ce T.dE db aT.1 aT.2 T.dJ da (ah ak af))) bg)),(mK (sD (lY (cP zF (aa ae (aa d0 ai))))) (gG (aa ao ai)) (eI bO)),fun xs Z Q Ex h=>?_⟩)
 obtain⟨d,rfl,k1,k2⟩:=h;walk_at "a1";refine⟨by decide,?_⟩
 rw[ba]
 cases h:isD "str" d with
 |true=>exact k1 h
 |false=>exact⟨0,rfl,k2 h⟩
noncomputable def vw(t:Adr):cL:=fun xs Z Q Ex=>∃(l:List Nat)(p:Nat),xs=[.d (.str (tx l)),.d (.int p)]/\l.length<=10000/\(p<l.length->Ex (enC t.aj p) Z)/\(¬ p<l.length->Q (.d .non) Z)
theorem uT(T:Txt K mg t):aY P w K mg base (CXn P w) 3 t.cC t.f9 ["text","at"] (fb (vw t)):=by
 refine T.oy.okN l7 (fun xs Z Q Ex h=>by obtain⟨l,p,rfl,_⟩:=h;rfl) (fun cdv A outer s H E hr=>⟨_,_,(al (bA (PT.nox (av vV (pv 1) (aD (b9 K rfl) (by rfl) T.gB (by kernel_rfl) (ac (pv 0) af)) (aF _))) (al (fx (hr.mono (by omega)) (by rfl) T.ek T.ce T.dE db aT.1 aT.2 T.dJ da (ac (pv 1) af))) bg)),(mK (aJ (am j9 ae (cP g8 (aa ae ai)))) (gG (aa ae ai)) (eI bO)),fun xs Z Q Ex h=>?_⟩)
 obtain⟨l,p,rfl,hl,k1,k2⟩:=h;walk_at "a1";refine⟨by rw[aw];exact cU hl,?_⟩
 rw[aw,ba];refine mE (fun h=>⟨p,rfl,k1 (by omega)⟩) (fun h=>k2 (by omega))
theorem uB:∀n:Fin 6,eW [Str.ofString "0",Str.ofString "1",Str.ofString "2",Str.ofString "3",Str.ofString "4"] none (some (n.val:Int))=(List.range n.val).map fun i=>tx [48+i]:=by decide +kernel
theorem uI:∀i:Fin 10,PySem.intText? (tx [48+i.val])=some (i.val:Int):=by decide +kernel
noncomputable def fig(n c:Nat):Bool:=decide (48<=c/\c<48+n)
theorem pF{n:Nat}(hn:n<=5)(s:List Nat):tx s∈eW [Str.ofString "0",Str.ofString "1",Str.ofString "2",Str.ofString "3",Str.ofString "4"] none (some (n:Int))↔∃c,s=[c]/\fig n c=true:=by
 have:=uB ⟨n,by omega⟩
 simp only at this;rw[this,List.mem_map];constructor
 ·rintro⟨i,hi,e⟩
  have hi:=List.mem_range.mp hi;exact⟨48+i,(dR.mp e).symm,by unfold fig;exact decide_eq_true ⟨by omega,by omega⟩⟩
 ·rintro⟨c,rfl,h⟩
  have h:48<=c/\c<48+n:=of_decide_eq_true h;exact⟨c-48,List.mem_range.mpr (by omega),by rw[show 48+(c-48)=c by omega]⟩
noncomputable def xt(t:Adr):cL:=fun xs Z Q Ex=>∃(n:Nat)(l:List Nat)(i:Nat),xs=[.d (.int n),.d (.str (tx l)),.d (.int i)]/\n<=5/\l.length<=10000/\(∀c,l[i]?=some c->fig n c=true->Q (.d (.int (c-48:Nat))) Z)/\((∀c,l[i]?=some c->fig n c=false)->Ex (enC t.aj i) Z)
theorem xL(T:Txt K mg t):aY P w K mg base (CXn P w) 3 t.cH t.f6 ["places","text","at"] (fb (xt t)):=by
 have G_sign_at:aY P w K mg base _ _ _ _ _ _:=tu T
 refine T.ou.okN im (fun xs Z Q Ex h=>by obtain ⟨n,l,i,rfl,_⟩:=h;rfl) (fun cdv A outer s H E hr=>⟨_,_,(ag (PS.nox (aA (i:=3) im.nd rfl (Or.inl rfl) (aE G_sign_at (hr.mono (by omega)) (by rfl) T.kG T.kL T.j7 .nil bP (ac (pv 1) (ac (pv 2) af)))))
   (ag (bA (PT.nox (av (qq K rfl hr.A4) (pv 3) (bf (t6 K rfl) (cx (v:=.ref t.bq) rfl T.jU rfl) b8 (bj (pv 0))) (by with_unfolding_all rfl))) (al (fx (hr.mono (by omega)) (by rfl) T.ek T.ce T.dE db aT.1 aT.2 T.dJ da (ac (pv 2) af))) bg)
   (al (PS.nox (aX (fv qK (by rfl) T.rC (by kernel_rfl) (ac (pv 3) af))))))),(dG (eI (aR (a8 (aa ae (aa ae ai))) ax))
   (dG (mK (aJ (am yN ae (zn d0 cR (bS ae)))) (gG (aa ae ai)) (eI bO))
   (eI (bz (cP xl (aa ae ai)))))),fun xs Z Q Ex h=>?_⟩)
 obtain⟨n,l,i,rfl,hn,hl,k1,k2⟩:=h;walk_at "s1";refine⟨l,i,rfl,hl,?_⟩;walk_at "s1";refine⟨_,.inl ⟨_,rfl,T.j0⟩,fun a=>⟨_,.inr ⟨a,rfl⟩,?_⟩⟩;by_cases h:tx (sgT l i)∈eW [Str.ofString "0",Str.ofString "1",Str.ofString "2",Str.ofString "3",Str.ofString "4"] none (some (n:Int))
 ·rw[if_neg (by rw[decide_eq_true h];simp)]
  obtain⟨c,ec,hf⟩:=(pF hn _).mp h
  have hc:l[i]?=some c:=by
   unfold sgT at ec
   cases e:l[i]? with
   |none=>rw[e] at ec;simp at ec
   |some d=>rw[e] at ec;simp at ec;rw[ec]
  have h2:48<=c/\c<48+n:=of_decide_eq_true hf;rw[ec];have e:=uI ⟨c-48,by omega⟩
  simp only[show 48+(c-48)=c by omega] at e
  refine⟨_,e,by rw[aw];simp,?_⟩
  rw[ba];exact k1 c hc hf
 ·rw[if_pos (by rw[decide_eq_false h];simp)]
  refine⟨i,rfl,?_⟩;rw[ba];refine k2 fun c hc=>?_
  cases hf:fig n c with
  |false=>rfl
  |true=>exact absurd ((pF hn _).mpr ⟨c,by unfold sgT;rw[hc];rfl,hf⟩) h
noncomputable def stx:Sy->List Nat
 |.is i b=>(if b=1 then [] else [33])++[48+i.toNat]
 |.jn a l r=>[40]++stx l++[if a then 38 else 124]++stx r++[41]
inductive Pd where
 |sy (x:Sy)
 |jo (a:Bool)
 |cl
noncomputable def Pd.tx:Pd->List Nat
 |.sy x=>stx x
 |.jo a=>[if a then 38 else 124]
 |.cl=>[41]
noncomputable def Pd.wd:Pd->Str
 |.sy _=>"saying"
 |.jo _=>"join"
 |.cl=>")"
noncomputable def plT(p:List Pd):List Nat:=p.flatMap Pd.tx
noncomputable def Pd.ok(n:Nat):Pd->Prop
 |.sy x=>x.ok n
 |_=>True
noncomputable def iD:List Pd->List Bool->List Sy->Option (List Sy)
 | [],_,d=>some d
 |.sy x::p,j,d=>iD p j (x::d)
 |.jo a::p,j,d=>iD p (a::j) d
 |.cl::p,a::j,r::l::d=>iD p j (.jn a l r::d)
 |.cl::_,_,_=>none
noncomputable def jnD(a:Bool):D:=.str (if a then "and" else "or")
noncomputable def jsA(j:List Bool):List AV:=(j.reverse.map jnD).map AV.d
noncomputable def dnA(d:List Sy):List AV:=(d.reverse.map Sy.d).map AV.d
theorem dr1{l:List Nat}{i c:Nat}{r:List Nat}(h:l.drop i=c::r):l[i]?=some c/\l.drop (i+1)=r/\i+1<=l.length:=by
 have hi:i<l.length:=by
  by_cases hi:i<l.length
  ·exact hi
  ·rw[List.drop_eq_nil_of_le (by omega)] at h;cases h
 rw[List.drop_eq_getElem_cons hi] at h;injection h with h1 h2;exact⟨by rw[List.getElem?_eq_getElem hi,h1],h2,hi⟩
theorem i9(a:Bool)(j:List Bool):jsA (a::j)=jsA j++[.d (jnD a)]:=by simp[jsA]
theorem fi(x:Sy)(d:List Sy):dnA (x::d)=dnA d++[.d x.d]:=by simp[dnA]
theorem dz(e:Pd)(p:List Pd):plT (e::p)=e.tx++plT p:=by simp[plT]
theorem zi{i j:Nat}{R:AS}{D:bx}{ρ:SA}{Z:Om}{l:Addr}{xs:List AV}{y:AV}(h1:ρ[i]?=some (some (.r (.ref l))))(h2:Z l=some (.own (xs++[y])))(q:R D (ρ.set j (some y)) (Z.put l (.own xs))):uE (uv (ur (vg i)) (lg j)) R D ρ Z:=
 ⟨_,h1,l,xs++[y],y,rfl,h2,by simp,by rw[List.dropLast_concat];exact q⟩
inductive Wk where
 |sy
 |jo
 |cl
noncomputable def pr(n:Nat):List Nat->Nat->List Wk->List Bool->List Sy->Except Nat (List Sy)
 | [],p,[],_,d=>.ok d
 |_::_,p,[],_,_=>.error p
 | [],p,_::_,_,_=>.error p
 |c::l,p,.sy::W,j,d=>
  if c=40 then pr n l (p+1) (.sy::.jo::.sy::.cl::W) j d
  else if c=33 then
   match l with
   | []=>.error (p+1)
   |c2::l2=>if fig n c2=true then pr n l2 (p+2) W j (.is (c2-48:Nat) 0::d) else .error (p+1)
  else if fig n c=true then pr n l (p+1) W j (.is (c-48:Nat) 1::d) else .error p
 |c::l,p,.jo::W,j,d=>if c=38 then pr n l (p+1) W (true::j) d else if c=124 then pr n l (p+1) W (false::j) d else .error p
 |c::l,p,.cl::W,j,d=>if c=41 then match j,d with
   |a::j,r::x::d=>pr n l (p+1) W j (.jn a x r::d)
   |_,_=>.error p
  else .error p
noncomputable def cnt:List Wk->Nat->Nat->Bool
 | [],j,d=>decide (j=0/\d=1)
 |.sy::W,j,d=>cnt W j (d+1)
 |.jo::W,j,d=>cnt W (j+1) d
 |.cl::W,j,d=>decide (1<=j/\2<=d) && cnt W (j-1) (d-1)
noncomputable def Pd.knd:Pd->Wk
 |.sy _=>.sy
 |.jo _=>.jo
 |.cl=>.cl
theorem r8{n c:Nat}(h:fig n c=true)(b:Int)(hb:b=0\/b=1):(Sy.is (c-48:Nat) b).ok n/\48+((c-48:Nat):Int).toNat=c:=by
 have h:48<=c/\c<48+n:=of_decide_eq_true h;exact⟨⟨by omega,by omega,hb⟩,by omega⟩
theorem uU(n:Nat):∀(k:Nat)(l:List Nat)(p:Nat)(W:List Wk)(j:List Bool)(d R:List Sy),l.length<=k->pr n l p W j d=.ok R->∃pl:List Pd,pl.map Pd.knd=W/\plT pl=l/\(∀e∈pl,e.ok n)/\iD pl j d=some R:=by
 have base:∀(p:Nat)(W:List Wk)(j:List Bool)(d R:List Sy),pr n [] p W j d=.ok R->∃pl:List Pd,pl.map Pd.knd=W/\plT pl=[]/\(∀e∈pl,e.ok n)/\iD pl j d=some R:=fun p W j d R h=>by
  cases W with
  |nil=>simp only[pr,Except.ok.injEq] at h;exact⟨[],rfl,rfl,fun e he=>by simp at he,by rw[h];rfl⟩
  |cons w W=>simp[pr] at h
 intro k
 induction k with
 |zero=>
  intro l p W j d R hl h;obtain rfl:=List.length_eq_zero_iff.mp (Nat.le_zero.mp hl);exact base p W j d R h
 |succ k ih=>
  intro l p W j d R hl h
  cases l with
  |nil=>exact base p W j d R h
  |cons c l=>
   simp only[List.length_cons] at hl
   cases W with
   |nil=>simp[pr] at h
   |cons wk W=>
    cases wk with
    |sy=>
     rw[pr.eq_def] at h;dsimp only at h;split at h
     ·rename_i hc
      subst hc;obtain⟨pl,e1,e2,e3,e4⟩:=ih l _ _ _ _ _ (by omega) h
      match pl,e1 with
      |.sy x::.jo a::.sy y::.cl::pl,e1=>
       simp only[List.map_cons,List.cons.injEq,Pd.knd] at e1;refine⟨.sy (.jn a x y)::pl,by simp[Pd.knd,e1],?_,fun e he=>?_,?_⟩
       ·simp only[dz,Pd.tx] at e2 ⊢
        rw[←e2]
        simp[stx]
       ·rcases List.mem_cons.mp he with rfl|he
        ·exact⟨e3 (.sy x) (by simp),e3 (.sy y) (by simp)⟩
        ·exact e3 e (by simp[he])
       ·simpa[iD] using e4
     ·split at h
      ·rename_i hc
       subst hc;split at h
       ·cases h
       ·rename_i c2 l2
        split at h
        ·rename_i hf
         obtain⟨pl,e1,e2,e3,e4⟩:=ih l2 _ _ _ _ _ (by simp only[List.length_cons] at hl;omega) h
         obtain⟨g1,g2⟩:=r8 hf 0 (.inl rfl);refine⟨.sy (.is (c2-48:Nat) 0)::pl,by simp[Pd.knd,e1],?_,fun e he=>?_,by simpa[iD] using e4⟩
         ·rw[dz,e2,Pd.tx,stx,g2]
          simp
         ·rcases List.mem_cons.mp he with rfl|he
          ·exact g1
          ·exact e3 e he
        ·cases h
      ·split at h
       ·rename_i hf
        obtain⟨pl,e1,e2,e3,e4⟩:=ih l _ _ _ _ _ (by omega) h
        obtain⟨g1,g2⟩:=r8 hf 1 (.inr rfl);refine⟨.sy (.is (c-48:Nat) 1)::pl,by simp[Pd.knd,e1],?_,fun e he=>?_,by simpa[iD] using e4⟩
        ·rw[dz,e2,Pd.tx,stx,g2]
         simp
        ·rcases List.mem_cons.mp he with rfl|he
         ·exact g1
         ·exact e3 e he
       ·cases h
    |jo=>
     simp only[pr] at h;split at h
     ·rename_i hc
      subst hc;obtain⟨pl,e1,e2,e3,e4⟩:=ih l _ _ _ _ _ (by omega) h
      exact⟨.jo true::pl,by simp[Pd.knd,e1],by simp[dz,e2,Pd.tx],fun e he=>by
       rcases List.mem_cons.mp he with rfl|he
       ·trivial
       ·exact e3 e he,by simpa[iD] using e4⟩
     ·split at h
      ·rename_i hc
       subst hc;obtain⟨pl,e1,e2,e3,e4⟩:=ih l _ _ _ _ _ (by omega) h
       exact⟨.jo false::pl,by simp[Pd.knd,e1],by simp[dz,e2,Pd.tx],fun e he=>by
        rcases List.mem_cons.mp he with rfl|he
        ·trivial
        ·exact e3 e he,by simpa[iD] using e4⟩
      ·cases h
    |cl=>
     simp only[pr] at h;split at h
     ·rename_i hc
      subst hc;split at h
      ·rename_i a j' r x d'
       obtain⟨pl,e1,e2,e3,e4⟩:=ih l _ _ _ _ _ (by omega) h
       exact⟨.cl::pl,by simp[Pd.knd,e1],by simp[dz,e2,Pd.tx],fun e he=>by
        rcases List.mem_cons.mp he with rfl|he
        ·trivial
        ·exact e3 e he,by simpa[iD] using e4⟩
      ·cases h
     ·cases h
theorem rV{n:Nat}{l:List Nat}{R:List Sy}(h:pr n l 0 [.sy] [] []=.ok R):∃x:Sy,R=[x]/\x.ok n/\stx x=l:=by
 obtain⟨pl,e1,e2,e3,e4⟩:=uU n _ l _ _ _ _ _ (Nat.le_refl _) h
 match pl,e1 with
 | [.sy x],_=>exact⟨x,by simpa[iD] using e4.symm,e3 (.sy x) (by simp),by simpa[dz,plT,Pd.tx] using e2⟩
inductive Fk where
 |sy
 |jo
 |cl
 |fg
noncomputable def fl(n:Nat):List Nat->Nat->List Fk->Option Nat
 | [],p,[]=>none
 | [],p,_::_=>some p
 |_::_,p,[]=>some p
 |c::l,p,.sy::W=>if c=40 then fl n l (p+1) (.sy::.jo::.sy::.cl::W) else if c=33 then fl n l (p+1) (.fg::W) else if fig n c=true then fl n l (p+1) W else some p
 |c::l,p,.jo::W=>if c=38\/c=124 then fl n l (p+1) W else some p
 |c::l,p,.cl::W=>if c=41 then fl n l (p+1) W else some p
 |c::l,p,.fg::W=>if fig n c=true then fl n l (p+1) W else some p
noncomputable def Wk.f:Wk->Fk
 |.sy=>.sy
 |.jo=>.jo
 |.cl=>.cl
theorem yS(n:Nat):∀(k:Nat)(l:List Nat)(p:Nat)(W:List Wk)(j:List Bool)(d:List Sy),l.length<=k->cnt W j.length d.length=true->(∃R,pr n l p W j d=.ok R/\fl n l p (W.map Wk.f)=none)\/∃q,pr n l p W j d=.error q/\fl n l p (W.map Wk.f)=some q:=by
 have base:∀(p:Nat)(W:List Wk)(j:List Bool)(d:List Sy),(∃R,pr n [] p W j d=.ok R/\fl n [] p (W.map Wk.f)=none)\/∃q,pr n [] p W j d=.error q/\fl n [] p (W.map Wk.f)=some q:=fun p W j d=>by
  cases W with
  |nil=>exact .inl ⟨d,by simp[pr],by simp[fl]⟩
  |cons w W=>exact .inr ⟨p,by simp[pr],by simp[fl]⟩
 intro k
 induction k with
 |zero=>
  intro l p W j d hl _;obtain rfl:=List.length_eq_zero_iff.mp (Nat.le_zero.mp hl);exact base p W j d
 |succ k ih=>
  intro l p W j d hl hc
  cases l with
  |nil=>exact base p W j d
  |cons c l=>
   simp only[List.length_cons] at hl
   cases W with
   |nil=>exact .inr ⟨p,by simp[pr],by simp[fl]⟩
   |cons wk W=>
    cases wk with
    |sy=>
     simp only[cnt] at hc;rw[pr.eq_def];simp only[List.map_cons,Wk.f,fl];by_cases h1:c=40
     ·simp only[if_pos h1]
      exact ih l (p+1) (.sy::.jo::.sy::.cl::W) j d (by omega) (by simp only[cnt];simpa using hc)
     ·simp only[if_neg h1]
      by_cases h2:c=33
      ·simp only[if_pos h2]
       cases l with
       |nil=>exact .inr ⟨p+1,rfl,by simp[fl]⟩
       |cons c2 l2=>
        simp only[fl];by_cases h3:fig n c2=true
        ·simp only[if_pos h3]
         exact ih l2 (p+2) W j (.is (c2-48:Nat) 0::d) (by simp only[List.length_cons] at hl;omega) (by simpa using hc)
        ·simp only[if_neg h3]
         exact .inr ⟨p+1,rfl,rfl⟩
      ·simp only[if_neg h2]
       by_cases h3:fig n c=true
       ·simp only[if_pos h3]
        exact ih l (p+1) W j (.is (c-48:Nat) 1::d) (by omega) (by simpa using hc)
       ·simp only[if_neg h3]
        exact .inr ⟨p,rfl,rfl⟩
    |jo=>
     simp only[cnt] at hc;simp only[pr,List.map_cons,Wk.f,fl];by_cases h1:c=38
     ·simp only[if_pos h1,if_pos (show c=38\/c=124 from .inl h1)]
      exact ih l (p+1) W (true::j) d (by omega) (by simpa using hc)
     ·simp only[if_neg h1]
      by_cases h2:c=124
      ·simp only[if_pos h2,if_pos (show c=38\/c=124 from .inr h2)]
       exact ih l (p+1) W (false::j) d (by omega) (by simpa using hc)
      ·simp only[if_neg h2,if_neg (show ¬ (c=38\/c=124) from fun z=>z.elim h1 h2)]
       exact .inr ⟨p,rfl,rfl⟩
    |cl=>
     simp only[cnt,Bool.and_eq_true,decide_eq_true_eq] at hc;obtain⟨⟨h1,h2⟩,hc⟩:=hc
     match j,d,h1,h2 with
     |a::j,r::x::d,_,_=>
      simp only[pr,List.map_cons,Wk.f,fl];by_cases h1:c=41
      ·simp only[if_pos h1]
       exact ih l (p+1) W j (.jn a x r::d) (by omega) (by simpa using hc)
      ·simp only[if_neg h1]
       exact .inr ⟨p,rfl,rfl⟩
noncomputable def Wk.wd:Wk->Str
 |.sy=>"saying"
 |.jo=>"join"
 |.cl=>")"
noncomputable def wkA(W:List Wk):List AV:=((W.map Wk.wd).reverse.map D.str).map AV.d
theorem ft(e:Wk)(W:List Wk):wkA (e::W)=wkA W++[.d (.str e.wd)]:=by simp[wkA]
theorem sY(l:List Nat)(i:Nat):(∃c,l[i]?=some c/\sgT l i=[c]/\l.drop i=c::l.drop (i+1)/\i+1<=l.length)\/(sgT l i=[]/\l.drop i=[]):=by
 cases h:l[i]? with
 |none=>exact .inr ⟨by unfold sgT;rw[h];rfl,List.drop_eq_nil_of_le (List.getElem?_eq_none_iff.mp h)⟩
 |some c=>
  obtain⟨hi,e⟩:=List.getElem?_eq_some_iff.mp h;exact .inl ⟨c,rfl,by unfold sgT;rw[h];rfl,by rw[List.drop_eq_getElem_cons hi,e],hi⟩
theorem om{i j:Nat}{R:AXS}{D:bx}{X:Addr->Om->Prop}{ρ:SA}{Z:Om}{l:Addr}{xs:List AV}{y:AV}(h1:ρ[i]?=some (some (.r (.ref l))))(h2:Z l=some (.own (xs++[y])))(q:R D X (ρ.set j (some y)) (Z.put l (.own xs))):t5 (xB (uv (ur (vg i)) (lg j))) R D X ρ Z:=
 ⟨_,h1,l,xs++[y],y,rfl,h2,by simp,by rw[List.dropLast_concat];exact q⟩
noncomputable def b7(t:Adr):cL:=fun xs Z Q Ex=>∃(n:Nat)(d:D),xs=[.d (.int n),.d d]/\n<=5/\((isD "str" d=false/\Ex (enC t.aj 0) Z)\/∃l:List Nat,d=.str (tx l)/\l.length<=10000/\(∀x,pr n l 0 [.sy] [] []=.ok [x]->Q (.d x.d) Z)/\(∀p,pr n l 0 [.sy] [] []=.error p->Ex (enC t.aj p) Z))
theorem iE(T:Txt K mg t):aY P t.wo K mg base (CXn P t.wo) 5 t.aN t.bp ["places","text"] (fb (b7 t)):=by
 have GX_must_be_text:aY P t.wo K mg base _ _ _ _ _ _:=xz T;have GX_must_end:aY P t.wo K mg base _ _ _ _ _ _:=uT T;have G_sign_at:aY P t.wo K mg base _ _ _ _ _ _:=tu T;have GX_place_at:aY P t.wo K mg base _ _ _ _ _ _:=xL T
 refine T.jT.okN aG (fun xs Z Q Ex h=>by obtain ⟨n,d,rfl,_⟩:=h;rfl) (fun cdv A outer s H E hr=>⟨_,_,(ag (dP (aE GX_must_be_text (hr.mono (by omega)) (by rfl) T.i6 T.i5 T.jE .nil gr (ac (PE.nox (pv 1)) af)))
   (ag (PS.nox (aA (i:=2) aG.nd rfl (Or.inl rfl) ak))
   (ag (PS.nox (aA (i:=3) aG.nd rfl (Or.inl rfl) (cM (ah ar af))))
   (ag (PS.nox (aA (i:=4) aG.nd rfl (Or.inl rfl) (cM af)))
   (ag (PS.nox (aA (i:=5) aG.nd rfl (Or.inl rfl) (cM af)))
   (ag (um PassesOwn.leaving (PT.nox (eh K rfl (pv 3) (fun _=>rfl))) (ag (PS.nox (aA (i:=6) aG.nd rfl (Or.inl rfl) (iU PySem.F.plainAttrs_list PySem.F.slot_list_pop PySem.F.type_list_pop jG (pv 3))))
   (ag (PS.nox (aA (i:=7) aG.nd rfl (Or.inl rfl) (aE G_sign_at (hr.mono (by omega)) (by rfl) T.kG T.kL T.j7 .nil bP (ac (pv 1) (ac (pv 2) af)))))
   (ag (bA (PT.nox (PW.pt (et (av (bD hr.A4) (pv 6) ar (aF _)) (dm (av (bD hr.A4) (pv 7) ar (aF _)))))) (al (PS.nox (dP (j8 PySem.F.plainAttrs_list PySem.F.slot_list_extend PySem.F.type_list_extend (vh K rfl) (pv 3) (ac (cx (v:=.ref t.aW) rfl T.g4 rfl) af))))) (al (bA (PT.nox (PW.pt (et (av (bD hr.A4) (pv 6) ar (aF _)) (dm (av (bD hr.A4) (pv 7) ar (aF _)))))) (ag (PS.nox (sC (i:=2) aG.nd rfl (Or.inl rfl) ak o9))
   (al (dP (j8 PySem.F.plainAttrs_list PySem.F.slot_list_append PySem.F.type_list_append dY (PE.nox (pv 5)) (cn (cf (ah (PE.nox ar) (ac (aE GX_place_at (hr.mono (by omega)) (by rfl) T.jI T.ju T.iW .nil gr (ac (PE.nox (pv 0)) (ac (PE.nox (pv 1)) (ac (PE.nox (pv 2)) af)))) (ah (PE.nox ak) af)))) af))))) (al (bA (PT.nox (av (bD hr.A4) (pv 6) ar (aF _))) (al (dP (j8 PySem.F.plainAttrs_list PySem.F.slot_list_append PySem.F.type_list_append dY (PE.nox (pv 5)) (cn (cf (ah (PE.nox ar) (ac (aE GX_place_at (hr.mono (by omega)) (by rfl) T.jI T.ju T.iW .nil gr (ac (PE.nox (pv 0)) (ac (PE.nox (pv 1)) (ac (PE.nox (pv 2)) af)))) (ah (PE.nox ak) af)))) af)))) (al (bA (PT.nox (PW.pt (et (av (bD hr.A4) (pv 6) ar (aF _)) (dm (av (xO T.px T.gq) (pv 7) (cx (v:=.ref t.c0) rfl T.pb rfl) (by with_unfolding_all rfl)))))) (al (PS.nox (dP (j8 PySem.F.plainAttrs_list PySem.F.slot_list_append PySem.F.type_list_append dY (pv 4) (ac (vi T.px (cx (v:=.ref t.c0) rfl T.pb rfl) (pv 7) (fun _ _=>rfl)) af))))) (al (bA (PT.nox (PW.pt (et (av (bD hr.A4) (pv 6) ar (aF _)) (dm (av (bD hr.A4) (pv 7) ar (aF _)))))) (ag (PS.nox (aA (i:=8) aG.nd rfl (Or.inl rfl) (iU PySem.F.plainAttrs_list PySem.F.slot_list_pop PySem.F.type_list_pop jG (pv 5))))
   (ag (PS.nox (aA (i:=9) aG.nd rfl (Or.inl rfl) (iU PySem.F.plainAttrs_list PySem.F.slot_list_pop PySem.F.type_list_pop jG (pv 5))))
   (al (PS.nox (dP (j8 PySem.F.plainAttrs_list PySem.F.slot_list_append PySem.F.type_list_append dY (pv 5) (cn (cf (ac (iU PySem.F.plainAttrs_list PySem.F.slot_list_pop PySem.F.type_list_pop jG (pv 4)) (ac (pv 9) (ac (pv 8) af)))) af))))))) (al (fx (hr.mono (by omega)) (by rfl) T.ek T.ce T.dE db aT.1 aT.2 T.dJ da (ac (pv 2) af))))))))))))
   (al (PS.nox (sC (i:=2) aG.nd rfl (Or.inl rfl) ak o9)))))))
   (ag (dP (aE GX_must_end (hr.mono (by omega)) (by rfl) T.nE T.nn T.ny .nil gr (ac (PE.nox (pv 1)) (ac (PE.nox (pv 2)) af))))
   (al (PS.nox (aX (dc (bo K rfl) (pv 5) ak (fun _ _=>rfl)))))))))))),(dG (iJ (iS (bn (cu ae) (cu ai))))
   (dG (eI (aR ao ax))
   (dG (eI (aR (jD (aa aH ai)) ax))
   (dG (eI (aR (jD ai) ax))
   (dG (eI (aR (jD ai) ax))
   (dG (rq (lY ae) (dG (eI (aR (m6 ae) ax))
   (dG (eI (aR (a8 (aa ae (aa ae ai))) ax))
   (dG (mK (gC (aJ (am bH ae aH)) (aJ (am bH ae aH))) (eI (lD (xU ae (aa d0 ai)))) (mK (gC (aJ (am bH ae aH)) (aJ (am bH ae aH))) (dG (eI (wr nc ao))
   (iJ (kb ae (bn (uq (bn (cu aH) (bn (iS (bn (cu ae) (bn (cu ae) (bn (cu ae) (cu ai))))) (bn (cu ao) (cu ai))))) (cu ai))))) (mK (aJ (am bH ae aH)) (iJ (kb ae (bn (uq (bn (cu aH) (bn (iS (bn (cu ae) (bn (cu ae) (bn (cu ae) (cu ai))))) (bn (cu ao) (cu ai))))) (cu ai)))) (mK (gC (aJ (am bH ae aH)) (aJ (am zA ae d0))) (eI (lD (iX ae (aa (xG ae) ai)))) (mK (gC (aJ (am bH ae aH)) (aJ (am bH ae aH))) (dG (eI (aR (m6 ae) ax))
   (dG (eI (aR (m6 ae) ax))
   (eI (lD (iX ae (aa (d8 (aa (m6 ae) (aa ae (aa ae ai)))) ai)))))) (gG (aa ae ai)))))))
   (eI (wr nc ao))))))
   (dG (iJ (iS (bn (cu ae) (bn (cu ae) (cu ai)))))
   (eI (bz (am gT ae ao)))))))))),fun xs Z Q Ex h=>?_⟩)
 obtain⟨n,d,rfl,hn,h⟩:=h;walk_at "s1";rcases h with⟨hd,hx⟩|⟨l,rfl,hl,k1,k2⟩
 ·exact⟨d,rfl,fun z=>(by rw[hd] at z;cases z),fun _=>(by dsimp only;rw[ba];exact hx)⟩
 refine⟨_,rfl,fun _=>?_,fun z=>(by simp[isD,tyD] at z)⟩
 walk_at "s1";walk_at "s1";intro lw hw;walk_at "s1";intro lj hj;walk_at "s1";intro ld hd;obtain⟨nd,hd0⟩:=gk hd;obtain⟨nw,hdw⟩:=gk hd0;obtain⟨njw,hj0⟩:=gk hj;rw[show ((Z.put lw (OC.own [AV.d (D.str (Str.ofString "saying"))])).put lj (OC.own [])).put ld (OC.own [])=om3 Z lw lj ld (.own (wkA [.sy])) (.own (jsA [])) (.own (dnA [])) from rfl]
 have nwj:lw≠lj:=Ne.symm njw;have nwd:lw≠ld:=Ne.symm nw;have njd:lj≠ld:=Ne.symm nd
 have eo:∀(A B C:OC),(om3 Z lw lj ld A B C).only Z=Z:=fun A B C=>by
  rw[om3,kW ((((L2.Ex.refl Z).new hw).new (by rw[Om.A1 njw];exact hj0)).new (by rw[Om.A1 nd,Om.A1 nw];exact hdw))]
 have e40:Str.ofString "("=tx [40]:=by decide +kernel
 have e41:Str.ofString ")"=tx [41]:=by decide +kernel
 have e33:Str.ofString "!"=tx [33]:=by decide +kernel
 have ldn:∀d:List Sy,(dnA d).length=d.length:=fun d=>by simp[dnA]
 have ljs:∀j:List Bool,(jsA j).length=j.length:=fun j=>by simp[jsA]
 have lwk:∀W:List Wk,(wkA W).length=W.length:=fun W=>by simp[wkA]
 have small:∀ {m:Nat},m<=40000->m<sizeLine:=fun h=>Nat.lt_of_le_of_lt h (by decide)
 walk_at "s1";obtain⟨Pv,iP⟩:=Aw fun m ρ Z'=>∃(W:List Wk)(j:List Bool)(d:List Sy)(i:Nat)(v6 v7 v8 v9:Option AV),Z'=om3 Z lw lj ld (.own (wkA W)) (.own (jsA j)) (.own (dnA d))/\i<=l.length/\pr n (l.drop i) i W j d=pr n l 0 [.sy] [] []/\cnt W j.length d.length=true/\j.length<=i/\d.length<=i/\W.length<=3*i+1/\m=l.length-i/\ρ=[some (AV.d (D.int n)),some (AV.d (D.str (tx l))),some (AV.d (D.int i)),some (AV.r (V.ref lw)),some (AV.r (V.ref lj)),some (AV.r (V.ref ld)),v6,v7,v8,v9]
 refine⟨Pv,⟨_,(iP _ _ _).mpr ⟨[.sy],[],[],0,_,_,_,_,rfl,Nat.zero_le _,rfl,rfl,Nat.le_refl _,Nat.le_refl _,by simp,rfl,rfl⟩⟩,fun m ρ Z1 h=>?_⟩
 obtain⟨W,j,d,i,v6,v7,v8,v9,rfl,hi,hpr,hct,hjl,hdl,hwl,rfl,rfl⟩:=(iP _ _ _).mp h;clear h
 cases W with
 |nil=>
  walk_at "a1";refine⟨false,by rw[lP nwj nwd];rfl,?_⟩
  rw[if_neg (by decide)]
  walk_at "s1";refine⟨l,i,rfl,hl,fun hlt=>?_,fun hge=>?_⟩
  ·dsimp only
   rw[eo];refine k2 i ?_;rw[←hpr,List.drop_eq_getElem_cons hlt,pr]
  ·walk_at "a1"
   have hdn:l.drop i=[]:=List.drop_eq_nil_of_le (by omega)
   simp only[cnt,decide_eq_true_eq] at hct;obtain⟨x,rfl⟩:=List.length_eq_one_iff.mp hct.2;rw[fF];refine⟨_,rfl,_,rfl,_,rfl,?_⟩;rw[eo];refine k1 x ?_;rw[←hpr,hdn,pr]
 |cons e W=>
  rw[ft];walk_at "a1";refine⟨true,by rw[lP nwj nwd];simp,?_⟩
  rw[if_pos rfl];refine⟨fun ρ' Z'=>∃m',m'<l.length-i/\Pv m' ρ' Z',fun _ _ h=>h,?_⟩;simp only[List.length_cons] at hwl
  have go:∀(W:List Wk)(j:List Bool)(d:List Sy)(i':Nat)(z:Int)(v6 v7 v8 v9:Option AV),z=(i':Int)->i<i'->i'<=l.length->pr n (l.drop i') i' W j d=pr n l 0 [.sy] [] []->cnt W j.length d.length=true->j.length<=i'->d.length<=i'->W.length<=3*i'+1->∃m',m'<l.length-i/\Pv m' [some (AV.d (D.int n)),some (AV.d (D.str (tx l))),some (AV.d (D.int z)),some (AV.r (V.ref lw)),some (AV.r (V.ref lj)),some (AV.r (V.ref ld)),v6,v7,v8,v9] (om3 Z lw lj ld (.own (wkA W)) (.own (jsA j)) (.own (dnA d))):=fun W j d i' z v6 v7 v8 v9 hz h1 h2 h3 h4 h5 h6 h7=>by
   subst hz;exact⟨_,by omega,(iP _ _ _).mpr ⟨W,j,d,i',v6,v7,v8,v9,rfl,h2,h3,h4,h5,h6,h7,rfl,rfl⟩⟩
  refine om rfl (lP nwj nwd) ?_;rw[t7 nwj nwd];walk_at "s1";refine⟨l,i,rfl,hl,?_⟩;walk_at "s1"
  have eRa:∀p,pr n (l.drop i) i (e::W) j d=.error p->∀A B C,Ex (enC t.aj p) ((om3 Z lw lj ld A B C).only Z):=fun p h A B C=>by
   rw[eo];exact k2 p (hpr ▸ h)
  have nsj:¬ Str.ofString "join"=Str.ofString "saying":=by decide +kernel
  have nsc:¬ Str.ofString ")"=Str.ofString "saying":=by decide +kernel
  have ncj:¬ Str.ofString ")"=Str.ofString "join":=by decide +kernel
  have q40:∀s,tx s=Str.ofString "("↔s=[40]:=fun s=>by rw[e40];exact dR
  have q41:∀s,tx s=Str.ofString ")"↔s=[41]:=fun s=>by rw[e41];exact dR
  have q33:∀s,tx s=Str.ofString "!"↔s=[33]:=fun s=>by rw[e33];exact dR
  have vals:∀s,eX [(Str.ofString "&",V.str (Str.ofString "and")),(Str.ofString "|",V.str (Str.ofString "or"))] (tx s)=if s=[38] then some (V.str (Str.ofString "and")) else if s=[124] then some (V.str (Str.ofString "or")) else none:=fun s=>by
   have h38:decide (Str.ofString "&"=tx s)=decide (s=[38]):=by rw[decide_eq_decide,show Str.ofString "&"=tx [38] from by decide +kernel,dR];exact eq_comm
   have h24:decide (Str.ofString "|"=tx s)=decide (s=[124]):=by rw[decide_eq_decide,show Str.ofString "|"=tx [124] from by decide +kernel,dR];exact eq_comm
   unfold eX;rw[List.find?_cons,List.find?_cons,h38,h24];by_cases a1:s=[38]
   ·subst a1;rfl
   ·rw[if_neg a1,decide_eq_false a1]
    by_cases a2:s=[124]
    ·subst a2;rfl
    ·rw[if_neg a2,decide_eq_false a2];rfl
  rcases sY l i with⟨c,hc,hs,hdr,hi'⟩|⟨hs,hdr⟩
  ·rw[hs]
   rw[hdr] at hpr eRa
   cases e with
   |sy=>
    simp only[show Wk.sy.wd=Str.ofString "saying" from rfl,q40,q33,if_true]
    have hsy:∀l':List Nat,pr n (c::l') i (.sy::W) j d=if c=40 then pr n l' (i+1) (.sy::.jo::.sy::.cl::W) j d else if c=33 then (match l' with | []=>.error (i+1)|c2::l2=>if fig n c2=true then pr n l2 (i+2) W j (.is (c2-48:Nat) 0::d) else .error (i+1)) else if fig n c=true then pr n l' (i+1) W j (.is (c-48:Nat) 1::d) else .error i:=fun l'=>by
     rw[pr.eq_def]
     all_goals (cases l'<;>rfl)
    simp only[hsy] at hpr eRa;by_cases h40:c=40
    ·subst h40
     rw[if_pos rfl] at hpr;rw[if_pos rfl];refine⟨⟨_,lP nwj nwd⟩,_,_,T.gW,lP nwj nwd,by rw[lwk];exact Nat.le_of_lt (small (by simp only[List.length_cons,List.length_nil];omega)),?_⟩
     rw[t7 nwj nwd];have:=fun v6 v7=>go (.sy::.jo::.sy::.cl::W) j d (i+1) ((i:Int)+1) v6 v7 v8 v9 (by omega) (by omega) hi' hpr (by simpa[cnt] using hct) (by omega) (by omega) (by simp only[List.length_cons];omega)
     rw[ft,ft,ft,ft] at this;simpa[Wk.wd] using this _ _
    ·rw[if_neg h40] at hpr
     rw[if_neg (by simpa using h40)]
     simp only[if_neg h40] at eRa;by_cases h33:c=33
     ·subst h33
      rw[if_pos rfl] at hpr;rw[if_pos rfl];simp only[if_pos rfl] at eRa;walk_at "s1";rw[show ((i:Int)+1)=((i+1:Nat):Int) from by omega]
      refine⟨⟨_,fF⟩,n,l,i+1,rfl,hn,hl,fun c2 h2 hf=>?_,fun hf=>?_⟩
      ·obtain⟨hi2,e2⟩:=List.getElem?_eq_some_iff.mp h2
       rw[List.drop_eq_getElem_cons hi2,e2] at hpr;simp only[hf,if_true] at hpr;refine⟨_,rfl,_,fF,by rw[ldn];exact small (by omega),?_⟩
       rw[jH];have:=fun v6 v7=>go W j (.is (c2-48:Nat) 0::d) (i+2) (((i+1:Nat):Int)+1) v6 v7 v8 v9 (by omega) (by omega) (by omega) hpr (by simpa[cnt] using hct) (by omega) (by simp only[List.length_cons];omega) (by omega)
       rw[fi] at this;exact this _ _
      ·refine eRa _ ?_ _ _ _
       cases hd1:l.drop (i+1) with
       |nil=>rfl
       |cons c2 l2=>
        have h2:=(dr1 hd1).1;simp only[hf c2 h2];rfl
     ·rw[if_neg h33] at hpr
      rw[if_neg (by simpa using h33)]
      simp only[if_neg h33] at eRa;refine⟨⟨_,fF⟩,n,l,i,rfl,hn,hl,fun c2 h2 hf=>?_,fun hf=>?_⟩
      ·obtain rfl:c=c2:=by rw[hc] at h2;exact Option.some.inj h2
       simp only[hf,if_true] at hpr;refine⟨_,rfl,_,fF,by rw[ldn];exact small (by omega),?_⟩
       rw[jH];have:=fun v6 v7=>go W j (.is (c-48:Nat) 1::d) (i+1) ((i:Int)+1) v6 v7 v8 v9 (by omega) (by omega) (by omega) hpr (by simpa[cnt] using hct) (by omega) (by simp only[List.length_cons];omega) (by omega)
       rw[fi] at this;exact this _ _
      ·refine eRa _ ?_ _ _ _
       rw[hf c hc];rfl
   |jo=>
    simp only[show Wk.jo.wd=Str.ofString "join" from rfl,nsj,Ne.symm ncj,if_true,if_false,vals]
    simp only[pr] at hpr eRa;by_cases h38:c=38
    ·subst h38
     rw[if_pos rfl] at hpr;rw[if_pos (by decide)]
     have:=fun v6 v7=>go W (true::j) d (i+1) ((i:Int)+1) v6 v7 v8 v9 (by omega) (by omega) hi' hpr (by simpa[cnt] using hct) (by simp only[List.length_cons];omega) (by omega) (by omega)
     rw[i9] at this;exact⟨⟨_,mT njd⟩,.str (Str.ofString "and"),by rw[if_pos rfl],.str (Str.ofString "and"),rfl,_,mT njd,by rw[ljs];exact small (by omega),by rw[lC njd];exact this _ _⟩
    ·rw[if_neg h38] at hpr
     simp only[if_neg h38] at eRa;have n38:¬ [c]=[38]:=by simpa using h38
     by_cases h24:c=124
     ·subst h24
      rw[if_pos rfl] at hpr;rw[if_pos (by decide)]
      have:=fun v6 v7=>go W (false::j) d (i+1) ((i:Int)+1) v6 v7 v8 v9 (by omega) (by omega) hi' hpr (by simpa[cnt] using hct) (by simp only[List.length_cons];omega) (by omega) (by omega)
      rw[i9] at this;exact⟨⟨_,mT njd⟩,.str (Str.ofString "or"),by rw[if_neg n38,if_pos rfl],.str (Str.ofString "or"),rfl,_,mT njd,by rw[ljs];exact small (by omega),by rw[lC njd];exact this _ _⟩
     ·have n24:¬ [c]=[124]:=by simpa using h24
      simp only[if_neg h24] at eRa;rw[if_neg n38,if_neg n24,if_neg (by decide)]
      exact⟨i,rfl,eRa _ rfl _ _ _⟩
   |cl=>
    simp only[show Wk.cl.wd=Str.ofString ")" from rfl,nsc,ncj,if_true,if_false,q41]
    simp only[pr] at hpr eRa;by_cases h41:c=41
    ·subst h41
     rw[if_pos rfl] at hpr;rw[if_pos rfl];simp only[cnt,Bool.and_eq_true,decide_eq_true_eq] at hct;obtain⟨⟨c1,c2⟩,hct⟩:=hct
     obtain⟨a,j,rfl⟩:∃a j',j=a::j':=by
      cases j with
      |nil=>simp at c1
      |cons a j=>exact⟨a,j,rfl⟩
     obtain⟨r,x,d,rfl⟩:∃r x d',d=r::x::d':=by
      rcases d with _|⟨r,_|⟨x,d⟩⟩
      ·simp at c2
      ·simp at c2
      ·exact⟨r,x,d,rfl⟩
     simp only[List.length_cons] at hjl hdl hct;rw[i9,fi,fi];refine om rfl fF ?_;rw[jH];refine om rfl fF ?_;rw[jH];walk_at "a1";refine⟨⟨_,fF⟩,_,mT njd,.d (jnD a),by simp,[jnD a,x.d,r.d],rfl,dnA d,by rw[lC njd];exact fF,by rw[ldn];exact small (by omega),?_⟩
     rw[List.dropLast_concat,lC njd,jH];have:=fun v6 v7=>go W j (.jn a x r::d) (i+1) ((i:Int)+1) v6 v7 (some (.d r.d)) (some (.d x.d)) (by omega) (by omega) hi' hpr hct (by omega) (by simp only[List.length_cons];omega) (by omega)
     rw[fi] at this;exact this _ _
    ·simp only[if_neg h41] at eRa
     rw[if_neg (by simpa using h41)]
     exact⟨i,rfl,eRa _ rfl _ _ _⟩
  ·rw[hs]
   rw[hdr] at eRa;simp only[pr] at eRa;have z40:¬ ([]:List Nat)=[40]:=by simp
   have z41:¬ ([]:List Nat)=[41]:=by simp
   have z33:¬ ([]:List Nat)=[33]:=by simp
   cases e with
   |sy=>
    simp only[show Wk.sy.wd=Str.ofString "saying" from rfl,q40,q33,z40,z33,if_true,if_false]
    refine⟨⟨_,fF⟩,n,l,i,rfl,hn,hl,fun c2 h2 hf=>?_,fun hf=>?_⟩
    ·have:=(List.getElem?_eq_some_iff.mp h2).1
     have:=List.drop_eq_nil_iff.mp hdr;omega
    ·exact eRa _ rfl _ _ _
   |jo=>
    simp only[show Wk.jo.wd=Str.ofString "join" from rfl,nsj,Ne.symm ncj,if_true,if_false,vals]
    rw[if_neg (by decide)]
    exact⟨i,rfl,eRa _ rfl _ _ _⟩
   |cl=>
    simp only[show Wk.cl.wd=Str.ofString ")" from rfl,nsc,ncj,if_true,if_false,q41,z41]
    exact⟨i,rfl,eRa _ rfl _ _ _⟩
theorem jy.some{Z:Om}{p:Addr}(h:jy Z p):(Z p).isSome=true:=by obtain⟨c,e⟩:=h;rw[e];rfl
theorem gA{Z:Om}{p:Addr}{c:Pl}(h:jy Z p):(Z.put p (plO c)).only Z=Z.put p (plO c):=tK (Ex.refl _) h.some
noncomputable def gZ(r:Nat):ASp:=fun xs Z Q=>∃(p:Addr)(n:Nat),xs=[.r (.ref p),.d (.int n),.d (.int r)]/\jy Z p/\1<=n/\n<=5/\∀(x:Sy)(c:Pl),x.ok n->x.dp<=r->Q (.d x.d) (Z.put p (plO c))
theorem iq(T:Txt K mg t)(r:Nat)(kk:Nat)(sp:ASp)(hk:1<=kk)(G_l_saying:aY P w K mg base CX0 kk t.bB t.dL ["_law_pen_here","_law_places","_law_most"] (eU sp))(hs:∀r',r=r'+1->sp=gZ r'):aY P w K mg base CX0 (kk+1) t.bB t.dL ["_law_pen_here","_law_places","_law_most"] (eU (gZ r)):=by
 have G_l_draw:aY P w K mg base _ _ _ _ _ _:=iO T
 refine T.nX.okD ix (fun xs Z Q h=>by obtain ⟨p,n,rfl,_⟩:=h;rfl) (fun cdv A outer s H E hr=>⟨_,_,(ag (bA (PW.pt (pG (av (bD hr.A4) (pv 2) ak (aF _)) (lH (av (bD hr.A4) (aE G_l_draw (hr.mono (by omega)) (by rfl) T.bW T.bZ T.bV .nil bP (ac (pv 0) (ah ak af))) ak (aF _))))) (al (aX (cf (ah ar (ac (aE G_l_draw (hr.mono (by omega)) (by rfl) T.bW T.bZ T.bV .nil bP (ac (pv 0) (ac (pv 1) af))) (ac (aE G_l_draw (hr.mono (by omega)) (by rfl) T.bW T.bZ T.bV .nil bP (ac (pv 0) (ah ak af))) af)))))) bg)
   (ag (aA (i:=3) ix.nd rfl (Or.inl rfl) (dc (bo K rfl) (cM (ah ar (ah ar af))) (aE G_l_draw (hr.mono (by omega)) (by rfl) T.bW T.bZ T.bV .nil bP (ac (pv 0) (ah ak af))) (fun _ _=>rfl)))
   (al (aX (cf (ac (pv 3) (ac (aE G_l_saying (hr.mono (by omega)) (by rfl) T.fU T.fP T.fN .nil bP (ac (pv 0) (ac (pv 1) (ac (az n8 (pv 2) ak) af)))) (ac (aE G_l_saying (hr.mono (by omega)) (by rfl) T.fU T.fP T.fN .nil bP (ac (pv 0) (ac (pv 1) (ac (az n8 (pv 2) ak) af)))) af)))))))),(aL (eV (uw (aJ (am bH ae ao)) (aJ (am bH (a8 (aa ae (aa ao ai))) ao))) (bz (d8 (aa aH (aa (a8 (aa ae (aa ae ai))) (aa (a8 (aa ae (aa ao ai))) ai))))) bO)
   (aL (aR (am gT (gu (aa aH (aa aH ai))) (a8 (aa ae (aa ao ai)))) ax)
   (bz (d8 (aa ae (aa (a8 (aa ae (aa ae (aa (am nc ae ao) ai)))) (aa (a8 (aa ae (aa ae (aa (am nc ae ao) ai)))) ai))))))),fun xs Z Q h=>?_⟩)
 obtain⟨p,n,rfl,hp,hn1,hn,k⟩:=h;walk_at "ab"
 have leaf:∀Z1,jy Z1 p->(∀c,Z1.put p (plO c)=Z.put p (plO c))->iM [AV.r (V.ref p),AV.d (D.int n)] Z1 fun x Z1=>iM [AV.r (V.ref p),AV.d (D.int 2)] Z1 fun x_1 Z1=>∃ds,Option.map (fun x=>D.str (Str.ofString "is")::x) (und [x,x_1])=some ds/\Q (AV.d (D.tup ds)) (Z1.only Z):=fun Z1 h1 h2=>by
  refine⟨p,n,rfl,h1,by omega,by omega,fun x c h0 h1=>⟨p,2,rfl,bu,by decide,by decide,fun y c2 g0 g1=>⟨_,rfl,?_⟩⟩⟩
  rw[Om.A3,h2,gA hp];exact k (.is x y) c2 ⟨h0,h1,by omega⟩ (Nat.zero_le _)
 refine mE (fun h=>leaf Z hp fun _=>rfl) (fun h=>?_);obtain⟨r',rfl⟩:∃r',r=r'+1:=⟨r-1,by omega⟩
 cases hs r' rfl;refine⟨p,4,rfl,hp,by decide,by decide,fun x c h0 h1=>?_⟩
 walk_at "ab";refine mE (fun h=>leaf _ bu fun _=>Om.A3) (fun h=>?_);refine⟨p,2,rfl,bu,by decide,by decide,fun y c2 g0 g1=>?_⟩
 walk_at "ab"
 have hj:∃a:Bool,atI [AV.d (D.str ("and":Str)),AV.d (D.str ("or":Str))] y=some (.d (.str (if a then "and" else "or"))):=by
  rcases(by omega:y=0\/y=1) with rfl|rfl
  ·exact⟨true,rfl⟩
  ·exact⟨false,rfl⟩
 obtain⟨a,ha⟩:=hj;have e1:((r'+1:Nat):Int)-1=(r':Int):=by omega
 refine⟨_,ha,p,n,by rw[e1],bu,hn1,hn,fun u c4 hu hd=>?_⟩
 refine⟨p,n,by rw[e1],bu,hn1,hn,fun u2 c5 hu2 hd2=>?_⟩
 refine⟨_,rfl,?_⟩;rw[Om.A3,Om.A3,gA hp];exact k (.jn a u u2) c5 ⟨hu,hu2⟩ (by simp only[Sy.dp];omega)
theorem kj(T:Txt K mg t):∀r,aY P w K mg base CX0 (r+2) t.bB t.dL ["_law_pen_here","_law_places","_law_most"] (eU (gZ r))
 |0=>iq T 0 1 xF (Nat.le_refl _) w8 (fun r' h=>by omega)
 |r+1=>iq T (r+1) (r+2) _ (by omega) (kj T r) (fun r' h=>by cases h;rfl)
theorem uR:∀i:Fin 10,Str.ofString (toString (i.val:Int))=tx [48+i.val]:=by decide +kernel
noncomputable def nU(r:Nat):ASp:=fun xs Z Q=>∃(n:Nat)(x:Sy),xs=[.d x.d]/\n<=5/\x.ok n/\x.dp<=r/\(stx x).length<=10000/\Q (.d (.str (tx (stx x)))) Z
theorem mq(T:Txt K mg t)(r:Nat)(kk:Nat)(sp:ASp)(G_l_saying_text:aY P w K mg base CX0 kk t.aO t.bJ ["_law_saying_here"] (eU sp))(hs:∀r',r=r'+1->sp=nU r'):aY P w K mg base CX0 (kk+1) t.aO t.bJ ["_law_saying_here"] (eU (nU r)):=by
 refine T.iB.okD ee (fun xs Z Q h=>by obtain ⟨n,x,rfl,_⟩:=h;rfl) (fun cdv A outer s H E hr=>⟨_,_,(ag (bA (av (bD hr.A4) (dc (bo K rfl) (pv 0) ak (fun _ _=>rfl)) ar (aF _)) (al (aX (az aQ (az uP ar (az n8 ak (dc (bo K rfl) (pv 0) ak (fun _ _=>rfl)))) (fv k8 (by rfl) T.vJ (by kernel_rfl) (ac (dc (bo K rfl) (pv 0) ak (fun _ _=>rfl)) af))))) bg)
   (ag (aA (i:=1) ee.nd rfl (Or.inl rfl) (dc (bo K rfl) ar (fv kn (by rfl) T.rC (by kernel_rfl) (ac (iF (bD hr.A4) (dc (bo K rfl) (pv 0) ak (fun _ _=>rfl)) ar (aF _)) af)) (fun _ _=>rfl)))
   (al (aX (az aQ (az aQ (az aQ (az aQ ar (aE G_l_saying_text (hr.mono (by omega)) (by rfl) T.cy T.cB T.cz .nil bP (ac (dc (bo K rfl) (pv 0) ak (fun _ _=>rfl)) af))) (pv 1)) (aE G_l_saying_text (hr.mono (by omega)) (by rfl) T.cy T.cB T.cz .nil bP (ac (dc (bo K rfl) (pv 0) ak (fun _ _=>rfl)) af))) ar))))),(aL (eV (aJ (am bH (am gT ae ao) aH)) (bz (am cD (am xA aH (am nc ao (am gT ae ao))) (cP yf (aa (am gT ae ao) ai)))) bO)
   (aL (aR (am oJ aH (cP wq (aa (am bH (am gT ae ao) aH) ai))) ax)
   (bz (am cD (am cD (am cD (am cD aH (a8 (aa (am gT ae ao) ai))) ae) (a8 (aa (am gT ae ao) ai))) aH)))),fun xs Z Q h=>?_⟩)
 obtain⟨n,x,rfl,hn,hx,hd,hl,k⟩:=h
 cases x with
 |is i b=>
  obtain⟨i0,i1,hb⟩:=hx;obtain⟨i,rfl⟩:=Int.eq_ofNat_of_zero_le i0;simp only[Sy.d];walk_at "s1";have e1:=uR ⟨i,by omega⟩
  simp only at e1
  have e2:(if 1-b=1 then Str.ofString "!" else Str.empty)=tx (if b=1 then [] else [33]):=by
   rcases hb with rfl|rfl
   ·decide +kernel
   ·decide +kernel
  rw[e1,e2,dS,ba,aw,aw];refine⟨by omega,by omega,by decide +kernel,?_,?_,k⟩
  ·have:((i:Int)).natAbs=i:=by omega
   rw[this];exact Nat.lt_of_le_of_lt (Nat.log2_le_self i) (by omega)
  ·exact Nat.le_trans (m:=10) (by split<;>simp) (by decide)
 |jn a l rr=>
  simp only[Sy.dp] at hd;obtain⟨r',rfl⟩:∃r',r=r'+1:=⟨r-1,by omega⟩
  cases hs r' rfl;simp only[stx,List.length_append,List.length_singleton] at hl;have ep:Str.ofString "("=tx [40]:=by decide +kernel
  have eq:Str.ofString ")"=tx [41]:=by decide +kernel
  cases a
  ·simp only[Sy.d,if_false,Bool.false_eq_true]
   walk_at "s1";walk_at "s1";refine⟨by decide +kernel,124,by decide +kernel,n,l,rfl,hn,hx.1,by omega,by omega,_,rfl,?_⟩
   rw[ep,dS,dS];refine⟨by rw[aw,aw];exact cU (by simp;omega),by rw[aw,aw];exact cU (by simp;omega),n,rr,rfl,hn,hx.2,by omega,by omega,_,rfl,?_⟩
   rw[eq,dS,dS];refine⟨by rw[aw,aw];exact cU (by simp;omega),by rw[aw,aw];exact cU (by simp;omega),?_⟩
   rw[ba];exact k
  ·simp only[Sy.d,if_true]
   walk_at "s1";walk_at "s1";refine⟨by decide +kernel,38,by decide +kernel,n,l,rfl,hn,hx.1,by omega,by omega,_,rfl,?_⟩
   rw[ep,dS,dS];refine⟨by rw[aw,aw];exact cU (by simp;omega),by rw[aw,aw];exact cU (by simp;omega),n,rr,rfl,hn,hx.2,by omega,by omega,_,rfl,?_⟩
   rw[eq,dS,dS];refine⟨by rw[aw,aw];exact cU (by simp;omega),by rw[aw,aw];exact cU (by simp;omega),?_⟩
   rw[ba];exact k
theorem qX(T:Txt K mg t):∀r,aY P w K mg base CX0 (r+1) t.aO t.bJ ["_law_saying_here"] (eU (nU r))
 |0=>mq T 0 0 xF w8 (fun r' h=>by omega)
 |r+1=>mq T (r+1) (r+1) _ (qX T r) (fun r' h=>by cases h;rfl)
noncomputable def uF:ASp:=fun xs Z Q=>∃(p:Addr)(s:List Nat),xs=[.r (.ref p),.d (.str (tx s))]/\jy Z p/\1<=s.length/\s.length<=100/\∀(c:Nat)(o:Pl),Q (.d (.str (tx [c]))) (Z.put p (plO o))
theorem vB(T:Txt K mg t):aY P w K mg base CX0 2 t.dy t.jM ["_law_pen_here","_law_signs"] (eU uF):=by
 have G_l_draw:aY P w K mg base _ _ _ _ _ _:=iO T
 refine T.tj.okD kt (fun xs Z Q h=>by obtain ⟨p,s,rfl,_⟩:=h;rfl) (fun cdv A outer s H E hr=>⟨_,_,(ag (bA (av sH (aE G_l_draw (hr.mono (by omega)) (by rfl) T.bW T.bZ T.bV .nil bP (ac (pv 0) (ah ak af))) ak (aF _)) (al (aX (dc (bo K rfl) (pv 1) (aE G_l_draw (hr.mono (by omega)) (by rfl) T.bW T.bZ T.bV .nil bP (ac (pv 0) (ac (aD (b9 K rfl) (by rfl) T.gB (by kernel_rfl) (ac (pv 1) af)) af))) (fun _ _=>rfl)))) bg)
   (ag (aA (i:=2) kt.nd rfl (Or.inl rfl) ar)
   (al (aX (dc (bo K rfl) (pv 2) (aE G_l_draw (hr.mono (by omega)) (by rfl) T.bW T.bZ T.bV .nil bP (ac (pv 0) (ac (aD (b9 K rfl) (by rfl) T.gB (by kernel_rfl) (ac (pv 2) af)) af))) (fun _ _=>rfl)))))),(aL (eV (aJ (am j9 (a8 (aa ae (aa ao ai))) ao)) (bz (am oJ ae (a8 (aa ae (aa (cP g8 (aa ae ai)) ai))))) bO)
   (aL (aR aH ax)
   (bz (am oJ ae (a8 (aa ae (aa (cP g8 (aa ae ai)) ai))))))),fun xs Z Q h=>?_⟩)
 obtain⟨p,s,rfl,hp,hs1,hs2,k⟩:=h;walk_at "ab";refine⟨p,4,rfl,hp,by decide,by decide,fun x c h0 h1=>?_⟩
 walk_at "ab"
 have at1:∀(l:List Nat)(y:Int),0<=y->y<l.length->∃c,atI l y=some c:=fun l y y0 y1=>by
  obtain⟨q,rfl⟩:=Int.eq_ofNat_of_zero_le y0;exact⟨l[q]'(by omega),by show (ixN l.length (q:Int)).bind _=_;unfold ixN;rw[if_pos (by omega),if_pos (by omega)];simp⟩
 have go:∀(s:List Nat),1<=s.length->s.length<=100->(tx s).length<=sizeLine /\
   iM [AV.r (V.ref p),AV.d (D.int ((tx s).length:Nat))] (Z.put p (plO c)) fun y Z2=>∃x,y=AV.d (D.int x)/\(tx s).length<=sizeLine/\∃x_1,atI (tx s).cps.toList x=some x_1/\Q (AV.d (D.str (tx [x_1]))) (Z2.only Z):=fun s hs1 hs2=>by
  have hsz:(tx s).length<=sizeLine:=by rw[aw];exact Nat.le_trans hs2 (by decide)
  refine⟨hsz,p,_,rfl,bu,by rw[aw];omega,by rw[aw];omega,fun y c2 g0 g1=>⟨y,rfl,hsz,?_⟩⟩
  rw[aw] at g1;obtain⟨c3,h3⟩:=at1 s y g0 g1;refine⟨c3,h3,?_⟩;rw[Om.A3,gA hp];exact k c3 c2
 refine mE (fun h=>go s hs1 hs2) (fun h=>?_);have he:∃e:List Nat,Str.ofString " !\"#$&'()*+,-./0123456789:;<=>?@ABCDEFGHIJKLMNOPQRSTUVWXYZ[\\]^_`abcdefghijklmnopqrstuvwxyz{|}~"=tx e/\1<=e.length/\e.length<=100:=⟨[32,33,34,35,36]++(List.range 89).map (·+38),by decide +kernel,by decide +kernel,by decide +kernel⟩
 obtain⟨e,he,e1,e2⟩:=he;rw[he];exact go e e1 e2
noncomputable def uC:ASp:=fun xs Z Q=>∃(p:Addr)(l s:List Nat),xs=[.r (.ref p),.d (.str (tx l)),.d (.str (tx s))]/\jy Z p/\1<=s.length/\s.length<=100/\l.length<=200/\∀(l':List Nat)(o:Pl),l'.length<=2*l.length+1->Q (.d (.str (tx l'))) (Z.put p (plO o))
theorem vE(T:Txt K mg t):aY P w K mg base CX0 3 t.dH t.jR ["_law_pen_here","_law_text","_law_signs"] (eU uC):=by
 have G_l_draw:aY P w K mg base _ _ _ _ _ _:=iO T;have G_l_sign:aY P w K mg base _ _ _ _ _ _:=vB T
 refine T.rk.okD dZ (fun xs Z Q h=>by obtain ⟨p,l,s,rfl,_⟩:=h;rfl) (fun cdv A outer s H E hr=>⟨_,_,(ag (aA (i:=3) dZ.nd rfl (Or.inl rfl) (aE G_l_draw (hr.mono (by omega)) (by rfl) T.bW T.bZ T.bV .nil bP (ac (pv 0) (ac (az (aB cF (aB bC cG)) (aD (b9 K rfl) (by rfl) T.gB (by kernel_rfl) (ac (pv 1) af)) ak) af))))
   (ag (aA (i:=4) dZ.nd rfl (Or.inl rfl) (aE G_l_sign (hr.mono (by omega)) (by rfl) T.sr T.rf T.tB .nil bP (ac (pv 0) (ac (pv 2) af))))
   (ag (aA (i:=5) dZ.nd rfl (Or.inl rfl) (cM (ac (az aQ (az aQ (bf cV (pv 1) b8 (bj (pv 3))) (pv 4)) (bf cV (pv 1) (bj (pv 3)) b8)) (ac (az aQ (az aQ (bf cV (pv 1) b8 (bj (pv 3))) (pv 4)) (bf cV (pv 1) (bj (az (aB cF (aB bC cG)) (pv 3) ak)) b8)) (ac (az aQ (bf cV (pv 1) b8 (bj (pv 3))) (bf cV (pv 1) (bj (az (aB cF (aB bC cG)) (pv 3) ak)) b8)) (ac (bf cV (pv 1) b8 (bj (pv 3))) af))))))
   (ag (aA (i:=5) dZ.nd rfl (Or.inl rfl) (az (aB cF (aB bC cG)) (pv 5) (cM (ac (az aQ (pv 1) (pv 4)) (ac (az aQ (pv 4) (pv 1)) (ac (bf cV (pv 1) (bj (pv 3)) b8) (ac (az aQ (az aQ (bf cV (pv 1) b8 (bj (pv 3))) (bf cV (pv 1) (bj (pv 3)) (bj (az (aB cF (aB bC cG)) (pv 3) ak)))) (bf cV (pv 1) (bj (pv 3)) b8)) (ac (az aQ (pv 1) (pv 1)) af))))))))
   (al (aX (dc (bo K rfl) (pv 5) (aE G_l_draw (hr.mono (by omega)) (by rfl) T.bW T.bZ T.bV .nil bP (ac (pv 0) (ah ak af))) (fun _ _=>rfl)))))))),(aL (aR (a8 (aa ae (aa (am dO (cP g8 (aa ae ai)) ao) ai))) ax)
   (aL (aR (a8 (aa ae (aa ae ai))) ax)
   (aL (aR (gu (aa (am cD (am cD (ei ae cR (bS ae)) ae) (ei ae (bS ae) cR)) (aa (am cD (am cD (ei ae cR (bS ae)) ae) (ei ae (bS (am dO ae ao)) cR)) (aa (am cD (ei ae cR (bS ae)) (ei ae (bS (am dO ae ao)) cR)) (aa (ei ae cR (bS ae)) ai))))) ax)
   (aL (aR (am dO ae (gu (aa (am cD ae ae) (aa (am cD ae ae) (aa (ei ae (bS ae) cR) (aa (am cD (am cD (ei ae cR (bS ae)) (ei ae (bS ae) (bS (am dO ae ao)))) (ei ae (bS ae) cR)) (aa (am cD ae ae) ai))))))) ax)
   (bz (am gT ae (a8 (aa ae (aa ao ai))))))))),fun xs Z Q h=>?_⟩)
 obtain⟨p,l,s,rfl,hp,hs1,hs2,hl,k⟩:=h;walk_at "ab";refine⟨by rw[aw];exact Nat.le_trans hl (by decide),p,_,rfl,hp,by omega,by rw[aw];omega,fun x c h0 h1=>?_⟩
 obtain⟨q,rfl⟩:=Int.eq_ofNat_of_zero_le h0;refine⟨p,s,rfl,bu,hs1,hs2,fun sg c2=>?_⟩;walk_at "ab";rw[show ((q:Int)+1)=((q+1:Nat):Int) from by omega]
 simp only[ni,q0,gm l (Nat.le_succ q),dS,aw,List.length_append,List.length_take,List.length_drop,List.length_singleton];have sm:∀ {m:Nat},m<=1000->m<=sizeLine:=fun h=>Nat.le_trans h (by decide)
 refine⟨sm (by omega),sm (by omega),sm (by omega),sm (by omega),sm (by omega),sm (by omega),sm (by omega),sm (by omega),sm (by omega),sm (by omega),sm (by omega),sm (by omega),sm (by omega),sm (by omega),sm (by omega),sm (by omega),sm (by omega),sm (by omega),sm (by omega),sm (by omega),sm (by omega),p,9,rfl,bu,by decide,by decide,fun y c3 g0 g1=>⟨y,rfl,?_⟩⟩
 rw[Om.A3,gA hp];have fin:∀l':List Nat,l'.length<=2*l.length+1->∃d,AV.d (D.str (tx l'))=AV.d d/\Q (.d d) (Z.put p (plO c3)):=fun l' h=>⟨_,rfl,k l' c3 h⟩;rcases(by omega:y=0\/y=1\/y=2\/y=3\/y=4\/y=5\/y=6\/y=7\/y=8) with rfl|rfl|rfl|rfl|rfl|rfl|rfl|rfl|rfl<;>exact⟨_,rfl,fin _ (by simp;omega)⟩
noncomputable def upX(s:cL):cL:=fun xs Z Q Ex=>∃Q0 Ex0,s xs Z Q0 Ex0/\(∀v Z',Q0 v Z'->Q v Z')/\∀c Z',Ex0 c Z'->Ex c Z'
theorem ky{caps:List V}{cA:List AV}{sp:cL}{vs:List V}{H:Hp}{Q:VK}{E:XK}(h:fj caps cA (upX sp) vs H Q E):fj caps cA sp vs H Q E:=by
 obtain⟨F,xs,Z,Q',Ex,rp,rv,rc,⟨Q0,Ex0,h,k1,k2⟩,kq,kx⟩:=h;exact⟨F,xs,Z,Q0,Ex0,rp,rv,rc,h,fun a Z' v H' r f rv q=>kq a Z' v H' r f rv (k1 a Z' q),fun C Z' a H' r f q=>kx C Z' a H' r f (k2 C Z' q)⟩
theorem vj{P:Program}{w:World}{K:W.Frag}{mg:Str->Option Value}{base:Heap}{H₀:Hp}{k:Nat}{f:Addr}{n:Nat}{caps:List V}{cA:List AV}{sp:cL}(C:lX P w K mg base H₀ k f n (fj caps cA sp)):lX P w K mg base H₀ k f n (fj caps cA (upX sp)):=
 ⟨C.fn,fun vs H Q E h=>C.len vs H Q E (ky h),fun A outer s H us vs Q E a b c d h=>C.run A outer s H us vs Q E a b c d (ky h)⟩
theorem je{K:W.Frag}{f:Value->Option Bool}{a C m:Addr}{b:Bool}(ok:el K C=true)(h:f (.ref C)=some b):nJ K f (gz a C m) b:=.inr ⟨a,C,m,rfl,ok,h⟩
theorem tq(kc:Nat)(T:Txt K mg t):aY P w K mg base CX0 (kc+3) t.cJ t.fz ["_law_asked"] (jt kc t.aj P w K mg base):=by
 refine T.qI.ok dA (fun vs H Q E h=>?_) (fun cdv A outer s H vs Q E hr h=>?_)
 ·obtain⟨F,Z,Q',f,c,a,sp,rfl,_⟩:=h;rfl
 obtain⟨F,Z,Q',f,c,a,sp,rfl,rp,C0,rc,hs,kq⟩:=h;have C__law_asked:=vj C0;have rvs:RVs (cut F H Z) [Ak f c a] [.ref f]:=⟨_,_,rfl,⟨rfl,fun G' s=>rc.same s⟩,rfl⟩
 refine⟨_,(ag (aA (i:=1) dA.nd rfl (Or.inl rfl) fc)
   (ag (aA (i:=2) dA.nd rfl (Or.inl rfl) fc)
   (ag (vm (i:=3) (j:=1) rfl rfl rfl (u3 (i:=2) dA.nd rfl (Or.inl rfl) (na (k:=kc) (i:=0) (hr.mono (by omega)) rfl (Or.inl rfl))) (by rfl) T.mZ dA.nd rfl rfl (by decide) rfl rfl)
   (ag (bA (av rh (pv 1) fc (aF _)) (al (aX (cf (ah ar (ac (pv 2) af))))) bg)
   (ag (bA (eh K rfl (aD (qd K rfl) (by rfl) T.dq (by kernel_rfl) (ac (pv 1) (cn (cf (ac (cx (v:=.ref t.cr) rfl T.rU rfl) (ac (cx (v:=.ref t.cw) rfl T.tF rfl) (ac (cx (v:=.ref t.c9) rfl T.u8 rfl) (ac (cx (v:=.ref t.br) rfl T.nI rfl) (ac (cx (v:=.ref t.cq) rfl T.sF rfl) (ac (cx (v:=.ref t.cg) rfl T.tR rfl) (ac (cx (v:=.ref t.bM) rfl T.qE rfl) af)))))))) af))) (fun _=>rfl)) (al (aX (cf (ah ar (ah fc af))))) bg)
   (ag (bA (PW.pt (pG (nK (eh K rfl (aD (mi K rfl) (by rfl) T.dq (by kernel_rfl) (ac (pv 1) (ac (cx (v:=.ref t.aj) rfl T.ek rfl) af))) (fun _=>rfl))) (lH (nK (eh K rfl (aD (mi K rfl) (by rfl) T.dq (by kernel_rfl) (ac (pv 1) (ac (oU (v:=.ty "ValueError") (by rfl) T.lG (by kernel_rfl) (by rfl)) af))) (fun _=>rfl)))))) (al (aX (cf (ah ar (ah fc af))))) bg)
   (al (aX (cf (ah ar (ac (wQ K rfl (pv 1)) af))))))))))),eD.run ((aL (aR ii ax)
   (aL (aR ii ax)
   (aL (vF C__law_asked)
   (aL (eV (aJ (am t8 ae ii)) (bz (d8 (aa aH (aa ae ai)))) bO)
   (aL (eV (lY (xo ae (aa d0 (aa d0 (aa d0 (aa d0 (aa d0 (aa d0 (aa d0 ai))))))))) (bz (d8 (aa aH (aa ii ai)))) bO)
   (aL (eV (uw (sD (lY (cP vY (aa ae (aa d0 ai))))) (sD (lY (cP vY (aa ae (aa d0 ai)))))) (bz (d8 (aa aH (aa ii ai)))) bO)
   (bz (d8 (aa aH (aa (zX ae) ai))))))))))) F H Z _ _ _ { nx:=fun _ Z'=>Q' (.d .non) (Z'.only Z),rt:=fun a Z'=>∃d,a=.d d/\Q' (.d d) (Z'.only Z) } rp (RS.start rvs) ?_ ⟨?_,?_,fun _ _ _ _ _ _ _ z=>z.elim,fun _ _ _ _ _ _ _ z=>z.elim⟩⟩
 ·have ox:el K t.aj=true:=by
   have:=T.cT;unfold nD at this;simp only[Bool.and_eq_true] at this;exact this.1.1
  walk_at "s1";walk_at "s1";refine⟨rfl,_,_,hs,?_,?_⟩
  ·rintro v Z1 ⟨d,rfl,q⟩
   walk_at "s1";exact q
  ·rintro C Z1 ⟨n,rfl,q⟩
   refine⟨t.aj,n,rfl,T.bb,fun x=>?_⟩;walk_at "s1";walk_at "s1";refine⟨[.ref t.cr,.ref t.cw,.ref t.c9,.ref t.br,.ref t.cq,.ref t.cg,.ref t.bM],rfl,by simp,_,rfl,false,je ox (by simp only[W.kitAny,T.bF,T.bL,T.bR,T.bi,T.bG,T.bK,T.bv]),?_⟩
   walk_at "s1";refine⟨_,rfl,true,je ox T.bI,_,rfl,true,je ox T.a7,?_⟩;rw[if_neg (by decide)]
   exact⟨x,_,n,rfl,T.cT,q⟩
 ·exact fun ρ' Z' σ' H' e1 e2 e3 q=>kq (.d .non) (Z'.only Z) .non H' e1.only.1 e2.only (by simp[RV,Dat]) q
 ·rintro a Z' v H' e1 e2 e3 ⟨d,rfl,q⟩
  exact kq (.d d) (Z'.only Z) v H' e1.only.1 e2.only (e3.same e1.only.2) q
theorem mC{K:W.Frag}:df (fun x y H Q=>∃a b xs,x=.ref a/\y=.ref b/\SqL K H a xs/\SqL K H b []/\Q (.bl xs.isEmpty) H) (zb false):=⟨fun F H Z v u x y Q Q' rp h1 h2 ⟨xs,e1,e2,q⟩ k=>by
 obtain⟨a,vs,rfl,z1,z2⟩:=fq rp h1 e1;obtain⟨b,rfl,hb⟩:=yj rp h2 e2
 have:vs.isEmpty=xs.isEmpty:=by
  have:=z2.length;cases vs<;>cases xs<;>simp at this ⊢
 exact⟨a,b,vs,rfl,rfl,.inl (.inl z1),.inl (.inl hb),by rw[this];exact k.bl rp q⟩⟩
noncomputable def Fk.wd(n:Nat):Fk->List Nat
 |.sy=>[115,97,121,105,110,103]
 |.jo=>[38,124]
 |.cl=>[41]
 |.fg=>[48,49,50,51,52].take n
noncomputable def fkA(n:Nat)(W:List Fk):List AV:=((W.map fun e=>tx (e.wd n)).reverse.map D.str).map AV.d
theorem er(n:Nat)(e:Fk)(W:List Fk):fkA n (e::W)=fkA n W++[.d (.str (tx (e.wd n)))]:=by simp[fkA]
theorem iR{n c:Nat}(hn:n<=5):c∈[48,49,50,51,52].take n↔fig n c=true:=by
 unfold fig;rw[decide_eq_true_eq];rcases(by omega:n=0\/n=1\/n=2\/n=3\/n=4\/n=5) with rfl|rfl|rfl|rfl|rfl|rfl<;>simp<;>omega
noncomputable def rQ:ASp:=fun xs Z Q=>∃(n:Nat)(l:List Nat),xs=[.d (.int n),.d (.str (tx l))]/\1<=n/\n<=5/\l.length<=10000/\Q (.d (match fl n l 0 [.sy] with|none=>.non|some p=>.int p)) Z
theorem tJ(T:Txt K mg t):aY P w K mg base CX0 1 t.cN t.gX ["_law_places","_law_text"] (eU rQ):=by
 refine T.qH.okD cE (fun xs Z Q h=>by obtain⟨n,l,rfl,_⟩:=h;rfl) (fun cdv A outer s H E hr=>⟨_,_,(ag (aA (i:=2) cE.nd rfl (Or.inl rfl) (bf cV ar b8 (bj (pv 0))))
   (ag (aA (i:=3) cE.nd rfl (Or.inl rfl) (cM (ah ar af)))
   (ag (k6 PassesOwn.never rfl (g6 rfl T.lA (ac (aD (b9 K rfl) (by rfl) T.gB (by kernel_rfl) (ac (pv 1) af)) af)) (eF (i:=4) cE.nd rfl (Or.inl rfl)) (ag (aA (i:=5) cE.nd rfl (Or.inl rfl) (dc (bo K rfl) (pv 1) (pv 4) (fun _ _=>rfl)))
   (ag (bA (av (kT K rfl hr.A4) (pv 3) (cM af) (aF _)) (al (aX (pv 4))) bg)
   (ag (aA (i:=6) cE.nd rfl (Or.inl rfl) (iU PySem.F.plainAttrs_list PySem.F.slot_list_pop PySem.F.type_list_pop jG (pv 3)))
   (al (bA (PW.pt (et (av (bD hr.A4) (pv 6) ar (aF _)) (dm (av (bD hr.A4) (pv 5) ar (aF _))))) (al (aA (i:=3) cE.nd rfl (Or.inl rfl) (az (aB cF (aB bC cG)) (pv 3) (cM (ah ar (ah ar (ah ar (ah ar af)))))))) (al (bA (PW.pt (et (av (bD hr.A4) (pv 6) ar (aF _)) (dm (av (bD hr.A4) (pv 5) ar (aF _))))) (al (dP (j8 PySem.F.plainAttrs_list PySem.F.slot_list_append PySem.F.type_list_append dY (pv 3) (ac (pv 2) af)))) (al (bA (PW.pt (pG (PW.pt (et (av (bD hr.A4) (pv 6) ar (aF _)) (dm (av kr (pv 5) (pv 2) (by with_unfolding_all rfl))))) (lH (PW.pt (et (av (gP hr.A4) (pv 6) ar (aF _)) (dm (av kr (pv 5) (pv 6) (by with_unfolding_all rfl)))))))) (al (aX (pv 4))) bg))))))))))
   (al (aX (dc (bo K rfl) (cM (ac (aD (b9 K rfl) (by rfl) T.gB (by kernel_rfl) (ac (pv 1) af)) (ah fc af))) (fv kn (by rfl) T.rC (by kernel_rfl) (ac (iF (kT K rfl hr.A4) (pv 3) (cM af) (aF _)) af)) (fun _ _=>rfl))))))),(aL (aR (ei aH cR (bS ae)) ax)
   (aL (aR (jD (aa aH ai)) ax)
   (aL (pN (n4 (aa (cP g8 (aa ae ai)) ai)) ax (aL (aR (am oJ ae ae) ax)
   (aL (eV (aJ (am mC ae (gu ai))) (bz ae) bO)
   (aL (aR (m6 ae) ax)
   (eV (gC (aJ (am bH ae aH)) (aJ (am bH ae aH))) (aR (am xp ae (gu (aa aH (aa aH (aa aH (aa aH ai)))))) ax) (eV (gC (aJ (am bH ae aH)) (aJ (am bH ae aH))) (lD (iX ae (aa ae ai))) (eV (uw (gC (aJ (am bH ae aH)) (aJ (am wY ae ae))) (gC (aJ (am bH ae aH)) (aJ (am wY ae ae)))) (bz ae) bO)))))))
   (bz (am gT (gu (aa (cP g8 (aa ae ai)) (aa ii ai))) (cP wq (aa (am mC ae (gu ai)) ai))))))),fun xs Z Q h=>?_⟩)
 obtain⟨n,l,rfl,hn1,hn,hl,k⟩:=h;walk_at "s1";have e01:Str.ofString "01234"=tx [48,49,50,51,52]:=by decide +kernel
 have esy:Str.ofString "saying"=tx [115,97,121,105,110,103]:=by decide +kernel
 have e40:Str.ofString "("=tx [40]:=by decide +kernel
 have e41:Str.ofString ")"=tx [41]:=by decide +kernel
 have e33:Str.ofString "!"=tx [33]:=by decide +kernel
 have ejo:Str.ofString "&|"=tx [38,124]:=by decide +kernel
 rw[e01,ni];refine⟨by rw[aw];decide,?_⟩
 walk_at "s1";intro p hp;walk_at "s1";rw[aw];refine⟨cU hl,by omega,by omega,li (fun i ρ Z'=>∃(W:List Fk)(q:Addr)(v4 v5 v6:Option AV),L2.Ex Z Z'/\Z q=none/\Z' q=some (.own (fkA n W))/\fl n (l.drop i) i W=fl n l 0 [.sy]/\W.length<=3*i+1/\ρ=[some (AV.d (D.int n)),some (AV.d (D.str (tx l))),some (AV.d (D.str (tx ([48,49,50,51,52].take n)))),some (AV.r (V.ref q)),v4,v5,v6]) ⟨[.sy],p,_,_,_,(L2.Ex.refl Z).new hp,hp,Om.A0.trans (by rw[esy];rfl),rfl,by simp,rfl⟩ ?_ ?_⟩
 ·rintro i ρ Z1 N hi ⟨W,q,v4,v5,v6,hx,hq,hc,hf,hw,rfl⟩ kN
  rw[Int.zero_add];have hg:l[i]?=some l[i]:=List.getElem?_eq_getElem hi;have hd:l.drop i=l[i]::l.drop (i+1):=List.drop_eq_getElem_cons hi;generalize l[i]=c at hg hd;walk_at "s1";refine⟨by rw[aw];exact cU hl,c,vv hg,?_⟩
  walk_at "s1";refine⟨fkA n W,by simp[cm,hc],rfl,(fkA n W).isEmpty,rfl,?_⟩
  have stop:∀Z2,L2.Ex Z Z2->fl n (l.drop i) i W=some i->Q (AV.d (D.int (i:Int))) (Z2.only Z):=fun Z2 h2 h=>by rw[kW h2];rw[hf] at h;simpa[h] using k
  cases W with
  |nil=>
   rw[if_pos (by simp[fkA])]
   exact stop _ hx (by rw[hd,fl])
  |cons e W=>
  rw[if_neg (by simp[fkA])]
  rw[er] at hc;refine zi rfl hc ?_;walk_at "a1";have hx1:L2.Ex Z (Z1.put q (OC.own (fkA n W))):=hx.over hq;have sm:∀ {m:Nat},m<=40000->m<sizeLine:=fun h=>Nat.lt_of_le_of_lt h (by decide)
  have lfk:∀W,(fkA n W).length=W.length:=fun W=>by simp[fkA]
  simp only[List.length_cons] at hw;have stay:fl n (l.drop (i+1)) (i+1) W=fl n (l.drop i) i (e::W)->∀v,N [some (AV.d (D.int n)),some (AV.d (D.str (tx l))),some (AV.d (D.str (tx ([48,49,50,51,52].take n)))),some (AV.r (V.ref q)),some (AV.d (D.int i)),some (AV.d (D.str (tx [c]))),v] (Z1.put q (OC.own (fkA n W))):=fun h v=>kN _ _ ⟨W,q,_,_,v,hx1,hq,Om.A0,h.trans hf,by omega,rfl⟩
  have fin:∀(s:List Nat) v,(c∈s->fl n (l.drop (i+1)) (i+1) W=fl n (l.drop i) i (e::W))->(c ∉ s->fl n (l.drop i) i (e::W)=some i)->if (!Txt.contains (tx s) (tx [c]))=true then Q (AV.d (D.int (i:Int))) ((Z1.put q (OC.own (fkA n W))).only Z) else N [some (AV.d (D.int n)),some (AV.d (D.str (tx l))),some (AV.d (D.str (tx ([48,49,50,51,52].take n)))),some (AV.r (V.ref q)),some (AV.d (D.int i)),some (AV.d (D.str (tx [c]))),v] (Z1.put q (OC.own (fkA n W))):=fun s v h1 h2=>by
   rw[uA];by_cases hm:c∈s
   ·rw[if_neg (by simp[hm])]
    exact stay (h1 hm) v
   ·rw[if_pos (by simp[hm])]
    exact stop _ hx1 (h2 hm)
  rw[hd] at stay fin stop
  cases e with
  |sy=>
   have b0:(!tx (Fk.sy.wd n) == Str.ofString "saying")=false:=by rw[esy];simp[Fk.wd]
   simp only[show tx (Fk.sy.wd n)=Str.ofString "saying" from esy.symm,if_true,beq_self_eq_true,Bool.not_true,Bool.false_eq_true,if_false,e40,e33,dR,List.cons.injEq,and_true]
   have hfl:=fun l'=>fl.eq_4 n i c l' W;by_cases h40:c=40
   ·rw[if_pos h40]
    refine⟨Nat.le_of_lt (sm (by rw[lfk];omega)),fun p hp=>?_⟩
    obtain⟨npq,hp1⟩:=gk hp;refine kN _ _ ⟨.sy::.jo::.sy::.cl::W,p,_,_,_,hx1.new hp,hx.none hp1,Om.A0.trans ?_,?_,by simp only[List.length_cons];omega,rfl⟩
    ·rw[er,er,er,er,e41,esy,ejo]
     simp[Fk.wd]
    ·rw[←hf,hd,hfl,if_pos h40]
   ·rw[if_neg h40]
    by_cases h33:c=33
    ·rw[if_pos h33]
     refine⟨sm (by rw[lfk];omega),kN _ _ ⟨.fg::W,q,_,_,_,hx.over hq,hq,Om.A0.trans ?_,?_,by simp only[List.length_cons];omega,rfl⟩⟩
     ·rw[er];rfl
     ·rw[←hf,hd,hfl,if_neg h40,if_pos h33]
    ·rw[if_neg h33]
     refine fin _ _ (fun hm=>?_) (fun hm=>?_)
     ·rw[hfl,if_neg h40,if_neg h33,if_pos ((iR hn).mp hm)]
     ·rw[hfl,if_neg h40,if_neg h33,if_neg fun z=>hm ((iR hn).mpr z)]
  |jo=>
   have b0:¬ tx (Fk.jo.wd n)=Str.ofString "saying":=by rw[esy,dR];simp[Fk.wd]
   have b1:(!tx (Fk.jo.wd n) == Str.ofString "saying")=true:=by simp[b0]
   simp only[b0,b1,if_true,if_false];refine fin _ _ (fun hm=>?_) (fun hm=>?_)
   ·rw[fl,if_pos (by simpa[Fk.wd] using hm)]
   ·rw[fl,if_neg (by simpa[Fk.wd] using hm)]
  |cl=>
   have b0:¬ tx (Fk.cl.wd n)=Str.ofString "saying":=by rw[esy,dR];simp[Fk.wd]
   have b1:(!tx (Fk.cl.wd n) == Str.ofString "saying")=true:=by simp[b0]
   simp only[b0,b1,if_true,if_false];refine fin _ _ (fun hm=>?_) (fun hm=>?_)
   ·rw[fl,if_pos (by simpa[Fk.wd] using hm)]
   ·rw[fl,if_neg (by simpa[Fk.wd] using hm)]
  |fg=>
   have b0:¬ tx (Fk.fg.wd n)=Str.ofString "saying":=by
    rw[esy,dR];intro z;have:=congrArg List.length z;simp[Fk.wd] at this;omega
   have b1:(!tx (Fk.fg.wd n) == Str.ofString "saying")=true:=by simp[b0]
   simp only[b0,b1,if_true,if_false];refine fin _ _ (fun hm=>?_) (fun hm=>?_)
   ·rw[fl,if_pos ((iR hn).mp hm)]
   ·rw[fl,if_neg fun z=>hm ((iR hn).mpr z)]
 ·rintro ρ Z1 ⟨W,q,v4,v5,v6,hx,hq,hc,hf,hw,rfl⟩
  walk_at "a1";refine⟨by rw[aw];exact cU hl,fkA n W,by simp[cm,hc],rfl,_,rfl,?_⟩
  rw[List.drop_length] at hf;rw[kW hx]
  cases W with
  |nil=>
   rw[fl] at hf;rw[←hf] at k
   exact⟨1,rfl,_,rfl,_,rfl,k⟩
  |cons e W=>
   rw[fl] at hf;rw[←hf] at k
   refine⟨0,by simp[fkA,qj],_,rfl,_,rfl,?_⟩
   rw[aw];exact k
theorem Sy.rep{n:Nat}(hn:n<=5):∀ {x:Sy},x.ok n->wt x.d<=200*x.lvs-100/\fit x.d=true/\dep x.d<=x.dp+2/\1<=x.lvs
 |.is i b,⟨i0,i1,hb⟩=>by
  have hl:=pk i0 (by omega)
  have hl2:=pk (i:=b) (by omega) (by omega)
  have hr:(reprText ("is":Str)).length=4:=by decide +kernel
  simp only[Sy.d,wt,wts,fit,lF,dep,fT,Sy.dp,Sy.lvs,hr,Bool.and_true,Bool.true_and,Bool.and_eq_true,decide_eq_true_eq];omega
 |.jn a l r,⟨hl,hr⟩=>by
  obtain⟨a1,a2,a3,a4⟩:=Sy.rep hn hl;obtain⟨b1,b2,b3,b4⟩:=Sy.rep hn hr;have hr:(reprText (if a then "and" else "or":Str)).length<=5:=by cases a<;>decide +kernel
  simp only[Sy.d,wt,wts,fit,lF,dep,fT,Sy.dp,Sy.lvs,a2,b2,Bool.and_true,true_and];omega
theorem nM:∀x:Sy,x.lvs<=2^x.dp
 |.is i b=>Nat.le_refl _
 |.jn a l r=>by
  have h1:=nM l;have h2:=nM r;have h3:2^l.dp<=2^max l.dp r.dp:=Nat.pow_le_pow_right (by decide) (Nat.le_max_left ..)
  have h4:2^r.dp<=2^max l.dp r.dp:=Nat.pow_le_pow_right (by decide) (Nat.le_max_right ..)
  simp only[Sy.lvs,Sy.dp,Nat.add_comm 1,Nat.pow_succ];omega
theorem nN{n:Nat}:∀ {x:Sy},x.ok n->(stx x).length+3<=5*x.lvs
 |.is i b,h=>by simp only[stx,Sy.lvs,List.length_append,List.length_singleton];split<;>simp
 |.jn a l r,⟨hl,hr⟩=>by
  have h1:=nN hl;have h2:=nN hr;simp only[stx,Sy.lvs,List.length_append,List.length_singleton];omega
theorem oo:∀x:Sy,4*x.dp+1<=(stx x).length
 |.is i b=>by simp[stx,Sy.dp]
 |.jn a l r=>by
  have h1:=oo l;have h2:=oo r;simp only[stx,Sy.dp,List.length_append,List.length_singleton];omega
theorem sB(n c:Nat)(l':List Nat)(i:Nat)(W:List Wk)(j:List Bool)(d:List Sy):pr n (c::l') i (.sy::W) j d=if c=40 then pr n l' (i+1) (.sy::.jo::.sy::.cl::W) j d else if c=33 then (match l' with | []=>.error (i+1)|c2::l2=>if fig n c2=true then pr n l2 (i+2) W j (.is (c2-48:Nat) 0::d) else .error (i+1)) else if fig n c=true then pr n l' (i+1) W j (.is (c-48:Nat) 1::d) else .error i:=by
 rw[pr.eq_def]
 all_goals (cases l'<;>rfl)
theorem nk{n:Nat}(hn:n<=5):∀(x:Sy),x.ok n->∀(l:List Nat)(p:Nat)(W:List Wk)(j:List Bool)(d:List Sy),pr n (stx x++l) p (.sy::W) j d=pr n l (p+(stx x).length) W j (x::d)
 |.is i b,⟨i0,i1,hb⟩,l,p,W,j,d=>by
  obtain⟨i,rfl⟩:=Int.eq_ofNat_of_zero_le i0;have hf:fig n (48+i)=true:=by unfold fig;rw[decide_eq_true_eq];omega
  have e:48+i-48=i:=by omega
  by_cases h1:b=1
  ·subst h1
   simp only[stx,if_true,List.nil_append,List.cons_append,List.length_singleton,Int.toNat_natCast];rw[sB,if_neg (by omega),if_neg (by omega),if_pos hf,e]
  ·have h0:b=0:=by omega
   subst h0;simp only[stx,if_neg (show ¬ (0:Int)=1 by decide),List.nil_append,List.cons_append,List.length_cons,List.length_nil,Int.toNat_natCast]
   rw[sB,if_neg (by decide),if_pos rfl]
   simp only[hf,if_true,e]
 |.jn a x y,⟨hx,hy⟩,l,p,W,j,d=>by
  have e:stx (.jn a x y)++l=40::(stx x++((if a then 38 else 124)::(stx y++(41::l)))):=by simp[stx]
  rw[e,sB,if_pos rfl,nk hn x hx]
  have hj:∀(l:List Nat)(p:Nat)(W:List Wk)(d:List Sy),pr n ((if a then 38 else 124)::l) p (.jo::W) j d=pr n l (p+1) W (a::j) d:=fun l p W d=>by
   cases a<;>simp[pr]
  rw[hj,nk hn y hy];simp only[pr,if_true]
  congr 1
  simp only[stx,List.length_append,List.length_singleton];omega
theorem rl{n:Nat}(hn:n<=5){x:Sy}(h:x.ok n):pr n (stx x) 0 [.sy] [] []=.ok [x]:=by
 have:=nk hn x h [] 0 [] [] [];rw[List.append_nil] at this;rw[this,pr]
theorem uf{n:Nat}(hn:n<=5){x:Sy}(h:x.ok n)(hd:x.dp<=12)(hl:x.lvs<=100):nQ (.tup [.str (Str.ofString "told"),x.d])=true/\(pyD (.tup [.str (Str.ofString "told"),x.d])).depth<=90/\fit (.tup [.str (Str.ofString "told"),x.d])=true/\wt (.tup [.str (Str.ofString "told"),x.d])<=1000000:=by
 obtain⟨a,b,c,d⟩:=Sy.rep hn h;have hr:(reprText (Str.ofString "told")).length=6:=by decide +kernel
 have e:dep (.tup [.str (Str.ofString "told"),x.d])<=40:=by simp only[dep,fT];omega
 refine⟨rfl,?_,?_,?_⟩
 ·rw[(iQ _ (by omega)).2];omega
 ·simp only[fit,lF,b,Bool.and_true]
 ·simp only[wt,wts,hr];omega
theorem mB{q:Nat}(hq:q<=1000):nQ (.tup [.str (Str.ofString "text"),.int q])=true/\(pyD (.tup [.str (Str.ofString "text"),.int q])).depth<=90/\fit (.tup [.str (Str.ofString "text"),.int q])=true/\wt (.tup [.str (Str.ofString "text"),.int q])<=1000000:=by
 have hr:(reprText (Str.ofString "text")).length=6:=by decide +kernel
 have hl:(q:Int).natAbs.log2<=1000:=by
  rw[Int.natAbs_natCast];exact Nat.le_trans (Nat.log2_le_self q) hq
 have e:dep (.tup [.str (Str.ofString "text"),.int q])<=40:=by simp only[dep,fT];omega
 refine⟨rfl,?_,?_,?_⟩
 ·rw[(iQ _ (by omega)).2];omega
 ·simp only[fit,lF,Bool.and_true,Bool.true_and,decide_eq_true_eq];omega
 ·simp only[wt,wts,hr];omega
theorem wx(n:Nat):∀(l:List Nat)(p:Nat)(W:List Fk)(q:Nat),fl n l p W=some q->q<=p+l.length
 | [],p,[],q,h=>by simp[fl] at h
 | [],p,_::_,q,h=>by simp only[fl,Option.some.injEq] at h;omega
 |c::l,p,[],q,h=>by simp only[fl,Option.some.injEq] at h;omega
 |c::l,p,e::W,q,h=>by
  have ih:∀W,fl n l (p+1) W=some q->q<=p+(c::l).length:=fun W h=>by
   have:=wx n l (p+1) W q h;simp only[List.length_cons];omega
  have st:some p=some q->q<=p+(c::l).length:=fun h=>by injection h;omega
  cases e with
  |sy=>
   rw[fl] at h;split at h
   ·exact ih _ h
   ·split at h
    ·exact ih _ h
    ·split at h
     ·exact ih _ h
     ·exact st h
  |jo=>
   rw[fl] at h;split at h
   ·exact ih _ h
   ·exact st h
  |cl=>
   rw[fl] at h;split at h
   ·exact ih _ h
   ·exact st h
  |fg=>
   rw[fl] at h;split at h
   ·exact ih _ h
   ·exact st h
noncomputable def qe(t:Adr)(cA:List AV):cL:=fun xs Z Q Ex=>xs=[]/\b7 t cA Z Q Ex
noncomputable def qh(t:Adr)(cA:List AV):cL:=fun xs Z Q Ex=>xs=[]/\b7 t cA Z Q Ex
noncomputable def qk(t:Adr)(cA:List AV):cL:=fun xs Z Q Ex=>xs=[]/\b7 t (.d (.int 1)::cA) Z Q Ex
noncomputable def qu(t:Adr)(_:List AV):cL:=fun xs Z Q Ex=>xs=[]/\b7 t [.d (.int 5),.d (.str (Str.ofString ""))] Z Q Ex
theorem xC(T:Txt K mg t):aY P t.wo K mg base CX0 200 t.eY t.kl ["_law_script"] (lv K):=by
 have G_l_pen:aY P t.wo K mg base _ _ _ _ _ _:=xw T;have G_l_draw:aY P t.wo K mg base _ _ _ _ _ _:=iO T;have G_l_saying:aY P t.wo K mg base _ _ _ _ _ _:=kj T 4;have G_l_saying_text:aY P t.wo K mg base _ _ _ _ _ _:=qX T 80;have G_l_bend:aY P t.wo K mg base _ _ _ _ _ _:=vE T;have G_l_first:aY P t.wo K mg base _ _ _ _ _ _:=tJ T;have G_l_heard:∀b',aY P t.wo K mg b' CX0 9 t.cJ t.fz ["_law_asked"] (jt 6 t.aj P t.wo K mg b'):=fun b'=>tq 6 T
 refine T.eA.okD de (fun xs Z Q h=>by obtain⟨a,ns,rfl,_⟩:=h;rfl) (fun A outer s H E hr=>?_)
 refine ⟨_,_,(ag (aA (i:=1) de.nd rfl (Or.inl rfl) (aE G_l_pen (hr.mono (by omega)) (by rfl) T.uS T.uD T.vz .nil bP (ac (pv 0) af)))
   (ag (k6 PassesOwn.never rfl (g6 rfl T.lA (ah ak af)) (eF (i:=2) de.nd rfl (Or.inl rfl)) (ag (aA (i:=3) de.nd rfl (Or.inr rfl) (az (aB cF (aB bC cG)) ak (aE G_l_draw (hr.mono (by omega)) (by rfl) T.bW T.bZ T.bV .nil bP (ac (pv 1) (ah ak af)))))
   (ag (aA (i:=4) de.nd rfl (Or.inl rfl) (aE G_l_saying (hr.mono (by omega)) (by rfl) T.fU T.fP T.fN .nil bP (ac (pv 1) (ac (pv 3) (ah ak af)))))
   (ag (aA (i:=5) de.nd rfl (Or.inr rfl) (aE G_l_saying_text (hr.mono (by omega)) (by rfl) T.cy T.cB T.cz .nil bP (ac (pv 4) af)))
   (ag (bA (av (gP hr.A4) (aD (bU hr.gd hr.A4 T.sm) (by rfl) T.eZ (by kernel_rfl) (ac (gI G_l_heard (hr.mono (by omega)) (by rfl) T.fu T.fA T.fB (ac (lq (x:="law") rfl rfl T.eA.tab T.eA.hd rfl) af)) af)) (aD (bU hr.gd hr.A4 T.sm) (by rfl) T.eZ (by kernel_rfl) (cn (cf (ah ar (ac (pv 4) af))) af)) (aF _)) (al (aX mn)) bg)
   (ag (aA (i:=6) de.nd rfl (Or.inr rfl) (pv 5))
   (ag (k6 PassesOwn.never rfl (g6 rfl T.lA (ac (az (aB cF (aB bC cG)) ak (aE G_l_draw (hr.mono (by omega)) (by rfl) T.bW T.bZ T.bV .nil bP (ac (pv 1) (ah ak af)))) af)) (eF (i:=7) de.nd rfl (Or.inl rfl)) (al (aA (i:=6) de.nd rfl (Or.inr rfl) (aE G_l_bend (hr.mono (by omega)) (by rfl) T.q8 T.sS T.s0 .nil bP (ac (pv 1) (ac (pv 6) (ah ar af)))))))
   (ag (aA (i:=8) de.nd rfl (Or.inl rfl) (gI G_l_heard (hr.mono (by omega)) (by rfl) T.fu T.fA T.fB (ac (lq (x:="law") rfl rfl T.eA.tab T.eA.hd rfl) af)))
   (ag (aA (i:=9) de.nd rfl (Or.inl rfl) (aE G_l_first (hr.mono (by omega)) (by rfl) T.qN T.qf T.qm .nil bP (ac (pv 3) (ac (pv 6) af))))
   (al (bA (av rh (pv 9) fc (aF _)) (al (bA (PW.pt (pG (av (gP hr.A4) (dc (bo K rfl) (pv 8) ak (fun _ _=>rfl)) ar (aF _)) (lH (av (gP hr.A4) (aE G_l_saying_text (hr.mono (by omega)) (by rfl) T.cy T.cB T.cz .nil bP (ac (dc (bo K rfl) (pv 8) ak (fun _ _=>rfl)) af)) (pv 6) (aF _))))) (al (aX mn)) bg)) (al (bA (av (gP hr.A4) (aD (bU hr.gd hr.A4 T.sm) (by rfl) T.eZ (by kernel_rfl) (ac (pv 8) af)) (aD (bU hr.gd hr.A4 T.sm) (by rfl) T.eZ (by kernel_rfl) (cn (cf (ah ar (ac (pv 9) af))) af)) (aF _)) (al (aX mn)) bg)))))))))))))
   (ag (k6 PassesOwn.never rfl (xk K rfl (cM (ah fc (ah ak (ah mn (rR (cM (ah ar af)) (cn (cf (ah ar (ah ak (ah ak af)))) (ac (tP) (cn (cf (ah ar af)) af))))))))) (eF (i:=10) de.nd rfl (Or.inr rfl)) (al (bA (av (gP hr.A4) (aD (bU hr.gd hr.A4 T.sm) (by rfl) T.eZ (by kernel_rfl) (ac (gI G_l_heard (hr.mono (by omega)) (by rfl) T.fu T.fA T.fB (ac (lq (x:="law") rfl rfl T.eA.tab T.eA.hd rfl) af)) af)) (aD (bU hr.gd hr.A4 T.sm) (by rfl) T.eZ (by kernel_rfl) (cn (cf (ah ar (ah ak af))) af)) (aF _)) (al (aX mn)) bg)))
   (al (aX (va K rfl (iF (bD hr.A4) (aD (bU hr.gd hr.A4 T.sm) (by rfl) T.eZ (by kernel_rfl) (ac (gI G_l_heard (hr.mono (by omega)) (by rfl) T.fu T.fA T.fB (ac (lq (x:="law") rfl rfl T.eA.tab T.eA.hd rfl) af)) af)) (aD (bU hr.gd hr.A4 T.sm) (by rfl) T.eZ (by kernel_rfl) (cn (cf (ah ar (ah ak af))) af)) (aF _)) (x9 (iF (bD hr.A4) (wQ K rfl (vH rfl (hr.mono (by omega)) (by rfl) T.ek T.ce T.dE db aT.1 aT.2 T.dJ da (ah ak af))) ak (aF _))))))))),(aL (aR (a8 (aa ae ai)) ax)
   (aL (pN (n4 (aa ao ai)) ax (aL (aR (am dO ao (a8 (aa ae (aa ao ai)))) ax)
   (aL (aR (a8 (aa ae (aa ae (aa ao ai)))) ax)
   (aL (aR (a8 (aa ae ai)) ax)
   (aL (eV (aJ (am bH (cP dQ (aa (iK (C:=t.aj) (js:=[3,5]) (s:=qh t) ?F1) ai)) (cP dQ (aa (d8 (aa aH (aa ae ai))) ai)))) (bz rN) bO)
   (aL (aR ae ax)
   (aL (pN (n4 (aa (am dO ao (a8 (aa ae (aa ao ai)))) ai)) ax (aR (a8 (aa ae (aa ae (aa aH ai)))) ax))
   (aL (aR (iK (C:=t.aj) (js:=[3,6]) (s:=qe t) ?F0) ax)
   (aL (aR (a8 (aa ae (aa ae ai))) ax)
   (eV (aJ (am t8 ae ii)) (eV (uw (aJ (am bH (am gT ae ao) aH)) (aJ (am bH (a8 (aa (am gT ae ao) ai)) ae))) (bz rN) bO) (eV (aJ (am bH (cP dQ (aa ae ai)) (cP dQ (aa (d8 (aa aH (aa ae ai))) ai)))) (bz rN) bO)))))))))))
   (aL (pN (yU (gu (aa ii (aa ao (aa rN (aa (gu (aa aH ai)) (aa (d8 (aa aH (aa ao (aa ao ai)))) (aa yL (aa (d8 (aa aH ai)) ai))))))))) ax (eV (aJ (am bH (cP dQ (aa (iK (C:=t.aj) (js:=[10]) (s:=qk t) ?F2) ai)) (cP dQ (aa (d8 (aa aH (aa ao ai))) ai)))) (bz rN) bO))
   (bz (yw (am bH (cP dQ (aa (iK (C:=t.aj) (js:=[]) (s:=qu t) ?F3) ai)) (cP dQ (aa (d8 (aa aH (aa ao ai))) ai))) (am bH (zX (yn (aa ao ai))) ao)))))),fun xs Z Q h=>?main⟩
 case F0=>
  intro b' H f σ caps cA L cb hc hl;have GX_read_saying:aY P t.wo K mg b' (CXn P t.wo) 5 t.aN t.bp ["places","text"] (fb (b7 t)):=iE T;obtain⟨v,v',rfl⟩:∃v v',caps=[v,v']:=match caps,hc.1 with | [v,v'],_=>⟨v,v',rfl⟩
  obtain⟨wc,wu,hwc,hcell,hrel⟩:=cb 3 "_law_places" v rfl (hc.2 0 3 v rfl rfl) rfl rfl;obtain⟨zc,zu,hzc,zcell,zrel⟩:=cb 6 "_law_bent" v' rfl (hc.2 1 6 v' rfl rfl) rfl rfl;obtain rfl:s.heap.objs.size+1+1=wc:=Option.some.inj hwc;obtain rfl:s.heap.objs.size+1=zc:=Option.some.inj hzc;refine gi (ps:=[]) (cs:=["_law_places","_law_bent"]) (spf:=b7 t) L ⟨rfl,rfl,rfl,by decide +kernel,by decide +kernel,by decide +kernel,by decide +kernel⟩ (xX (x:="_law_places") (y:="_law_bent") (c:=s.heap.objs.size+1+1) (d:=s.heap.objs.size+1) (by decide +kernel) (Nat.ne_of_gt (Nat.lt_succ_self _)) hcell hrel zcell zrel) (fun pm c ctv us hl=>match us,hl with | [],_=>rfl) (fun xs Z Q Ex h=>by obtain⟨rfl,_⟩:=h;rfl) (fun cd A outer s H hr=>⟨_,_,(gh GX_read_saying (hr.mono (by omega)) (by rfl) T.c8 T.c6 T.c7 (ac (pv 0) (ac (pv 1) af))),(aa ae (aa ae ai)),fun xs Z Q Ex h=>?_⟩)
  obtain⟨rfl,h⟩:=h
  match cA,hl with
  | [y,y'],_=>exact⟨_,rfl,_,rfl,h⟩
 case F1=>
  intro b' H f σ caps cA L cb hc hl;have GX_read_saying:aY P t.wo K mg b' (CXn P t.wo) 5 t.aN t.bp ["places","text"] (fb (b7 t)):=iE T;obtain⟨v,v',rfl⟩:∃v v',caps=[v,v']:=match caps,hc.1 with | [v,v'],_=>⟨v,v',rfl⟩
  obtain⟨wc,wu,hwc,hcell,hrel⟩:=cb 3 "_law_places" v rfl (hc.2 0 3 v rfl rfl) rfl rfl;obtain⟨zc,zu,hzc,zcell,zrel⟩:=cb 5 "_law_text" v' rfl (hc.2 1 5 v' rfl rfl) rfl rfl;obtain rfl:s.heap.objs.size+1+1=wc:=Option.some.inj hwc;obtain rfl:s.heap.objs.size+1+1+1=zc:=Option.some.inj hzc;refine gi (ps:=[]) (cs:=["_law_places","_law_text"]) (spf:=b7 t) L ⟨rfl,rfl,rfl,by decide +kernel,by decide +kernel,by decide +kernel,by decide +kernel⟩ (uM (x:="_law_places") (y:="_law_text") (c:=s.heap.objs.size+1+1) (d:=s.heap.objs.size+1+1+1) (by decide +kernel) (Nat.ne_of_lt (Nat.lt_succ_self _)) hcell hrel zcell zrel) (fun pm c ctv us hl=>match us,hl with | [],_=>rfl) (fun xs Z Q Ex h=>by obtain⟨rfl,_⟩:=h;rfl) (fun cd A outer s H hr=>⟨_,_,(gh GX_read_saying (hr.mono (by omega)) (by rfl) T.c8 T.c6 T.c7 (ac (pv 0) (ac (pv 1) af))),(aa ae (aa ae ai)),fun xs Z Q Ex h=>?_⟩)
  obtain⟨rfl,h⟩:=h
  match cA,hl with
  | [y,y'],_=>exact⟨_,rfl,_,rfl,h⟩
 case F2=>
  intro b' H f σ caps cA L cb hc hl;have GX_read_saying:aY P t.wo K mg b' (CXn P t.wo) 5 t.aN t.bp ["places","text"] (fb (b7 t)):=iE T;obtain⟨v,rfl⟩:∃v,caps=[v]:=List.length_eq_one_iff.mp hc.1;obtain⟨wc,wu,hwc,hcell,hrel⟩:=cb 10 "_law_thing" v rfl (hc.2 0 10 v rfl rfl) rfl rfl;obtain rfl:=Option.some.inj hwc;refine gi (ps:=[]) (cs:=["_law_thing"]) (spf:=b7 t) L ⟨rfl,rfl,rfl,by decide +kernel,by decide +kernel,by decide +kernel,by decide +kernel⟩ (xj hcell hrel) (fun pm c ctv us hl=>match us,hl with | [],_=>rfl) (fun xs Z Q Ex h=>by obtain⟨rfl,_⟩:=h;rfl) (fun cd A outer s H hr=>⟨_,_,(gh GX_read_saying (hr.mono (by omega)) (by rfl) T.c8 T.c6 T.c7 (ah ak (ac (pv 0) af))),(aa ao (aa ae ai)),fun xs Z Q Ex h=>?_⟩)
  obtain⟨rfl,h⟩:=h
  match cA,hl with
  | [y],_=>exact⟨_,rfl,h⟩
 case F3=>
  intro b' H f σ caps cA L cb hc hl;have GX_read_saying:aY P t.wo K mg b' (CXn P t.wo) 5 t.aN t.bp ["places","text"] (fb (b7 t)):=iE T;obtain rfl:caps=[]:=List.length_eq_zero_iff.mp (hc.1);refine gi (ps:=[]) (cs:=[]) (spf:=b7 t) L ⟨rfl,rfl,rfl,by decide +kernel,by decide +kernel,by decide +kernel,by decide +kernel⟩ (AF b') (fun pm c ctv us hl=>match us,hl with | [],_=>rfl) (fun xs Z Q Ex h=>by obtain⟨rfl,_⟩:=h;rfl) (fun cd A outer s H hr=>⟨_,_,(gh GX_read_saying (hr.mono (by omega)) (by rfl) T.c8 T.c6 T.c7 (ah ak (ah ar af))),(aa ao (aa aH ai)),fun xs Z Q Ex h=>?_⟩)
  obtain⟨rfl,h⟩:=h
  match cA,hl with
  | [],_=>exact h
 case main=>
  obtain⟨a,ns,rfl,hl,rfl,k⟩:=h;walk_at "s1";refine⟨a,ns,rfl,hl,fun p c hp0=>?_⟩;walk_at "s1";refine⟨by decide,by decide,li (fun i ρ Z'=>jy Z' p/\∃v2 v3 v4 v5 v6 v7 v8 v9,ρ=[some (scr K a ns),some (.r (.ref p)),v2,v3,v4,v5,v6,v7,v8,v9,none]) ⟨bu,_,_,_,_,_,_,_,_,rfl⟩ ?_ ?_⟩
  ·rintro i ρ Z N hi ⟨hp,v2,v3,v4,v5,v6,v7,v8,v9,rfl⟩ kN
   walk_at "s1";refine⟨p,5,rfl,hp,by decide,by decide,fun r c r0 r1=>⟨r,rfl,?_⟩⟩
   obtain⟨n,hn⟩:∃n:Nat,1+r=(n:Int):=⟨(1+r).toNat,by omega⟩
   have hn1:1<=n:=by omega
   have hn5:n<=5:=by omega
   rw[hn];clear hn r0 r1;walk_at "s1";refine⟨p,n,rfl,bu,hn1,hn5,fun x c ox dx=>?_⟩;rw[Om.A3];have lx:=nM x;have lx:x.lvs<=16:=Nat.le_trans lx (Nat.pow_le_pow_right (by decide) dx:2^x.dp<=2^4)
   have sx:=nN ox;walk_at "s1";refine⟨n,x,rfl,hn5,ox,by omega,by omega,?_⟩
   walk_at "s1";obtain⟨t1,t2,t3,t4⟩:=uf hn5 ox (by omega) (by omega)
   refine⟨_,rfl,rfl,n,_,rfl,hn5,.inr ⟨stx x,rfl,by omega,fun x' hx'=>?_,fun q hq=>?_⟩⟩
   rotate_left
   ·rw[rl hn5 ox] at hq;cases hq
   obtain rfl:x=x':=by rw[rl hn5 ox] at hx';injection hx' with h;injection h
   refine⟨_,rfl,t1,t2,t3,t4,t1,t2,t3,t4,?_⟩;rw[if_neg (by simp),ba]
   clear t1 t2 t3 t4;walk_at "s1";walk_at "s1";refine⟨p,2,rfl,bu,by decide,by decide,fun r c2 r0 r1=>⟨r,rfl,?_⟩⟩
   rw[Om.A3];obtain⟨m,hm⟩:∃m:Nat,1+r=(m:Int):=⟨(1+r).toNat,by omega⟩
   have hm2:m<=2:=by omega
   rw[hm];clear hm r0 r1 hx';have esg:Str.ofString "0123456!&|() ;YN[]-,\n9"=tx [48,49,50,51,52,53,54,33,38,124,40,41,32,59,89,78,91,93,45,44,10,57]:=by decide +kernel
   refine⟨by omega,by omega,li (fun j ρ' Z'=>jy Z' p/\(∀c,Z'.put p (plO c)=Z.put p (plO c))/\∃(l:List Nat)(v7:Option AV),l.length+1<=78*2^j/\ρ'=[some (scr K a ns),some (.r (.ref p)),some (.d (.int (0+(i:Int)))),some (.d (.int n)),some (.d x.d),some (.d (.str (tx (stx x)))),some (.d (.str (tx l))),v7,v8,v9,none]) ⟨bu,fun _=>Om.A3,stx x,_,by omega,rfl⟩ ?_ ?_⟩
   ·rintro j ρ' Z' N hj ⟨hp',e',l,v7,hl,rfl⟩ kN
    have hj1:2^j<=2^1:=Nat.pow_le_pow_right (by decide) (by omega)
    walk_at "a1";refine⟨p,l,_,by rw[esg],hp',by decide,by decide,by omega,fun l' c h=>kN _ _ ⟨bu,fun c=>by rw[Om.A3,e'],l',_,?_,rfl⟩⟩
    rw[Nat.pow_succ];omega
   ·rintro ρ' Z' ⟨hp',e',l,v7,hl,rfl⟩
    have hj2:2^m<=2^2:=Nat.pow_le_pow_right (by decide) hm2
    have em:((m:Nat):Int).toNat=m:=Int.toNat_natCast m;rw[em] at hl;have hl:l.length<=311:=by omega
    dsimp only;walk_at "s1";rcases yS n l.length l 0 [.sy] [] [] (Nat.le_refl _) rfl with⟨R,hR,hF⟩|⟨q,hR,hF⟩
    ·obtain⟨x2,rfl,ox2,rfl⟩:=rV hR
     refine⟨_,rfl,rfl,n,_,rfl,hn5,.inr ⟨stx x2,rfl,by omega,fun x' hx'=>?_,fun q hq=>?_⟩⟩
     rotate_left
     ·rw[hR] at hq;cases hq
     obtain rfl:x2=x':=by rw[hR] at hx';injection hx' with h;injection h
     refine⟨_,rfl,?_⟩;rw[ba];walk_at "s1";refine⟨n,_,rfl,hn1,hn5,by omega,?_⟩
     rw[show fl n (stx x2) 0 [.sy]=none from hF]
     walk_at "a1";have:=oo x2;rw[if_neg (by simp)]
     refine⟨n,x2,rfl,hn5,ox2,by omega,by omega,_,rfl,by rw[k7];decide,?_⟩
     rw[if_neg (by simp[eqD])]
     exact kN _ _ ⟨hp',_,_,_,_,_,_,_,_,rfl⟩
    ·have hq:q<=l.length:=by have:=wx n l 0 _ q hF;omega
     obtain⟨t1,t2,t3,t4⟩:=mB (q:=q) (by omega)
     refine⟨_,rfl,rfl,n,_,rfl,hn5,.inr ⟨l,rfl,by omega,fun x' hx'=>?_,fun q' hq'=>?_⟩⟩
     ·rw[hR] at hx';cases hx'
     obtain rfl:q=q':=by rw[hR] at hq';injection hq'
     refine⟨q,rfl,?_⟩;rw[ba];walk_at "s1";refine⟨n,_,rfl,hn1,hn5,by omega,?_⟩
     rw[show fl n l 0 [.sy]=some q from hF]
     walk_at "a1";rw[if_neg (by simp[eqD])]
     refine⟨t1,t2,t3,t4,t1,t2,t3,t4,?_⟩;rw[if_neg (by simp)]
     exact kN _ _ ⟨hp',_,_,_,_,_,_,_,_,rfl⟩
  ·rintro ρ Z ⟨hp,v2,v3,v4,v5,v6,v7,v8,v9,rfl⟩
   dsimp only;walk_at "s1";obtain⟨t1,t2,t3,t4⟩:=mB (q:=0) (by decide)
   refine zZ (ds:=[D.non,D.int 0,D.bl true,D.lst [D.str (Str.ofString "0")],D.tup [D.str (Str.ofString "is"),D.int 0,D.int 1],D.dk [],D.tup [D.str (Str.ofString "0")]]) (fun j ρ' Z'=>∃v10,Z'=Z/\ρ'=[some (scr K a ns),some (AV.r (V.ref p)),v2,v3,v4,v5,v6,v7,v8,v9,v10]) ⟨_,rfl,rfl⟩ ?_ ?_
   ·rintro j d ρ' Z' N hj ⟨v10,rfl,rfl⟩ kN
    have hd:isD "str" d=false:=by
     have:=List.mem_of_getElem? hj;simp only[List.mem_cons,List.not_mem_nil,or_false] at this;rcases this with rfl|rfl|rfl|rfl|rfl|rfl|rfl<;>rfl
    walk_at "a1";refine⟨_,rfl,rfl,1,d,rfl,by decide,.inl ⟨hd,0,rfl,t1,t2,t3,t4,t1,t2,t3,t4,?_⟩⟩
    rw[if_neg (by simp),ba]
    exact kN _ _ ⟨_,rfl,rfl⟩
   ·rintro ρ' Z' ⟨v10,rfl,rfl⟩
    walk_at "a1";refine⟨_,rfl,rfl,5,_,rfl,by decide,.inr ⟨[],by rw[show Str.ofString ""=tx [] from by decide +kernel],by decide,fun x hx=>?_,fun q hq=>?_⟩⟩
    ·simp[pr] at hx
    ·obtain rfl:0=q:=by simpa[pr] using hq
     refine⟨0,rfl,t1,t2,t3,t4,t1,t2,t3,t4,?_⟩;rw[if_pos (show gy (D.tup [D.str (Str.ofString "text"),D.int ((0:Nat):Int)])=gy (D.tup [D.str (Str.ofString "text"),D.int 0]) from rfl)]
     exact⟨7,rfl,fun a=>⟨a,_,7,rfl,T.cT,k _⟩⟩
end
theorem uG{P:Program}{w:World}{K:W.Frag}{mg:Str->Option Value}{base:Heap}{t:Adr}(hw:t.wo=w)(T:Txt K mg t):aY P w K mg base CX0 200 t.eY t.kl ["_law_script"] (lv K):=by
 subst hw;exact xC T
theorem yb(w:World){K:W.Frag}{h:Heap}{mg:Str->Option Value}(X:K.In h)(G:h.Ns mainGlobals mg){bc:Addr}{fd_must_be_text:FuncData}{cC:Addr}{fd_must_end:FuncData}{cQ:Addr}{fd_sign_at:FuncData}{cH:Addr}{fd_place_at:FuncData}{aN:Addr}{fd_read_saying:FuncData}{eJ:Addr}{fd_l_pen:FuncData}{dC:Addr}{fd_l_draw:FuncData}{bB:Addr}{fd_l_saying:FuncData}{aO:Addr}{fd_l_saying_text:FuncData}{dy:Addr}{fd_l_sign:FuncData}{dH:Addr}{fd_l_bend:FuncData}{cJ:Addr}{fd_l_heard:FuncData}{cN:Addr}{fd_l_first:FuncData}{eY:Addr}{od_law an_law:Option Addr}{sl_law:Array (Option Value)}{oc_law kV_law dc_law pm_law cd_law ct_law:Value}{c0:Addr}{ep_JOINS:Nat}{u_JOINS_0 v_JOINS_0 u_JOINS_1 v_JOINS_1:Tok}{bq:Addr}{n_PLACE_SIGNS:Nat}{u_PLACE_SIGNS_0 u_PLACE_SIGNS_1 u_PLACE_SIGNS_2 u_PLACE_SIGNS_3 u_PLACE_SIGNS_4:Tok}{aW:Addr}{n_BEHIND_BRACKET:Nat}{u_BEHIND_BRACKET_0 u_BEHIND_BRACKET_1 u_BEHIND_BRACKET_2 u_BEHIND_BRACKET_3:Tok}{cc_law pp_law:Addr}{ko_law:Value}{kd_law:Option Addr}{kf_law:Array Value}{ks_law:Array (Option Value)}{cK:Addr}{cr:Addr}{br:Addr}{cq:Addr}{cw:Addr}{bM:Addr}{c9:Addr}{cg:Addr}{aj:Addr}{bX:Addr}{od_i_NoText an_i_NoText:Option Addr}{aT:Array (Option Value)}{oc_i_NoText kV_i_NoText dc_i_NoText pm_i_NoText cd_i_NoText ct_i_NoText:Value}(bw:gl K "must_be_text" dM bc fd_must_be_text)(cY:gl K "must_end" fX cC fd_must_end)(dw:gl K "sign_at" hU cQ fd_sign_at)(cW:gl K "place_at" fO cH fd_place_at)(bN:gl K "read_saying" dW aN fd_read_saying)(fy:gl K "_law_pen" k9 eJ fd_l_pen)(d7:gl K "_law_draw" jd dC fd_l_draw)(cX:gl K "_law_saying" f7 bB fd_l_saying)(bh:gl K "_law_saying_text" dh aO fd_l_saying_text)(d5:gl K "_law_sign" ji dy fd_l_sign)(eg:gl K "_law_bend" jL dH fd_l_bend)(dv:gl K "_law_heard" g5 cJ fd_l_heard)(du:gl K "_law_first" hW cN fd_l_first)(rE:W.nsIn K mainGlobals "law"=some (some (.ref eY)))(pP:K.lookup eY=some ⟨oc_law,od_law,.func (W.fnOf "law" "law" (defArgs ik) (defBody ik) (defScope ik) .none kV_law dc_law pm_law an_law cd_law ct_law),sl_law⟩)(kJ:W.codeIn K cd_law "law"=true)(pT:W.keepIn K (.ref eY)=true)(lm:W.nsIn K mainGlobals "JOINS"=some (some (.ref c0)))(kX:K.lookup c0=some { cls:=.type "dict",data:=.dict #[⟨PyData.keyHash w.params "&",.str "&" u_JOINS_0,.str "and" v_JOINS_0⟩,⟨PyData.keyHash w.params "|",.str "|" u_JOINS_1,.str "or" v_JOINS_1⟩] ep_JOINS })(dU:W.nsIn K mainGlobals "PLACE_SIGNS"=some (some (.ref bq)))(dX:K.lookup bq=some { cls:=.type "tuple",data:=.seq #[.str "0" u_PLACE_SIGNS_0,.str "1" u_PLACE_SIGNS_1,.str "2" u_PLACE_SIGNS_2,.str "3" u_PLACE_SIGNS_3,.str "4" u_PLACE_SIGNS_4] n_PLACE_SIGNS })(cO:W.nsIn K mainGlobals "BEHIND_BRACKET"=some (some (.ref aW)))(cS:K.lookup aW=some { cls:=.type "tuple",data:=.seq #[.str ")" u_BEHIND_BRACKET_0,.str "saying" u_BEHIND_BRACKET_1,.str "join" u_BEHIND_BRACKET_2,.str "saying" u_BEHIND_BRACKET_3] n_BEHIND_BRACKET })
  (sA:cd_law=.ref cc_law) (w5:K.lookup cc_law=some ⟨ko_law,kd_law,.fields kf_law,ks_law⟩) (wA:kf_law[11]?=some (.ref pp_law)) (re:(fZ K).contains ("law",cc_law,pp_law)=true) (rJ:qr K cc_law pp_law=true)
  (e9:W.nsIn K mainGlobals "TalkError"=some (some (.ref cK)))
  (jf:W.nsIn K mainGlobals "NoCase"=some (some (.ref cr)))
  (fL:W.nsIn K mainGlobals "NoSaying"=some (some (.ref br)))
  (jp:W.nsIn K mainGlobals "NoTalk"=some (some (.ref cq)))
  (jg:W.nsIn K mainGlobals "NoRise"=some (some (.ref cw)))
  (hV:W.nsIn K mainGlobals "TooMany"=some (some (.ref bM)))
  (lu:W.nsIn K mainGlobals "NoRow"=some (some (.ref c9)))
  (jm:W.nsIn K mainGlobals "NoWord"=some (some (.ref cg)))
  (i7:W.nsIn K mainGlobals "NoText"=some (some (.ref aj)))
  (jC:W.findIn K (.ref aj) "__init__"=some (some (.ref bX))) (fY:K.lookup bX=some ⟨oc_i_NoText,od_i_NoText,.func (W.fnOf "__init__" "NoText.__init__" (defArgs bE) (defBody bE) (defScope bE) .none kV_i_NoText dc_i_NoText pm_i_NoText an_i_NoText cd_i_NoText ct_i_NoText),aT⟩) (fR:W.codeIn K cd_i_NoText "NoText.__init__"=true) (fK:W.keepIn K (.ref bX)=true)
  (ce:qC K aj bX=true)
  (cT:nD K aj=true)
  (bF:W.kitOne K (.ref aj) (.ref cr)=some false)
  (bL:W.kitOne K (.ref aj) (.ref cw)=some false)
  (bR:W.kitOne K (.ref aj) (.ref c9)=some false)
  (bi:W.kitOne K (.ref aj) (.ref br)=some false)
  (bG:W.kitOne K (.ref aj) (.ref cq)=some false)
  (bK:W.kitOne K (.ref aj) (.ref cg)=some false)
  (bv:W.kitOne K (.ref aj) (.ref bM)=some false)
  (bI:W.kitOne K (.ref aj) (.ref aj)=some true)
  (a7:W.kitOne K (.ref aj) (.type "ValueError")=some true)
  (bb:W.exmOne K (.ref aj) (.ref cK)=some true)
  (gf:W.kitOne K (.type "NoneType") (.ref cr)=some false)
  (gw:W.kitOne K (.type "NoneType") (.ref cw)=some false)
  (iH:W.kitOne K (.type "NoneType") (.ref c9)=some false)
  (eH:W.kitOne K (.type "NoneType") (.ref br)=some false)
  (gE:W.kitOne K (.type "NoneType") (.ref cq)=some false)
  (gM:W.kitOne K (.type "NoneType") (.ref cg)=some false)
  (fw:W.kitOne K (.type "NoneType") (.ref bM)=some false)
  (gg:W.kitOne K (.type "NoneType") (.ref aj)=some false)
  (dj:W.kitOne K (.type "NoneType") (.type "ValueError")=some false)
  (sm:(K.lookup sysModules).isSome=true)
  (gq:(c0 == sysModules)=false)
  (eC:W.nsIn K mainGlobals "ValueError"=some none)
  (tX:W.nsIn K mainGlobals "abs"=some none)
  (rB:W.nsIn K mainGlobals "int"=some none)
  (eO:W.nsIn K mainGlobals "isinstance"=some none)
  (qZ:W.nsIn K mainGlobals "len"=some none)
  (la:W.nsIn K mainGlobals "range"=some none)
  (nS:W.nsIn K mainGlobals "repr"=some none)
  (rj:W.nsIn K mainGlobals "str"=some none):∃t,t.wo=w/\Txt K mg t:=by
 have F_law:=nT (st:=ik) pP kJ pT;have F_i_NoText:=nT (st:=bE) fY fR fK
 exact⟨⟨bc,_,cC,_,cQ,_,cH,_,aN,_,eJ,_,dC,_,bB,_,aO,_,dy,_,dH,_,cJ,_,cN,_,eY,_,w,bq,aW,c0,cc_law,pp_law,cK,cr,br,cq,cw,bM,c9,cg,aj,bX,_⟩,rfl,⟨W.mg_of X G bw.g,bw.f,bw.e,bw.f.A8 fun _ _ _ _ _ _ _=>rfl,
  W.mg_of X G cY.g,cY.f,cY.e,cY.f.A6 fun _ _ _ _ _ _ _ _=>rfl,
  W.mg_of X G dw.g,dw.f,dw.e,dw.f.A6 fun _ _ _ _ _ _ _ _=>rfl,
  W.mg_of X G cW.g,cW.f,cW.e,cW.f.Bc fun _ _ _ _ _ _ _ _ _=>rfl,
  W.mg_of X G bN.g,bN.f,bN.e,bN.f.A6 fun _ _ _ _ _ _ _ _=>rfl,
  W.mg_of X G fy.g,fy.f,fy.e,fy.f.A8 fun _ _ _ _ _ _ _=>rfl,
  W.mg_of X G d7.g,d7.f,d7.e,d7.f.A6 fun _ _ _ _ _ _ _ _=>rfl,
  W.mg_of X G cX.g,cX.f,cX.e,cX.f.Bc fun _ _ _ _ _ _ _ _ _=>rfl,
  W.mg_of X G bh.g,bh.f,bh.e,bh.f.A8 fun _ _ _ _ _ _ _=>rfl,
  W.mg_of X G d5.g,d5.f,d5.e,d5.f.A6 fun _ _ _ _ _ _ _ _=>rfl,
  W.mg_of X G eg.g,eg.f,eg.e,eg.f.Bc fun _ _ _ _ _ _ _ _ _=>rfl,
  W.mg_of X G dv.g,dv.f,dv.e,dv.f.A8 fun _ _ _ _ _ _ _=>rfl,
  W.mg_of X G du.g,du.f,du.e,du.f.A6 fun _ _ _ _ _ _ _ _=>rfl,
  W.mg_of X G rE,F_law,pT,F_law.A8 (p0:="_law_script") fun _ _ _ _ _ _ _=>rfl,
  fun s v=>.of_eq rfl,
  W.mg_none_of X G eC,
  W.mg_none_of X G tX,
  W.mg_none_of X G rB,
  W.mg_none_of X G eO,
  W.mg_none_of X G qZ,
  W.mg_none_of X G la,
  W.mg_none_of X G nS,
  W.mg_none_of X G rj,
  W.mg_of X G lm,
  ⟨_,_,ep_JOINS,kX,⟨rfl,rfl,rfl⟩,rfl,(.cons ⟨rfl,⟨_,rfl⟩,⟨_,rfl⟩⟩ (.cons ⟨rfl,⟨_,rfl⟩,⟨_,rfl⟩⟩ PySem.Paired.nil))⟩,
  W.mg_of X G dU,
  ⟨_,n_PLACE_SIGNS,dX,(show 5<=sizeLine by decide),(.cons ⟨_,rfl⟩ (.cons ⟨_,rfl⟩ (.cons ⟨_,rfl⟩ (.cons ⟨_,rfl⟩ (.cons ⟨_,rfl⟩ .nil)))))⟩,
  W.mg_of X G cO,
  ⟨_,n_BEHIND_BRACKET,cS,(show 4<=sizeLine by decide),(.cons ⟨_,rfl⟩ (.cons ⟨_,rfl⟩ (.cons ⟨_,rfl⟩ (.cons ⟨_,rfl⟩ .nil))))⟩,
  vq (st:=ik) pP kJ sA re rJ,
  W.mg_of X G e9,
  W.mg_of X G jf,
  W.mg_of X G fL,
  W.mg_of X G jp,
  W.mg_of X G jg,
  W.mg_of X G hV,
  W.mg_of X G lu,
  W.mg_of X G jm,
  W.mg_of X G i7,
  F_i_NoText,F_i_NoText.A6 (p0:="self") (p1:="at") fun _ _ _ _ _ _ _ _=>rfl,
  ce,
  cT,
  bF,
  bL,
  bR,
  bi,
  bG,
  bK,
  bv,
  bI,
  a7,
  bb,
  gf,
  gw,
  iH,
  eH,
  gE,
  gM,
  fw,
  gg,
  dj,
  sm,
  gq⟩⟩
noncomputable def inCls(s:PySem.Stmt)(j:Nat):PySem.Stmt:=match s with
 |.ClassDef _ _ _ b _ _ _ _ _ _ _=>b.getD j (.Pass ⟨0,0,0,0⟩)
 |_=>s
noncomputable abbrev oT(x:Array Value):Obj:=⟨.type "tuple",.none,.seq x 0,#[]⟩
noncomputable abbrev oF(n:Str)(i:Nat)(s:Str)(k:Tok)(c:Addr):Obj:=⟨.type "function",.none,.func (W.fnOf n n (defArgs (top i)) (defBody (top i)) (defScope (top i)) .none .none .none (.str s k) .none (.ref c) .none),#[]⟩
noncomputable abbrev oC(n:Str)(a b c:Tok)(l k:Int)(r:Addr)(e:Int)(u:Addr)(v w:Value)(x:Addr)(y:Int)(d:Tok):Obj:=⟨.type "code",.none,.fields #[.str n a,.str n b,.str "/claim/cut.py" c,.int l 0,.int k 0,.int 0 0,.int 0 0,.int 3 0,.ref r,.bool true,.int e 0,.ref u,.none,v,w,.ref x,.int y 0,.int l 0,.str "/claim/cut.py" d],#[]⟩
noncomputable def KK:PySem.Params->PySem.W.Frag:=fun P=>
 (nat_lit 1,⟨.type "dict",.none,.dict #[⟨PyData.keyHash P "builtins",.str "builtins" 162,.ref 4⟩,⟨PyData.keyHash P "__main__",.str "__main__" 163,.ref 5⟩] 2,#[]⟩)::
 (nat_lit 2,⟨.none,.none,.dict #[] 0,#[]⟩)::
 (nat_lit 3,⟨.type "dict",.none,.dict #[⟨PyData.keyHash P "__name__",.str "__name__" 165,.str "law_unlikeplace_k62_texts_of_no_saying" 413⟩,⟨PyData.keyHash P "__doc__",.str "__doc__" 166,.none⟩,⟨PyData.keyHash P "__package__",.str "__package__" 167,.none⟩,⟨PyData.keyHash P "__loader__",.str "__loader__" 168,.builtin "__main__.__loader__#opaque"⟩,⟨PyData.keyHash P "__spec__",.str "__spec__" 169,.none⟩,⟨PyData.keyHash P "__annotations__",.str "__annotations__" 170,.ref 6⟩,⟨PyData.keyHash P "__builtins__",.str "__builtins__" 171,.ref 4⟩,⟨PyData.keyHash P "__file__",.str "__file__" 173,.str "/claim/cut.py" 172⟩,⟨PyData.keyHash P "__cached__",.str "__cached__" 174,.none⟩,⟨PyData.keyHash P "TalkError",.str "TalkError" 206,.ref 24⟩,⟨PyData.keyHash P "NoCase",.str "NoCase" 222,.ref 37⟩,⟨PyData.keyHash P "NoSaying",.str "NoSaying" 238,.ref 49⟩,⟨PyData.keyHash P "NoTalk",.str "NoTalk" 254,.ref 61⟩,⟨PyData.keyHash P "NoRise",.str "NoRise" 270,.ref 73⟩,⟨PyData.keyHash P "TooMany",.str "TooMany" 286,.ref 85⟩,⟨PyData.keyHash P "NoRow",.str "NoRow" 302,.ref 97⟩,⟨PyData.keyHash P "NoWord",.str "NoWord" 318,.ref 109⟩,⟨PyData.keyHash P "NoText",.str "NoText" 343,.ref 128⟩,⟨PyData.keyHash P "PLACE_SIGNS",.str "PLACE_SIGNS" 351,.ref 131⟩,⟨PyData.keyHash P "JOINS",.str "JOINS" 358,.ref 132⟩,⟨PyData.keyHash P "BEHIND_BRACKET",.str "BEHIND_BRACKET" 363,.ref 133⟩,⟨PyData.keyHash P "must_be_text",.str "must_be_text" 370,.ref 140⟩,⟨PyData.keyHash P "must_end",.str "must_end" 378,.ref 147⟩,⟨PyData.keyHash P "sign_at",.str "sign_at" 386,.ref 154⟩,⟨PyData.keyHash P "place_at",.str "place_at" 396,.ref 161⟩,⟨PyData.keyHash P "read_saying",.str "read_saying" 412,.ref 168⟩,⟨PyData.keyHash P "_law_pen",.str "_law_pen" 421,.ref 175⟩,⟨PyData.keyHash P "_law_draw",.str "_law_draw" 434,.ref 182⟩,⟨PyData.keyHash P "_law_saying",.str "_law_saying" 444,.ref 189⟩,⟨PyData.keyHash P "_law_saying_text",.str "_law_saying_text" 452,.ref 196⟩,⟨PyData.keyHash P "_law_sign",.str "_law_sign" 461,.ref 203⟩,⟨PyData.keyHash P "_law_bend",.str "_law_bend" 473,.ref 210⟩,⟨PyData.keyHash P "_law_heard",.str "_law_heard" 483,.ref 217⟩,⟨PyData.keyHash P "_law_first",.str "_law_first" 496,.ref 224⟩,⟨PyData.keyHash P "law",.str "law" 513,.ref 231⟩] 35,#[]⟩)::
 (nat_lit 15,oT #[.type "ValueError"])::
 (nat_lit 22,oT #[])::
 (nat_lit 23,⟨.type "dict",.none,.dict #[⟨PyData.keyHash P "__module__",.str "__module__" 196,.str "unlikeplace.errors" 187⟩,⟨PyData.keyHash P "__firstlineno__",.str "__firstlineno__" 200,.int 2 199⟩,⟨PyData.keyHash P "__static_attributes__",.str "__static_attributes__" 201,.ref 22⟩,⟨PyData.keyHash P "__weakref__",.str "__weakref__" 203,.ref 25⟩,⟨PyData.keyHash P "__doc__",.str "__doc__" 204,.none⟩] 3,#[]⟩)::
 (nat_lit 24,⟨.type "type",.none,.cls ⟨"TalkError",[.type "ValueError"],[.ref 24,.type "ValueError",.type "Exception",.type "BaseException",.type "object"],23,"TalkError",true,[],[.ref 37,.ref 49,.ref 61,.ref 73,.ref 85,.ref 97,.ref 109,.ref 128],false,.none,false⟩,#[(.some (.ref 15)),.none,(.some (.str "TalkError" 189)),(.some (.str "TalkError" 197)),(.some (.builtin "ValueError.__new__")),(.some (.bool true))]⟩)::
 (nat_lit 25,⟨.type "getset_descriptor",.none,.fields #[.str "__weakref__" 202,.ref 24,.builtin "ExceptionGroup.__weakref__",.none],#[]⟩)::
 (nat_lit 28,oT #[.ref 24])::
 (nat_lit 35,oT #[])::
 (nat_lit 36,⟨.type "dict",.none,.dict #[⟨PyData.keyHash P "__module__",.str "__module__" 214,.str "unlikeplace.errors" 187⟩,⟨PyData.keyHash P "__firstlineno__",.str "__firstlineno__" 218,.int 4 217⟩,⟨PyData.keyHash P "__static_attributes__",.str "__static_attributes__" 219,.ref 35⟩,⟨PyData.keyHash P "__doc__",.str "__doc__" 220,.none⟩] 2,#[]⟩)::
 (nat_lit 37,⟨.type "type",.none,.cls ⟨"NoCase",[.ref 24],[.ref 37,.ref 24,.type "ValueError",.type "Exception",.type "BaseException",.type "object"],36,"NoCase",true,[],[],false,.none,false⟩,#[(.some (.ref 28)),.none,(.some (.str "NoCase" 207)),(.some (.str "NoCase" 215)),(.some (.builtin "ValueError.__new__")),(.some (.bool true))]⟩)::
 (nat_lit 40,oT #[.ref 24])::
 (nat_lit 47,oT #[])::
 (nat_lit 48,⟨.type "dict",.none,.dict #[⟨PyData.keyHash P "__module__",.str "__module__" 230,.str "unlikeplace.errors" 187⟩,⟨PyData.keyHash P "__firstlineno__",.str "__firstlineno__" 234,.int 6 233⟩,⟨PyData.keyHash P "__static_attributes__",.str "__static_attributes__" 235,.ref 47⟩,⟨PyData.keyHash P "__doc__",.str "__doc__" 236,.none⟩] 2,#[]⟩)::
 (nat_lit 49,⟨.type "type",.none,.cls ⟨"NoSaying",[.ref 24],[.ref 49,.ref 24,.type "ValueError",.type "Exception",.type "BaseException",.type "object"],48,"NoSaying",true,[],[],false,.none,false⟩,#[(.some (.ref 40)),.none,(.some (.str "NoSaying" 223)),(.some (.str "NoSaying" 231)),(.some (.builtin "ValueError.__new__")),(.some (.bool true))]⟩)::
 (nat_lit 52,oT #[.ref 24])::
 (nat_lit 59,oT #[])::
 (nat_lit 60,⟨.type "dict",.none,.dict #[⟨PyData.keyHash P "__module__",.str "__module__" 246,.str "unlikeplace.errors" 187⟩,⟨PyData.keyHash P "__firstlineno__",.str "__firstlineno__" 250,.int 8 249⟩,⟨PyData.keyHash P "__static_attributes__",.str "__static_attributes__" 251,.ref 59⟩,⟨PyData.keyHash P "__doc__",.str "__doc__" 252,.none⟩] 2,#[]⟩)::
 (nat_lit 61,⟨.type "type",.none,.cls ⟨"NoTalk",[.ref 24],[.ref 61,.ref 24,.type "ValueError",.type "Exception",.type "BaseException",.type "object"],60,"NoTalk",true,[],[],false,.none,false⟩,#[(.some (.ref 52)),.none,(.some (.str "NoTalk" 239)),(.some (.str "NoTalk" 247)),(.some (.builtin "ValueError.__new__")),(.some (.bool true))]⟩)::
 (nat_lit 64,oT #[.ref 24])::
 (nat_lit 71,oT #[])::
 (nat_lit 72,⟨.type "dict",.none,.dict #[⟨PyData.keyHash P "__module__",.str "__module__" 262,.str "unlikeplace.errors" 187⟩,⟨PyData.keyHash P "__firstlineno__",.str "__firstlineno__" 266,.int 10 265⟩,⟨PyData.keyHash P "__static_attributes__",.str "__static_attributes__" 267,.ref 71⟩,⟨PyData.keyHash P "__doc__",.str "__doc__" 268,.none⟩] 2,#[]⟩)::
 (nat_lit 73,⟨.type "type",.none,.cls ⟨"NoRise",[.ref 24],[.ref 73,.ref 24,.type "ValueError",.type "Exception",.type "BaseException",.type "object"],72,"NoRise",true,[],[],false,.none,false⟩,#[(.some (.ref 64)),.none,(.some (.str "NoRise" 255)),(.some (.str "NoRise" 263)),(.some (.builtin "ValueError.__new__")),(.some (.bool true))]⟩)::
 (nat_lit 76,oT #[.ref 24])::
 (nat_lit 83,oT #[])::
 (nat_lit 84,⟨.type "dict",.none,.dict #[⟨PyData.keyHash P "__module__",.str "__module__" 278,.str "unlikeplace.errors" 187⟩,⟨PyData.keyHash P "__firstlineno__",.str "__firstlineno__" 282,.int 12 281⟩,⟨PyData.keyHash P "__static_attributes__",.str "__static_attributes__" 283,.ref 83⟩,⟨PyData.keyHash P "__doc__",.str "__doc__" 284,.none⟩] 2,#[]⟩)::
 (nat_lit 85,⟨.type "type",.none,.cls ⟨"TooMany",[.ref 24],[.ref 85,.ref 24,.type "ValueError",.type "Exception",.type "BaseException",.type "object"],84,"TooMany",true,[],[],false,.none,false⟩,#[(.some (.ref 76)),.none,(.some (.str "TooMany" 271)),(.some (.str "TooMany" 279)),(.some (.builtin "ValueError.__new__")),(.some (.bool true))]⟩)::
 (nat_lit 88,oT #[.ref 24])::
 (nat_lit 95,oT #[])::
 (nat_lit 96,⟨.type "dict",.none,.dict #[⟨PyData.keyHash P "__module__",.str "__module__" 294,.str "unlikeplace.errors" 187⟩,⟨PyData.keyHash P "__firstlineno__",.str "__firstlineno__" 298,.int 14 297⟩,⟨PyData.keyHash P "__static_attributes__",.str "__static_attributes__" 299,.ref 95⟩,⟨PyData.keyHash P "__doc__",.str "__doc__" 300,.none⟩] 2,#[]⟩)::
 (nat_lit 97,⟨.type "type",.none,.cls ⟨"NoRow",[.ref 24],[.ref 97,.ref 24,.type "ValueError",.type "Exception",.type "BaseException",.type "object"],96,"NoRow",true,[],[],false,.none,false⟩,#[(.some (.ref 88)),.none,(.some (.str "NoRow" 287)),(.some (.str "NoRow" 295)),(.some (.builtin "ValueError.__new__")),(.some (.bool true))]⟩)::
 (nat_lit 100,oT #[.ref 24])::
 (nat_lit 107,oT #[])::
 (nat_lit 108,⟨.type "dict",.none,.dict #[⟨PyData.keyHash P "__module__",.str "__module__" 310,.str "unlikeplace.errors" 187⟩,⟨PyData.keyHash P "__firstlineno__",.str "__firstlineno__" 314,.int 16 313⟩,⟨PyData.keyHash P "__static_attributes__",.str "__static_attributes__" 315,.ref 107⟩,⟨PyData.keyHash P "__doc__",.str "__doc__" 316,.none⟩] 2,#[]⟩)::
 (nat_lit 109,⟨.type "type",.none,.cls ⟨"NoWord",[.ref 24],[.ref 109,.ref 24,.type "ValueError",.type "Exception",.type "BaseException",.type "object"],108,"NoWord",true,[],[],false,.none,false⟩,#[(.some (.ref 100)),.none,(.some (.str "NoWord" 303)),(.some (.str "NoWord" 311)),(.some (.builtin "ValueError.__new__")),(.some (.bool true))]⟩)::
 (nat_lit 112,oT #[.ref 24])::
 (nat_lit 119,oT #[])::
 (nat_lit 121,oT #[.str "self" 334,.str "at" 335])::
 (nat_lit 122,oT #[])::
 (nat_lit 124,⟨.type "code",.none,.fields #[.str "__init__" 331,.str "NoText.__init__" 332,.str "/claim/cut.py" 333,.int 20 0,.int 2 0,.int 0 0,.int 0 0,.int 3 0,.ref 119,.bool true,.int 181 0,.ref 120,.none,.ref 121,.ref 122,.ref 123,.int 336 0,.int 20 0,.str "/claim/cut.py" 337],#[]⟩)::
 (nat_lit 125,⟨.type "function",.none,.func (W.fnOf "__init__" "NoText.__init__" (defArgs (inCls (top 9) 0)) (defBody (inCls (top 9) 0)) (defScope (inCls (top 9) 0)) .none .none .none (.str "unlikeplace.errors" 187) .none (.ref 124) .none),#[]⟩)::
 (nat_lit 126,oT #[.str "at" 339])::
 (nat_lit 127,⟨.type "dict",.none,.dict #[⟨PyData.keyHash P "__module__",.str "__module__" 326,.str "unlikeplace.errors" 187⟩,⟨PyData.keyHash P "__firstlineno__",.str "__firstlineno__" 330,.int 18 329⟩,⟨PyData.keyHash P "__init__",.str "__init__" 338,.ref 125⟩,⟨PyData.keyHash P "__static_attributes__",.str "__static_attributes__" 340,.ref 126⟩,⟨PyData.keyHash P "__doc__",.str "__doc__" 341,.none⟩] 2,#[]⟩)::
 (nat_lit 128,⟨.type "type",.none,.cls ⟨"NoText",[.ref 24],[.ref 128,.ref 24,.type "ValueError",.type "Exception",.type "BaseException",.type "object"],127,"NoText",true,[],[],false,.none,false⟩,#[(.some (.ref 112)),.none,(.some (.str "NoText" 319)),(.some (.str "NoText" 327)),(.some (.builtin "ValueError.__new__")),(.some (.bool true))]⟩)::
 (nat_lit 131,oT #[.str "0" 346,.str "1" 347,.str "2" 348,.str "3" 349,.str "4" 350])::
 (nat_lit 132,⟨.type "dict",.none,.dict #[⟨PyData.keyHash P "&",.str "&" 352,.str "and" 353⟩,⟨PyData.keyHash P "|",.str "|" 354,.str "or" 355⟩] 2,#[]⟩)::
 (nat_lit 133,oT #[.str ")" 359,.str "saying" 360,.str "join" 361,.str "saying" 362])::
 (nat_lit 134,oT #[])::
 (nat_lit 136,oT #[.str "thing" 367])::
 (nat_lit 137,oT #[])::
 (nat_lit 139,oC "must_be_text" 364 365 366 26 1 134 181 135 (.ref 136) (.ref 137) 138 368 369)::
 (nat_lit 140,oF "must_be_text" 14 "unlikeplace.reader" 344 139)::
 (nat_lit 141,oT #[])::
 (nat_lit 143,oT #[.str "text" 374,.str "at" 375])::
 (nat_lit 144,oT #[])::
 (nat_lit 146,oC "must_end" 371 372 373 29 2 141 181 142 (.ref 143) (.ref 144) 145 376 377)::
 (nat_lit 147,oF "must_end" 15 "unlikeplace.reader" 344 146)::
 (nat_lit 148,oT #[])::
 (nat_lit 150,oT #[.str "text" 382,.str "at" 383])::
 (nat_lit 151,oT #[])::
 (nat_lit 153,oC "sign_at" 379 380 381 32 2 148 181 149 (.ref 150) (.ref 151) 152 384 385)::
 (nat_lit 154,oF "sign_at" 16 "unlikeplace.reader" 344 153)::
 (nat_lit 155,oT #[])::
 (nat_lit 157,oT #[.str "places" 390,.str "text" 391,.str "at" 392,.str "sign" 393])::
 (nat_lit 158,oT #[])::
 (nat_lit 160,oC "place_at" 387 388 389 34 3 155 181 156 (.ref 157) (.ref 158) 159 394 395)::
 (nat_lit 161,oF "place_at" 17 "unlikeplace.reader" 344 160)::
 (nat_lit 162,oT #[])::
 (nat_lit 164,oT #[.str "places" 400,.str "text" 401,.str "at" 402,.str "waiting" 403,.str "joins" 404,.str "done" 405,.str "wanted" 406,.str "sign" 407,.str "other" 408,.str "one" 409])::
 (nat_lit 165,oT #[])::
 (nat_lit 167,oC "read_saying" 397 398 399 39 2 162 181 163 (.ref 164) (.ref 165) 166 410 411)::
 (nat_lit 168,oF "read_saying" 18 "unlikeplace.reader" 344 167)::
 (nat_lit 169,oT #[])::
 (nat_lit 171,oT #[.str "_law_script" 418])::
 (nat_lit 172,oT #[])::
 (nat_lit 174,oC "_law_pen" 415 416 417 67 1 169 181 170 (.ref 171) (.ref 172) 173 419 420)::
 (nat_lit 175,oF "_law_pen" 20 "law_unlikeplace_k62_texts_of_no_saying" 413 174)::
 (nat_lit 176,oT #[])::
 (nat_lit 178,oT #[.str "_law_pen_here" 425,.str "_law_many" 426,.str "_law_cells" 427,.str "_law_place" 428,.str "_law_left" 429,.str "_law_cell" 430,.str "_law_number" 431])::
 (nat_lit 179,oT #[])::
 (nat_lit 181,oC "_law_draw" 422 423 424 69 2 176 181 177 (.ref 178) (.ref 179) 180 432 433)::
 (nat_lit 182,oF "_law_draw" 21 "law_unlikeplace_k62_texts_of_no_saying" 413 181)::
 (nat_lit 183,oT #[])::
 (nat_lit 185,oT #[.str "_law_pen_here" 438,.str "_law_places" 439,.str "_law_most" 440,.str "_law_join" 441])::
 (nat_lit 186,oT #[])::
 (nat_lit 188,oC "_law_saying" 435 436 437 85 3 183 181 184 (.ref 185) (.ref 186) 187 442 443)::
 (nat_lit 189,oF "_law_saying" 22 "law_unlikeplace_k62_texts_of_no_saying" 413 188)::
 (nat_lit 190,oT #[])::
 (nat_lit 192,oT #[.str "_law_saying_here" 448,.str "_law_sign_here" 449])::
 (nat_lit 193,oT #[])::
 (nat_lit 195,oC "_law_saying_text" 445 446 447 90 1 190 181 191 (.ref 192) (.ref 193) 194 450 451)::
 (nat_lit 196,oF "_law_saying_text" 23 "law_unlikeplace_k62_texts_of_no_saying" 413 195)::
 (nat_lit 197,oT #[])::
 (nat_lit 199,oT #[.str "_law_pen_here" 456,.str "_law_signs" 457,.str "_law_every" 458])::
 (nat_lit 200,oT #[])::
 (nat_lit 202,oC "_law_sign" 453 454 455 95 2 197 181 198 (.ref 199) (.ref 200) 201 459 460)::
 (nat_lit 203,oF "_law_sign" 24 "law_unlikeplace_k62_texts_of_no_saying" 413 202)::
 (nat_lit 204,oT #[])::
 (nat_lit 206,oT #[.str "_law_pen_here" 465,.str "_law_text" 466,.str "_law_signs" 467,.str "_law_at" 468,.str "_law_sign_here" 469,.str "_law_some" 470])::
 (nat_lit 207,oT #[])::
 (nat_lit 209,oC "_law_bend" 462 463 464 100 3 204 181 205 (.ref 206) (.ref 207) 208 471 472)::
 (nat_lit 210,oF "_law_bend" 25 "law_unlikeplace_k62_texts_of_no_saying" 413 209)::
 (nat_lit 211,oT #[])::
 (nat_lit 213,oT #[.str "_law_asked" 477,.str "_law_caught" 478,.str "_law_found" 479,.str "error" 480])::
 (nat_lit 214,oT #[])::
 (nat_lit 216,oC "_law_heard" 474 475 476 106 1 211 181 212 (.ref 213) (.ref 214) 215 481 482)::
 (nat_lit 217,oF "_law_heard" 26 "law_unlikeplace_k62_texts_of_no_saying" 413 216)::
 (nat_lit 218,oT #[])::
 (nat_lit 220,oT #[.str "_law_places" 487,.str "_law_text" 488,.str "_law_figures" 489,.str "_law_due" 490,.str "_law_at" 491,.str "_law_sign_here" 492,.str "_law_want" 493])::
 (nat_lit 221,oT #[])::
 (nat_lit 223,oC "_law_first" 484 485 486 120 2 218 181 219 (.ref 220) (.ref 221) 222 494 495)::
 (nat_lit 224,oF "_law_first" 27 "law_unlikeplace_k62_texts_of_no_saying" 413 223)::
 (nat_lit 225,oT #[])::
 (nat_lit 227,oT #[.str "_law_script" 500,.str "_law_pen_here" 501,.str "_law_turn" 502,.str "_law_saying_here" 503,.str "_law_k" 504,.str "_law_found" 505,.str "_law_first_here" 506])::
 (nat_lit 228,oT #[.str "_law_bent" 507,.str "_law_places" 508,.str "_law_text" 509,.str "_law_thing" 510])::
 (nat_lit 230,oC "law" 497 498 499 135 1 225 181 226 (.ref 227) (.ref 228) 229 511 512)::
 (nat_lit 231,oF "law" 28 "law_unlikeplace_k62_texts_of_no_saying" 413 230)::[]
end My
noncomputable def PySem.W.Fast.tw6894247980046229166:PySem.Params->PySem.W.Frag:=My.KK
theorem PySem.W.Fast.te6894247980046229166:My.KK=PySem.W.Fast.tw6894247980046229166:=rfl
noncomputable def PySem.W.Fast.tw17297485290775379422:PySem.Program:=PySem.Challenge.pw_unlikeplace_k62_texts_of_no_saying
theorem PySem.W.Fast.te17297485290775379422:PySem.Challenge.pw_unlikeplace_k62_texts_of_no_saying=PySem.W.Fast.tw17297485290775379422:=rfl
namespace PySem.W.Fast
theorem te6520724931369487552:True:=⟨⟩
theorem te15854484848666669376:True:=⟨⟩
theorem te16973469299824752128:True:=⟨⟩
theorem te10391687398327828481:True:=⟨⟩
theorem te16745080966240375841:True:=⟨⟩
theorem te15992335677403278497:True:=⟨⟩
theorem te8369888109132737857:True:=⟨⟩
noncomputable def My.sts_64:List PySem.Stmt:=[My.top 2]
noncomputable def tw13563931650174650753:List PySem.Stmt:=My.sts_64
theorem te13563931650174650753:My.sts_64=tw13563931650174650753:=rfl
theorem te1899270111143162305:True:=⟨⟩
theorem te5609619905405526465:True:=⟨⟩
theorem te7821201419459360193:True:=⟨⟩
theorem te15750037507141236321:True:=⟨⟩
theorem te10398992154335117089:True:=⟨⟩
theorem te9445138756794339265:True:=⟨⟩
theorem te8206208966196280354:True:=⟨⟩
theorem te14352556196783849538:True:=⟨⟩
theorem te12109584198189976738:True:=⟨⟩
theorem te4149760500154616034:True:=⟨⟩
noncomputable def My.sts_139:List PySem.Stmt:=[My.top 7]
noncomputable def tw1762370960202164546:List PySem.Stmt:=My.sts_139
theorem te1762370960202164546:My.sts_139=tw1762370960202164546:=rfl
theorem te2495263135544271170:True:=⟨⟩
theorem te10373175577180191074:True:=⟨⟩
theorem te9397837873913529762:True:=⟨⟩
theorem te12768205844850278850:True:=⟨⟩
noncomputable def My.sts_169:List PySem.Stmt:=[My.top 9,My.top 10,My.top 11,My.top 12,My.top 13,My.top 14,My.top 15]
noncomputable def tw6626224986629623266:List PySem.Stmt:=My.sts_169
theorem te6626224986629623266:My.sts_169=tw6626224986629623266:=rfl
theorem te7308427939310261794:True:=⟨⟩
theorem te5084502200753164898:True:=⟨⟩
theorem te11316525765308965570:True:=⟨⟩
noncomputable def My.sts_154:List PySem.Stmt:=[My.top 8]
noncomputable def tw2234143440316997474:List PySem.Stmt:=My.sts_154
theorem te2234143440316997474:My.sts_154=tw2234143440316997474:=rfl
theorem te15128868685662838690:True:=⟨⟩
theorem te1657542561801725922:True:=⟨⟩
theorem te264679648849000611:True:=⟨⟩
theorem te195413868999955651:True:=⟨⟩
theorem te7245982593604121827:True:=⟨⟩
theorem te18023024446703744259:True:=⟨⟩
theorem te12350445371452854531:True:=⟨⟩
theorem te510148716204040643:True:=⟨⟩
theorem te11576015968601011971:True:=⟨⟩
theorem te13901185368171379523:True:=⟨⟩
theorem te12704894518452960195:True:=⟨⟩
theorem te3311493432796214308:True:=⟨⟩
theorem te12192193662568843716:True:=⟨⟩
theorem te6735602959412353540:True:=⟨⟩
noncomputable def My.sts_109:List PySem.Stmt:=[My.top 5]
noncomputable def tw16216502368544793124:List PySem.Stmt:=My.sts_109
theorem te16216502368544793124:My.sts_109=tw16216502368544793124:=rfl
theorem te6936453241391860324:True:=⟨⟩
theorem te17173694943945051780:True:=⟨⟩
theorem te6862063641780912964:True:=⟨⟩
theorem te15517478719368643396:True:=⟨⟩
theorem te15975499946752117604:True:=⟨⟩
theorem te1901283374367000484:True:=⟨⟩
theorem te14231999112321081445:True:=⟨⟩
theorem te12180054426802230373:True:=⟨⟩
theorem te2305268415312030885:True:=⟨⟩
theorem te9481391486864827589:True:=⟨⟩
theorem te18411125072271445285:True:=⟨⟩
theorem te13395483369766818501:True:=⟨⟩
theorem te1598563910113965765:True:=⟨⟩
theorem te10220356074011805509:True:=⟨⟩
theorem te13646606826154002405:True:=⟨⟩
theorem te10919237711097276486:True:=⟨⟩
theorem te10356591095629460550:True:=⟨⟩
theorem te13068577951227652198:True:=⟨⟩
theorem te9544715515574558182:True:=⟨⟩
theorem te300376616464295143:True:=⟨⟩
theorem te10596378868822348135:True:=⟨⟩
theorem te10639756511722641799:True:=⟨⟩
theorem te9219909224200175079:True:=⟨⟩
theorem te1890515916730787399:True:=⟨⟩
theorem te15518818629076028167:True:=⟨⟩
theorem te6949214283767421735:True:=⟨⟩
theorem te15679934660065850183:True:=⟨⟩
theorem te6163811310312787815:True:=⟨⟩
theorem te4672439465661286247:True:=⟨⟩
theorem te536790171935370119:True:=⟨⟩
theorem te9206998063779523495:True:=⟨⟩
theorem te14752701987691728871:True:=⟨⟩
theorem te6973141491525320712:True:=⟨⟩
theorem te12432277920317684808:True:=⟨⟩
theorem te18058742009186942280:True:=⟨⟩
noncomputable def My.sts_49:List PySem.Stmt:=[My.top 0,My.top 1]
noncomputable def tw4809071516631776616:List PySem.Stmt:=My.sts_49
theorem te4809071516631776616:My.sts_49=tw4809071516631776616:=rfl
theorem te5079646206657885544:True:=⟨⟩
theorem te12475933819039968776:True:=⟨⟩
theorem te17529327926257069608:True:=⟨⟩
theorem te16418855990798656040:True:=⟨⟩
theorem te3150078036137243208:True:=⟨⟩
theorem te1097931343705257896:True:=⟨⟩
theorem te16738065838879859688:True:=⟨⟩
theorem te2670109075004151817:True:=⟨⟩
theorem te18338927211831409737:True:=⟨⟩
theorem te16903949223335779401:True:=⟨⟩
theorem te4821867363642105065:True:=⟨⟩
theorem te14213356690814146921:True:=⟨⟩
theorem te982261841652680137:True:=⟨⟩
theorem te7565084651284938313:True:=⟨⟩
theorem te13343450233617018537:True:=⟨⟩
theorem te2775308690305771369:True:=⟨⟩
theorem te2491046616663657642:True:=⟨⟩
theorem te5886672868775777514:True:=⟨⟩
theorem te3692615490367064618:True:=⟨⟩
noncomputable def My.sts_79:List PySem.Stmt:=[My.top 3]
noncomputable def tw4314513038470378282:List PySem.Stmt:=My.sts_79
theorem te4314513038470378282:My.sts_79=tw4314513038470378282:=rfl
theorem te17480355512764853162:True:=⟨⟩
theorem te6912732266101721163:True:=⟨⟩
theorem te11278942418997981547:True:=⟨⟩
theorem te1919041445043921291:True:=⟨⟩
theorem te7318102752027391691:True:=⟨⟩
theorem te2074111590032287499:True:=⟨⟩
theorem te5989540879596739499:True:=⟨⟩
theorem te13194303616884466667:True:=⟨⟩
theorem te6296128762700880908:True:=⟨⟩
theorem te10279845962429923724:True:=⟨⟩
theorem te9368368913962380716:True:=⟨⟩
noncomputable def My.view_39:PySem.Program:={ PySem.Challenge.pw_unlikeplace_k62_texts_of_no_saying with main:={ PySem.Challenge.pw_unlikeplace_k62_texts_of_no_saying.main with body:=[My.top 1,My.top 2,My.top 3,My.top 4,My.top 5,My.top 6,My.top 7,My.top 8,My.top 9,My.top 11,My.top 12,My.top 13,My.top 14,My.top 15,My.top 16,My.top 17,My.top 18,My.top 20,My.top 21,My.top 22,My.top 23,My.top 24,My.top 25,My.top 26,My.top 27,My.top 28] } }
noncomputable def tw16699506013770994092:PySem.Program:=My.view_39
theorem te16699506013770994092:My.view_39=tw16699506013770994092:=rfl
theorem te5400692255592703724:True:=⟨⟩
theorem te1060336597728907244:True:=⟨⟩
theorem te15449000748719635917:True:=⟨⟩
theorem te16775610534801836813:True:=⟨⟩
theorem te12779767273044339661:True:=⟨⟩
theorem te5371447346472171501:True:=⟨⟩
theorem te11446829697920258158:True:=⟨⟩
theorem te7510638694224913806:True:=⟨⟩
theorem te7592201983459134926:True:=⟨⟩
theorem te1764639840621068782:True:=⟨⟩
theorem te4524845533592487438:True:=⟨⟩
theorem te14686090009001866830:True:=⟨⟩
theorem te18362768379163887182:True:=⟨⟩
theorem te14088504796846773934:True:=⟨⟩
theorem te15148021265682717358:True:=⟨⟩
theorem te919312848676947662:True:=⟨⟩
theorem te10468715615974825966:True:=⟨⟩
theorem te5436593459033294191:True:=⟨⟩
theorem te8302167865443879311:True:=⟨⟩
theorem te10029754315101613519:True:=⟨⟩
theorem te3311665983453130287:True:=⟨⟩
noncomputable def My.sts_94:List PySem.Stmt:=[My.top 4]
noncomputable def tw12872466482201304144:List PySem.Stmt:=My.sts_94
theorem te12872466482201304144:My.sts_94=tw12872466482201304144:=rfl
theorem te8759147171244573968:True:=⟨⟩
theorem te16514510484817677648:True:=⟨⟩
theorem te3294660230065796432:True:=⟨⟩
theorem te1025892022751619728:True:=⟨⟩
theorem te5000272784035730128:True:=⟨⟩
theorem te13072878132104490097:True:=⟨⟩
theorem te5794714453600511377:True:=⟨⟩
theorem te5337320100407088625:True:=⟨⟩
theorem te8478448595088966225:True:=⟨⟩
theorem te2772574538715949777:True:=⟨⟩
theorem te7990044524495467249:True:=⟨⟩
theorem te12715325993121295153:True:=⟨⟩
theorem te16383830813569977297:True:=⟨⟩
theorem te17696291871210437650:True:=⟨⟩
theorem te10663125281829480498:True:=⟨⟩
theorem te12338204569126875410:True:=⟨⟩
theorem te15812670827762854194:True:=⟨⟩
theorem te17845527452854824242:True:=⟨⟩
theorem te952700643992366418:True:=⟨⟩
theorem te3789308685642808050:True:=⟨⟩
theorem te14070370054710653874:True:=⟨⟩
theorem te9742900394348279794:True:=⟨⟩
theorem te8288933174214791219:True:=⟨⟩
theorem te6430992987808878643:True:=⟨⟩
theorem te7233472823903649939:True:=⟨⟩
theorem te4299786825684769075:True:=⟨⟩
theorem te324571783627733651:True:=⟨⟩
theorem te250547536969957043:True:=⟨⟩
theorem te11302582068283542676:True:=⟨⟩
theorem te9742355160778211476:True:=⟨⟩
theorem te16902771074503455060:True:=⟨⟩
theorem te16750799286163292500:True:=⟨⟩
theorem te15557509436483299764:True:=⟨⟩
theorem te5138540229895160276:True:=⟨⟩
theorem te9126904610774883060:True:=⟨⟩
theorem te7982276027350069108:True:=⟨⟩
theorem te7237779528195442676:True:=⟨⟩
theorem te6393928151078906933:True:=⟨⟩
theorem te13574075804454901909:True:=⟨⟩
theorem te10801772179502341333:True:=⟨⟩
theorem te11197679645301394741:True:=⟨⟩
theorem te637799236630131061:True:=⟨⟩
theorem te15407331996480966037:True:=⟨⟩
theorem te9054363856486126037:True:=⟨⟩
theorem te8314187517197189621:True:=⟨⟩
theorem te4019450381858142837:True:=⟨⟩
theorem te1572238856281885333:True:=⟨⟩
theorem te2409103204088873813:True:=⟨⟩
theorem te10692297156424306517:True:=⟨⟩
theorem te10072473619681913749:True:=⟨⟩
theorem te15818705013829983318:True:=⟨⟩
theorem te16347100385901437046:True:=⟨⟩
theorem te75999987083726966:True:=⟨⟩
theorem te17680033147319148822:True:=⟨⟩
noncomputable def My.sts_210:List PySem.Stmt:=[My.top 16,My.top 17,My.top 18,My.top 19,My.top 20,My.top 21,My.top 22,My.top 23,My.top 24,My.top 25,My.top 26,My.top 27]
noncomputable def tw6819026462564899318:List PySem.Stmt:=My.sts_210
theorem te6819026462564899318:My.sts_210=tw6819026462564899318:=rfl
theorem te18212819501430802966:True:=⟨⟩
theorem te12532882771093094966:True:=⟨⟩
theorem te10364576789612693110:True:=⟨⟩
theorem te11440451235978343511:True:=⟨⟩
theorem te7210196506902874295:True:=⟨⟩
theorem te2759600512280397207:True:=⟨⟩
theorem te1154987495192099255:True:=⟨⟩
theorem te13079255082204591863:True:=⟨⟩
theorem te10346162572192161623:True:=⟨⟩
theorem te10941572792952072376:True:=⟨⟩
theorem te11165942849409908312:True:=⟨⟩
theorem te920803679497234296:True:=⟨⟩
theorem te15566802681410300856:True:=⟨⟩
theorem te430120715415065528:True:=⟨⟩
theorem te10312088185684978745:True:=⟨⟩
theorem te8583625429381137945:True:=⟨⟩
theorem te15066116374621920825:True:=⟨⟩
theorem te222394474452232985:True:=⟨⟩
theorem te1160574125168468857:True:=⟨⟩
theorem te16890700819304450106:True:=⟨⟩
theorem te5502655429619619898:True:=⟨⟩
noncomputable def My.sts_289:List PySem.Stmt:=[My.top 28]
noncomputable def tw5755951159100390714:List PySem.Stmt:=My.sts_289
theorem te5755951159100390714:My.sts_289=tw5755951159100390714:=rfl
theorem te17944875746740922714:True:=⟨⟩
theorem te14887025654190821818:True:=⟨⟩
theorem te12227270944774071866:True:=⟨⟩
theorem te12723571523218520666:True:=⟨⟩
theorem te9705597776302658522:True:=⟨⟩
noncomputable def My.sts_124:List PySem.Stmt:=[My.top 6]
noncomputable def tw8380935553922764923:List PySem.Stmt:=My.sts_124
theorem te8380935553922764923:My.sts_124=tw8380935553922764923:=rfl
theorem te15428380721338938523:True:=⟨⟩
theorem te5725402225032336571:True:=⟨⟩
theorem te17733980335728559547:True:=⟨⟩
theorem te16170865333221898043:True:=⟨⟩
theorem te2127047462802699163:True:=⟨⟩
theorem te3541191967018375196:True:=⟨⟩
theorem te13774693518337856572:True:=⟨⟩
theorem te11416460345154420796:True:=⟨⟩
theorem te1482618853707623516:True:=⟨⟩
theorem te18268552297502760060:True:=⟨⟩
theorem te3074617204451026108:True:=⟨⟩
theorem te18358061260352898268:True:=⟨⟩
theorem te8396403151745200540:True:=⟨⟩
theorem te12376554014183353884:True:=⟨⟩
theorem te3534732789901051420:True:=⟨⟩
theorem te5731436905756836572:True:=⟨⟩
theorem te15260194516373665564:True:=⟨⟩
theorem te2175755162012036956:True:=⟨⟩
theorem te694311546538020700:True:=⟨⟩
theorem te7353209893854329788:True:=⟨⟩
theorem te1290563260788880316:True:=⟨⟩
theorem te8022549252087541789:True:=⟨⟩
theorem te2397879845794221117:True:=⟨⟩
theorem te18393055975495611741:True:=⟨⟩
theorem te9428647772998745565:True:=⟨⟩
theorem te14138649608580274685:True:=⟨⟩
theorem te2663772238893663773:True:=⟨⟩
theorem te5156556542246692445:True:=⟨⟩
theorem te18247681972847711869:True:=⟨⟩
theorem te6121255272128322269:True:=⟨⟩
theorem te4650392776465087485:True:=⟨⟩
theorem te11343501667284914494:True:=⟨⟩
theorem te9625116395294612894:True:=⟨⟩
theorem te8110832791028083230:True:=⟨⟩
theorem te8902026242103327294:True:=⟨⟩
theorem te12849931389685085918:True:=⟨⟩
theorem te4911198955673980830:True:=⟨⟩
theorem te4135711397599429566:True:=⟨⟩
theorem te10565148317554172991:True:=⟨⟩
theorem te8263621801888396351:True:=⟨⟩
theorem te3140274044069960799:True:=⟨⟩
theorem te16164174808296398047:True:=⟨⟩
theorem te13524966650266587455:True:=⟨⟩
theorem te13716345371116408191:True:=⟨⟩
theorem te7847609448508866047:True:=⟨⟩
theorem te18359922510532347775:True:=⟨⟩
theorem te4490516360231264191:True:=⟨⟩
end PySem.W.Fast
open PySem PySem.W PyProof.Rows
local macro_rules | `(tactic| walk_at "q")=>`(tactic| (refine' L2.yy ?d1 ?d2 ?d3 ?d4;(case d1=>k_is);(case d2=>k_is);(case d3=>k_is);(case d4=>k_is)))
set_option maxRecDepth 100000 in
set_option maxHeartbeats 0 in
theorem PySem.Challenge.cw_unlikeplace_k62_texts_of_no_saying_holds : PySem.Challenge.rw_unlikeplace_k62_texts_of_no_saying.Holds := by
 w_on;o_law
 o_head (PySem.W.kmHook My.KK [nat_lit 1,nat_lit 2,nat_lit 3,nat_lit 15,nat_lit 22,nat_lit 23,nat_lit 24,nat_lit 25,nat_lit 28,nat_lit 35,nat_lit 36,nat_lit 37,nat_lit 40,nat_lit 47,nat_lit 48,nat_lit 49,nat_lit 52,nat_lit 59,nat_lit 60,nat_lit 61,nat_lit 64,nat_lit 71,nat_lit 72,nat_lit 73,nat_lit 76,nat_lit 83,nat_lit 84,nat_lit 85,nat_lit 88,nat_lit 95,nat_lit 96,nat_lit 97,nat_lit 100,nat_lit 107,nat_lit 108,nat_lit 109,nat_lit 112,nat_lit 119,nat_lit 121,nat_lit 122,nat_lit 124,nat_lit 125,nat_lit 126,nat_lit 127,nat_lit 128,nat_lit 131,nat_lit 132,nat_lit 133,nat_lit 134,nat_lit 136,nat_lit 137,nat_lit 139,nat_lit 140,nat_lit 141,nat_lit 143,nat_lit 144,nat_lit 146,nat_lit 147,nat_lit 148,nat_lit 150,nat_lit 151,nat_lit 153,nat_lit 154,nat_lit 155,nat_lit 157,nat_lit 158,nat_lit 160,nat_lit 161,nat_lit 162,nat_lit 164,nat_lit 165,nat_lit 167,nat_lit 168,nat_lit 169,nat_lit 171,nat_lit 172,nat_lit 174,nat_lit 175,nat_lit 176,nat_lit 178,nat_lit 179,nat_lit 181,nat_lit 182,nat_lit 183,nat_lit 185,nat_lit 186,nat_lit 188,nat_lit 189,nat_lit 190,nat_lit 192,nat_lit 193,nat_lit 195,nat_lit 196,nat_lit 197,nat_lit 199,nat_lit 200,nat_lit 202,nat_lit 203,nat_lit 204,nat_lit 206,nat_lit 207,nat_lit 209,nat_lit 210,nat_lit 211,nat_lit 213,nat_lit 214,nat_lit 216,nat_lit 217,nat_lit 218,nat_lit 220,nat_lit 221,nat_lit 223,nat_lit 224,nat_lit 225,nat_lit 227,nat_lit 228,nat_lit 230,nat_lit 231] (fun _=>by kernel_rfl) [226])
 (case hw=>w_witness2)
 k_fill
 refine L2.tM (l:=PySem.Challenge.rw_unlikeplace_k62_texts_of_no_saying) (n:=63) (k:=200) (x:="_law_script") (CX:=L2.CX0) (sp:=My.lv) rfl (by decide) rfl ⟨rfl,by decide,by decide,rfl⟩ (fun w h Y=>by first | exact PySem.W.kIn_of Y | exact PySem.W.km_in_of Y) (fun w=>by kernel_rfl) ?F ?S ?C
 case F =>
  intro w mg fa h KX G hmg
  have T : ∃ t,t.wo = w/\My.Txt (L2.KOf KX) mg t:=by
   dsimp only [L2.KOf]
   refine' My.yb w KX G ?bw ?cY ?dw ?cW ?bN ?fy ?d7 ?cX ?bh ?d5 ?eg ?dv ?du ?rE ?pP ?kJ ?pT ?lm ?kX ?dU ?dX ?cO ?cS ?sA ?w5 ?wA ?re ?rJ ?e9 ?jf ?fL ?jp ?jg ?hV ?lu ?jm ?i7 ?jC ?fY ?fR ?fK ?ce ?cT ?bF ?bL ?bR ?bi ?bG ?bK ?bv ?bI ?a7 ?bb ?gf ?gw ?iH ?eH ?gE ?gM ?fw ?gg ?dj ?sm ?gq ?eC ?tX ?rB ?eO ?qZ ?la ?nS ?rj
   (case bw=>walk_at "q")
   (case cY=>walk_at "q")
   (case dw=>walk_at "q")
   (case cW=>walk_at "q")
   (case bN=>walk_at "q")
   (case fy=>walk_at "q")
   (case d7=>walk_at "q")
   (case cX=>walk_at "q")
   (case bh=>walk_at "q")
   (case d5=>walk_at "q")
   (case eg=>walk_at "q")
   (case dv=>walk_at "q")
   (case du=>walk_at "q")
   (case rE=>k_is)
   (case pP=>k_is)
   (case kJ=>k_is)
   (case pT=>k_is)
   (case lm=>k_is)
   (case kX=>k_is)
   (case dU=>k_is)
   (case dX=>k_is)
   (case cO=>k_is)
   (case cS=>k_is)
   (case sA=>rfl)
   (case w5=>k_is)
   (case wA=>rfl)
   (case re=>kernel_rfl)
   (case rJ=>kernel_rfl)
   (case e9=>k_is)
   (case jf=>k_is)
   (case fL=>k_is)
   (case jp=>k_is)
   (case jg=>k_is)
   (case hV=>k_is)
   (case lu=>k_is)
   (case jm=>k_is)
   (case i7=>k_is)
   (case jC=>k_is)
   (case fY=>k_is)
   (case fR=>k_is)
   (case fK=>k_is)
   (case ce=>kernel_rfl)
   (case cT=>kernel_rfl)
   (case bF=>kernel_rfl)
   (case bL=>kernel_rfl)
   (case bR=>kernel_rfl)
   (case bi=>kernel_rfl)
   (case bG=>kernel_rfl)
   (case bK=>kernel_rfl)
   (case bv=>kernel_rfl)
   (case bI=>kernel_rfl)
   (case a7=>kernel_rfl)
   (case bb=>kernel_rfl)
   (case gf=>kernel_rfl)
   (case gw=>kernel_rfl)
   (case iH=>kernel_rfl)
   (case eH=>kernel_rfl)
   (case gE=>kernel_rfl)
   (case gM=>kernel_rfl)
   (case fw=>kernel_rfl)
   (case gg=>kernel_rfl)
   (case dj=>kernel_rfl)
   (case sm=>kernel_rfl)
   (case gq=>kernel_rfl)
   (case eC=>k_is)
   (case tX=>k_is)
   (case rB=>k_is)
   (case eO=>k_is)
   (case qZ=>k_is)
   (case la=>k_is)
   (case nS=>k_is)
   (case rj=>k_is)
  obtain ⟨t,hw,T⟩:=T
  have e0:=hmg.symm.trans T.zd
  cases e0
  exact ⟨_,T.x8,fun base=>My.uG hw T⟩
 case S=>exact fun K H a ns hl hO hS=>My.qS hl hO hS
 case C=>exact fun _ _ _ _ h=>h
