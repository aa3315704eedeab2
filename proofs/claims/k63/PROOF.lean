import PyProof.Rows.All
import Wide.All
import OpenK.AllK
import Wide.FinOn
import Lean
import PyProof.EqAt
import PyProof.EqKinds
import PyProof.TupleCall
import PyProof.NeKinds
import PyProof.Rows.StrLen
import PyProof.AutoIntG2
import PyProof.FactsAll.int_6
import PyProof.Rows.BootFacts.P1
import PyProof.ReprRoads
import PyProof.ListRange
import PyProof.TupleOfSeq
import PyProof.EnumMake
import PyProof.StrWalks
import PyProof.Rows.Range3
import PyProof.Rows.SetFrom
import KE.KIntText
import PyProof.FString
import PyProof.StrCalls2
import PyProof.StrOps2
import PyProof.SliceStr2
import PyProof.StrBlockI
import PyProof.StrBlockL
import PyProof.StrLaws
import OpenK.KOwn
import KE.KTryMore
import PyProof.ExcAttrAll.ValueError
import PyProof.NsDelKeeps
import KE.KRevIter
import PyProof.DictRoadsH
import PyProof.ListMulRoad
import PyProof.ExcInit
import PyProof.InstStoreFacts
import PyProof.AssignAttr
import PySem.SetOps
import PyProof.SetScanFacts
import PySem.Challenge.RW_unlikeplace_k63_texts_of_no_talk
noncomputable section
set_option Elab.async false
set_option linter.all false
set_option maxRecDepth 100000
namespace L2
open PySem PySem.Spec PyProof.Rows
noncomputable abbrev Key:=Sum Int Str
noncomputable def gC:Key->Value->Bool
 |.inl k,v=>Value.isInt k v
 |.inr x,v=>Value.isStrOf x v
noncomputable def H9(w:World):Key->Int
 |.inl k=>hashInt k
 |.inr x=>hashStr w x
theorem bt:∀ {k:Key} {v:Value},gC k v=true->(∃i t,k=Sum.inl i/\v=Value.int i t)\/(∃x t,k=Sum.inr x/\v=Value.str x t)
 |.inl i,v,h=>by
  obtain⟨t,e⟩:=Value.isInt_shape (k:=i) (v:=v) h;exact .inl ⟨i,t,rfl,e⟩
 |.inr x,v,h=>by
  obtain⟨t,e⟩:=Value.isStrOf_shape (x:=x) (v:=v) h;exact .inr ⟨x,t,rfl,e⟩
theorem oS(x:Str)(t:Tok):gC (.inr x) (.str x t)=true:=by simp[gC,Value.isStrOf]
theorem FE(a b:Int):decide ((Sum.inl a:Key)=Sum.inl b)=(a == b):=by
 by_cases e:a=b
 ·subst e;simp
 ·have h:¬ (Sum.inl a:Key)=Sum.inl b:=fun q=>e (Sum.inl.inj q)
  rw[decide_eq_false h];exact(beq_eq_false_iff_ne.mpr e).symm
theorem Ed(a b:Str):decide ((Sum.inr a:Key)=Sum.inr b)=decide (a=b):=by
 by_cases e:a=b
 ·subst e;simp
 ·have h:¬ (Sum.inr a:Key)=Sum.inr b:=fun q=>e (Sum.inr.inj q)
  rw[decide_eq_false h,decide_eq_false e]
theorem Fi(a:Int)(b:Str):decide ((Sum.inl a:Key)=Sum.inr b)=false:=decide_eq_false (fun q=>nomatch q)
theorem FJ(a:Str)(b:Int):decide ((Sum.inr a:Key)=Sum.inl b)=false:=decide_eq_false (fun q=>nomatch q)
noncomputable def bn(prog:Program)(w:World):PySem.KeyKind prog w Key where
 is:=gC
 hash:=H9 w
 inj:=fun v a b ha hb=>by
  rcases bt ha with⟨i,t,rfl,rfl⟩|⟨x,t,rfl,rfl⟩
  ·rcases bt hb with⟨j,u,rfl,e⟩|⟨y,u,rfl,e⟩
   ·injection e with e1 _;rw[e1]
   ·exact nomatch e
  ·rcases bt hb with⟨j,u,rfl,e⟩|⟨y,u,rfl,e⟩
   ·exact nomatch e
   ·injection e with e1 _;rw[e1]
 byValue:=fun k v h=>by
  rcases bt h with⟨i,t,rfl,rfl⟩|⟨x,t,rfl,rfl⟩<;>rfl
 pyHash:=fun hv h=>by
  rcases bt hv with⟨i,t,rfl,rfl⟩|⟨x,t,rfl,rfl⟩
  ·exact wpAny_pyHash_int h
  ·exact wpAny_pyHash_str h
 eqBool:=fun hu hv h=>by
  rcases bt hu with⟨i,t,rfl,rfl⟩|⟨x,t,rfl,rfl⟩
  ·rcases bt hv with⟨j,u,rfl,rfl⟩|⟨y,u,rfl,rfl⟩
   ·rw[FE] at h;exact wpAny_eqBool_int h
   ·rw[Fi] at h;exact SeqAt.EqAt.int_str i t y u _ _ _ _ h
  ·rcases bt hv with⟨j,u,rfl,rfl⟩|⟨y,u,rfl,rfl⟩
   ·rw[FJ] at h;exact SeqAt.EqAt.str_int x t j u _ _ _ _ h
   ·rw[Ed] at h;exact wpAny_eqBool_str h
 «strs»:=fun k x t v h=>by
  rcases bt h with⟨i,u,rfl,e⟩|⟨y,u,rfl,e⟩
  ·exact nomatch e
  ·injection e with e1 _
   subst e1;cases v<;>rfl
theorem lN(prog:Program)(w:World)(k:Key)(v:Value):(bn prog w).is k v=gC k v:=rfl
theorem gI(prog:Program)(w:World)(x:Str)(t:Tok):(bn prog w).is (.inr x) (.str x t)=true:=oS x t
inductive V where
 |non|bl (b:Bool)|int (i:Int)|str (x:Str)|byt (b:Array UInt8)|flt (b:UInt64)|ref (a:Addr)|ty (n:String)
 deriving DecidableEq
noncomputable def a6:V->Value->Prop
 |.non,u=>u=Value.none
 |.bl b,u=>u=Value.bool b
 |.int i,u=>∃t,u=Value.int i t
 |.str x,u=>∃t,u=Value.str x t
 |.byt b,u=>∃t,u=Value.bytes b t
 |.flt b,u=>∃t,u=Value.float b t
 |.ref a,u=>u=Value.ref a
 |.ty n,u=>u=Value.type n
noncomputable abbrev aH:List V->List Value->Prop:=Paired a6
theorem aH.length{xs:List V}{us:List Value}(r:aH xs us):xs.length=us.length:=Paired.length r
theorem aH.get:∀ {xs:List V} {us:List Value} {i:Nat} {x:V},aH xs us->xs[i]?=some x->∃u,us[i]?=some u/\a6 x u
 |_,_,_,_,.nil,e=>by simp at e
 |_,_,0,_,.cons r _,e=>by simp at e;subst e;exact⟨_,rfl,r⟩
 |_,_,i+1,x,.cons _ t,e=>by
  obtain⟨u,h1,h2⟩:=aH.get (i:=i) (x:=x) t (by simpa using e)
  exact⟨u,by simpa using h1,h2⟩
theorem aH.set{x:V}{u:Value}(r:a6 x u):∀ {xs:List V} {us:List Value} (i:Nat),aH xs us->aH (xs.set i x) (us.set i u)
 |_,_,_,.nil=>.nil
 |_,_,0,.cons _ t=>.cons r t
 |_,_,i+1,.cons q t=>.cons q (aH.set r i t)
theorem aH.append:∀ {xs ys:List V} {us ws:List Value},aH xs us->aH ys ws->aH (xs++ys) (us++ws)
 |_,_,_,_,.nil,s=>s
 |_,_,_,_,.cons r t,s=>.cons r (aH.append t s)
theorem aH.take:∀ {xs:List V} {us:List Value} (n:Nat),aH xs us->aH (xs.take n) (us.take n)
 |_,_,0,_=>.nil
 |_,_,_+1,.nil=>.nil
 |_,_,n+1,.cons r t=>.cons r (aH.take n t)
theorem aH.drop:∀ {xs:List V} {us:List Value} (n:Nat),aH xs us->aH (xs.drop n) (us.drop n)
 |_,_,0,r=>r
 |_,_,_+1,.nil=>.nil
 |_,_,n+1,.cons _ t=>aH.drop n t
noncomputable def B8:Option V->Option Value->Prop
 |some v,some u=>a6 v u
 |none,none=>True
 |_,_=>False
noncomputable def KV{κ:Type}:List (κ×V)->List (κ×Value)->Prop:=Paired fun(p:κ×V) (q:κ×Value)=>p.1=q.1/\a6 p.2 q.2
noncomputable def kV:Key->V
 |.inl i=>.int i
 |.inr x=>.str x
inductive HO where
 |lst (xs:List V)
 |tup (xs:List V)
 |dK (kvs:List (Key×V))|dT (kvs:List (List Key×V))
 |set (S:Int->Bool) (n:Nat)
 |ins (C dx:Addr) (fs:List (Str×V))
 |own (x:Addr)
 |xd (fs:List (Str×V))
 |met (f x:Addr)
 |rng (lo hi:Int)
 |frz (o:Obj) (u:HO)
 |tbl (ps:Array Value)
 |ext (φ:Heap->Prop)
noncomputable abbrev Hp:=Addr->Option HO
noncomputable def upd(H:Hp)(a:Addr)(o:HO):Hp:=fun b=>if b=a then some o else H b
theorem bR{H:Hp}{a:Addr}{o:HO}:upd H a o a=some o:=by unfold upd;rw[if_pos rfl]
theorem aw{H:Hp}{a b:Addr}{o:HO}(h:b≠a):upd H a o b=H b:=by unfold upd;rw[if_neg h]
theorem bp{H:Hp}{a b:Addr}{o:HO}(h:H a=some o)(h':H b=none):a≠b:=by
 intro e;subst e;rw[h] at h';cases h'
noncomputable def qm(h:Heap)(a:Addr)(items:Array Value):Prop:=IsTup h a items/\∃o,h.get? a=some o/\o.dict=none
theorem qm.lt{h:Heap}{a:Addr}{items:Array Value}(x:qm h a items):a<h.objs.size:=x.1.lt
theorem qm.new(h:Heap)(items:Array Value):qm (h.push { cls:=.type "tuple",data:=.seq items }) h.objs.size items:=⟨IsTup.new h items,_,Heap.get?_push_size _ rfl,rfl⟩
noncomputable def uF(H:Hp)(a:Addr)(ps qs:Array Value):Prop:=TriplesOk qs.toList/\∀(pos:Pos)(cv:Value),codeAmong pos qs.toList=some cv ->
 ∃(c:Addr)(o:Obj)(vs:Array Value)(t:Tok)(q:Str),cv=.ref c/\H c=some (.frz o (.own a))/\o.data=.fields vs/\vs[1]?=some (.str q t)/\ps[0]?=some (.str q 0)
theorem uF.mono{H H':Hp}{a:Addr}{ps qs:Array Value}(x:uF H a ps qs)(k:∀b o u,H b=some (.frz o u)->H' b=some (.frz o u)):uF H' a ps qs:=
 ⟨x.1,fun pos cv e=>let ⟨c,o,vs,t,q,e1,e2,r⟩:=x.2 pos cv e;⟨c,o,vs,t,q,e1,k _ _ _ e2,r⟩⟩
section
variable(P:Program)(w:World)
noncomputable def cM(H:Hp)(h:Heap)(a:Addr):HO->Prop
 |.lst xs=>xs.length<=sizeLine/\∃(its:List Value)(n:Nat),aH xs its/\h.get? a=some { cls:=.type "list",data:=.seq its.toArray n }
 |.tup xs=>xs.length<=sizeLine/\∃its:List Value,aH xs its/\qm h a its.toArray
 |.dK kvs=>kvs.length<=sizeLine/\(a == sysModules)=false/\∃vs,KV kvs vs/\h.DictOf (bn P w) a vs
 |.dT kvs=>kvs.length<=sizeLine/\(a == sysModules)=false/\∃xs:List (List Key×Addr×Value),
   Paired (fun(p:List Key×V) (q:List Key×Addr×Value)=>p.1=q.1/\H q.2.1=some (.tup (p.1.map kV))/\a6 p.2 q.2.2) kvs xs /\
   ∃o es ep,h.get? a=some o/\o.ExactDict/\o.data=.dict es ep/\es.toList=xs.map (entryOfKey (tupleKind (bn P w)))/\(xs.map (·.1)).Nodup
 |.set S n=>h.SetOf (intKind P w) a S n
 |.ins C dx fs=>H dx=some (.own a)/\fs.length<=1000/\dx≠a/\h.get? a=some (W.instObj C dx) /\
   ∃mA,h.Ns1 dx mA/\(∀f,B8 (fs.lookup f) (mA f))/\PySem.Within mA (fs.map (·.1))
 |.own _=>∃o,h.get? a=some o
 |.xd fs=>∃mA,h.Ns1 a mA/\∀f,B8 (fs.lookup f) (mA f)
 |.rng lo hi=>∃t u v,h.get? a=some { cls:=.type "range",data:=.fields #[.int lo t,.int hi u,.int 1 v] }
 |.frz o u=>h.get? a=some o/\cM H h a u
 |.tbl ps=>∃qs:Array Value,h.get? a=some { cls:=.none,data:=.fields qs }/\uF H a ps qs
 |.met f x=>h.get? a=some (W.methodObj (.ref f) (.ref x))
 |.ext φ=>φ h/\(∃o,h.get? a=some o)/\∀h1 h2:Heap,φ h1->(∀o,h1.get? a=some o->h2.get? a=some o)->φ h2
noncomputable def HOk(H:Hp)(h:Heap):Prop:=∀a o,H a=some o->cM P w H h a o
end
section
variable{P:Program}{w:World}{H H':Hp}{h h':Heap}{a:Addr}{o:HO}
theorem cM.lt(x:cM P w H h a o):a<h.objs.size:=by
 cases o with
 |lst xs=>obtain⟨_,_,_,_,e⟩:=x;exact Heap.lt_size e
 |tup xs=>obtain⟨_,_,_,p⟩:=x;exact p.lt
 |dK kvs=>obtain⟨_,_,_,_,o,_,_,e,_⟩:=x;exact Heap.lt_size e
 |dT kvs=>obtain⟨_,_,_,_,o,_,_,e,_⟩:=x;exact Heap.lt_size e
 |set S n=>obtain⟨o,_,_,_,e,_⟩:=x;exact Heap.lt_size e
 |ins C dx fs=>obtain⟨_,_,_,e,_⟩:=x;exact Heap.lt_size e
 |own y=>obtain⟨_,e⟩:=x;exact Heap.lt_size e
 |xd fs=>obtain⟨_,⟨_,_,_,e,_⟩,_⟩:=x;exact Heap.lt_size e
 |rng lo hi=>obtain⟨_,_,_,e⟩:=x;exact Heap.lt_size e
 |frz ob u=>obtain⟨e,_⟩:=x;exact Heap.lt_size e
 |tbl ps=>obtain⟨qs,e,_⟩:=x;exact Heap.lt_size e
 |met f y=>exact Heap.lt_size (show h.get? a=some _ from x)
 |ext φ=>obtain⟨_,⟨_,e⟩,_⟩:=x;exact Heap.lt_size e
theorem Paired.IU{α β:Type}{F G:α->β->Prop}:∀ {l₁:List α} {l₂:List β},Paired F l₁ l₂->(∀a b,F a b->G a b)->Paired G l₁ l₂
 |_,_,.nil,_=>.nil
 |_,_,.cons r t,f=>.cons (f _ _ r) (Paired.IU t f)
theorem cM.stay(x:cM P w H h a o)(k:∀b u,(b=a\/H b=some (.own a))->h.get? b=some u->h'.get? b=some u)(ho:∀b,H b=some (.own a)->H' b=some (.own a))(ht:∀b xs,H b=some (.tup xs)->H' b=some (.tup xs))(hf:∀b o u,H b=some (.frz o u)->H' b=some (.frz o u)):cM P w H' h' a o:=by
 induction o with
 |lst xs=>obtain⟨z,its,n,r,e⟩:=x;exact⟨z,its,n,r,k _ _ (.inl rfl) e⟩
 |tup xs=>obtain⟨z,its,r,⟨ob,e,c⟩,ob',e',c'⟩:=x;exact⟨z,its,r,⟨ob,k _ _ (.inl rfl) e,c⟩,ob',k _ _ (.inl rfl) e',c'⟩
 |dK kvs=>obtain⟨z,y,vs,r,ob,es,ep,e,c⟩:=x;exact⟨z,y,vs,r,ob,es,ep,k _ _ (.inl rfl) e,c⟩
 |dT kvs=>
  obtain⟨z,y,xs,r,ob,es,ep,e,c⟩:=x;exact⟨z,y,xs,Paired.IU r fun p q z=>⟨z.1,ht _ _ z.2.1,z.2.2⟩,ob,es,ep,k _ _ (.inl rfl) e,c⟩
 |set S n=>obtain⟨ob,es,ep,t,e,c⟩:=x;exact⟨ob,es,ep,t,k _ _ (.inl rfl) e,c⟩
 |ins C dx fs=>
  obtain⟨d,z,ne,e,mA,⟨od,es,ep,e2,c⟩,r⟩:=x;exact⟨ho _ d,z,ne,k _ _ (.inl rfl) e,mA,⟨od,es,ep,k _ _ (.inr d) e2,c⟩,r⟩
 |own y=>obtain⟨ob,e⟩:=x;exact⟨ob,k _ _ (.inl rfl) e⟩
 |xd fs=>obtain⟨mA,⟨od,es,ep,e,c⟩,r⟩:=x;exact⟨mA,⟨od,es,ep,k _ _ (.inl rfl) e,c⟩,r⟩
 |rng lo hi=>obtain⟨t,u,v,e⟩:=x;exact⟨t,u,v,k _ _ (.inl rfl) e⟩
 |frz ob u ih=>obtain⟨e,q⟩:=x;exact⟨k _ _ (.inl rfl) e,ih q⟩
 |tbl ps=>obtain⟨qs,e,z⟩:=x;exact⟨qs,k a _ (.inl rfl) e,z.mono hf⟩
 |met f y=>
  have e:h.get? a=some (W.methodObj (.ref f) (.ref y)):=x;show h'.get? a=some (W.methodObj (.ref f) (.ref y));exact k a _ (.inl rfl) e
 |ext φ=>obtain⟨p,⟨o,e⟩,st⟩:=x;exact⟨st _ _ p fun o q=>k _ _ (.inl rfl) q,⟨o,k _ _ (.inl rfl) e⟩,st⟩
theorem HOk.lt(x:HOk P w H h)(e:H a=some o):a<h.objs.size:=(x a o e).lt
theorem HOk.fresh(x:HOk P w H h)(e:h.objs.size<=a):H a=none:=by
 cases q:H a with
 |none=>rfl
 |some u=>exact absurd (Nat.lt_of_lt_of_le (x.lt q) e) (Nat.lt_irrefl _)
theorem HOk.kept(x:HOk P w H h)(k:∀b u,h.get? b=some u->h'.get? b=some u):HOk P w H h':=fun a o e=>
 (x a o e).stay (fun b u _ q=>k b u q) (fun _ q=>q) (fun _ _ q=>q) fun _ _ _ q=>q
theorem HOk.laid(x:HOk P w H h)(k:∀b u,h.get? b=some u->h'.get? b=some u)(hp:h.objs.size<=a)(new:cM P w (upd H a o) h' a o):HOk P w (upd H a o) h':=fun b u e=>by
 have hn:=x.fresh hp;by_cases hb:b=a
 ·subst hb;rw[bR] at e;cases e;exact new
 ·rw[aw hb] at e
  exact(x b u e).stay (fun c v _ q=>k c v q) (fun c q=>by rw[aw (bp q hn)];exact q) (fun c xs q=>by rw[aw (bp q hn)];exact q) fun c o' u' q=>by rw[aw (bp q hn)];exact q
end
noncomputable def Rd(H:Hp)(a:Addr)(u:HO):Prop:=H a=some u\/∃o,H a=some (.frz o u)
theorem Rd.ok{P:Program}{w:World}{H:Hp}{h:Heap}{a:Addr}{u:HO}(r:Rd H a u)(x:HOk P w H h):cM P w H h a u:=by
 rcases r with r|⟨o,r⟩
 ·exact x a u r
 ·obtain⟨_,q⟩:=x a _ r
  exact q
noncomputable def Mut:Option HO->Prop
 |some (.lst _)=>True
 |some (.dK _)=>True
 |some (.dT _)=>True
 |some (.set _ _)=>True
 |some (.ins _ _ _)=>True
 |some (.ext _)=>True
 |_=>False
section
variable{P:Program}{w:World}{H:Hp}{h h':Heap}{x e:Addr}{o':HO}
theorem HOk.write(ok:HOk P w H h)(mu:Mut (H x))(he:e=x\/H e=some (.own x))(k:∀b u,b≠e->h.get? b=some u->h'.get? b=some u)(heo:∃u,h'.get? e=some u)(new:cM P w (upd H x o') h' x o'):HOk P w (upd H x o') h':=fun b u q=>by
 have nown:∀c y,H c=some (.own y)->c≠x:=fun c y r z=>by subst z;rw[r] at mu;exact mu
 have ntup:∀c xs,H c=some (.tup xs)->c≠x:=fun c xs r z=>by subst z;rw[r] at mu;exact mu
 by_cases hb:b=x
 ·subst hb;rw[bR] at q;cases q;exact new
 ·rw[aw hb] at q
  by_cases hbe:b=e
  ·have q':H b=some (.own x):=by
    rcases he with z|z
    ·exact absurd (hbe.trans z) hb
    ·rw[hbe];exact z
   rw[q] at q';cases q';obtain⟨v,hv⟩:=heo;exact⟨v,by rw[hbe];exact hv⟩
  ·refine(ok b u q).stay (fun c v hc r=>k c v ?_ r) (fun c r=>by rw[aw (nown c b r)];exact r) (fun c xs r=>by rw[aw (ntup c xs r)];exact r) fun c o' u' r=>by rw[aw (fun z=>by subst z;rw[r] at mu;exact mu)];exact r
   rcases hc with rfl|hc
   ·exact hbe
   ·rintro rfl
    rcases he with z|z
    ·exact nown c b hc z
    ·rw[hc] at z;cases z;exact hb rfl
end
structure Un(fs ex:List Addr)(H H':Hp)(h h':Heap):Prop where
 keep:∀b o,h.get? b=some o->H b=none->b ∉ fs->b ∉ ex->h'.get? b=some o
 slot:∀b o,h.get? b=some o->H b=none->b∈fs->b ∉ ex->∃sl,h'.get? b=some { o with slots:=sl }
 free:∀b o,h.get? b=some o->H b=none->b ∉ ex->H' b=none
 there:∀b o,h.get? b=some o->b ∉ ex->∃o',h'.get? b=some o'
 tups:∀b xs,H b=some (.tup xs)->H' b=some (.tup xs)
 frzs:∀b o u,H b=some (.frz o u)->H' b=some (.frz o u)
 tbls:∀b ps,H b=some (.tbl ps)->∃more,H' b=some (.tbl (ps++more))
section
variable{fs fs' ex ex':List Addr}{H H1 H2:Hp}{h h1 h2 h':Heap}{a x e:Addr}{o:HO}
theorem Un.any(u:Un fs ex H H1 h h1){b:Addr}{ob:Obj}(q:h.get? b=some ob)(n:H b=none)(hx:b ∉ ex):∃sl,h1.get? b=some { ob with slots:=sl }:=by
 by_cases hb:b∈fs
 ·exact u.slot b ob q n hb hx
 ·exact⟨ob.slots,u.keep b ob q n hb hx⟩
theorem Un.kept(k:∀b u,h.get? b=some u->h'.get? b=some u):Un fs ex H H h h':=
 ⟨fun b ob q _ _ _=>k b ob q,fun b ob q _ _ _=>⟨ob.slots,k b ob q⟩,fun _ _ _ n _=>n,fun b ob q _=>⟨ob,k b ob q⟩,fun _ _ q=>q,fun _ _ _ q=>q,fun _ ps q=>⟨#[],by rw[q];simp⟩⟩
theorem Un.refl:Un fs ex H H h h:=Un.kept fun _ _ q=>q
theorem Un.laid(k:∀b u,h.get? b=some u->h'.get? b=some u)(hp:h.objs.size<=a)(hn:H a=none):Un fs ex H (upd H a o) h h' where
 keep:=fun b u q _ _ _=>k b u q
 slot:=fun b u q _ _ _=>⟨u.slots,k b u q⟩
 free:=fun b u q n _=>by rw[aw (Nat.ne_of_lt (Nat.lt_of_lt_of_le (Heap.lt_size q) hp))];exact n
 there:=fun b u q _=>⟨u,k b u q⟩
 tups:=fun b xs q=>by rw[aw (bp q hn)];exact q
 frzs:=fun b u xs q=>by rw[aw (bp q hn)];exact q
 tbls:=fun b ps q=>⟨#[],by rw[aw (bp q hn),q];simp⟩
theorem Un.write(mu:Mut (H x))(he:e=x\/H e=some (.own x))(k:∀b u,b≠e->h.get? b=some u->h'.get? b=some u)(heo:∃u,h'.get? e=some u):Un fs ex H (upd H x o) h h':=by
 have hx:∀b,H b=none->b≠x:=fun b n z=>by subst z;rw[n] at mu;exact mu
 have hb:∀b,H b=none->b≠e:=fun b n z=>by
  subst z;rcases he with r|r
  ·exact hx b n r
  ·rw[n] at r;cases r
 have hm:∀b u,H b=some u->¬ Mut (some u)->b≠x:=fun b u q nm z=>by subst z;rw[q] at mu;exact nm mu
 refine⟨fun b u q n _ _=>k b u (hb b n) q,fun b u q n _ _=>⟨u.slots,k b u (hb b n) q⟩,fun b u q n _=>by rw[aw (hx b n)];exact n,fun b u q _=>?_,
  fun b xs q=>by rw[aw (hm b _ q fun z=>z)];exact q,fun b u xs q=>by rw[aw (hm b _ q fun z=>z)];exact q,fun b ps q=>⟨#[],by rw[aw (hm b _ q fun z=>z),q];simp⟩⟩
 by_cases hbe:b=e
 ·subst hbe;exact heo
 ·exact⟨u,k b u hbe q⟩
end
noncomputable def trk(h:Heap)(H:Hp):List Addr:=(List.range h.objs.size).filter fun a=>(H a).isSome
noncomputable def pk(h:Heap)(H:Hp):Heap:=W.hideAll h (trk h H)
theorem wN(h:Heap)(H:Hp):(pk h H).objs.size=h.objs.size:=W.hideAll_size _ _
theorem xZ{h:Heap}{H:Hp}{b:Addr}{o:Obj}(e:h.get? b=some o)(n:H b=none):(pk h H).get? b=some o:=
 W.hideAll_get _ e fun hm=>by
  have q:(H b).isSome=true:=(List.mem_filter.mp hm).2;rw[n] at q;simp at q
theorem Bd{h:Heap}{H:Hp}{b:Addr}{o:Obj}(e:(pk h H).get? b=some o):h.get? b=some o/\H b=none:=by
 have e':h.get? b=some o:=W.of_hideAll (trk h H) e;refine⟨e',?_⟩
 cases q:H b with
 |none=>rfl
 |some x=>
  have hm:b∈trk h H:=List.mem_filter.mpr ⟨List.mem_range.mpr (Heap.lt_size e'),by simp[q]⟩
  have z:(pk h H).get? b=none:=W.hideAll_none (trk h H) hm;rw[z] at e;cases e
noncomputable def Bo(g h:Heap)(L:Addr):List (Addr×Obj):=(List.range h.objs.size).filterMap fun a=>if a=L\/(g.get? a).isSome=true then none else (h.get? a).map fun o=>(a,o)
noncomputable def bO(g h:Heap)(L d:Addr):List (Addr×Obj):=(Bo g h L).filter fun p=>decide (p.1≠d)
noncomputable def i5(K:W.Frag):List (Str×Addr×Addr):=match K.lookup mainGlobals with
 |some ⟨_,_,.dict es _,_⟩=>es.toList.filterMap fun e=>match e.key with
  |.str x _=>(W.tabIn K x).map fun q=>(x,q)
  |_=>none
 |_=>[]
noncomputable def wU(K:W.Frag)(H:Hp):Prop:=∀q∈i5 K,∃ps,H q.2.2=some (.tbl ps)/\ps[0]?=some (.str (q.1 ++ ".<locals>." ++ "<lambda>") 0)
theorem wU.mono{K:W.Frag}{H H':Hp}(x:wU K H)(k:∀b ps,H b=some (.tbl ps)->∃more,H' b=some (.tbl (ps++more))):wU K H':=fun q hq=>by
 obtain⟨ps,e,z⟩:=x q hq;obtain⟨more,e'⟩:=k _ _ e;refine⟨_,e',?_⟩
 have hz:0<ps.size:=by
  rcases Nat.eq_zero_or_pos ps.size with h|h
  ·rw[Array.getElem?_eq_none (by omega)] at z;cases z
  ·exact h
 rw[Array.getElem?_append_left hz];exact z
structure Mod(K:W.Frag)(mg:Str->Option Value)(base:Heap):Prop where
 kin:K.In base
 glob:base.Ns mainGlobals mg
 blt:∃mb,base.Ns builtinsNs mb/\∀x:Str,x≠"__name__"->mb x=bootBuiltins x
 nolimit:base.NoLimit
 bm:∃bm ob,mg "__builtins__"=some (.ref bm)/\bm≠builtinsNs/\base.get? bm=some ob/\ob.cls=.type "module"/\ob.dict=some builtinsNs/\ob.data=.plain
structure Cx where
 prog:Program
 w:World
 K:W.Frag
 mg:Str->Option Value
 base:Heap
 A:Around
 N:List Str
 s₀:Shared
 H₀:Hp
 env:Env
 outer:List Env
 stack:List Env
 ex:List Addr
 fn:Str->Bool
 calm:Bool
 pn:List (Addr×Obj)
 xe:Value->Shared->Prop
noncomputable def frs(l:List Env):List Addr:=l.filterMap (·.frame)
noncomputable abbrev Cx.fs(X:Cx):List Addr:=frs X.outer
noncomputable def Vis(sc:Scope)(x:Str):Prop:=sc.names.lookup x=some .local\/sc.names.lookup x=some .cell\/sc.names.lookup x=some .free
noncomputable def Loc(sc:Scope)(x:Str):Prop:=sc.names.lookup x=some .local\/sc.names.lookup x=some .cell
noncomputable def HM(env:Env)(h:Heap)(m:Str->Option Value)(x:Str)(u:Value):Prop:=
 (env.kindOf x=some .local/\m x=some u)\/((env.kindOf x=some .cell\/env.kindOf x=some .free)/\∃c,env.cells.lookup x=some c/\h.IsCell c (some u))
structure Cx.Ok(X:Cx):Prop where
 mod:Mod X.K X.mg X.base
 kind:X.env.scope.kind=.function
 glob:X.env.globals=mainGlobals
 blt:X.env.builtins=builtinsNs
 above:X.s₀.heap.objs.size<=X.env.locals
 inj:∀x y c,X.env.cells.lookup x=some c->X.env.cells.lookup y=some c->x=y
 has:∀x,(X.env.kindOf x=some .cell\/X.env.kindOf x=some .free)->∃c,X.env.cells.lookup x=some c
 cab:∀x c,X.fn x=true->X.env.cells.lookup x=some c->X.s₀.heap.objs.size<=c
 hd:X.calm=true->X.A.handled=none
 frames:X.A.frames=some X.stack
 stk:X.stack=X.outer\/(X.stack=X.env::X.outer/\X.env.frame=some X.env.locals)
 exf:∀b∈X.ex,b≠X.env.locals/\∀x c,X.env.cells.lookup x=some c->c≠b
 bs:∀b o,X.base.get? b=some o->X.s₀.heap.get? b=some o/\X.H₀ b=none
 bsz:X.base.objs.size<=X.s₀.heap.objs.size
 noex:∀b o,X.base.get? b=some o->b ∉ X.ex
 exfs:∀b∈X.ex,b ∉ X.fs
 funs:X.s₀.heap.FunFrames X.base X.outer
 frf:∀b∈X.fs,X.H₀ b=none
 tt:wU X.K X.H₀
structure Inv(X:Cx)(pins:List (Addr×Obj))(σ:List (Option V))(H:Hp)(s:Shared):Prop where
 ok:X.Ok
 os:s.os=X.s₀.os
 bare:AllBare s.gens
 base:Un X.fs X.ex X.H₀ H X.s₀.heap s.heap
 loc:∃m,s.heap.Ns X.env.locals m/\∀(i:Nat)(x:Str)(v:V),X.N[i]?=some x->σ[i]?=some (some v)->Vis X.env.scope x->∃u,a6 v u/\HM X.env s.heap m x u
 cell:∀x c,X.env.cells.lookup x=some c->∃v,s.heap.IsCell c v
 free:H X.env.locals=none
 freeC:∀x c,X.env.cells.lookup x=some c->H c=none
 pin:∀p∈X.pn++pins,s.heap.get? p.1=some p.2/\H p.1=none/\p.1≠X.env.locals/\p.1 ∉ X.fs/\∀v,p.2.data≠.cell v
 hok:HOk X.prog X.w H s.heap
 len:σ.length=X.N.length
section
variable{X:Cx}{pins:List (Addr×Obj)}{σ:List (Option V)}{H H':Hp}{s:Shared}{h':Heap}
theorem Cx.Ok.nofr(ok:X.Ok){b:Addr}{o:Obj}(e:X.base.get? b=some o):b ∉ X.fs:=fun hb=>by
 have:=(ok.funs.mem hb).1;rw[e] at this;cases this
theorem Inv.bs(I:Inv X pins σ H s):∀b o,X.base.get? b=some o->s.heap.get? b=some o/\H b=none:=fun b o e=>
 ⟨I.base.keep b o (I.ok.bs b o e).1 (I.ok.bs b o e).2 (I.ok.nofr e) (I.ok.noex b o e),I.base.free b o (I.ok.bs b o e).1 (I.ok.bs b o e).2 (I.ok.noex b o e)⟩
theorem Inv.bk(I:Inv X pins σ H s):∀b o,X.base.get? b=some o->s.heap.get? b=some o:=fun b o e=>(I.bs b o e).1
theorem Inv.mod(I:Inv X pins σ H s):Mod X.K X.mg X.base:=I.ok.mod
theorem Inv.kIn(I:Inv X pins σ H s):X.K.In s.heap:=I.ok.mod.kin.keeps I.bk
theorem Inv.lt(I:Inv X pins σ H s):X.env.locals<s.heap.objs.size:=let ⟨_,hn,_⟩:=I.loc;hn.lt
theorem Inv.sz(I:Inv X pins σ H s):X.s₀.heap.objs.size<=s.heap.objs.size:=Nat.le_trans I.ok.above (Nat.le_of_lt I.lt)
theorem Inv.nofs(I:Inv X pins σ H s){a:Addr}(h:s.heap.objs.size<=a):a ∉ X.fs:=fun hb=>by
 obtain⟨_,o,ho,_⟩:=I.ok.funs.mem hb;exact absurd (Nat.lt_of_lt_of_le (Heap.lt_size ho) (Nat.le_trans I.sz h)) (Nat.lt_irrefl _)
theorem Inv.cne(I:Inv X pins σ H s):∀x c,X.env.cells.lookup x=some c->c≠X.env.locals:=fun x c e z=>by
 obtain⟨v,o,ho,hd⟩:=I.cell x c e;obtain⟨m,⟨o',es,ep,ho',hd',_⟩,_⟩:=I.loc;rw[z,ho'] at ho;cases ho;rw[hd'] at hd;cases hd
theorem Inv.funs(I:Inv X pins σ H s):s.heap.FunFrames X.base X.outer:=by
 have all:∀(l:List Env),(∀b∈frs l,b∈X.fs)->X.s₀.heap.FunFrames X.base l->s.heap.FunFrames X.base l:=by
  intro l
  induction l with
  |nil=>intro _ _;trivial
  |cons env r ih=>
   intro hs hl;obtain⟨hk,⟨L,o,hf,hn,ho,hd⟩,hr⟩:=hl;have hL:L∈X.fs:=hs L (by unfold frs;rw[List.filterMap_cons,hf];exact List.mem_cons_self)
   obtain⟨sl,e⟩:=I.base.slot L o ho (I.ok.frf L hL) hL fun z=>I.ok.exfs L z hL;exact⟨hk,⟨L,_,hf,hn,e,hd⟩,ih (fun b hb=>hs b (by unfold frs;rw[List.filterMap_cons,hf];exact List.mem_cons_of_mem _ hb)) hr⟩
 exact all X.outer (fun _ hb=>hb) I.ok.funs
theorem Inv.stack(I:Inv X pins σ H s):s.heap.FunFrames X.base X.stack:=by
 rcases I.ok.stk with e|⟨e,hf⟩
 ·rw[e];exact I.funs
 ·rw[e]
  obtain⟨m,hn,_⟩:=I.loc;refine .cons (by rw[I.ok.kind];decide) hf hn ?_ I.funs
  exact Heap.get?_none_of_le (Nat.le_trans I.ok.bsz I.ok.above)
theorem Inv.IK(I:Inv X pins σ H s):∀b∈frs X.stack,b∈X.env.locals::X.fs:=fun b hb=>by
 rcases I.ok.stk with e|⟨e,hf⟩
 ·rw[e] at hb;exact List.mem_cons_of_mem _ hb
 ·rw[e] at hb
  unfold frs at hb;rw[List.filterMap_cons,hf] at hb;exact hb
theorem Inv.IJ(I:Inv X pins σ H s):∀b∈frs X.stack,H b=none:=fun b hb=>by
 rcases List.mem_cons.mp (I.IK b hb) with e|hb
 ·rw[e];exact I.free
 ·obtain⟨_,o,ho,_⟩:=I.ok.funs.mem hb
  exact I.base.free b o ho (I.ok.frf b hb) fun z=>I.ok.exfs b z hb
theorem Inv.step{g':Array GenState}{t':Nat}{d':Drawn}{ch:List Addr}(I:Inv X pins σ H s)(hch:∀b∈ch,(b∈X.ex\/X.s₀.heap.objs.size<=b)/\b≠X.env.locals/\(∀x c,X.env.cells.lookup x=some c->c≠b)/\∀p∈X.pn++pins,p.1≠b)(keep:∀b o,b≠X.env.locals->b ∉ X.fs->b ∉ ch->s.heap.get? b=some o->H b=none->h'.get? b=some o)(slot:∀b o,b≠X.env.locals->b∈X.fs->b ∉ ch->s.heap.get? b=some o->H b=none->∃sl,h'.get? b=some { o with slots:=sl })(free:∀b o,b ∉ ch->s.heap.get? b=some o->H b=none->H' b=none)(there:∀b o,b ∉ ch->s.heap.get? b=some o->∃o',h'.get? b=some o')(tups:∀b xs,H b=some (.tup xs)->H' b=some (.tup xs))(frzs:∀b o u,H b=some (.frz o u)->H' b=some (.frz o u))(tbls:∀b ps,H b=some (.tbl ps)->∃more,H' b=some (.tbl (ps++more)))(ns:∀m,s.heap.Ns X.env.locals m->h'.Ns X.env.locals m)(hok:HOk X.prog X.w H' h')(hg:AllBare g'):
  Inv X pins σ H' { s with heap:=h',gens:=g',drawn:=d',toks:=t' }:=by
 have neL:∀b o,X.s₀.heap.get? b=some o->b≠X.env.locals:=fun b o e=>Nat.ne_of_lt (Nat.lt_of_lt_of_le (Heap.lt_size e) I.ok.above)
 have neC:∀b o,X.s₀.heap.get? b=some o->b ∉ X.ex->b ∉ ch:=fun b o e hx hb=>by
  rcases(hch b hb).1 with z|z
  ·exact hx z
  ·exact absurd (Nat.lt_of_lt_of_le (Heap.lt_size e) z) (Nat.lt_irrefl _)
 have cellK:∀x c,X.env.cells.lookup x=some c->∀v,s.heap.IsCell c v->h'.IsCell c v:=fun x c e v ⟨o,ho,hd⟩=>by
  have nch:c ∉ ch:=fun z=>(hch c z).2.2.1 x c e rfl;by_cases hc:c∈X.fs
  ·obtain⟨sl,q⟩:=slot c o (I.cne x c e) hc nch ho (I.freeC x c e)
   exact⟨_,q,hd⟩
  ·exact⟨o,keep c o (I.cne x c e) hc nch ho (I.freeC x c e),hd⟩
 refine⟨I.ok,I.os,hg,⟨fun b o e n hb hx=>?_,fun b o e n hb hx=>?_,fun b o e n hx=>?_,fun b o e hx=>?_,fun b xs e=>tups b xs (I.base.tups b xs e),fun b o xs e=>frzs b o xs (I.base.frzs b o xs e),fun b ps e=>?_⟩,?_,fun x c e=>?_,?_,fun x c e=>?_,fun p hp=>?_,hok,I.len⟩
 ·exact keep b o (neL b o e) hb (neC b o e hx) (I.base.keep b o e n hb hx) (I.base.free b o e n hx)
 ·obtain⟨sl,e1⟩:=I.base.slot b o e n hb hx
  obtain⟨sl',e2⟩:=slot b _ (neL b o e) hb (neC b o e hx) e1 (I.base.free b o e n hx);exact⟨sl',e2⟩
 ·obtain⟨o',e1⟩:=I.base.there b o e hx
  exact free b o' (neC b o e hx) e1 (I.base.free b o e n hx)
 ·obtain⟨o',e1⟩:=I.base.there b o e hx
  exact there b o' (neC b o e hx) e1
 ·obtain⟨m1,e1⟩:=I.base.tbls b ps e
  obtain⟨m2,e2⟩:=tbls b _ e1;exact⟨m1++m2,by rw[e2,Array.append_assoc]⟩
 ·obtain⟨m,hn,hl⟩:=I.loc
  refine⟨m,ns m hn,fun i x v e1 e2 e3=>?_⟩;obtain⟨u,r,l⟩:=hl i x v e1 e2 e3;refine⟨u,r,?_⟩;rcases l with l|⟨k,c,e,z⟩
  ·exact .inl l
  ·exact .inr ⟨k,c,e,cellK x c e _ z⟩
 ·obtain⟨v,z⟩:=I.cell x c e
  exact⟨v,cellK x c e v z⟩
 ·obtain⟨m,⟨o,_,_,ho,_⟩,_⟩:=I.loc
  exact free _ o (fun z=>(hch _ z).2.1 rfl) ho I.free
 ·obtain⟨v,o,ho,hd⟩:=I.cell x c e
  exact free c o (fun z=>(hch c z).2.2.1 x c e rfl) ho (I.freeC x c e)
 ·obtain⟨e,n,ne,nf,d⟩:=I.pin p hp
  have nch:p.1 ∉ ch:=fun z=>(hch p.1 z).2.2.2 p hp rfl;exact⟨keep p.1 p.2 ne nf nch e n,free p.1 p.2 nch e n,ne,nf,d⟩
theorem Inv.un{t':Nat}(I:Inv X pins σ H s)(u:Un X.fs [] H H' s.heap h')(hok:HOk X.prog X.w H' h'):Inv X pins σ H' { s with heap:=h',toks:=t' }:=by
 obtain⟨m,⟨o,es,ep,ho,r⟩,_⟩:=id I.loc;obtain⟨sl,hL⟩:=u.any ho I.free (by simp)
 exact I.step (g':=s.gens) (d':=s.drawn) (ch:=[]) (fun _ z=>nomatch z) (fun b o _ hb _ e n=>u.keep b o e n hb (by simp)) (fun b o _ hb _ e n=>u.slot b o e n hb (by simp)) (fun b o _ e n=>u.free b o e n (by simp)) (fun b o _ e=>u.there b o e (by simp)) u.tups u.frzs u.tbls (fun m' hm=>by
  obtain⟨o',es',ep',ho',r'⟩:=hm;rw[ho] at ho';cases ho'
  exact⟨_,es',ep',hL,r'⟩) hok I.bare
theorem Inv.call{g':Array GenState}{t':Nat}{d':Drawn}{ch:List Addr}(I:Inv X pins σ H s)(u:Un (frs X.stack) ch H H' s.heap h')(hok:HOk X.prog X.w H' h')(hg:AllBare g')(hch:∀b∈ch,(b∈X.ex\/X.s₀.heap.objs.size<=b)/\b≠X.env.locals/\(∀x c,X.env.cells.lookup x=some c->c≠b)/\∀p∈X.pn++pins,p.1≠b):
  Inv X pins σ H' { s with heap:=h',gens:=g',drawn:=d',toks:=t' }:=by
 obtain⟨m,⟨o,es,ep,ho,r⟩,_⟩:=id I.loc;obtain⟨sl,hL⟩:=u.any ho I.free fun z=>(hch _ z).2.1 rfl
 exact I.step (ch:=ch) hch (fun b o hL hb hc e n=>u.keep b o e n (fun z=>(List.mem_cons.mp (I.IK b z)).elim hL hb) hc) (fun b o _ _ hc e n=>u.any e n hc) (fun b o hc e n=>u.free b o e n hc) (fun b o hc e=>u.there b o e hc) u.tups u.frzs u.tbls (fun m' hm=>by
  obtain⟨o',es',ep',ho',r'⟩:=hm;rw[ho] at ho';cases ho'
  exact⟨_,es',ep',hL,r'⟩) hok hg
theorem Inv.turned{t':Nat}{it:Addr}(I:Inv X pins σ H s)(k:∀b o,b≠it->s.heap.get? b=some o->h'.get? b=some o)(hn:H it=none)(hL:it≠X.env.locals)(h1:it∈X.ex\/X.s₀.heap.objs.size<=it)(h2:∀x c,X.env.cells.lookup x=some c->c≠it)(h3:∀p∈X.pn++pins,p.1≠it):Inv X pins σ H { s with heap:=h',toks:=t' }:=by
 have nit:∀b u,H b=some u->b≠it:=fun b u e z=>by rw[z,hn] at e;cases e
 refine I.step (g':=s.gens) (d':=s.drawn) (ch:=[it]) (fun b hb=>?_) (fun b o _ _ hc e _=>k b o (fun z=>hc (by simp[z])) e) (fun b o _ _ hc e _=>⟨o.slots,k b o (fun z=>hc (by simp[z])) e⟩) (fun _ _ _ _ n=>n)
  (fun b o hc e=>⟨o,k b o (fun z=>hc (by simp[z])) e⟩) (fun _ _ e=>e) (fun _ _ _ e=>e) (fun b ps e=>⟨#[],by rw[e];simp⟩) (fun m hm=>?_) (fun b u e=>?_) I.bare
 ·have e:b=it:=by simpa using hb
  subst e;exact⟨h1,hL,h2,h3⟩
 ·obtain⟨o,es,ep,ho,r⟩:=hm
  exact⟨o,es,ep,k _ o (Ne.symm hL) ho,r⟩
 ·refine(I.hok b u e).stay (fun c v hc q=>k c v ?_ q) (fun _ q=>q) (fun _ _ q=>q) fun _ _ _ q=>q
  rcases hc with z|z
  ·rw[z];exact nit b u e
  ·exact nit c _ z
theorem Inv.tok(I:Inv X pins σ H s)(t:Nat):Inv X pins σ H { s with toks:=t }:=I.un (h':=s.heap) (t':=t) Un.refl I.hok
theorem Inv.kept{t':Nat}(I:Inv X pins σ H s)(k:∀b u,s.heap.get? b=some u->h'.get? b=some u):Inv X pins σ H { s with heap:=h',toks:=t' }:=I.un (Un.kept k) (I.hok.kept k)
theorem Inv.laid{a:Addr}{o:HO}{t':Nat}(I:Inv X pins σ H s)(k:∀b u,s.heap.get? b=some u->h'.get? b=some u)(hp:s.heap.objs.size<=a)(new:cM X.prog X.w (upd H a o) h' a o):
  Inv X pins σ (upd H a o) { s with heap:=h',toks:=t' }:=I.un (Un.laid k hp (I.hok.fresh hp)) (I.hok.laid k hp new)
theorem Inv.write{x e:Addr}{o:HO}{t':Nat}(I:Inv X pins σ H s)(mu:Mut (H x))(he:e=x\/H e=some (.own x))(k:∀b u,b≠e->s.heap.get? b=some u->h'.get? b=some u)(heo:∃u,h'.get? e=some u)(new:cM X.prog X.w (upd H x o) h' x o):Inv X pins σ (upd H x o) { s with heap:=h',toks:=t' }:=I.un (Un.write mu he k heo) (I.hok.write mu he k heo new)
theorem Inv.IN{pins':List (Addr×Obj)}(I:Inv X pins σ H s)(h:∀p∈pins',s.heap.get? p.1=some p.2/\H p.1=none/\p.1≠X.env.locals/\p.1 ∉ X.fs/\∀v,p.2.data≠.cell v):Inv X pins' σ H s:=
 ⟨I.ok,I.os,I.bare,I.base,I.loc,I.cell,I.free,I.freeC,fun p hp=>(List.mem_append.mp hp).elim (fun z=>I.pin p (List.mem_append_left _ z)) (h p),I.hok,I.len⟩
theorem rh{N:List Str}(hN:N.Nodup){i j:Nat}{x:Str}(a:N[i]?=some x)(b:N[j]?=some x):i=j:=by
 obtain⟨h1,e1⟩:=List.getElem?_eq_some_iff.mp a;obtain⟨h2,e2⟩:=List.getElem?_eq_some_iff.mp b;exact(List.getElem_inj hN).mp (e1.trans e2.symm)
theorem xy{M:Model}{A:Around}{E:Value->Shared->Prop}{i:Nat}{x:Str}{v:V}{u:Value}{Q:Unit->Shared->Prop}(I:Inv X pins σ H s)(hN:X.N.Nodup)(hi:X.N[i]?=some x)(hx:Loc X.env.scope x)(r:a6 v u)(h:∀s',Inv X pins (σ.set i (some v)) H s'->(∃a,Heap.SameBut a s.heap s'.heap/\(a=X.env.locals\/X.env.cells.lookup x=some a))->Q () s')(hf:X.fn x=true\/X.env.scope.names.lookup x=some .local:=by first|exact .inl rfl|exact .inr rfl|assumption):wpAny M A (storeName X.env x u) Q E s:=by
 obtain⟨m,hn,hl⟩:=id I.loc;have hcls:(X.env.scope.kind == .class || (X.env.scope.kind == .module && X.env.locals != X.env.globals))=false:=by rw[I.ok.kind];rfl
 have hiσ:i<σ.length:=by rw[I.len];exact(List.getElem?_eq_some_iff.mp hi).1
 have cne:=I.cne
 have tracked:∀ {a:Addr} {h':Heap},(∃o,s.heap.get? a=some o/\H a=none)->Heap.SameBut a s.heap h'->HOk X.prog X.w H h':=fun {a h'} ha hs b ob e=>by
  obtain⟨_,_,hfree⟩:=ha;refine(I.hok b ob e).stay (fun c w' hc q=>(hs.2 c ?_).trans q) (fun _ q=>q) (fun _ _ q=>q) fun _ _ _ q=>q;rintro rfl;rcases hc with rfl|hc
  ·rw[hfree] at e;cases e
  ·rw[hfree] at hc;cases hc
 rcases hx with hk|hk
 ·refine wpAny_storeName_local hk hn (fun h' hn' hs=>?_) hcls
  obtain⟨oL,_,_,hoL,_⟩:=id hn;refine h _ ⟨I.ok,I.os,I.bare,⟨fun b o e n hb hx=>?_,fun b o e n hb hx=>?_,I.base.free,fun b o e hx=>?_,I.base.tups,I.base.frzs,I.base.tbls⟩,⟨_,hn',fun j y v' e1 e2 e3=>?_⟩,fun y c e=>?_,I.free,I.freeC,fun p hp=>?_,tracked ⟨oL,hoL,I.free⟩ hs,by simpa using I.len⟩ ⟨_,hs,.inl rfl⟩
  ·exact(hs.2 b (Nat.ne_of_lt (Nat.lt_of_lt_of_le (Heap.lt_size e) I.ok.above))).trans (I.base.keep b o e n hb hx)
  ·obtain⟨sl,e1⟩:=I.base.slot b o e n hb hx
   exact⟨sl,(hs.2 b (Nat.ne_of_lt (Nat.lt_of_lt_of_le (Heap.lt_size e) I.ok.above))).trans e1⟩
  ·obtain⟨o',e1⟩:=I.base.there b o e hx
   exact⟨o',(hs.2 b (Nat.ne_of_lt (Nat.lt_of_lt_of_le (Heap.lt_size e) I.ok.above))).trans e1⟩
  ·by_cases hj:j=i
   ·subst hj
    rw[hi] at e1;cases e1;rw[List.getElem?_set_self hiσ] at e2;cases e2;exact⟨u,r,.inl ⟨hk,by simp⟩⟩
   ·rw[List.getElem?_set_ne (Ne.symm hj)] at e2
    obtain⟨u',r',q⟩:=hl j y v' e1 e2 e3;refine⟨u',r',?_⟩;rcases q with⟨k,e⟩|⟨k,c,e,z⟩
    ·refine .inl ⟨k,?_⟩
     have:y≠x:=fun e=>hj (rh hN e1 (e ▸ hi));simp[this,e]
    ·exact .inr ⟨k,c,e,z.sameBut hs (cne y c e)⟩
  ·obtain⟨w',z⟩:=I.cell y c e
   exact⟨w',z.sameBut hs (cne y c e)⟩
  ·obtain⟨e,n,ne,nf,d⟩:=I.pin p hp
   exact⟨(hs.2 p.1 ne).trans e,n,ne,nf,d⟩
 ·have hfn:X.fn x=true:=by
   rcases hf with z|z
   ·exact z
   ·rw[z] at hk;cases hk
  obtain⟨c,hc⟩:=I.ok.has x (.inl hk);obtain⟨w',z⟩:=I.cell x c hc;refine wpAny_storeName_cell I.ok.kind hk hc z (fun h' hc' hs=>?_);obtain⟨oc,hoc,hocd⟩:=id z;refine h { s with heap:=h' } ⟨I.ok,I.os,I.bare,⟨fun b o e n hb hx=>?_,fun b o e n hb hx=>?_,I.base.free,fun b o e hx=>?_,I.base.tups,I.base.frzs,I.base.tbls⟩,⟨m,hn.sameBut hs (Ne.symm (cne x c hc)),fun j y v' e1 e2 e3=>?_⟩,fun y c' e=>?_,I.free,I.freeC,fun p hp=>?_,tracked ⟨oc,hoc,I.freeC x c hc⟩ hs,by simpa using I.len⟩ ⟨c,hs,.inr hc⟩
  ·exact(hs.2 b (Nat.ne_of_lt (Nat.lt_of_lt_of_le (Heap.lt_size e) (I.ok.cab x c hfn hc)))).trans (I.base.keep b o e n hb hx)
  ·obtain⟨sl,e1⟩:=I.base.slot b o e n hb hx
   exact⟨sl,(hs.2 b (Nat.ne_of_lt (Nat.lt_of_lt_of_le (Heap.lt_size e) (I.ok.cab x c hfn hc)))).trans e1⟩
  ·obtain⟨o',e1⟩:=I.base.there b o e hx
   exact⟨o',(hs.2 b (Nat.ne_of_lt (Nat.lt_of_lt_of_le (Heap.lt_size e) (I.ok.cab x c hfn hc)))).trans e1⟩
  ·by_cases hj:j=i
   ·subst hj
    rw[hi] at e1;cases e1;rw[List.getElem?_set_self hiσ] at e2;cases e2;exact⟨u,r,.inr ⟨.inl hk,c,hc,hc'⟩⟩
   ·rw[List.getElem?_set_ne (Ne.symm hj)] at e2
    obtain⟨u',r',q⟩:=hl j y v' e1 e2 e3;refine⟨u',r',?_⟩;rcases q with q|⟨k,c',e,z'⟩
    ·exact .inl q
    ·refine .inr ⟨k,c',e,z'.sameBut hs ?_⟩
     rintro rfl;exact hj (rh hN e1 (I.ok.inj _ _ _ e hc ▸ hi))
  ·by_cases hcc:c'=c
   ·subst hcc;exact⟨_,hc'⟩
   ·obtain⟨w2,z2⟩:=I.cell y c' e
    exact⟨w2,z2.sameBut hs hcc⟩
  ·obtain⟨e,n,ne,nf,d⟩:=I.pin p hp
   refine⟨(hs.2 p.1 ?_).trans e,n,ne,nf,d⟩;intro q;rw[q,hoc] at e;have q':oc=p.2:=Option.some.inj e;exact d w' (by rw[←q'];exact hocd)
theorem g8{M:Model}{A:Around}{E:Value->Shared->Prop}{i:Nat}{x:Str}{v:V}{u:Value}{Q:Unit->Shared->Prop}(I:Inv X pins σ H s)(hN:X.N.Nodup)(hi:X.N[i]?=some x)(hx:Loc X.env.scope x)(r:a6 v u)(h:∀s',Inv X pins (σ.set i (some v)) H s'->Q () s')(hf:X.fn x=true\/X.env.scope.names.lookup x=some .local:=by first|exact .inl rfl|exact .inr rfl|assumption):wpAny M A (storeName X.env x u) Q E s:=
 xy I hN hi hx r (fun s' I' _=>h s' I') hf
theorem Inv.call'{s':Shared}{ch:List Addr}(I:Inv X pins σ H s)(ho:s'.os=s.os)(u:Un (frs X.stack) ch H H' s.heap s'.heap)(hok:HOk X.prog X.w H' s'.heap)(hg:AllBare s'.gens)(hch:∀b∈ch,(b∈X.ex\/X.s₀.heap.objs.size<=b)/\b≠X.env.locals/\(∀x c,X.env.cells.lookup x=some c->c≠b)/\∀p∈X.pn++pins,p.1≠b):Inv X pins σ H' s':=by
 obtain⟨h',g',d',t',o'⟩:=s';have e:o'=s.os:=ho;subst e;exact I.call (g':=g') (t':=t') (d':=d') u hok hg hch
end
noncomputable abbrev XK:=Value->Option Addr->Hp->Prop
noncomputable abbrev St:=List (Option V)
noncomputable abbrev VK:=V->Hp->Prop
noncomputable abbrev TE:=St->Hp->VK->Prop
noncomputable abbrev TT:=St->Hp->(Bool->Hp->Prop)->Prop
noncomputable abbrev TA:=St->Hp->(List V->Hp->Prop)->Prop
structure g9 where
 nx:St->Hp->Prop
 rt:VK
 bk:St->Hp->Prop:=fun _ _=>False
 ct:St->Hp->Prop:=fun _ _=>False
noncomputable abbrev TS:=g9->St->Hp->Prop
noncomputable def EP(X:Cx)(pins:List (Addr×Obj))(σ:St)(Q:VK)(u:Value)(s':Shared):Prop:=∃v H',Inv X pins σ H' s'/\a6 v u/\Q v H'
noncomputable def TP(X:Cx)(pins:List (Addr×Obj))(σ:St)(Q:Bool->Hp->Prop)(b:Bool)(s':Shared):Prop:=∃H',Inv X pins σ H' s'/\Q b H'
noncomputable def AP(X:Cx)(pins:List (Addr×Obj))(σ:St)(Q:List V->Hp->Prop)(us:List Value)(s':Shared):Prop:=∃vs H',Inv X pins σ H' s'/\aH vs us/\Q vs H'
noncomputable def SP(X:Cx)(pins:List (Addr×Obj))(D:g9)(f:Flow)(s':Shared):Prop:=
 match f with
 |.next=>∃σ' H',Inv X pins σ' H' s'/\D.nx σ' H'
 |.brk=>∃σ' H',Inv X pins σ' H' s'/\D.bk σ' H'
 |.cont=>∃σ' H',Inv X pins σ' H' s'/\D.ct σ' H'
 |.ret u=>∃v σ' H',Inv X pins σ' H' s'/\a6 v u/\D.rt v H'
noncomputable def PEd(X:Cx)(e:Expr)(t:TE):Prop:=
 ∀(pins:List (Addr×Obj)) (s:Shared) (σ:St) (H:Hp) (Q:VK),Inv X pins σ H s->t σ H Q->wpAny (model X.prog X.w) X.A (eval e X.env) (EP X pins σ Q) X.xe s
structure PE(X:Cx)(e:Expr)(t:TE):Prop where
 run:PEd X e t
noncomputable instance {X:Cx} {e:Expr} {t:TE}:CoeFun (PE X e t) (fun _=>PEd X e t):=⟨PE.run⟩
noncomputable instance {X:Cx} {e:Expr} {t:TE}:Coe (PE X e t) (PEd X e t):=⟨PE.run⟩
noncomputable def PT(X:Cx)(e:Expr)(t:TT):Prop:=
 ∀(pins:List (Addr×Obj)) (s:Shared) (σ:St) (H:Hp) (Q:Bool->Hp->Prop),Inv X pins σ H s->t σ H Q->wpAny (model X.prog X.w) X.A (isTrue e X.env (eval e X.env)) (TP X pins σ Q) X.xe s
noncomputable def PW(X:Cx)(e:Expr)(t:TT):Prop:=
 ∀(whole:Sem Value) (pins:List (Addr×Obj)) (s:Shared) (σ:St) (H:Hp) (Q:Bool->Hp->Prop),Inv X pins σ H s->t σ H Q->wpAny (model X.prog X.w) X.A (isTrue e X.env whole) (TP X pins σ Q) X.xe s
theorem PW.pt{X:Cx}{e:Expr}{t:TT}(h:PW X e t):PT X e t:=h _
noncomputable def PAd(X:Cx)(es:List Expr)(t:TA):Prop:=
 ∀(pos:Pos) (pins:List (Addr×Obj)) (s:Shared) (σ:St) (H:Hp) (Q:List V->Hp->Prop),Inv X pins σ H s->t σ H Q->wpAny (model X.prog X.w) X.A (spliced (backTo pos (starEach es X.env))) (AP X pins σ Q) X.xe s
structure PA(X:Cx)(es:List Expr)(t:TA):Prop where
 run:PAd X es t
noncomputable instance {X:Cx} {es:List Expr} {t:TA}:CoeFun (PA X es t) (fun _=>PAd X es t):=⟨PA.run⟩
noncomputable instance {X:Cx} {es:List Expr} {t:TA}:Coe (PA X es t) (PAd X es t):=⟨PA.run⟩
noncomputable def PSd(X:Cx)(st:Stmt)(t:TS):Prop:=
 ∀(pins:List (Addr×Obj)) (s:Shared) (σ:St) (H:Hp) (D:g9),Inv X pins σ H s->t D σ H->wpAny (model X.prog X.w) X.A (exec st X.env) (SP X pins D) X.xe s
structure PS(X:Cx)(st:Stmt)(t:TS):Prop where
 run:PSd X st t
noncomputable instance {X:Cx} {st:Stmt} {t:TS}:CoeFun (PS X st t) (fun _=>PSd X st t):=⟨PS.run⟩
noncomputable instance {X:Cx} {st:Stmt} {t:TS}:Coe (PS X st t) (PSd X st t):=⟨PS.run⟩
noncomputable def EQ(X:Cx)(st:List Stmt)(t:TS):Prop:=
 ∀(pins:List (Addr×Obj)) (s:Shared) (σ:St) (H:Hp) (D:g9),Inv X pins σ H s->t D σ H->wpAny (model X.prog X.w) X.A (execs st X.env) (SP X pins D) X.xe s
structure PSs(X:Cx)(st:List Stmt)(t:TS):Prop where
 run:EQ X st t
noncomputable instance {X:Cx} {st:List Stmt} {t:TS}:CoeFun (PSs X st t) (fun _=>EQ X st t):=⟨PSs.run⟩
noncomputable instance {X:Cx} {st:List Stmt} {t:TS}:Coe (PSs X st t) (EQ X st t):=⟨PSs.run⟩
theorem thn{α:Type}{t:Sem α}{Q Q':α->Shared->Prop}{M:Model}{A:Around}{E:Value->Shared->Prop}{s:Shared}(h:wpAny M A t Q E s)(hQ:∀a s,Q a s->Q' a s):wpAny M A t Q' E s:=wpAny_mono h hQ fun _ _ x=>x
section
variable{X:Cx}
noncomputable def B2(i:Nat):TE:=fun σ H Q=>∃v,σ[i]?=some (some v)/\Q v H
noncomputable def tC(v:V):TE:=fun _ H Q=>Q v H
theorem tm{i:Nat}{x:Str}{pos:Pos}(hN:X.N[i]?=some x)(hv:Vis X.env.scope x)(hd:(x == ("__debug__":Str))=false:=by decide)(hcd:(x == ("__classdict__":Str))=false:=by decide):PE X (.Name x pos) (B2 i):=.mk <| by
 intro pins s σ H Q I h;obtain⟨v,e,h⟩:=h;obtain⟨m,hn,hl⟩:=I.loc;obtain⟨u,r,l⟩:=hl i x v hN e hv;have fin:EP X pins σ Q u s:=⟨v,H,I,r,h⟩;rcases l with⟨hk,hm⟩|⟨hk,c,hc,hcell⟩
 ·exact wpAny_Name (wpAny_loadName_local I.ok.kind hk hn hm fin) hd
 ·rcases hk with hk|hk
  ·exact wpAny_Name (wpAny_loadName_cell I.ok.kind hk hc hcell fin) hd
  ·exact wpAny_Name (wpAny_loadName_free I.ok.kind hk hc hcell fin hcd) hd
theorem aj{i j pos}:PE X (.Constant (.int i) j pos) (tC (.int i)):=.mk <| fun _ _ _ H _ I h=>wpAny_Constant_int ⟨.int i,H,I.tok _,⟨_,rfl⟩,h⟩
theorem rl{b j pos}:PE X (.Constant (.bool b) j pos) (tC (.bl b)):=.mk <| fun _ _ _ H _ I h=>Constant_bool ⟨.bl b,H,I,rfl,h⟩
theorem cO{j pos}:PE X (.Constant .none j pos) (tC .non):=.mk <| fun _ _ _ H _ I h=>Constant_none ⟨.non,H,I,rfl,h⟩
theorem au{x j pos}:PE X (.Constant (.str x) j pos) (tC (.str x)):=.mk <| fun _ _ _ H _ I h=>Calls.Constant_str ⟨.str x,H,I.tok _,⟨_,rfl⟩,h⟩
noncomputable def Gl(X:Cx)(x:Str):Prop:=X.env.kindOf x=some .globalImplicit
theorem iu{E:Value->Shared->Prop}{pins:List (Addr×Obj)}{s:Shared}{σ:St}{H:Hp}{x:Str}{u:Value}{pos:Pos}{Q:Value->Shared->Prop}(I:Inv X pins σ H s)(hg:Gl X x)(hm:X.mg x=some u)(h:Q u s)(hd:(x == ("__debug__":Str))=false:=by decide):wpAny (model X.prog X.w) X.A (eval (.Name x pos) X.env) Q E s:=
 Calls.Name_function_global I.ok.kind hg (Calls.loadGlobal_global (by rw[I.ok.glob];exact I.mod.glob.keeps I.bk) hm h) hd
theorem mM{E:Value->Shared->Prop}{pins:List (Addr×Obj)}{s:Shared}{σ:St}{H:Hp}{x:Str}{u:Value}{pos:Pos}{Q:Value->Shared->Prop}(I:Inv X pins σ H s)(hg:Gl X x)(hm:X.mg x=none)(hv:bootBuiltins x=some u)(h:Q u s)(hn:x≠"__name__":=by decide)(hd:(x == ("__debug__":Str))=false:=by decide):wpAny (model X.prog X.w) X.A (eval (.Name x pos) X.env) Q E s:=by
 obtain⟨mb,h1,h2⟩:=I.mod.blt;exact Calls.Name_function_global I.ok.kind hg (Calls.loadGlobal_builtin (by rw[I.ok.glob];exact I.mod.glob.keeps I.bk) hm (by rw[I.ok.blt];exact h1.keeps I.bk) ((h2 x hn).trans hv) h) hd
theorem cW{x:Str}{v:V}{u:Value}{pos:Pos}(hg:Gl X x)(hm:X.mg x=some u)(r:a6 v u)(hd:(x == ("__debug__":Str))=false:=by decide):PE X (.Name x pos) (tC v):=.mk <|
 fun _ _ _ H _ I h=>iu I hg hm ⟨v,H,I,r,h⟩ hd
theorem p5{x:Str}{v:V}{u:Value}{pos:Pos}(hg:Gl X x)(hm:X.mg x=none)(hv:bootBuiltins x=some u)(r:a6 v u)(hn:x≠"__name__":=by decide)(hd:(x == ("__debug__":Str))=false:=by decide):PE X (.Name x pos) (tC v):=.mk <|
 fun _ _ _ H _ I h=>mM I hg hm hv ⟨v,H,I,r,h⟩ hn hd
variable{a b:Expr}{ta tb:TE}{pos:Pos}
variable{tA tB':TT}{bO:List Expr}
noncomputable def GX(t u:TT):TT:=fun σ H Q=>t σ H fun c H1=>if c=true then u σ H1 Q else Q false H1
noncomputable def tOr(t u:TT):TT:=fun σ H Q=>t σ H fun c H1=>if c=true then Q true H1 else u σ H1 Q
noncomputable def Gb(t:TT):TT:=fun σ H Q=>t σ H fun c H1=>Q (!c) H1
theorem ig(ha:PT X a tA):PW X (.BoolOp .And [a] pos) tA:=by
 intro wh pins s σ H Q I h;refine isTrue_and (thn (ha pins s σ H Q I h) fun c s1 e=>?_)
 cases c with
 |true=>exact isTrue_and_nil e
 |false=>exact e
theorem tG(ha:PT X a tA):PW X (.BoolOp .Or [a] pos) tA:=by
 intro wh pins s σ H Q I h;refine isTrue_or (thn (ha pins s σ H Q I h) fun c s1 e=>?_)
 cases c with
 |false=>exact isTrue_or_nil e
 |true=>exact e
theorem iU(ha:PT X a tA)(hb:PW X (.BoolOp .And (b::bO) pos) tB'):PW X (.BoolOp .And (a::b::bO) pos) (GX tA tB'):=by
 intro wh pins s σ H Q I h;refine isTrue_and (thn (ha pins s σ H _ I h) fun c s1 ⟨H1,I1,q1⟩=>?_)
 cases c with
 |true=>exact hb wh pins s1 σ H1 Q I1 q1
 |false=>exact⟨H1,I1,q1⟩
theorem A1(ha:PT X a tA)(hb:PW X (.BoolOp .Or (b::bO) pos) tB'):PW X (.BoolOp .Or (a::b::bO) pos) (tOr tA tB'):=by
 intro wh pins s σ H Q I h;refine isTrue_or (thn (ha pins s σ H _ I h) fun c s1 ⟨H1,I1,q1⟩=>?_)
 cases c with
 |true=>exact⟨H1,I1,q1⟩
 |false=>exact hb wh pins s1 σ H1 Q I1 q1
theorem tO(ha:PT X a tA):PT X (.UnaryOp .Not a pos) (Gb tA):=by
 intro pins s σ H Q I h;exact isTrue_not (ha pins s σ H (fun c H1=>Q (!c) H1) I h)
theorem Ea{op}{t:TE}(h:PE X a t):PE X (.BoolOp op [a] pos) t:=.mk <| fun pins s σ H Q I hw=>BoolOp_one (h pins s σ H Q I hw)
end
noncomputable def SqL(K:W.Frag)(H:Hp)(a:Addr)(xs:List V):Prop:=
 Rd H a (.lst xs) \/
  ∃(o:Obj)(its:Array Value)(n:Nat),K.lookup a=some o/\o.cls=.type "list"/\o.dict=none/\o.data=.seq its n/\its.size<=sizeLine/\aH xs its.toList
noncomputable def SqT(K:W.Frag)(H:Hp)(a:Addr)(xs:List V):Prop:=
 Rd H a (.tup xs) \/
  ∃(o:Obj)(its:Array Value)(n:Nat),K.lookup a=some o/\o.cls=.type "tuple"/\o.data=.seq its n/\its.size<=sizeLine/\aH xs its.toList
noncomputable def Ik:Value->Option V
 |.none=>some .non
 |.bool b=>some (.bl b)
 |.int i _=>some (.int i)
 |.str x _=>some (.str x)
 |.bytes b _=>some (.byt b)
 |.float b _=>some (.flt b)
 |.ref a=>some (.ref a)
 |.type n=>some (.ty n)
 |_=>none
theorem a6.abs{x:V}{u:Value}(r:a6 x u):Ik u=some x:=by
 cases x with
 |non=>cases r;rfl
 |bl _=>cases r;rfl
 |int _=>obtain⟨t,rfl⟩:=r;rfl
 |str _=>obtain⟨t,rfl⟩:=r;rfl
 |byt _=>obtain⟨t,rfl⟩:=r;rfl
 |flt _=>obtain⟨t,rfl⟩:=r;rfl
 |ref _=>cases r;rfl
 |ty _=>cases r;rfl
theorem a6.inj{x y:V}{u:Value}(r:a6 x u)(q:a6 y u):x=y:=Option.some.inj (r.abs.symm.trans q.abs)
theorem aH.inj:∀ {xs ys:List V} {us:List Value},aH xs us->aH ys us->xs=ys
 |_,_,_,.nil,.nil=>rfl
 |_,_,_,.cons r t,.cons r' t'=>by rw[r.inj r',aH.inj t t']
section
variable{X:Cx}{pins:List (Addr×Obj)}{σ:St}{H:Hp}{s:Shared}{a:Addr}{xs ys:List V}
theorem SqL.of{K:W.Frag}(h:H a=some (.lst xs)):SqL K H a xs:=.inl (.inl h)
theorem SqT.of{K:W.Frag}(h:H a=some (.tup xs)):SqT K H a xs:=.inl (.inl h)
theorem Inv.list(I:Inv X pins σ H s)(h:SqL X.K H a xs):∃its:List Value,aH xs its/\PlainL s.heap a its.toArray/\xs.length<=sizeLine:=by
 rcases h with h|⟨o,its,n,hk,hc,hd,hs,hz,r⟩
 ·obtain⟨z,its,n,r,e⟩:=h.ok I.hok
  exact⟨its,r,⟨_,n,e,rfl,rfl,rfl⟩,z⟩
 ·refine⟨its.toList,r,⟨o,n,I.kIn a o hk,hc,hd,by simpa using hs⟩,?_⟩
  have e:=r.length;simp only[Array.length_toList] at e;omega
theorem Inv.tuple(I:Inv X pins σ H s)(h:SqT X.K H a xs):∃its:List Value,aH xs its/\IsTup s.heap a its.toArray/\xs.length<=sizeLine:=by
 rcases h with h|⟨o,its,n,hk,hc,hs,hz,r⟩
 ·obtain⟨z,its,r,p⟩:=h.ok I.hok
  exact⟨its,r,p.1,z⟩
 ·refine⟨its.toList,r,⟨o,I.kIn a o hk,hc,n,by simpa using hs⟩,?_⟩
  have e:=r.length;simp only[Array.length_toList] at e;omega
theorem Inv.IQ(I:Inv X pins σ H s)(h:SqL X.K H a xs)(h':SqL X.K H a ys):xs=ys:=by
 obtain⟨its,r,⟨o,n,e,_,_,d⟩,_⟩:=I.list h;obtain⟨its',r',⟨o',n',e',_,_,d'⟩,_⟩:=I.list h';rw[e] at e';cases e';rw[d] at d';injection d' with d1 _;have:its=its':=by simpa using congrArg Array.toList d1
 subst this;exact r.inj r'
theorem Inv.IO(I:Inv X pins σ H s)(h:SqT X.K H a xs)(h':SqT X.K H a ys):xs=ys:=by
 obtain⟨its,r,⟨o,e,_,n,d⟩,_⟩:=I.tuple h;obtain⟨its',r',⟨o',e',_,n',d'⟩,_⟩:=I.tuple h';rw[e] at e';cases e';rw[d] at d';injection d' with d1 _;have:its=its':=by simpa using congrArg Array.toList d1
 subst this;exact r.inj r'
end
noncomputable abbrev Cx.wish(X:Cx)(E:Value->Shared->Prop):Cx:={ X with xe:=E }
noncomputable abbrev Cx.nox(X:Cx):Cx:=X.wish fun _ _=>False
theorem Cx.Ok.wish{X:Cx}(ok:X.Ok)(E:Value->Shared->Prop):(X.wish E).Ok:=
 ⟨ok.mod,ok.kind,ok.glob,ok.blt,ok.above,ok.inj,ok.has,ok.cab,ok.hd,ok.frames,ok.stk,ok.exf,ok.bs,ok.bsz,ok.noex,ok.exfs,ok.funs,ok.frf,ok.tt⟩
theorem Cx.Ok.unwish{X:Cx}{E:Value->Shared->Prop}(ok:(X.wish E).Ok):X.Ok:=
 ⟨ok.mod,ok.kind,ok.glob,ok.blt,ok.above,ok.inj,ok.has,ok.cab,ok.hd,ok.frames,ok.stk,ok.exf,ok.bs,ok.bsz,ok.noex,ok.exfs,ok.funs,ok.frf,ok.tt⟩
section
variable{X:Cx}{pins:List (Addr×Obj)}{σ:St}{H:Hp}{s:Shared}{E:Value->Shared->Prop}
theorem Inv.wish(I:Inv X pins σ H s)(E:Value->Shared->Prop):Inv (X.wish E) pins σ H s:=⟨I.ok.wish E,I.os,I.bare,I.base,I.loc,I.cell,I.free,I.freeC,I.pin,I.hok,I.len⟩
theorem Inv.unwish(I:Inv (X.wish E) pins σ H s):Inv X pins σ H s:=⟨I.ok.unwish,I.os,I.bare,I.base,I.loc,I.cell,I.free,I.freeC,I.pin,I.hok,I.len⟩
theorem SP.unwish{D:g9}{f:Flow}{s':Shared}(h:SP (X.wish E) pins D f s'):SP X pins D f s':=by
 cases f with
 |next=>obtain⟨σ',H',I,q⟩:=h;exact⟨σ',H',I.unwish,q⟩
 |brk=>obtain⟨σ',H',I,q⟩:=h;exact⟨σ',H',I.unwish,q⟩
 |cont=>obtain⟨σ',H',I,q⟩:=h;exact⟨σ',H',I.unwish,q⟩
 |ret u=>obtain⟨v,σ',H',I,r,q⟩:=h;exact⟨v,σ',H',I.unwish,r,q⟩
theorem PE.nox{e:Expr}{t:TE}(h:PE X.nox e t):PE X e t:=.mk <| fun pins s σ H Q I hw=>
 wpAny_mono (h pins s σ H Q (I.wish _) hw) (fun _ _ ⟨v,H',I',r,q⟩=>⟨v,H',I'.unwish,r,q⟩) fun _ _ z=>False.elim z
theorem PT.nox{e:Expr}{t:TT}(h:PT X.nox e t):PT X e t:=fun pins s σ H Q I hw=>
 wpAny_mono (h pins s σ H Q (I.wish _) hw) (fun _ _ ⟨H',I',q⟩=>⟨H',I'.unwish,q⟩) fun _ _ z=>False.elim z
theorem PSs.nox{st:List Stmt}{t:TS}(h:PSs X.nox st t):PSs X st t:=.mk <| fun pins s σ H D I hw=>
 wpAny_mono (h pins s σ H D (I.wish _) hw) (fun _ _ q=>q.unwish) fun _ _ z=>False.elim z
end
section
variable{X:Cx}{st:Stmt}{bO:List Stmt}{t u:TS}{e:Expr}{te:TE}{pos:Pos}
noncomputable def DU:TS:=fun D σ H=>D.nx σ H
noncomputable def Ej(t u:TS):TS:=fun D σ H=>t { D with nx:=u D } σ H
theorem aP:PSs X [] DU:=.mk <| fun _ _ σ H _ I h=>wpAny_execs_nil ⟨σ,H,I,h⟩
theorem ag(h1:PS X st t)(h2:PSs X bO u):PSs X (st::bO) (Ej t u):=.mk <| by
 intro pins s σ H D I h;refine wpAny_execs_cons (thn (h1 pins s σ H { D with nx:=u D } I h) fun f s1 q=>?_)
 cases f with
 |next=>
  obtain⟨σ',H',I',q⟩:=q;exact h2 pins s1 σ' H' D I' q
 |ret v=>exact q
 |brk=>exact q
 |cont=>exact q
theorem ak(h1:PS X st t):PSs X [st] t:=.mk <| by
 intro pins s σ H D I h;refine wpAny_execs_cons (thn (h1 pins s σ H D I h) fun f s1 q=>?_)
 cases f with
 |next=>exact wpAny_execs_nil q
 |ret v=>exact q
 |brk=>exact q
 |cont=>exact q
theorem Inv.quiet{pins:List (Addr×Obj)}{σ:St}{H:Hp}{s:Shared}(I:Inv X pins σ H s):interactive X.env=false:=by simp[interactive,I.ok.kind]
noncomputable def yc(te:TE):TS:=fun D σ H=>te σ H fun _ H1=>D.nx σ H1
theorem gw(he:PE X e te)(hs:swapsWith e none pos.line X.env=pure false:=by rfl):PS X (.Expr e pos) (yc te):=.mk <| by
 intro pins s σ H D I h;exact wpAny_Expr_any (thn (he pins s σ H _ I h) fun v s1 ⟨x,H1,I1,r1,q1⟩=>⟨σ,H1,I1,q1⟩) I.quiet hs
noncomputable def ER(te:TE):TS:=fun D σ H=>te σ H D.rt
theorem aL(he:PE X e te):PS X (.Return (some e) pos) (ER te):=.mk <| by
 intro pins s σ H D I h;exact wpAny_Return_some (thn (he pins s σ H _ I h) fun v s1 ⟨x,H1,I1,r1,q1⟩=>⟨x,σ,H1,I1,r1,q1⟩)
noncomputable def Ei(c:TT)(t u:TS):TS:=fun D σ H=>c σ H fun b H1=>if b=true then t D σ H1 else u D σ H1
theorem bw{c:Expr}{a b:List Stmt}{tc:TT}(hc:PT X c tc)(ha:PSs X a t)(hb:PSs X b u):PS X (.If c a b pos) (Ei tc t u):=.mk <| by
 intro pins s σ H D I h;refine wpAny_If (thn (hc pins s σ H _ I h) fun d s1 ⟨H1,I1,q1⟩=>?_)
 cases d with
 |true=>exact ha pins s1 σ H1 D I1 q1
 |false=>exact hb pins s1 σ H1 D I1 q1
end
noncomputable abbrev TG:=V->St->Hp->(St->Hp->Prop)->Prop
noncomputable abbrev TGs:=List V->St->Hp->(St->Hp->Prop)->Prop
noncomputable def PG(X:Cx)(target:Expr)(t:TG):Prop:=
 ∀(pins:List (Addr×Obj)) (s:Shared) (σ:St) (H:Hp) (v:V) (u:Value) (Q:St->Hp->Prop),Inv X pins σ H s->a6 v u->t v σ H Q ->
  wpAny (model X.prog X.w) X.A (assign target X.env u) (fun _ s'=>∃σ' H',Inv X pins σ' H' s'/\Q σ' H') X.xe s
noncomputable def PGs(X:Cx)(ts:List Expr)(t:TGs):Prop:=
 ∀(pins:List (Addr×Obj)) (s:Shared) (σ:St) (H:Hp) (vs:List V) (us:List Value) (Q:St->Hp->Prop),Inv X pins σ H s->aH vs us->t vs σ H Q ->
  wpAny (model X.prog X.w) X.A (assignInOrder ((assignEach ts X.env).map (·.2)) us) (fun _ s'=>∃σ' H',Inv X pins σ' H' s'/\Q σ' H') X.xe s
noncomputable abbrev E7:=V->V->V->Hp->(Hp->Prop)->Prop
noncomputable def GM(X:Cx)(t:E7):Prop:=
 ∀(pins:List (Addr×Obj)) (s:Shared) (σ:St) (H:Hp) (o i v:V) (ov iv u:Value) (Q:Hp->Prop),Inv X pins σ H s->a6 o ov->a6 i iv->a6 v u->t o i v H Q ->
  wpAny (model X.prog X.w) X.A (setItem ov iv u) (fun _ s'=>∃H',Inv X pins σ H' s'/\Q H') X.xe s
noncomputable abbrev TIp:=V->V->Hp->VK->Prop
noncomputable def PIp(X:Cx)(op:Operator)(t:TIp):Prop:=
 ∀(pins:List (Addr×Obj)) (s:Shared) (σ:St) (H:Hp) (x y:V) (v u:Value) (Q:VK),Inv X pins σ H s->a6 x v->a6 y u->t x y H Q ->
  wpAny (model X.prog X.w) X.A (inplaceOp op v u) (EP X pins σ Q) X.xe s
section
variable{X:Cx}{pos:Pos}
noncomputable def nN(i:Nat):TG:=fun v σ H Q=>Q (σ.set i (some v)) H
theorem bX{i:Nat}{x:Str}(hN:X.N.Nodup)(hi:X.N[i]?=some x)(hx:Loc X.env.scope x)(hf:X.fn x=true\/X.env.scope.names.lookup x=some .local:=by first|exact .inl rfl|exact .inr rfl|assumption):PG X (.Name x pos) (nN i):=by
 intro pins s σ H v u Q I r h;exact wpAny_assign_Name (g8 I hN hi hx r (fun s' I'=>⟨_,H,I',h⟩) hf)
noncomputable def G9:TGs:=fun vs σ H Q=>vs=[]/\Q σ H
noncomputable def CH(t:TG)(u:TGs):TGs:=fun vs σ H Q=>∃v r,vs=v::r/\t v σ H fun σ' H'=>u r σ' H' Q
theorem ph:PGs X [] G9:=by
 intro pins s σ H vs us Q I r h;obtain⟨e,h⟩:=h;subst e;cases r;exact assignInOrder_nil ⟨σ,H,I,h⟩
theorem fc{e:Expr}{es:List Expr}{t:TG}{u:TGs}(h1:PG X e t)(h2:PGs X es u)(hs:(assignEach (e::es) X.env).map (·.2)=assign e X.env::(assignEach es X.env).map (·.2):=by rfl):PGs X (e::es) (CH t u):=by
 intro pins s σ H vs us Q I r h;obtain⟨v,vr,e1,h⟩:=h;subst e1
 cases r with
 |cons r rr=>
  rw[hs];refine assignInOrder_cons (thn (h1 pins s σ H _ _ _ I r h) fun _ s1 ⟨σ1,H1,I1,q1⟩=>?_);exact h2 pins s1 σ1 H1 _ _ Q I1 rr q1
noncomputable def Fe(K:W.Frag)(n:Nat)(t:TGs):TG:=fun v σ H Q=>∃a xs,v=.ref a/\SqT K H a xs/\xs.length=n/\t xs σ H Q
theorem Eg{es:List Expr}{k:Nat}{t:TGs}{n:Nat}(hc:X.calm=true)(h:PGs X es t)(hn:(assignEach es X.env).length=n:=by rfl)(hst:(assignEach es X.env).findIdx? (·.1)=none:=by rfl):PG X (.Tuple es k pos) (Fe X.K n t):=by
 intro pins s σ H v u Q I r hw;obtain⟨a,xs,e1,hq,hl,hw⟩:=hw;subst e1;cases r;obtain⟨its,rv,ht,hz⟩:=I.tuple hq;refine assign_Tuple_tuple (I.ok.hd hc) ht (by simp[hn,←hl,rv.length]) hst fun h' hx=>?_
 have I1:Inv X pins σ H { s with heap:=h' }:=I.kept (t':=s.toks) fun b o e=>hx b o (Nat.ne_of_lt (Heap.lt_size e)) e;exact h pins _ σ H xs _ Q I1 (by simpa using rv) hw
noncomputable def GU(to ti:TE)(t:E7):TG:=fun v σ H Q=>to σ H fun o H1=>ti σ H1 fun i H2=>t o i v H2 fun H3=>Q σ H3
theorem uw{o i:Expr}{to ti:TE}{t:E7}(ho:PE X o to)(hi:PE X i ti)(hs:GM X t)
  (ha:∀v,assign (.Subscript o i pos) X.env v=(do
   let ov ← holding [v] (eval o X.env)
   let iv ← holding [v,ov] (eval i X.env)
   standAt pos
   holding [v,ov,iv] (setItem ov iv v)
   release [v,ov,iv] []):=by intro _;rfl):PG X (.Subscript o i pos) (GU to ti t):=by
 intro pins s σ H v u Q I r h;rw[ha];refine wpAny_bind (wpAny_holding (thn (ho pins s σ H _ I h) fun ov s1 ⟨x,H1,I1,r1,q1⟩=>?_));refine wpAny_bind (wpAny_holding (thn (hi pins s1 σ H1 _ I1 q1) fun iv s2 ⟨y,H2,I2,r2,q2⟩=>?_));refine wpAny_bind (wpAny_standAt (wpAny_bind (wpAny_holding (thn (hs pins s2 σ H2 x y v ov iv u _ I2 r1 r2 r q2) fun _ s3 ⟨H3,I3,q3⟩=>?_))));exact wpAny_release ⟨σ,H3,I3,q3⟩
noncomputable def sQ(te:TE)(g:TG):TS:=fun D σ H=>te σ H fun x H1=>g x σ H1 D.nx
theorem j5{tg e:Expr}{te:TE}{g:TG}(he:PE X e te)(hg:PG X tg g)(hs:swapsWithSole [tg] e pos.line X.env=pure false:=by rfl)(hw:swappedStores [tg] e X.env=pure none:=by rfl)(h1:(assignEach [tg] X.env).map (·.2)=[assign tg X.env]:=by rfl):PS X (.Assign [tg] e pos) (sQ te g):=.mk <| by
 intro pins s σ H D I h;refine wpAny_Assign_stores (thn (he pins s σ H _ I h) fun v s1 ⟨x,H1,I1,r1,q1⟩=>?_) hs hw;rw[h1];exact thn (hg pins s1 σ H1 x v _ I1 r1 q1) fun _ s2 q=>q
theorem az{i:Nat}{x:Str}{e:Expr}{te:TE}{pos':Pos}(hN:X.N.Nodup)(hi:X.N[i]?=some x)(hx:Loc X.env.scope x)(he:PE X e te)(hs:swapsWith e (some (.Name x pos')) pos.line X.env=pure false:=by rfl)(hf:X.fn x=true\/X.env.scope.names.lookup x=some .local:=by first|exact .inl rfl|exact .inr rfl|assumption):
  PS X (.Assign [.Name x pos'] e pos) (sQ te (nN i)):=.mk <| by
 intro pins s σ H D I h;refine wpAny_Assign_Name (thn (he pins s σ H _ I h) fun v s1 ⟨y,H1,I1,r1,q1⟩=>?_) hs;exact g8 I1 hN hi hx r1 (fun s2 I2=>⟨_,H1,I2,q1⟩) hf
noncomputable def F7(i:Nat)(te:TE)(ti:TIp):TS:=fun D σ H=>∃x,σ[i]?=some (some x)/\te σ H fun y H1=>ti x y H1 fun z H2=>D.nx (σ.set i (some z)) H2
theorem sL{i:Nat}{x:Str}{e:Expr}{te:TE}{op:Operator}{ti:TIp}{pos':Pos}(hN:X.N.Nodup)(hi:X.N[i]?=some x)(hx:Loc X.env.scope x)(he:PE X e te)(ho:PIp X op ti)(hf:X.fn x=true\/X.env.scope.names.lookup x=some .local:=by first|exact .inl rfl|exact .inr rfl|assumption):
  PS X (.AugAssign (.Name x pos') op e pos) (F7 i te ti):=.mk <| by
 intro pins s σ H D I h;obtain⟨v,e1,h⟩:=h;obtain⟨m,hn,hl⟩:=I.loc;have vis:Vis X.env.scope x:=by rcases hx with k|k;exact .inl k;exact .inr (.inl k)
 obtain⟨u,r,l⟩:=hl i x v hi e1 vis;refine wpAny_AugAssign_Name ?_
 have go:wpAny (model X.prog X.w) X.A (eval e X.env) (fun w s₂=>wpAny (model X.prog X.w) X.A (inplaceOp op u w) (fun r s₃=>wpAny (model X.prog X.w) X.A (storeName X.env x r) (fun _=>SP X pins D .next) X.xe s₃) X.xe s₂) X.xe s:=by
  refine thn (he pins s σ H _ I h) fun w s1 ⟨y,H1,I1,r1,q1⟩=>?_;refine thn (ho pins s1 σ H1 v y u w _ I1 r r1 q1) fun z s2 ⟨zv,H2,I2,r2,q2⟩=>?_;exact g8 I2 hN hi hx r2 (fun s3 I3=>⟨_,H2,I3,q2⟩) hf
 rcases l with⟨hk,hm⟩|⟨hk,c,hc,hcell⟩
 ·exact wpAny_loadName_local I.ok.kind hk hn hm go
 ·rcases hk with hk|hk
  ·exact wpAny_loadName_cell I.ok.kind hk hc hcell go
  ·rcases hx with k|k
   ·have:X.env.scope.names.lookup x=some .free:=hk
    rw[k] at this;cases this
   ·have:X.env.scope.names.lookup x=some .free:=hk
    rw[k] at this;cases this
end
section
variable{X:Cx}{pos:Pos}
noncomputable def tZ(c:TT)(tb:TS):TS:=fun D σ H=>∃W:Nat->St->Hp->Prop,(∃m,W m σ H)/\∀m σ H,W m σ H ->
 c σ H fun b H1=>if b=true then ∃N:St->Hp->Prop,(∀σ' H',N σ' H'->∃m',m'<m/\W m' σ' H')/\tb { D with nx:=N,ct:=N,bk:=D.nx } σ H1 else D.nx σ H1
theorem mz{c:Expr}{body:List Stmt}{tc:TT}{tb:TS}(hp:PassesOwn (model X.prog X.w) X.A X.env X.xe)(hc:PT X c tc)(hb:PSs X body tb):PS X (.While c body [] pos) (tZ tc tb):=.mk <| by
 intro pins s σ H D I h;obtain⟨W,⟨m0,w0⟩,turn⟩:=h;refine wpAny_While (codeAny_whileLoop (fun n s'=>∃σ' H',Inv X pins σ' H' s'/\W n σ' H') ?_ m0 ⟨σ,H,I,w0⟩);rintro n s1 ⟨σ1,H1,I1,w1⟩;refine wpAny_passesOwn hp (thn (hc pins s1 σ1 H1 _ I1 (turn n σ1 H1 w1)) fun b s2 ⟨H2,I2,q2⟩=>?_)
 cases b with
 |true=>
  obtain⟨N,hN,q2⟩:=q2;rw[if_pos rfl];refine wpAny_passesOwn hp (thn (hb pins s2 σ1 H2 _ I2 q2) fun f s3 q3=>?_)
  cases f with
  |next=>
   obtain⟨σ3,H3,I3,n3⟩:=q3;obtain⟨m',hm,w3⟩:=hN σ3 H3 n3;exact⟨m',hm,σ3,H3,I3,w3⟩
  |cont=>
   obtain⟨σ3,H3,I3,n3⟩:=q3;obtain⟨m',hm,w3⟩:=hN σ3 H3 n3;exact⟨m',hm,σ3,H3,I3,w3⟩
  |brk=>exact q3
  |ret v=>exact q3
 |false=>
  rw[if_neg Bool.false_ne_true];exact wpAny_execs_nil ⟨σ1,H2,I2,q2⟩
end
structure It where
 go:Nat->Hp->Prop
 yld:Nat->Hp->V->Hp->Prop
 stop:Nat->Hp->Prop
noncomputable def kg(X:Cx)(pins:List (Addr×Obj))(H:Hp)(b:Addr):Prop:=
 H b=none/\b≠X.env.locals/\b ∉ X.fs/\(b∈X.ex\/X.s₀.heap.objs.size<=b)/\(∀x c,X.env.cells.lookup x=some c->c≠b)/\∀p∈X.pn++pins,p.1≠b
theorem Inv.IS{X:Cx}{pins:List (Addr×Obj)}{σ:St}{H H':Hp}{s:Shared}{b:Addr}(I:Inv X pins σ H s)(hb:s.heap.objs.size<=b)(hn:H' b=none):kg X pins H' b:=by
 refine⟨hn,Nat.ne_of_gt (Nat.lt_of_lt_of_le I.lt hb),I.nofs hb,.inr (Nat.le_trans I.sz hb),fun x c e z=>?_,fun p hp z=>?_⟩
 ·obtain⟨v,q⟩:=I.cell x c e
  exact absurd (Nat.lt_of_lt_of_le q.lt (by rw[z];exact hb)) (Nat.lt_irrefl _)
 ·exact absurd (Nat.lt_of_lt_of_le (Heap.lt_size (I.pin p hp).1) (by rw[z];exact hb)) (Nat.lt_irrefl _)
structure yP(P:Program)(w:World)(K:W.Frag)(tg:Expr)(J:It)(fp:List Addr)(it:Addr)(tn:Nat->Heap->Prop):Prop where
 mem:it∈fp
 obj:∀i h,tn i h->∀b∈fp,∃o,h.get? b=some o/\∀v,o.data≠.cell v
 keep:∀i h h',tn i h->(∀b∈fp,∀o,h.get? b=some o->h'.get? b=some o)->tn i h'
 item:∀(X:Cx),X.prog=P->X.w=w->X.K=K->X.calm=true->∀(i:Nat) (pins:List (Addr×Obj)) (s:Shared) (σ:St) (H:Hp) (E:Value->Shared->Prop),Inv X pins σ H s->(∀b∈fp,kg X pins H b)->tn i s.heap->J.go i H ->
  wpAny (model P w) X.A (pyNext (.ref it)) (fun r s1=>∃u,r=some u /\
   wpAny (model P w) X.A (letOwnedTupleGo tg (.ref it) u) (fun _ s2=>∃x H',Inv X pins σ H' s2/\a6 x u/\J.yld i H x H'/\tn (i+1) s2.heap/\∀b∈fp,H' b=none) E s1) E s
 done:∀(X:Cx),X.prog=P->X.w=w->X.K=K->X.calm=true->∀(i:Nat) (pins:List (Addr×Obj)) (s:Shared) (σ:St) (H:Hp) (E:Value->Shared->Prop),Inv X pins σ H s->(∀b∈fp,kg X pins H b)->tn i s.heap->J.stop i H ->
  wpAny (model P w) X.A (pyNext (.ref it)) (fun r s1=>r=none/\Inv X pins σ H s1) E s
 self:∀(A:Around)(i:Nat)(s:Shared)(Q:Value->Shared->Prop)(E:Value->Shared->Prop),tn i s.heap->Q (.ref it) s->wpAny (model P w) A (pyIter (.ref it)) Q E s
noncomputable abbrev TI:=St->Hp->(It->Hp->Prop)->Prop
noncomputable def PIE(X:Cx)(pins:List (Addr×Obj))(σ:St)(tg:Expr)(R:It->Hp->Prop)(itv:Value)(s2:Shared):Prop:=
 ∃(it:Addr)(fp:List Addr)(tn:Nat->Heap->Prop)(J:It)(H':Hp),itv=.ref it/\Inv X pins σ H' s2/\yP X.prog X.w X.K tg J fp it tn/\tn 0 s2.heap/\(∀b∈fp,kg X pins H' b)/\R J H'
noncomputable def PI(X:Cx)(tg iter:Expr)(wi:TI):Prop:=
 ∀(pins:List (Addr×Obj)) (s:Shared) (σ:St) (H:Hp) (R:It->Hp->Prop),Inv X pins σ H s->wi σ H R ->
  wpAny (model X.prog X.w) X.A (eval iter X.env) (fun v s1=>wpAny (model X.prog X.w) X.A (pyIter v) (PIE X pins σ tg R) X.xe s1) X.xe s
theorem ym{M:Model}{A:Around}{E:Value->Shared->Prop}{s:Shared}{tg:Expr}{it:Addr}{u:Value}{o:Obj}{n:String}{vs:Array Value}{Q:Unit->Shared->Prop}(ho:s.heap.get? it=some o)(hc:o.cls=.type n)(hd:o.data=.fields vs)(hn:["enumerate","zip","dict_itemiterator","dict_reverseitemiterator","odict_iterator","itertools.zip_longest","itertools.pairwise"].contains n=false)(hQ:Q () s):wpAny M A (letOwnedTupleGo tg (.ref it) u) Q E s:=by
  unfold letOwnedTupleGo
  cases tg<;>first
    |exact wpAny_pure hQ
    | (cases u<;>first
        |exact wpAny_pure hQ
        | (refine wpAny_bind (wpAny_load ho ?_)
           rw[hc,hd];show wpAny M A (if (["enumerate","zip","dict_itemiterator","dict_reverseitemiterator","odict_iterator","itertools.zip_longest","itertools.pairwise"].contains n && vs[0]? == some (rawInt _))=true then _ else _) Q E s
           rw[if_neg (by intro h;rw[hn,Bool.false_and] at h;cases h)]
           exact wpAny_pure hQ))
noncomputable def Itl(K:W.Frag)(a:Addr):It:=
 ⟨fun i H=>∃xs x,SqL K H a xs/\xs[i]?=some x,fun i H x H'=>H'=H/\∀xs,SqL K H a xs->xs[i]?=some x,fun i H=>∃xs,SqL K H a xs/\xs.length<=i⟩
noncomputable def Itt(K:W.Frag)(a:Addr):It:=
 ⟨fun i H=>∃xs x,SqT K H a xs/\xs[i]?=some x,fun i H x H'=>H'=H/\∀xs,SqT K H a xs->xs[i]?=some x,fun i H=>∃xs,SqT K H a xs/\xs.length<=i⟩
noncomputable def Itr(lo:Int)(n:Nat):It:=⟨fun i _=>i<n,fun i H x H'=>H'=H/\x=.int (lo+i),fun i _=>n<=i⟩
theorem wI{P:Program}{w:World}{K:W.Frag}{tg:Expr}(a it:Addr):yP P w K tg (Itl K a) [it] it (fun i h=>h.IsListIter it a i) where
 mem:=by simp
 obj:=fun i h st b hb=>by
  have e:b=it:=by simpa using hb
  subst e;obtain⟨o,e,c,d⟩:=st;exact⟨o,e,fun v z=>by rw[d] at z;cases z⟩
 keep:=fun i h h' st k=>st.at fun o e=>k it (by simp) o e
 item:=by
  intro X hP hw hK hc i pins s σ H E I hf st hg;subst hP hw hK;obtain⟨xs,x,hq,hx⟩:=hg;obtain⟨its,rv,p,hz⟩:=I.list hq;obtain⟨u,hu,ru⟩:=rv.get hx;obtain⟨f0,f1,f2,f3,f4,f5⟩:=hf it (by simp)
  refine wpAny_pyNext_list_item st p.isList (x:=u) (by simpa using hu) fun h' st' sb=>?_
  have I1:Inv X pins σ H { s with heap:=h' }:=I.turned (t':=s.toks) (fun b o hb e=>(sb.2 b hb).trans e) f0 f1 f3 f4 f5;obtain⟨o,e,c,d⟩:=id st';exact⟨u,rfl,ym (s:={ s with heap:=h' }) e c d (by decide) ⟨x,H,I1,ru,⟨rfl,fun ys hy=>by rw[I.IQ hy hq];exact hx⟩,st',fun b hb=>(hf b hb).1⟩⟩
 done:=by
  intro X hP hw hK hc i pins s σ H E I hf st hg;subst hP hw hK;obtain⟨xs,hq,hx⟩:=hg;obtain⟨its,rv,p,hz⟩:=I.list hq;obtain⟨f0,f1,f2,f3,f4,f5⟩:=hf it (by simp)
  have hl:=rv.length;exact wpAny_pyNext_list_end (I.ok.hd hc) st p.isList (by simp;omega) fun h' eb=>⟨rfl,I.turned (t':=s.toks) (fun b o hb e=>eb b o hb e) f0 f1 f3 f4 f5⟩
 self:=fun _ _ _ _ _ st h=>wpAny_pyIter_listiter st h
theorem um{P:Program}{w:World}{K:W.Frag}{tg:Expr}(a it:Addr):yP P w K tg (Itt K a) [it] it (fun i h=>h.IsTupleIter it a i) where
 mem:=by simp
 obj:=fun i h st b hb=>by
  have e:b=it:=by simpa using hb
  subst e;obtain⟨o,e,c,d⟩:=st;exact⟨o,e,fun v z=>by rw[d] at z;cases z⟩
 keep:=fun i h h' st k=>st.at fun o e=>k it (by simp) o e
 item:=by
  intro X hP hw hK hc i pins s σ H E I hf st hg;subst hP hw hK;obtain⟨xs,x,hq,hx⟩:=hg;obtain⟨its,rv,p,hz⟩:=I.tuple hq;obtain⟨u,hu,ru⟩:=rv.get hx;obtain⟨f0,f1,f2,f3,f4,f5⟩:=hf it (by simp)
  refine wpAny_pyNext_tuple_item st (show s.heap.IsTuple a its.toArray from p) (x:=u) (by simpa using hu) fun h' st' sb=>?_
  have I1:Inv X pins σ H { s with heap:=h' }:=I.turned (t':=s.toks) (fun b o hb e=>(sb.2 b hb).trans e) f0 f1 f3 f4 f5;obtain⟨o,e,c,d⟩:=id st';exact⟨u,rfl,ym (s:={ s with heap:=h' }) e c d (by decide) ⟨x,H,I1,ru,⟨rfl,fun ys hy=>by rw[I.IO hy hq];exact hx⟩,st',fun b hb=>(hf b hb).1⟩⟩
 done:=by
  intro X hP hw hK hc i pins s σ H E I hf st hg;subst hP hw hK;obtain⟨xs,hq,hx⟩:=hg;obtain⟨its,rv,p,hz⟩:=I.tuple hq;obtain⟨f0,f1,f2,f3,f4,f5⟩:=hf it (by simp)
  have hl:=rv.length;exact wpAny_pyNext_tuple_end (I.ok.hd hc) st (show s.heap.IsTuple a its.toArray from p) (by simp;omega) fun h' eb=>⟨rfl,I.turned (t':=s.toks) (fun b o hb e=>eb b o hb e) f0 f1 f3 f4 f5⟩
 self:=fun _ _ _ _ _ st h=>wpAny_pyIter_tupleiter st h
theorem tL{P:Program}{w:World}{K:PySem.W.Frag}{tg:Expr}(it:Addr)(lo:Int)(n:Nat):yP P w K tg (Itr lo n) [it] it (fun i h=>IsRangeIter h it (lo+(i:Nat)*1) ((n:Int)-(i:Nat)) 1) where
 mem:=by simp
 obj:=fun i h st b hb=>by
  have e:b=it:=by simpa using hb
  subst e
  exact⟨_,st,fun v z=>by
   have z':Data.fields _=Data.cell v:=z
   cases z'⟩
 keep:=fun i h h' st k=>k it (by simp) _ st
 item:=by
  intro X hP hw hK hc i pins s σ H E I hf st hg;subst hP hw hK;obtain⟨f0,f1,f2,f3,f4,f5⟩:=hf it (by simp)
  have W:=Walks.range (prog:=X.prog) (w:=X.w) (I.ok.hd hc) it lo 1 n;refine W.item i s _ _ hg st fun v h' tk hv st' kk=>?_;obtain⟨t,rfl⟩:=hv;have I1:Inv X pins σ H { s with heap:=h',toks:=tk }:=I.turned (fun b o hb e=>kk b o (by simpa using hb) e) f0 f1 f3 f4 f5
  refine⟨_,rfl,ym (s:={ s with heap:=h',toks:=tk }) (n:="range_iterator") st' rfl rfl (by decide) ⟨.int (lo+i),H,I1,⟨t,?_⟩,⟨rfl,rfl⟩,st',fun b hb=>(hf b hb).1⟩⟩
  rw[Int.mul_one]
 done:=by
  intro X hP hw hK hc i pins s σ H E I hf st hg;subst hP hw hK;obtain⟨f0,f1,f2,f3,f4,f5⟩:=hf it (by simp)
  exact wpAny_pyNext_range_end (I.ok.hd hc) st (by have:n<=i:=hg;omega) fun h' eb=>⟨rfl,I.turned (t':=s.toks) (fun b o hb e=>eb b o hb e) f0 f1 f3 f4 f5⟩
 self:=fun _ _ _ _ _ st h=>wpAny_pyIter_rangeiter st h
section
variable{X:Cx}{tg:Expr}
theorem qY{pins:List (Addr×Obj)}{σ:St}{H:Hp}{s:Shared}{R:It->Hp->Prop}{E:Value->Shared->Prop}{lo hi:Int}{t u v:Tok}{tk:Nat}(I:Inv X pins σ H s)(h1:-(2^62)<=lo)(h2:lo<2^62)(h3:-(2^62)<=hi)(h4:hi<2^62)(q:R (Itr lo (hi-lo).toNat) H):wpAny (model X.prog X.w) X.A (pyIter (.ref s.heap.objs.size)) (PIE X pins σ tg R) E { s with heap:=s.heap.push { cls:=.type "range",data:=.fields #[.int lo t,.int hi u,.int 1 v] },toks:=tk }:=by
 refine wpAny_pyIter_range (IsRange.new ..) (small_one h1 h2 h3 h4) ?_;have I1:Inv X pins σ H { s with heap:=s.heap.push { cls:=.type "range",data:=.fields #[.int lo t,.int hi u,.int 1 v] },toks:=tk }:=I.kept fun b o e=>Heap.get?_push_of_some _ e
 refine⟨(s.heap.push { cls:=.type "range",data:=.fields #[.int lo t,.int hi u,.int 1 v] }).objs.size,[(s.heap.push { cls:=.type "range",data:=.fields #[.int lo t,.int hi u,.int 1 v] }).objs.size],_,_,H,rfl,
  I1.kept (t':=tk) fun b o e=>Heap.get?_push_of_some _ e,tL _ lo (hi-lo).toNat,?_,fun b hb=>?_,q⟩
 ·have e1:lo+((0:Nat):Int)*1=lo:=by simp
  have e2:(((hi-lo).toNat:Nat):Int)-((0:Nat):Int)=Builtin.Range.rangeSize lo hi 1:=by rw[rangeSize_one];split<;>omega
  show IsRangeIter _ _ (lo+((0:Nat):Int)*1) ((((hi-lo).toNat:Nat):Int)-((0:Nat):Int)) 1;rw[e1,e2];exact Heap.get?_push_size _ rfl
 ·have e:b=(s.heap.push { cls:=.type "range",data:=.fields #[.int lo t,.int hi u,.int 1 v] }).objs.size:=by simpa using hb
  subst e;exact I1.IS (Nat.le_refl _) (I1.hok.fresh (Nat.le_refl _))
noncomputable def Do(ta:TA):TI:=fun σ H R=>ta σ H fun vs H1=>∃j:Int,vs=[.int j]/\-(2^62)<=j/\j<2^62/\R (Itr 0 j.toNat) H1
noncomputable def DL(ta:TA):TI:=fun σ H R=>ta σ H fun vs H1=>∃i j:Int,vs=[.int i,.int j]/\(-(2^62)<=i/\i<2^62/\-(2^62)<=j/\j<2^62)/\R (Itr i (j-i).toNat) H1
theorem io{a:Expr}{ta:TA}{p pos:Pos}(hg:Gl X "range")(hm:X.mg "range"=none)(ha:PA X [a] ta)(hs:starEach [a] X.env=[(false,eval a X.env)]:=by rfl):PI X tg (.Call (.Name "range" p) [a] [] pos) (Do ta):=by
 intro pins s σ H R I h;refine Call_ (mM I hg hm boot_range (PyProof.Rows.callWith_type1 (thn (ha pos pins s σ H _ I h) fun us s1 ⟨vs,H1,I1,r1,q1⟩=>?_) hs rfl));obtain⟨j,e,q1,q2,q⟩:=q1;subst e
 cases r1 with
 |cons r rr=>
  cases rr;obtain⟨t,rfl⟩:=r;exact call_range_1 (qY I1 (by omega) (by omega) q1 q2 (by simpa using q))
theorem wW{a b:Expr}{ta:TA}{p pos:Pos}(hg:Gl X "range")(hm:X.mg "range"=none)(ha:PA X [a,b] ta)(hs:starEach [a,b] X.env=[(false,eval a X.env),(false,eval b X.env)]:=by rfl)(hs2:starEach [b] X.env=[(false,eval b X.env)]:=by rfl):
  PI X tg (.Call (.Name "range" p) [a,b] [] pos) (DL ta):=by
 intro pins s σ H R I h;refine Call_ (mM I hg hm boot_range (PyProof.Rows.callWith_type1 (thn (ha pos pins s σ H _ I h) fun us s1 ⟨vs,H1,I1,r1,q1⟩=>?_) (by rw[hs,hs2]) (by rw[hs2];rfl)))
 obtain⟨i,j,e,⟨q1,q2,q3,q4⟩,q⟩:=q1;subst e
 cases r1 with
 |cons r rr=>
  cases rr with
  |cons r' rr=>
   cases rr;obtain⟨t,rfl⟩:=r;obtain⟨t',rfl⟩:=r';exact call_range_2 (qY I1 q1 q2 q3 q4 q)
noncomputable def BV(wi:TI)(g:TG)(tb:TS):TS:=fun D σ H=>wi σ H fun J H1=>∃W:Nat->Nat->St->Hp->Prop,(∃m,W 0 m σ H1)/\∀i m σ H,W i m σ H ->
 (J.stop i H/\D.nx σ H)\/(J.go i H/\∃N:St->Hp->Prop,(∀σ' H',N σ' H'->∃m',m'<m/\W (i+1) m' σ' H')/\∀x H',J.yld i H x H'->g x σ H' fun σ2 H2=>tb { D with nx:=N,ct:=N,bk:=D.nx } σ2 H2)
noncomputable def lJ(fp:List Addr)(h:Heap):List (Addr×Obj):=fp.filterMap fun b=>(h.get? b).map fun o=>(b,o)
theorem gu{fp:List Addr}{h:Heap}{b:Addr}{o:Obj}(hb:b∈fp)(e:h.get? b=some o):(b,o)∈lJ fp h:=List.mem_filterMap.mpr ⟨b,hb,by rw[e];rfl⟩
theorem xt{fp:List Addr}{h:Heap}{p:Addr×Obj}(hp:p∈lJ fp h):p.1∈fp/\h.get? p.1=some p.2:=by
 obtain⟨b,hb,e⟩:=List.mem_filterMap.mp hp
 cases q:h.get? b with
 |none=>rw[q] at e;cases e
 |some o=>
  rw[q] at e;have e':(b,o)=p:=Option.some.inj e;subst e';exact⟨hb,q⟩
theorem Inv.pinned{pins:List (Addr×Obj)}{σ:St}{H:Hp}{s:Shared}{fp:List Addr}(I:Inv X pins σ H s)(hf:∀b∈fp,kg X pins H b)(ho:∀b∈fp,∃o,s.heap.get? b=some o/\∀v,o.data≠.cell v):Inv X (pins++lJ fp s.heap) σ H s:=
 I.IN fun p hp=>(List.mem_append.mp hp).elim (fun z=>I.pin p (List.mem_append_right _ z)) fun z=>by
  obtain⟨hb,e⟩:=xt z;obtain⟨f0,f1,f2,_⟩:=hf p.1 hb;obtain⟨o,e',d⟩:=ho p.1 hb;rw[e] at e';cases e';exact⟨e,f0,f1,f2,d⟩
theorem Inv.unpinned{pins pl:List (Addr×Obj)}{σ:St}{H:Hp}{s:Shared}(I:Inv X (pins++pl) σ H s):Inv X pins σ H s:=I.IN fun p hp=>I.pin p (List.mem_append_right _ (List.mem_append_left _ hp))
theorem je{iter:Expr}{body:List Stmt}{wi:TI}{g:TG}{tb:TS}{pos:Pos}(hp:PassesOwn (model X.prog X.w) X.A X.env X.xe)(hc:X.calm=true)(hi:PI X tg iter wi)(hg:PG X tg g)(hb:PSs X body tb)(hs:∀x,foldedSetIterable iter X.env x=pure x:=by intro _;rfl):PS X (.For tg iter body [] pos) (BV wi g tb):=.mk <| by
 intro pins s σ H D I h;refine wpAny_For (thn (hi pins s σ H _ I h) fun v s1 h1=>thn h1 fun itv s2 h2=>?_) hs;obtain⟨it,fp,tn,J,H2,e,I2,T,st2,f2,W,⟨m0,w0⟩,turn⟩:=h2;subst e;have stat:∀ {H':Hp},(∀b∈fp,H' b=none)->∀b∈fp,kg X pins H' b:=fun hn b hb=>⟨hn b hb,(f2 b hb).2⟩;refine codeAny_forLoop_any (fun n s'=>∃i σ' H',Inv X pins σ' H' s'/\tn i s'.heap/\(∀b∈fp,H' b=none)/\W i n σ' H') ?_ m0 ⟨0,σ,H2,I2,st2,fun b hb=>(f2 b hb).1,w0⟩
 rintro n s3 ⟨i,σ3,H3,I3,st3,fr3,w3⟩;rcases turn i n σ3 H3 w3 with⟨stop,qn⟩|⟨go,N,hN,step⟩
 ·refine wpAny_passesOwn hp (thn (T.done X rfl rfl rfl hc i pins s3 σ3 H3 X.xe I3 (stat fr3) st3 stop) fun r s4 ⟨hr,I4⟩=>?_)
  subst hr;exact wpAny_execs_nil ⟨σ3,H3,I4,qn⟩
 ·refine wpAny_passesOwn hp (thn (T.item X rfl rfl rfl hc i pins s3 σ3 H3 X.xe I3 (stat fr3) st3 go) fun r s4 ⟨u,hr,h4⟩=>?_)
  subst hr;refine wpAny_passesOwn hp (thn h4 fun _ s5 ⟨x,H5,I5,r5,y5,st5,fr5⟩=>?_);have I5':=I5.pinned (stat fr5) (T.obj _ _ st5);refine wpAny_passesOwn hp (thn (hg _ s5 σ3 H5 x u _ I5' r5 (step x H5 y5)) fun _ s6 ⟨σ6,H6,I6,q6⟩=>?_);refine wpAny_passesOwn hp (thn (hb _ s6 σ6 H6 _ I6 q6) fun f s7 q7=>?_)
  have again:∀ {σ7:St} {H7:Hp},Inv X (pins++lJ fp s5.heap) σ7 H7 s7->N σ7 H7->∃m,m<n/\∃i σ' H',Inv X pins σ' H' s7/\tn i s7.heap/\(∀b∈fp,H' b=none)/\W i m σ' H':=fun {σ7 H7} I7 n7=>by
   obtain⟨m',hm,w7⟩:=hN σ7 H7 n7;refine⟨m',hm,i+1,σ7,H7,I7.unpinned,T.keep _ _ _ st5 fun b hb o e=>(I7.pin (b,o) (List.mem_append_right _ (List.mem_append_right _ (gu hb e)))).1,fun b hb=>?_,w7⟩;obtain⟨o,e,d⟩:=T.obj _ _ st5 b hb;exact(I7.pin (b,o) (List.mem_append_right _ (List.mem_append_right _ (gu hb e)))).2.1
  cases f with
  |next=>obtain⟨σ7,H7,I7,n7⟩:=q7;exact again I7 n7
  |cont=>obtain⟨σ7,H7,I7,n7⟩:=q7;exact again I7 n7
  |brk=>obtain⟨σ7,H7,I7,q7⟩:=q7;exact⟨σ7,H7,I7.unpinned,q7⟩
  |ret v=>obtain⟨x7,σ7,H7,I7,r7,q7⟩:=q7;exact⟨x7,σ7,H7,I7.unpinned,r7,q7⟩
end
noncomputable abbrev R2:=V->V->Hp->VK->Prop
noncomputable def OpR(X:Cx)(f:Value->Value->Sem Value)(r:R2):Prop:=
 ∀(pins:List (Addr×Obj)) (s:Shared) (σ:St) (H:Hp) (x y:V) (v u:Value) (Q:VK),Inv X pins σ H s->a6 x v->a6 y u->r x y H Q ->
  wpAny (model X.prog X.w) X.A (f v u) (EP X pins σ Q) X.xe s
noncomputable def UnR(X:Cx)(f:Value->Sem Value)(r:V->Hp->VK->Prop):Prop:=
 ∀(pins:List (Addr×Obj)) (s:Shared) (σ:St) (H:Hp) (x:V) (v:Value) (Q:VK),Inv X pins σ H s->a6 x v->r x H Q ->
  wpAny (model X.prog X.w) X.A (f v) (EP X pins σ Q) X.xe s
noncomputable def eh(X:Cx)(f:Value)(r:List V->Hp->VK->Prop):Prop:=
 ∀(pins:List (Addr×Obj)) (s:Shared) (σ:St) (H:Hp) (xs:List V) (us:List Value) (Q:VK),Inv X pins σ H s->aH xs us->r xs H Q ->
  wpAny (model X.prog X.w) X.A (call f us) (EP X pins σ Q) X.xe s
noncomputable def HQ(X:Cx)(r:V->Hp->(Bool->Hp->Prop)->Prop):Prop:=
 ∀(pins:List (Addr×Obj)) (s:Shared) (σ:St) (H:Hp) (x:V) (v:Value) (Q:Bool->Hp->Prop),Inv X pins σ H s->a6 x v->r x H Q ->
  wpAny (model X.prog X.w) X.A (truthy v) (TP X pins σ Q) X.xe s
noncomputable def tOp(r:R2)(ta tb:TE):TE:=fun σ H Q=>ta σ H fun x H1=>tb σ H1 fun y H2=>r x y H2 Q
noncomputable def tUn(r:V->Hp->VK->Prop)(ta:TE):TE:=fun σ H Q=>ta σ H fun x H1=>r x H1 Q
noncomputable def rI(C:Int->Int->Prop)(g:Int->Int->V):R2:=fun x y H Q=>∃i j,x=.int i/\y=.int j/\C i j/\Q (g i j) H
noncomputable def rI0(g:Int->Int->V):R2:=fun x y H Q=>∃i j,x=.int i/\y=.int j/\Q (g i j) H
noncomputable def rU(g:Int->V):V->Hp->VK->Prop:=fun x H Q=>∃i,x=.int i/\Q (g i) H
section
variable{X:Cx}{a b c:Expr}{ta tb tc:TE}{pos:Pos}
theorem E2(ha:PE X a ta)(hb:PE X b tb){pins:List (Addr×Obj)}{s:Shared}{σ:St}{H:Hp}{R:V->V->Hp->Prop}(I:Inv X pins σ H s)(h:ta σ H fun x H1=>tb σ H1 fun y H2=>R x y H2){Q:Value->Shared->Prop}{f:Value->Value->Sem Value}(hf:∀v u s2 x y H2,Inv X pins σ H2 s2->a6 x v->a6 y u->R x y H2->wpAny (model X.prog X.w) X.A (f v u) Q X.xe s2):
  wpAny (model X.prog X.w) X.A (eval a X.env) (fun v s₁=>wpAny (model X.prog X.w) X.A (eval b X.env) (fun u s₂=>wpAny (model X.prog X.w) X.A (f v u) Q X.xe s₂) X.xe s₁) X.xe s:=by
 refine thn (ha pins s σ H _ I h) fun v s1 ⟨x,H1,I1,r1,q1⟩=>?_;refine thn (hb pins s1 σ H1 _ I1 q1) fun u s2 ⟨y,H2,I2,r2,q2⟩=>?_;exact hf v u s2 x y H2 I2 r1 r2 q2
theorem ay{op:Operator}{r:R2}(ho:OpR X (binaryOp op) r)(ha:PE X a ta)(hb:PE X b tb):PE X (.BinOp a op b pos) (tOp r ta tb):=.mk <| by
 intro pins s σ H Q I h;exact wpAny_BinOp (E2 ha hb I h fun v u s2 x y H2 I2 rx ry q=>ho pins s2 σ H2 x y v u Q I2 rx ry q)
theorem sD{op:UnaryOp}{r:V->Hp->VK->Prop}(ho:UnR X (unaryOp op) r)(ha:PE X a ta):PE X (.UnaryOp op a pos) (tUn r ta):=.mk <| by
 intro pins s σ H Q I h;exact UnaryOp_ (thn (ha pins s σ H _ I h) fun v s1 ⟨x,H1,I1,r1,q1⟩=>ho pins s1 σ H1 x v Q I1 r1 q1)
theorem opI{f:Value->Value->Sem Value}{C:Int->Int->Prop}{g:Int->Int->Int}(rule:∀(i j:Int)(t u:Tok)(s:Shared)(Q:Value->Shared->Prop)(E:Value->Shared->Prop),C i j->Q (.int (g i j) s.toks) { s with toks:=s.toks+1 }->wpAny (model X.prog X.w) X.A (f (.int i t) (.int j u)) Q E s):
  OpR X f (rI C fun i j=>.int (g i j)):=by
 intro pins s σ H x y v u Q I rx ry h;obtain⟨i,j,rfl,rfl,hc,q⟩:=h;obtain⟨t,rfl⟩:=rx;obtain⟨t',rfl⟩:=ry;exact rule i j t t' s _ _ hc ⟨.int (g i j),H,I.tok _,⟨_,rfl⟩,q⟩
theorem FK{f:Value->Value->Sem Value}{g:Int->Int->Int}(rule:∀(i j:Int)(t u:Tok)(s:Shared)(Q:Value->Shared->Prop)(E:Value->Shared->Prop),Q (.int (g i j) s.toks) { s with toks:=s.toks+1 }->wpAny (model X.prog X.w) X.A (f (.int i t) (.int j u)) Q E s):
  OpR X f (rI0 fun i j=>.int (g i j)):=by
 intro pins s σ H x y v u Q I rx ry h;obtain⟨i,j,rfl,rfl,q⟩:=h;obtain⟨t,rfl⟩:=rx;obtain⟨t',rfl⟩:=ry;exact rule i j t t' s _ _ ⟨.int (g i j),H,I.tok _,⟨_,rfl⟩,q⟩
theorem EU{f:Value->Value->Sem Value}{g:Int->Int->Bool}(rule:∀(i j:Int)(t u:Tok)(s:Shared)(Q:Value->Shared->Prop)(E:Value->Shared->Prop),Q (.bool (g i j)) s->wpAny (model X.prog X.w) X.A (f (.int i t) (.int j u)) Q E s):
  OpR X f (rI0 fun i j=>.bl (g i j)):=by
 intro pins s σ H x y v u Q I rx ry h;obtain⟨i,j,rfl,rfl,q⟩:=h;obtain⟨t,rfl⟩:=rx;obtain⟨t',rfl⟩:=ry;exact rule i j t t' s _ _ ⟨.bl (g i j),H,I,rfl,q⟩
noncomputable def Ie(i j:Int):Prop:=0<j/\j<1073741824
noncomputable def HU(i j:Int):Prop:=0<=j/\j<=1000000/\i.natAbs<2^64
noncomputable def m8(i j:Int):Prop:=(-(2^64)<i/\i<2^64)\/(-(2^64)<j/\j<2^64)
theorem m8.ok{i j:Int}(h:m8 i j):IntMulOk i j:=by
 rcases h with⟨h1,h2⟩|⟨h1,h2⟩
 ·exact .of_left (intBits_le_64 h1 h2)
 ·exact .of_right (intBits_le_64 h1 h2)
theorem bd:OpR X (binaryOp .Add) (rI0 fun i j=>.int (i+j)):=FK fun _ _ _ _ _ _ _ q=>add_int q
theorem lW:OpR X (binaryOp .Sub) (rI0 fun i j=>.int (i-j)):=FK fun _ _ _ _ _ _ _ q=>sub_int q
theorem ja:OpR X (binaryOp .Mult) (rI m8 fun i j=>.int (i*j)):=opI fun _ _ _ _ _ _ _ hc q=>mul_int q hc.ok
theorem pX:OpR X (binaryOp .FloorDiv) (rI Ie fun i j=>.int (i / j)):=opI fun i j _ _ _ _ _ hc q=>by
 have h1:(0:Int)<j:=hc.1;have h2:j<1073741824:=hc.2;exact floordiv_int (by omega) (by rw[Int.fdiv_eq_ediv_of_nonneg i (by omega)];exact q) (.inl (PyProof.noPylong_small (by omega)))
theorem gj:OpR X (binaryOp .Mod) (rI (fun _ j=>0<j) fun i j=>.int (i%j)):=opI fun i j _ _ _ _ _ hc q=>by
 have h1:(0:Int)<j:=hc;exact mod_int' (by omega) (by rw[Int.fmod_eq_emod_of_nonneg i (by omega)];exact q)
theorem E9:OpR X (binaryOp .Pow) (rI HU fun i j=>.int (i^j.toNat)):=opI fun _ _ _ _ _ _ _ hc q=>pow_int_small hc.1 hc.2.1 hc.2.2 q
theorem oZ:OpR X (inplaceOp .Add) (rI0 fun i j=>.int (i+j)):=FK fun _ _ _ _ _ _ _ q=>iadd_int q
theorem unI{f:Value->Sem Value}{g:Int->Int}(rule:∀(i:Int)(t:Tok)(s:Shared)(Q:Value->Shared->Prop)(E:Value->Shared->Prop),Q (.int (g i) s.toks) { s with toks:=s.toks+1 }->wpAny (model X.prog X.w) X.A (f (.int i t)) Q E s):
  UnR X f (rU fun i=>.int (g i)):=by
 intro pins s σ H x v Q I rx h;obtain⟨i,rfl,q⟩:=h;obtain⟨t,rfl⟩:=rx;exact rule i t s _ _ ⟨.int (g i),H,I.tok _,⟨_,rfl⟩,q⟩
theorem ma:UnR X (unaryOp .USub) (rU fun i=>.int (-i)):=unI fun _ _ _ _ _ q=>neg_int q
end
section
variable{X:Cx}{a b c:Expr}{ta tb tc:TE}{pos:Pos}
theorem Fo{pins:List (Addr×Obj)}{σ:St}{H:Hp}{s:Shared}{Q:VK}{k k':Bool}(I:Inv X pins σ H s)(q:Q (.bl k) H)(e:k=k'):EP X pins σ Q (.bool k') s:=by
 subst e;exact⟨.bl k,H,I,rfl,q⟩
theorem yY:OpR X (compareOp .Lt) (rI0 fun i j=>.bl (decide (i<j))):=EU fun _ _ _ _ _ _ _ q=>lt_int q
theorem xP:OpR X (compareOp .Gt) (rI0 fun i j=>.bl (decide (j<i))):=EU fun _ _ _ _ _ _ _ q=>gt_int q
theorem HI:OpR X (compareOp .GtE) (rI0 fun i j=>.bl (decide (j<=i))):=EU fun _ _ _ _ _ _ _ q=>ge_int q
theorem lE:OpR X (compareOp .Is) (fun x y H Q=>y=.non/\Q (.bl (decide (x=.non))) H):=by
 intro pins s σ H x y v u Q I rx ry h;obtain⟨rfl,q⟩:=h;cases ry;refine is_none_gen (Fo I q ?_)
 cases x<;>first
  |(cases rx;rfl)
  |(obtain⟨t,rfl⟩:=rx;rfl)
theorem aO(b:Expr){op:CmpOp}(h:op≠.In:=by decide)(h2:op≠.NotIn:=by decide):behindInMarks op b=false:=by
 have e1:(op == CmpOp.In)=false:=by cases op<;>first|rfl|exact absurd rfl h
 have e2:(op == CmpOp.NotIn)=false:=by cases op<;>first|rfl|exact absurd rfl h2
 cases b<;>simp[behindInMarks,e1,e2]
theorem iA{op:CmpOp}{r:R2}(ho:OpR X (compareOp op) r)(ha:PE X a ta)(hb:PE X b tb)(hm:behindInMarks op b=false):PE X (.Compare a [op] [b] pos) (tOp r ta tb):=.mk <| by
 intro pins s σ H Q I h;exact wpAny_Compare1 (E2 ha hb I h fun v u s2 x y H2 I2 rx ry q=>ho pins s2 σ H2 x y v u Q I2 rx ry q) hm
noncomputable def DM(t:TE):TT:=fun σ H Q=>t σ H fun x H'=>∃k,x=.bl k/\Q k H'
theorem aB{op:CmpOp}{r:R2}(ho:OpR X (compareOp op) r)(ha:PE X a ta)(hb:PE X b tb)(hm:behindInMarks op b=false):PT X (.Compare a [op] [b] pos) (DM (tOp r ta tb)):=by
 intro pins s σ H Q I h
 refine wpAny_isTrue_Compare1 (thn (ha pins s σ H _ I h) fun v s1 ⟨x,H1,I1,r1,q1⟩=>thn (hb pins s1 σ H1 _ I1 q1) fun u s2 ⟨y,H2,I2,r2,q2⟩=>
  thn (ho pins s2 σ H2 x y v u _ I2 r1 r2 q2) fun c s3 ⟨z,H3,I3,r3,k,e,q3⟩=>?_) hm
 subst e;cases r3;exact wpAny_truthy_bool ⟨H3,I3,q3⟩
noncomputable def t6(K:W.Frag)(x:V)(H:Hp)(k:Bool):Prop:=
 match x with
 |.non=>k=false
 |.bl b=>k=b
 |.int i=>k=(i != 0)
 |.str y=>y.length<=sizeLine/\k=((y.length:Int) != 0)
 |.byt y=>y.size<=sizeLine/\k=((y.size:Int) != 0)
 |.ref p=>(∃xs,SqL K H p xs/\k=!xs.isEmpty)\/(∃xs,SqT K H p xs/\k=!xs.isEmpty)\/∃kvs,H p=some (.dK kvs)/\k=!kvs.isEmpty
 |_=>False
theorem tI{κ:Type}{kvs:List (κ×V)}{vs:List (κ×Value)}(r:KV kvs vs):(!vs.isEmpty)=!kvs.isEmpty:=by
 cases r<;>rfl
theorem ml{xs:List V}{its:List Value}(r:aH xs its):(!its.toArray.isEmpty)=!xs.isEmpty:=by
 cases r<;>simp
theorem j0:(sizeLine:Nat)<2^63:=by rw[sizeLine_eq];decide
theorem yi:HQ X (fun x H Q=>∃k,t6 X.K x H k/\Q k H):=by
 intro pins s σ H x v Q I rx h;obtain⟨k,e,q⟩:=h;have hl:=j0;have hs:sizeLine=16777216:=sizeLine_eq
 cases x with
 |non=>
  cases rx;have e':k=false:=e;subst e';exact truthy_none ⟨H,I,q⟩
 |bl b=>
  cases rx;have e':k=b:=e;subst e';exact wpAny_truthy_bool ⟨H,I,q⟩
 |int i=>
  obtain⟨t,rfl⟩:=rx;have e':k=(i != 0):=e;subst e';exact PySem.P.truthy_int ⟨H,I,q⟩
 |str y=>
  obtain⟨t,rfl⟩:=rx;obtain⟨hy,e'⟩:y.length<=sizeLine/\k=((y.length:Int) != 0):=e;subst e';exact PySem.P.truthy_str (by omega) ⟨H,I.tok _,q⟩
 |byt y=>
  obtain⟨t,rfl⟩:=rx;obtain⟨hy,e'⟩:y.size<=sizeLine/\k=((y.size:Int) != 0):=e;subst e';exact W.truthy_bytes (by omega) ⟨H,I.tok _,q⟩
 |ref p=>
  cases rx;have e':(∃xs,SqL X.K H p xs/\k=!xs.isEmpty)\/(∃xs,SqT X.K H p xs/\k=!xs.isEmpty)\/∃kvs,H p=some (.dK kvs)/\k=!kvs.isEmpty:=e;rcases e' with⟨xs,hx,e'⟩|⟨xs,hx,e'⟩|⟨kvs,hx,e'⟩
  ·subst e'
   obtain⟨its,r,pl,hz⟩:=I.list hx;have hlen:=r.length;exact wpAny_truthy_list pl.isList (by simp only[List.size_toArray];omega) ⟨H,I.tok _,by rw[ml r];exact q⟩
  ·subst e'
   obtain⟨its,r,pl,hz⟩:=I.tuple hx;have hlen:=r.length;exact truthy_tuple pl (by simp only[List.size_toArray];omega) ⟨H,I.tok _,by rw[ml r];exact q⟩
  ·subst e'
   obtain⟨hz,hS,vs,r,m⟩:kvs.length<=sizeLine/\(p == sysModules)=false/\∃vs,KV kvs vs/\s.heap.DictOf (bn X.prog X.w) p vs:=I.hok p _ hx;have hlen:kvs.length=vs.length:=Paired.length r;exact wpAny_truthy_dict hS m (by omega) ⟨H,I.tok _,by rw[tI r];exact q⟩
 |_=>exact(show False from e).elim
theorem yU(ha:PE X a ta)(he:∀whole,isTrue a X.env whole=(do let v ← whole;standAt a.pos;holding [v] (truthy v))):
  PT X a (fun σ H Q=>ta σ H fun x H'=>∃k,t6 X.K x H' k/\Q k H'):=by
 intro pins s σ H Q I h;exact isTrue_plain (thn (ha pins s σ H _ I h) fun v s1 ⟨x,H1,I1,r1,q1⟩=>yi pins s1 σ H1 x v Q I1 r1 q1) (he _)
theorem aQ:OpR X (binaryOp .Add) (fun x y H Q=>∃i j,x=.str i/\y=.str j/\i.length+j.length<=sizeLine/\Q (.str (i++j)) H):=by
 intro pins s σ H x y v u Q I rx ry h;obtain⟨i,j,rfl,rfl,hz,q⟩:=h;obtain⟨t,rfl⟩:=rx;obtain⟨t',rfl⟩:=ry;exact add_str (fun t' tk=>⟨.str (i++j),H,I.tok _,⟨_,rfl⟩,q⟩) hz
theorem iQ{x:V}{us:List Value}(r:aH [x] us):∃u,us=[u]/\a6 x u:=by
 cases r with
 |cons r1 r2=>cases r2;exact⟨_,rfl,r1⟩
theorem FR{x y:V}{us:List Value}(r:aH [x,y] us):∃u w',us=[u,w']/\a6 x u/\a6 y w':=by
 cases r with
 |cons r1 r2=>
  cases r2 with
  |cons r3 r4=>cases r4;exact⟨_,_,rfl,r1,r3⟩
theorem my:eh X (.builtin "abs") (fun xs H Q=>∃i,xs=[.int i]/\Q (.int (if i<0 then -i else i)) H):=by
 intro pins s σ H xs us Q I r h;obtain⟨i,rfl,q⟩:=h;obtain⟨u,rfl,t,rfl⟩:=iQ r;exact call_abs_int fun u tk=>⟨.int (if i<0 then -i else i),H,I.tok _,⟨_,rfl⟩,q⟩
theorem iq:eh X (.type "int") (fun xs H Q=>(∃i,xs=[.int i]/\Q (.int i) H)\/∃k,xs=[.bl k]/\Q (.int (if k then 1 else 0)) H):=by
 intro pins s σ H xs us Q I r h;rcases h with⟨i,rfl,q⟩|⟨k,rfl,q⟩
 ·obtain⟨u,rfl,t,rfl⟩:=iQ r
  exact call_int_int ⟨.int i,H,I,⟨_,rfl⟩,q⟩
 ·obtain⟨u,rfl,r1⟩:=iQ r
  cases r1;exact call_int_bool ⟨.int (if k then 1 else 0),H,I.tok _,⟨_,rfl⟩,q⟩
theorem jv:eh X (.type "str") (fun xs H Q=>∃i,xs=[.int i]/\i.natAbs.log2<1920/\Q (.str (toString i)) H):=by
 intro pins s σ H xs us Q I r h;obtain⟨i,rfl,hz,q⟩:=h;obtain⟨u,rfl,t,rfl⟩:=iQ r;exact PySem.P.str_of_int hz ⟨.str _,H,I.tok _,⟨_,rfl⟩,q⟩
noncomputable def Cm(K:W.Frag)(x:V)(H:Hp)(n:Nat):Prop:=
 match x with
 |.str y=>y.length<=sizeLine/\n=y.length
 |.byt y=>y.size<=sizeLine/\n=y.size
 |.ref p=>(∃xs,SqL K H p xs/\n=xs.length)\/∃xs,SqT K H p xs/\n=xs.length
 |_=>False
theorem yl:eh X (.builtin "len") (fun xs H Q=>∃x n,xs=[x]/\Cm X.K x H n/\Q (.int n) H):=by
 intro pins s σ H xs us Q I r h;obtain⟨x,n,rfl,e,q⟩:=h;obtain⟨u,rfl,rx⟩:=iQ r;have hl:=j0;have hs:sizeLine=16777216:=sizeLine_eq
 cases x with
 |str y=>
  obtain⟨t,rfl⟩:=rx;obtain⟨hy,e'⟩:y.length<=sizeLine/\n=y.length:=e;subst e';exact len_str (by omega) ⟨.int _,H,I.tok _,⟨_,rfl⟩,q⟩
 |byt y=>
  obtain⟨t,rfl⟩:=rx;obtain⟨hy,e'⟩:y.size<=sizeLine/\n=y.size:=e;subst e';exact W.len_bytes (by omega) ⟨.int _,H,I.tok _,⟨_,rfl⟩,q⟩
 |ref p=>
  cases rx;have e':(∃xs,SqL X.K H p xs/\n=xs.length)\/∃xs,SqT X.K H p xs/\n=xs.length:=e;rcases e' with⟨xs,hx,e'⟩|⟨xs,hx,e'⟩
  ·subst e'
   obtain⟨its,r',pl,hz⟩:=I.list hx;have hlen:=r'.length;exact Calls.call_len_list pl.isList (by simp only[List.size_toArray];omega) ⟨.int xs.length,H,I.tok _,⟨_,by simp only[List.size_toArray];rw[hlen]⟩,q⟩
  ·subst e'
   obtain⟨its,r',pl,hz⟩:=I.tuple hx;have hlen:=r'.length;exact len_tuple pl (by simp only[List.size_toArray];omega) ⟨.int xs.length,H,I.tok _,⟨_,by simp only[List.size_toArray];rw[hlen]⟩,q⟩
 |_=>exact(show False from e).elim
end
structure EG(h:Heap)(x dx C:Addr)(mA:Str->Option Value):Prop where
 obj:h.get? x=some (W.instObj C dx)
 ns:h.Ns1 dx mA
 ne:dx≠x
theorem nA{h:Heap}{dx:Addr}{mA:Str->Option Value}(n:h.Ns1 dx mA):∃od,h.get? dx=some od/\∀name,W.lookIn name od=some (mA name):=by
 obtain⟨o,es,ep,ho,hd,hk,_,hm⟩:=n;refine⟨o,ho,fun name=>?_⟩;have e:=hm name;unfold nsFind findBy at e;rw[←Array.find?_toList] at e
 unfold W.lookIn;rw[hd];dsimp only;split
 ·rename_i y q
  rw[q] at e;exact congrArg some e
 ·rename_i q
  rw[q] at e
  have a:es.toList.any (·.refKey)=false:=by
   rw[List.any_eq_false];intro y hy;obtain⟨z,t,hkey⟩:=hk y (Array.mem_toList_iff.mp hy);simp[DictEntry.refKey,hkey]
  have a':¬ es.toList.any (·.refKey)=true:=by rw[a];exact Bool.false_ne_true
  rw[if_neg a'];exact congrArg some e
theorem EG.look{h:Heap}{x dx C:Addr}{mA:Str->Option Value}(I:EG h x dx C mA):∃od,W.InstAt h x (W.instObj C dx) C (some od)/\∀name,W.lookIn name od=some (mA name):=
 let ⟨od,ho,hl⟩:=nA I.ns
 ⟨od,⟨I.obj,rfl,rfl,ho⟩,hl⟩
section
variable{P:Program}{w:World}{H H':Hp}{h h':Heap}{a C dx:Addr}{fs fs':List (Str×V)}
theorem Co(hok:HOk P w H h)(e:H a=some (.ins C dx fs)):∃mA,EG h a dx C mA/\(∀f,B8 (fs.lookup f) (mA f))/\PySem.Within mA (fs.map (·.1))/\fs.length<=1000/\H dx=some (.own a):=by
 obtain⟨d,z,ne,ob,mA,n,r,q⟩:=(show cM P w H h a (.ins C dx fs) from hok a _ e)
 exact⟨mA,⟨ob,n,ne⟩,r,q,z,d⟩
end
structure Cls(K:W.Frag)(C:Addr):Prop where
 pg:W.plainGet K C Str.empty=true
 hd:W.hasDictIn K C=true
 po:W.plainOver K C=true
 sa:W.findIn K (.ref C) "__setattr__"=some (some (.builtin "object.__setattr__"))
theorem Cls.get{K:W.Frag}{C:Addr}(c:Cls K C)(f:Str):W.plainGet K C f=true:=c.pg
structure Con(K:W.Frag)(C:Addr)(f:Str)(v:V)(u:Value):Prop where
 at_:W.findIn K (.ref C) f=some (some u)
 rel:a6 v u
 get:W.specialIn K u "__get__"=some none
 cp:W.copiedNames.contains f=false
structure Iy(K:W.Frag)(C:Addr)(m:Str)(f:Addr):Prop where
 at_:W.findIn K (.ref C) m=some (some (.ref f))
 fn:W.isFn K (.ref f)=true
 kp:W.keepIn K (.ref f)=true
section
variable{X:Cx}{pins:List (Addr×Obj)}{σ:St}{H:Hp}{s:Shared}{a C dx:Addr}{fs:List (Str×V)}{f:Str}{v:V}{A:Around}{E:Value->Shared->Prop}
theorem Bh{prog:Program}{w:World}{env:Env}{e:Expr}{f:Str}{pos:Pos}{s:Shared}{Q:Value->Shared->Prop}(hb:attributeBase e f env (eval e env)=eval e env)(h:wpAny (model prog w) A (eval e env) (fun o s₁=>wpAny (model prog w) A (getAttr o f true) Q E s₁) E s):wpAny (model prog w) A (eval (.Attribute e f pos) env) Q E s:=
 Attribute_any_ h (by rw[arm_eval_Attribute,hb])
end
section
variable{X:Cx}{pins:List (Addr×Obj)}{σ:St}{H:Hp}{s:Shared}{A:Around}{E:Value->Shared->Prop}{Q:Value->Shared->Prop}{c:Value}{b:Bool}
inductive jY (K:PySem.W.Frag) (H:Hp):V->Value->Prop where
 |non:jY K H .non (.type "NoneType")
 |bl (x:Bool):jY K H (.bl x) (.type "bool")
 |int (i:Int):jY K H (.int i) (.type "int")
 |str (x:Str):jY K H (.str x) (.type "str")
 |flt (x:UInt64):jY K H (.flt x) (.type "float")
 |lst {a:Addr} {xs:List V} (e:H a=some (.lst xs)):jY K H (.ref a) (.type "list")
 |frz {a:Addr} {o:Obj} {xs:List V} (e:H a=some (.frz o (.lst xs))):jY K H (.ref a) (.type "list")
 |tup {a:Addr} {xs:List V} (e:H a=some (.tup xs)):jY K H (.ref a) (.type "tuple")
 |dK {a:Addr} {kvs:List (Key×V)} (e:H a=some (.dK kvs)):jY K H (.ref a) (.type "dict")
 |dT {a:Addr} {kvs:List (List Key×V)} (e:H a=some (.dT kvs)):jY K H (.ref a) (.type "dict")
 |ins {a C dx:Addr} {fs:List (Str×V)} (e:H a=some (.ins C dx fs)) (cl:Cls K C) (ha:PySem.W.findIn K (.ref C) "__class__"=some (some (.builtin "object.__class__")))
   (hn:PySem.W.specialIn K (.builtin "object.__class__") "__get__"=some (some (.builtin "getset_descriptor.__get__"))) (htk:PySem.W.takesIn K (.builtin "object.__class__")=some true)
   (hm:PySem.W.mroIn K C (.type "object")=some true):jY K H (.ref a) (.ref C)
theorem wP{x:V}{u t:Value}(I:Inv X pins σ H s)(rx:a6 x u)(ty:jY X.K H x t)(e:W.kitOne X.K t c=some b)(h:∀tk,Q (.bool b) { s with toks:=tk }):
  wpAny (model X.prog X.w) A (call (.builtin "isinstance") [u,c]) Q E s:=by
 cases ty with
 |non=>cases (show u=Value.none from rx);exact W.kia_one W.kitx_none I.kIn True.intro e (fun z=>nomatch z) h
 |bl y=>cases (show u=Value.bool y from rx);exact W.kia_one W.kitx_bool I.kIn True.intro e (fun z=>nomatch z) h
 |int i=>obtain⟨t,q⟩:=(show ∃t,u=Value.int i t from rx);cases q;exact W.kia_one W.kitx_int I.kIn True.intro e (fun z=>nomatch z) h
 |str y=>obtain⟨t,q⟩:=(show ∃t,u=Value.str y t from rx);cases q;exact W.kia_one W.kitx_str I.kIn True.intro e (fun z=>nomatch z) h
 |flt y=>obtain⟨t,q⟩:=(show ∃t,u=Value.float y t from rx);cases q;exact W.kia_one W.kitx_float I.kIn True.intro e (fun z=>nomatch z) h
 | @lst a xs ea=>
  cases (show u=Value.ref a from rx)
  obtain⟨_,_,n,_,h1⟩:=(show cM X.prog X.w H s.heap a (.lst xs) from I.hok a _ ea)
  exact W.kia_one W.kitx_list I.kIn ⟨_,h1,rfl⟩ e (fun z=>nomatch z) h
 | @frz a ob xs ea=>
  cases (show u=Value.ref a from rx)
  obtain⟨_,_,_,n,_,h1⟩:=(show cM X.prog X.w H s.heap a (.frz ob (.lst xs)) from I.hok a _ ea)
  exact W.kia_one W.kitx_list I.kIn ⟨_,h1,rfl⟩ e (fun z=>nomatch z) h
 | @tup a xs ea=>
  cases (show u=Value.ref a from rx)
  obtain⟨_,_,_,p⟩:=(show cM X.prog X.w H s.heap a (.tup xs) from I.hok a _ ea)
  obtain⟨o,h1,h2,_⟩:=p.1;exact W.kia_one W.kitx_tuple I.kIn ⟨o,h1,h2⟩ e (fun z=>nomatch z) h
 | @dK a kvs ea=>
  cases (show u=Value.ref a from rx)
  obtain⟨_,_,vs,_,p⟩:=(show cM X.prog X.w H s.heap a (.dK kvs) from I.hok a _ ea)
  obtain⟨o,es,ep,h1,h2,_⟩:=p;exact W.kia_one W.kitx_dict I.kIn ⟨o,h1,h2.1⟩ e (fun z=>nomatch z) h
 | @dT a kvs ea=>
  cases (show u=Value.ref a from rx)
  obtain⟨_,_,xs,_,o,es,ep,h1,h2,_⟩:=(show cM X.prog X.w H s.heap a (.dT kvs) from I.hok a _ ea)
  exact W.kia_one W.kitx_dict I.kIn ⟨o,h1,h2.1⟩ e (fun z=>nomatch z) h
 | @ins a C dx fs ea cl ha hn htk hm=>
  cases (show u=Value.ref a from rx)
  obtain⟨mA,O,_⟩:=Co I.hok ea;obtain⟨od,J,_⟩:=O.look;exact W.kia_one (W.kitx_own (cl.get _) cl.hd ha hn htk hm) I.kIn J e (fun z=>nomatch z) h
end
structure du(k:Nat)(A:Around):Prop where
 hd:A.handled=none
 dp:A.depth+3*k+5<recursionLimit
 un:A.units+16*k+200<cLine
 gd:A.guards=some []
theorem du.mono{j k:Nat}{A:Around}(r:du k A)(h:j<=k):du j A:=⟨r.hd,by have:=r.dp;omega,by have:=r.un;omega,r.gd⟩
theorem du.deeper{k:Nat}{A:Around}(r:du (k+1) A)(env:Env):du k (A.deeper env):=
 ⟨r.hd,by have:=r.dp;show A.depth+1+3*k+5<_;omega,by have:=r.un;show A.units+3+16*k+200<_;omega,r.gd⟩
theorem tz{A:Around}{C:Addr}{us:List Value}{kw:List (Str×Value)}:(A.under (.builtin "type.__call__" ⟨.ref C::us,kw⟩)).depth=A.depth+1:=by
 first|rfl|simp[Around.under,Code.weight,Code.isCreation,Code.isGuard,Code.isCaller,Code.frames,Code.isFrame,guardIds]
theorem du.depth{k:Nat}{A:Around}(r:du k A):A.depth<recursionLimit:=by have:=r.dp;omega
noncomputable def Bl:TA:=fun _ H Q=>Q [] H
noncomputable def jP(ta:TE)(tr:TA):TA:=fun σ H Q=>ta σ H fun x H1=>tr σ H1 fun xs H2=>Q (x::xs) H2
section
variable{X:Cx}{e:Expr}{es:List Expr}{te:TE}{t:TA}{pos:Pos}
theorem af:PA X [] Bl:=.mk <| fun _ _ _ _ H Q I h=>Calls.spliced_nil ⟨[],H,I,.nil,h⟩
theorem aa(ha:PE X e te)(hr:PA X es t)(hs:starEach (e::es) X.env=(false,eval e X.env)::starEach es X.env:=by rfl):PA X (e::es) (jP te t):=.mk <| by
 intro pos pins s σ H Q I h;rw[hs];show wpAny _ _ (spliced ((false,eval e X.env)::backTo pos (starEach es X.env))) _ _ s;refine Calls.spliced_cons (thn (ha pins s σ H _ I h) fun u s1 ⟨x,H1,I1,r1,q1⟩=>?_);exact thn (hr pos pins s1 σ H1 _ I1 q1) fun us s2 ⟨xs,H2,I2,r2,q2⟩=>⟨x::xs,H2,I2,.cons r1 r2,q2⟩
noncomputable def BL(t:TA):TE:=fun σ H Q=>t σ H fun xs H1=>xs.length<=sizeLine/\∀p,H1 p=none->Q (.ref p) (upd H1 p (.tup xs))
noncomputable def B6(t:TA):TE:=fun σ H Q=>t σ H fun xs H1=>xs.length<=sizeLine/\∀p,H1 p=none->Q (.ref p) (upd H1 p (.lst xs))
theorem a8{x1}(h:PA X es t):PE X (.Tuple es x1 pos) (BL t):=.mk <| by
 intro pins s σ H Q I hq;refine wpAny_Tuple_spliced (thn (h pos pins s σ H _ I hq) fun us s1 ⟨xs,H1,I1,r,z,q⟩=>⟨by rw[←r.length];exact z,?_⟩)
 have hf:H1 s1.heap.objs.size=none:=I1.hok.fresh (Nat.le_refl _);refine⟨.ref s1.heap.objs.size,upd H1 s1.heap.objs.size (.tup xs),I1.laid (t':=s1.toks) (fun b u e=>Heap.get?_push_of_some _ e) (Nat.le_refl _) ?_,rfl,q _ hf⟩;exact⟨z,us,r,⟨_,Heap.get?_push_size _ rfl,rfl,_,rfl⟩,_,Heap.get?_push_size _ rfl,rfl⟩
theorem bj(h:PA X es t):PE X (.List es pos) (B6 t):=.mk <| by
 intro pins s σ H Q I hq;refine wpAny_List_spliced (thn (h pos pins s σ H _ I hq) fun us s1 ⟨xs,H1,I1,r,z,q⟩=>⟨by rw[←r.length];exact z,?_⟩)
 have hf:H1 s1.heap.objs.size=none:=I1.hok.fresh (Nat.le_refl _);refine⟨.ref s1.heap.objs.size,upd H1 s1.heap.objs.size (.lst xs),I1.laid (t':=s1.toks) (fun b u e=>Heap.get?_push_of_some _ e) (Nat.le_refl _) ?_,rfl,q _ hf⟩;exact⟨z,us,0,r,Heap.get?_push_size _ rfl⟩
end
noncomputable abbrev Sp:=List V->Hp->VK->XK->Prop
noncomputable abbrev CXT:=List Env->Hp->Shared->XK->Value->Shared->Prop
structure rP(P:Program)(w:World)(K:W.Frag)(mg:Str->Option Value)(base:Heap)(A:Around)(outer:List Env)(s:Shared)(H:Hp):Prop where
 frames:A.frames=some outer
 mod:Mod K mg base
 bs:∀b o,base.get? b=some o->s.heap.get? b=some o/\H b=none
 bsz:base.objs.size<=s.heap.objs.size
 funs:s.heap.FunFrames base outer
 frf:∀b∈frs outer,H b=none
 tt:wU K H
 hok:HOk P w H s.heap
 bare:AllBare s.gens
noncomputable def CE(outer:List Env)(P:Program)(w:World)(H:Hp)(s:Shared)(Q:VK)(u:Value)(s':Shared):Prop:=
 ∃v H',s'.os=s.os/\AllBare s'.gens/\Un (frs outer) [] H H' s.heap s'.heap/\HOk P w H' s'.heap/\a6 v u/\Q v H'
noncomputable def CR(CX:CXT)(outer:List Env)(P:Program)(w:World)(H:Hp)(s:Shared)(Q:VK)(E:XK)(r:Result)(s':Shared):Prop:=
 match r with
 |.ok (.ret u)=>CE outer P w H s Q u s'
 |.ok _=>False
 |.error e=>CX outer H s E e s'
structure aV(P:Program)(w:World)(K:W.Frag)(mg:Str->Option Value)(base:Heap)(CX:CXT)(k:Nat)(f:Addr)(fd:FuncData)(ps:List Str)(sp:Sp):Prop where
 len:∀vs H Q E,sp vs H Q E->vs.length=ps.length
 run:∀(A:Around)(outer:List Env)(s:Shared)(H:Hp)(args:Args)(us:List Value)(vs:List V)(Q:VK)(E:XK),du k A->rP P w K mg base A outer s H->BindsTo s fd args (ps.zip us)->aH vs us->sp vs H Q E ->
  codeAny (model P w) A (.call (.ref f) args) (CR CX outer P w H s Q E) s
section
variable{X:Cx}{pins:List (Addr×Obj)}{σ:St}{H:Hp}{s s':Shared}
theorem Inv.env0(I:Inv X pins σ H s):rP X.prog X.w X.K X.mg X.base X.A X.stack s H:=
 ⟨I.ok.frames,I.ok.mod,I.bs,Nat.le_trans I.ok.bsz I.sz,I.stack,I.IJ,I.ok.tt.mono I.base.tbls,I.hok,I.bare⟩
theorem Inv.after{Q:VK}{u:Value}(I:Inv X pins σ H s)(h:CE X.stack X.prog X.w H s Q u s'):EP X pins σ Q u s':=by
 obtain⟨v,H',os,bare,un,hok,r,q⟩:=h;obtain⟨hh,g,d,t,os'⟩:=s';obtain rfl:os'=s.os:=os;exact⟨v,H',I.call (h':=hh) (g':=g) (d':=d) (t':=t) (ch:=[]) un hok bare (fun b z=>absurd z (by simp)),r,q⟩
end
noncomputable def sr(sp:Sp)(dvs:List V)(E:XK)(t:TA):TE:=fun σ H Q=>t σ H fun vs H1=>sp (vs++dvs) H1 Q E
noncomputable def bx(K:W.Frag)(fd:FuncData)(ps:List Str)(ds:List Value):Prop:=
 ∀(s:Shared)(us:List Value),K.In s.heap->(us++ds).length=ps.length->BindsTo s fd ⟨us,[]⟩ (ps.zip (us++ds))
theorem bx.all{K:W.Frag}{fd:FuncData}{ps:List Str}(h:∀us:List Value,us.length=ps.length->bindArgs fd ⟨us,[]⟩=pure (ps.zip us)):bx K fd ps []:=fun s us _ hl=>by
 rw[List.append_nil] at hl ⊢;exact .of_eq (h us hl)
noncomputable def o9(CX:CXT)(X:Cx)(E:XK):Prop:=∀(pins:List (Addr×Obj)) (σ:St) (H:Hp) (s:Shared) (e:Value) (s':Shared),Inv X pins σ H s->CX X.stack H s E e s'->X.xe e s'
section
variable{X:Cx}{CX:CXT}{k:Nat}{f C:Addr}{fd:FuncData}{ps:List Str}{sp:Sp}{dvs:List V}{ds:List Value}{E:XK}{x m:Str}{p pos apos:Pos}{e o:Expr}{es:List Expr}{ta:TE}{t:TA}
theorem FH{pins:List (Addr×Obj)}{σ:St}{H:Hp}{s:Shared}{Q:VK}{us:List Value}{vs:List V}(F:aV X.prog X.w X.K X.mg X.base CX k f fd ps sp)(hr:du k X.A)(hb:bx X.K fd ps ds)(hd:aH dvs ds)(hx:o9 CX X E)(I:Inv X pins σ H s)(r:aH vs us)(h:sp (vs++dvs) H Q E):wpAny (model X.prog X.w) X.A (call (.ref f) us) (EP X pins σ Q) X.xe s:=by
 have r2:aH (vs++dvs) (us++ds):=r.append hd;have hl:(us++ds).length=ps.length:=by rw[←r2.length];exact F.len _ _ _ _ h
 refine wpAny_call (codeAny_mono (F.run X.A X.stack s H ⟨us,[]⟩ (us++ds) (vs++dvs) Q E hr I.env0 (hb s us I.kIn hl) r2 h) fun r s' hq=>?_)
 cases r with
 |error e=>exact hx pins σ H s e s' I hq
 |ok fl=>
  cases fl with
  |ret u=>exact I.after hq
  |next=>exact False.elim hq
  |brk=>exact False.elim hq
  |cont=>exact False.elim hq
theorem ax(F:aV X.prog X.w X.K X.mg X.base CX k f fd ps sp)(hr:du k X.A)(hg:Gl X x)(hm:X.mg x=some (.ref f))(hk:W.keepIn X.K (.ref f)=true)(hb:bx X.K fd ps ds)(hd:aH dvs ds)(hx:o9 CX X E)(ha:PA X (e::es) t)(hdb:(x == ("__debug__":Str))=false:=by decide)(he:starEach (e::es) X.env=(false,eval e X.env)::starEach es X.env:=by rfl)(hpl:(backTo pos (starEach es X.env)).any (·.1)=false:=by rfl):
  PE X (.Call (.Name x p) (e::es) [] pos) (sr sp dvs E t):=.mk <| by
 intro pins s σ H Q I h;refine wpAny_Call_Name_kw (iu I hg hm ?_ hdb);refine W.callWith_K (h₀:=X.base) I.ok.mod.kin hk (thn (ha pos pins s σ H _ I h) fun us s1 ⟨vs,H1,I1,r,q⟩=>⟨I1.kIn,?_⟩) he hpl;exact FH F hr hb hd hx I1 r q
structure Mk(K:W.Frag)(C f:Addr):Prop where
 makes:W.makesIn K C=true
 init:W.findIn K (.ref C) "__init__"=some (some (.ref f))
 fn:W.isFn K (.ref f)=true
 kp:W.keepIn K (.ref C)=true
end
section
variable{X:Cx}{CX:CXT}{k:Nat}{f C:Addr}{fd:FuncData}{ps ks:List Str}{sp:Sp}{E:XK}{x m:Str}{p pos apos kpos:Pos}{e o:Expr}{es:List Expr}{kws:List Keyword}{te ta:TE}{t tk:TA}{nm:Option Str}
structure HP(K:W.Frag)(fd:FuncData)(ps ks:List Str)(g:List Value->List Value->List Value)(gV:List V->List V->List V):Prop where
 to:∀(s:Shared)(us ws:List Value),K.In s.heap->(g us ws).length=ps.length->BindsTo s fd ⟨us,ks.zip ws⟩ (ps.zip (g us ws))
 rel:∀ {vs:List V} {us:List Value} {zs:List V} {ws:List Value},aH vs us->aH zs ws->aH (gV vs zs) (g us ws)
variable{g:List Value->List Value->List Value}{gV:List V->List V->List V}
end
structure aN(N P:List Str)(sc:Scope):Prop where
 kind:sc.kind=.function
 co:sc.isCoroutine=false
 gen:sc.isGenerator=false
 nd:N.Nodup
 pre:N.take P.length=P
 par:∀x∈P,sc.names.lookup x=some .local\/sc.names.lookup x=some .cell
 nofree:∀y∈sc.names,y.2≠.free
theorem nS{kindOf:Str->Option NameKind}{x:Str}:∀ {binds:List (Str×Value)} {m:Str->Option Value},(∀v,(x,v) ∉ binds)->bindL kindOf binds m x=m x
 | [],_,_=>rfl
 |(n,v)::r,m,h=>by
  unfold bindL;rw[nS fun w hw=>h w (List.mem_cons_of_mem _ hw)];split
  ·have:x≠n:=by rintro rfl;exact h v List.mem_cons_self
   simp[this]
  ·rfl
theorem nD{kindOf:Str->Option NameKind}{x:Str}:∀ {binds:List (Str×Value)} {m:Str->Option Value},(∀v,(x,v) ∉ binds)->bindC kindOf binds m x=m x
 | [],_,_=>rfl
 |(n,v)::r,m,h=>by
  unfold bindC;rw[nD fun w hw=>h w (List.mem_cons_of_mem _ hw)];split
  ·rfl
  ·have:x≠n:=by rintro rfl;exact h v List.mem_cons_self
   simp[this]
theorem ix{kindOf:Str->Option NameKind}{x:Str}{v:Value}:∀ {P:List Str} {vs:List Value} {i:Nat} {m:Str->Option Value},P.Nodup->P[i]?=some x->vs[i]?=some v->kindOf x=some .local ->
  bindL kindOf (P.zip vs) m x=some v
 | [],_,_,_,_,h,_,_=>by simp at h
 |_::_,[],_,_,_,_,h,_=>by simp at h
 |p::P,w::vs,0,m,nd,h1,h2,hk=>by
  simp at h1 h2;subst h1;subst h2;show bindL kindOf ((p,w)::P.zip vs) m p=_;unfold bindL;rw[nS fun v hv=>(List.nodup_cons.mp nd).1 (List.of_mem_zip hv).1,if_pos hk];simp
 |p::P,w::vs,i+1,m,nd,h1,h2,hk=>by
  show bindL kindOf ((p,w)::P.zip vs) m x=_;unfold bindL;exact ix (i:=i) (List.nodup_cons.mp nd).2 (by simpa using h1) (by simpa using h2) hk
theorem nI{kindOf:Str->Option NameKind}{x:Str}{v:Value}:∀ {P:List Str} {vs:List Value} {i:Nat} {m:Str->Option Value},P.Nodup->P[i]?=some x->vs[i]?=some v->kindOf x≠some .local ->
  bindC kindOf (P.zip vs) m x=some v
 | [],_,_,_,_,h,_,_=>by simp at h
 |_::_,[],_,_,_,_,h,_=>by simp at h
 |p::P,w::vs,0,m,nd,h1,h2,hk=>by
  simp at h1 h2;subst h1;subst h2;show bindC kindOf ((p,w)::P.zip vs) m p=_;unfold bindC;rw[nD fun v hv=>(List.nodup_cons.mp nd).1 (List.of_mem_zip hv).1,if_neg hk];simp
 |p::P,w::vs,i+1,m,nd,h1,h2,hk=>by
  show bindC kindOf ((p,w)::P.zip vs) m x=_;unfold bindC;exact nI (i:=i) (List.nodup_cons.mp nd).2 (by simpa using h1) (by simpa using h2) hk
noncomputable def start(N:List Str)(vs:List V):St:=vs.map some++List.replicate (N.length-vs.length) none
noncomputable def fW(CX:CXT)(P:Program)(w:World)(K:W.Frag)(mg:Str->Option Value)(base:Heap)(N:List Str)(qual:Str)(scope:Scope)(f:Addr)(cd:Value)(A:Around)(outer:List Env)(s:Shared)(H:Hp)(E:XK):Cx where
 prog:=P
 w:=w
 K:=K
 mg:=mg
 base:=base
 A:=A.deeper (envOfC qual scope s.heap.objs.size f cd)
 N:=N
 s₀:=s
 H₀:=H
 env:=envOfC qual scope s.heap.objs.size f cd
 outer:=outer
 stack:=envOfC qual scope s.heap.objs.size f cd::outer
 ex:=[]
 calm:=true
 fn:=fun _=>true
 pn:=[]
 xe:=fun e s'=>wpAny (model P w) (A.deeper (envOfC qual scope s.heap.objs.size f cd)) (leaving (envOfC qual scope s.heap.objs.size f cd) e) (fun _ s''=>CX outer H s E e s'') (fun e' s''=>CX outer H s E e' s'') s'
theorem rX{sc:Scope}{n:Nat}{x:Str}(h:sc.names.lookup x=some .cell):∃c,(cellsFrom n sc.names []).lookup x=some c:=by
 have q:=W.cellsFrom_some sc.names n [] (.inl h);exact Option.isSome_iff_exists.mp q
theorem xv{CX:CXT}{P:Program}{w:World}{K:W.Frag}{mg:Str->Option Value}{base:Heap}{N ps:List Str}{qual:Str}{scope:Scope}{f:Addr}{cd:Value}{A:Around}{outer:List Env}{s s1:Shared}{H:Hp}{E:XK}{us:List Value}{vs:List V}(S:aN N ps scope)(hd:A.handled=none)(e0:rP P w K mg base A outer s H)(hl:vs.length=ps.length)(r:aH vs us)(x:InCallC s s.heap.objs.size (bindL (envOfC qual scope s.heap.objs.size f cd).kindOf (ps.zip us) fun _=>none) (cellsFrom (s.heap.objs.size+1) scope.names []) (bindC (envOfC qual scope s.heap.objs.size f cd).kindOf (ps.zip us) fun _=>none) s1):
  Inv (fW CX P w K mg base N qual scope f cd A outer s H E) [] (start N vs) H s1:=by
 have hpl:ps.length<=N.length:=by have:=congrArg List.length S.pre;rw[List.length_take] at this;omega
 obtain⟨h1,tk,rfl,hk⟩:=x.done;have noA:∀b:Addr,b ∉ (fW CX P w K mg base N qual scope f cd A outer s H E).ex:=fun b z=>absurd (show b∈([]:List Addr) from z) (by simp)
 refine⟨⟨e0.mod,S.kind,rfl,rfl,Nat.le_refl _,fun y z c h1 h2=>?_,fun y hy=>?_,fun y c _ h=>?_,fun _=>hd,Around.frames_deeper e0.frames,.inr ⟨rfl,rfl⟩,fun b z=>absurd z (noA b),e0.bs,e0.bsz,fun b _ _=>noA b,fun b z=>absurd z (noA b),e0.funs,e0.frf,e0.tt⟩,
  rfl,e0.bare,Un.kept hk,⟨_,x.toInCall.ns,fun i y v h1 h2 h3=>?_⟩,fun y c h=>⟨_,x.cell y c h⟩,e0.hok.fresh (Nat.le_refl _),fun y c h=>?_,fun p hp=>absurd (show p∈([]:List (Addr×Obj)) from hp) (by simp),e0.hok.kept hk,?_⟩
 ·exact name_of_addr x.apart (PySem.mem_of_lookup h1) (PySem.mem_of_lookup h2)
 ·have hy:scope.names.lookup y=some .cell\/scope.names.lookup y=some .free:=hy
  rcases hy with hy|hy
  ·exact rX hy
  ·exact absurd rfl (S.nofree _ (PySem.mem_of_lookup hy))
 ·exact Nat.le_of_lt (x.above y c (PySem.mem_of_lookup h))
 ·have hi:i<vs.length:=by
   unfold start at h2;by_cases hi:i<vs.length
   ·exact hi
   ·rw[List.getElem?_append_right (by simpa using hi)] at h2
    rw[List.getElem?_replicate] at h2;split at h2<;>cases h2
  have ha:vs[i]?=some v:=by
   unfold start at h2;rw[List.getElem?_append_left (by simpa using hi),List.getElem?_map] at h2
   cases e:vs[i]? with
   |none=>rw[e] at h2;cases h2
   |some a=>rw[e] at h2;cases h2;rfl
  obtain⟨u,hu,rv⟩:=r.get ha
  have hp:ps[i]?=some y:=by
   rw[←S.pre,List.getElem?_take_of_lt (by omega)];exact h1
  have ndP:ps.Nodup:=by rw[←S.pre];exact S.nd.sublist (List.take_sublist _ _)
  refine⟨u,rv,?_⟩;rcases S.par y (List.mem_of_getElem? hp) with k|k
  ·exact .inl ⟨k,ix ndP hp hu k⟩
  ·obtain⟨c,e⟩:=rX (n:=s.heap.objs.size+1) k
   refine .inr ⟨.inl k,c,e,?_⟩;have q:=x.cell y c e;rw[nI ndP hp hu (by show scope.names.lookup y≠_;rw[k];decide)] at q
   exact q
 ·exact e0.hok.fresh (Nat.le_of_lt (x.above y c (PySem.mem_of_lookup h)))
 ·unfold start
  show _=N.length;rw[List.length_append,List.length_map,List.length_replicate];omega
theorem zH{CX:CXT}{P:Program}{w:World}{K:W.Frag}{mg:Str->Option Value}{base:Heap}{k:Nat}{f:Addr}{name qual:Str}{params:Arguments}{body:List Stmt}{scope:Scope}{dV kV doc pm cdv ct oc:Value}{an od:Option Addr}{osl:Array (Option Value)}{N ps:List Str}{sp:Sp}(lk:K.lookup f=some ⟨oc,od,.func (W.fnOf name qual params body scope dV kV doc pm an cdv ct),osl⟩)(hcd:W.codeIn K cdv qual=true)(S:aN N ps scope)(len:∀vs H Q E,sp vs H Q E->vs.length=ps.length)
  (hbody:∀(A:Around)(outer:List Env)(s:Shared)(H:Hp)(vs:List V)(Q:VK)(E:XK),du k (A.deeper (envOfC qual scope s.heap.objs.size f cdv))->sp vs H Q E ->
   ∃t,PSs (fW CX P w K mg base N qual scope f cdv A outer s H E) body t/\t { nx:=fun _ H'=>Q .non H',rt:=Q } (start N vs) H) :
  aV P w K mg base CX (k+1) f (W.fnOf name qual params body scope dV kV doc pm an cdv ct) ps sp:=by
 refine⟨len,fun A outer s H args us vs Q E hr e0 hb r hsp=>?_⟩;have hl:=len _ _ _ _ hsp;have KX:K.In s.heap:=e0.mod.kin.keeps fun b o e=>(e0.bs b o e).1;have lim:s.heap.NoLimit:=e0.mod.nolimit.keeps fun b o e=>(e0.bs b o e).1
 have hkind:∀y∈ps.zip us,scope.names.lookup y.1=some .local\/(scope.names.lookup y.1=some .cell/\((cellsFrom (s.heap.objs.size+1) scope.names []).lookup y.1).isSome=true):=fun⟨n,v⟩ hy=>by
  rcases S.par n (List.of_mem_zip hy).1 with q|q
  ·exact .inl q
  ·exact .inr ⟨q,W.cellsFrom_some _ _ _ (.inl q)⟩
 refine codeAny_call_function hr.depth (KX _ _ lk) rfl S.co S.gen rfl (W.codeRec_of KX hcd) (hb _ _ _ _ ?_);refine wpAny_newFunctionEnv_cells S.kind hkind fun env he s1 x=>?_;subst he;refine⟨lim.keeps x.toInCall.keep,codeAny_func ?_⟩;obtain⟨t,ht,hq⟩:=hbody A outer s H vs Q E (hr.deeper _) hsp;have I:Inv (fW CX P w K mg base N qual scope f cdv A outer s H E) [] (start N vs) H s1:=xv S hr.hd e0 hl r x
 refine wpAny_mono (ht [] s1 (start N vs) H _ I hq) (fun fl s' hs=>?_) fun e s' hs=>hs
 have fin:∀ {σ':St} {H':Hp} {v:V} {u:Value},Inv (fW CX P w K mg base N qual scope f cdv A outer s H E) [] σ' H' s'->a6 v u->Q v H'->CE outer P w H s Q u s':=
  fun {σ' H' v u} J rv q=>⟨v,H',J.os,J.bare,J.base,J.hok,rv,q⟩
 cases fl with
 |ret u=>
  obtain⟨v,σ',H',J,rv,q⟩:=hs;exact fin J rv q
 |next=>
  obtain⟨σ',H',J,q⟩:=hs;exact fin (v:=V.non) (u:=Value.none) J rfl q
 |brk=>
  obtain⟨_,_,_,q⟩:=hs;exact False.elim q
 |cont=>
  obtain⟨_,_,_,q⟩:=hs;exact False.elim q
section
variable{X:Cx}{x:Str}{p pos:Pos}{e:Expr}{es:List Expr}{t:TA}{id T:String}{r:List V->Hp->VK->Prop}
noncomputable def tCB(r:List V->Hp->VK->Prop)(t:TA):TE:=fun σ H Q=>t σ H fun vs H1=>r vs H1 Q
theorem aG(hc:eh X (.builtin id) r)(hg:Gl X x)(hm:X.mg x=none)(hv:bootBuiltins x=some (.builtin id))(ha:PA X (e::es) t)(hn:x≠"__name__":=by decide)(hdb:(x == ("__debug__":Str))=false:=by decide)(he:starEach (e::es) X.env=(false,eval e X.env)::starEach es X.env:=by rfl)(hpl:(backTo pos (starEach es X.env)).any (·.1)=false:=by rfl):PE X (.Call (.Name x p) (e::es) [] pos) (tCB r t):=.mk <| by
 intro pins s σ H Q I h;refine wpAny_Call_Name_kw (mM I hg hm hv ?_ hn hdb);exact PyProof.Rows.callWith_builtin1 (thn (ha pos pins s σ H _ I h) fun us s1 ⟨vs,H1,I1,r1,q1⟩=>hc pins s1 σ H1 vs us Q I1 r1 q1) he hpl
theorem cE(hc:eh X (.type T) r)(hg:Gl X x)(hm:X.mg x=none)(hv:bootBuiltins x=some (.type T))(ha:PA X (e::es) t)(hn:x≠"__name__":=by decide)(hdb:(x == ("__debug__":Str))=false:=by decide)(he:starEach (e::es) X.env=(false,eval e X.env)::starEach es X.env:=by rfl)(hpl:(backTo pos (starEach es X.env)).any (·.1)=false:=by rfl):PE X (.Call (.Name x p) (e::es) [] pos) (tCB r t):=.mk <| by
 intro pins s σ H Q I h;refine wpAny_Call_Name_kw (mM I hg hm hv ?_ hn hdb);exact PyProof.Rows.callWith_type1 (thn (ha pos pins s σ H _ I h) fun us s1 ⟨vs,H1,I1,r1,q1⟩=>hc pins s1 σ H1 vs us Q I1 r1 q1) he hpl
end
end L2
namespace HT
open PySem PyProof.Rows
theorem z6(A:Around)(s:Shared)(a:Int)(t:Tok)(c:Int)(u:Tok):∃e,SeqAt.EqAt A s (.int a t) (.int c u) e/\(e=true↔a=c):=
 ⟨(a == c),SeqAt.EqAt.int_int a t c u,by simp⟩
section
open PySem.SeqAt
open PySem.AutoSeq1 (wpAny_loadPart')
open PySem.MeetsSeq PySem.MeetsSeq2 PySem.MeetsSeq3
end
section
variable{prog:Program}{w:World}{A:Around}{E:Value->Shared->Prop}{s:Shared}
theorem cat_tup{t b:Addr}{vs ws:List Value}{Q:Value->Shared->Prop}(ht:IsTup s.heap t vs.toArray)(hb:IsTup s.heap b ws.toArray)(hv:vs≠[])(h1:ws=[]->Q (.ref t) s)(h2:ws≠[]->Q (.ref s.heap.objs.size) { s with heap:=s.heap.push { cls:=.type "tuple",data:=.seq (vs++ws).toArray } })(hsz:vs.length+ws.length<=sizeLine):wpAny (model prog w) A (binaryOp .Add (.ref t) (.ref b)) Q E s:=by
 obtain⟨⟨cls,dd,data,sl⟩,ho,hc,n,hd⟩:=id ht;obtain⟨⟨cls2,dd2,data2,sl2⟩,ho2,hc2,n2,hd2⟩:=id hb;simp only at hc hd hc2 hd2;subst hc hd hc2 hd2;have e:vs.toArray++ws.toArray=(vs++ws).toArray:=by simp
 by_cases hw:ws=[]
 ·exact concat_meets ⟨_,ho,rfl⟩ ⟨_,ho2,rfl⟩ noFill_tuple_add seq_tuple_add PySem.F.slot_tuple_add PySem.F.entry_tuple_add (PySem.F.args_tuple_add_2 _ _)
   (tuple_addW1 t b vs.toArray ws.toArray n n2 dd dd2 sl sl2 (by simpa using hv) (by simp[hw])) ⟨ho,ho2,h1 hw⟩
 ·refine concat_meets ⟨_,ho,rfl⟩ ⟨_,ho2,rfl⟩ noFill_tuple_add seq_tuple_add PySem.F.slot_tuple_add PySem.F.entry_tuple_add (PySem.F.args_tuple_add_2 _ _)
   (tuple_addW2 t b vs.toArray ws.toArray n n2 dd dd2 sl sl2 (by simpa using hv) (by simpa using hw) (by rw[List.size_toArray,List.size_toArray];exact hsz)) ⟨ho,ho2,?_⟩
  rw[e];exact h2 hw
noncomputable def sIx(n d:Nat):Option Int->Nat
 |none=>d
 |some v=>if v<0 then (v+(n:Int)).toNat else min v.toNat n
theorem sIx_none(n d:Nat):sIx n d none=d:=rfl
theorem sIx_nat(n d k:Nat):sIx n d (some (k:Int))=min k n:=by
 show (if (k:Int)<0 then ((k:Int)+(n:Int)).toNat else min (k:Int).toNat n)=min k n
 rw[if_neg (by omega),Int.toNat_natCast]
theorem FD(n d:Nat)(hd:d<=n)(o:Option Int):sIx n d o<=n:=by
 cases o with
 |none=>exact hd
 |some v=>
  show (if v<0 then (v+(n:Int)).toNat else min v.toNat n)<=n
  by_cases hv:v<0
  ·rw[if_pos hv];omega
  ·rw[if_neg hv];exact Nat.min_le_right _ _
theorem jV(v:Int)(n d:Nat):(if v<0 then max (v+(n:Int)) 0 else min v (n:Int))=((sIx n d (some v):Nat):Int):=by
 show (if v<0 then max (v+(n:Int)) 0 else min v (n:Int))=(((if v<0 then (v+(n:Int)).toNat else min v.toNat n):Nat):Int)
 by_cases hv:v<0
 ·simp only[if_pos hv];omega
 ·simp only[if_neg hv];omega
theorem t8(lo hi:Option Int)(n:Nat):Builtin.Slice.sliceAdjust lo hi 1 (n:Int)=(((sIx n 0 lo:Nat):Int),((sIx n n hi:Nat):Int)):=by
 have h1:¬ ((1:Int)<0):=by omega
 unfold Builtin.Slice.sliceAdjust;simp only[h1,if_false];refine Prod.ext ?_ ?_
 ·cases lo with
  |none=>rfl
  |some v=>exact jV v n 0
 ·cases hi with
  |none=>rfl
  |some v=>exact jV v n n
theorem sM(i j:Nat):Builtin.Slice.slicePlaces (i:Int) (j:Int) 1=j-i:=by
 unfold Builtin.Slice.slicePlaces;have h1:(1:Int)>0:=by omega
 simp only[h1,if_true,Int.ediv_one];split<;>omega
theorem mK{v:Value}{o:Option Int}{Q:Option Int->Shared->Prop}(p:IsPart v o)(h:Q o s):wpAny (model prog w) A (Builtin.Slice.slicePartIndex v) Q E s:=by
 cases p with
 |none=>exact slicePart_none h
 |int i t=>exact slicePart_int h
theorem sliceApplied_gen{sl:Addr}{vl vu:Value}{lo hi:Option Int}{n:Nat}{Q:Int×Int×Nat->Shared->Prop}(hs:s.heap.IsSliceOf sl vl vu .none)(pl:IsPart vl lo)(pu:IsPart vu hi)(h:Q (((sIx n 0 lo:Nat):Int),1,sIx n n hi-sIx n 0 lo) s):wpAny (model prog w) A (Builtin.Slice.sliceApplied (.ref sl) (pure (n:Int))) Q E s:=by
 obtain⟨os,hos,hcs,hds⟩:=id hs;unfold Builtin.Slice.sliceApplied Builtin.Slice.sliceFields;refine wpAny_bind (wpAny_bind (wpAny_field hos hds (x:=vl) rfl (wpAny_bind (wpAny_field hos hds (x:=vu) rfl (wpAny_bind (wpAny_field hos hds (x:=.none) rfl (wpAny_pure ?_)))))));refine wpAny_bind (slicePart_none ?_);show wpAny _ _ (if ((1:Int) == 0)=true then _ else _) _ _ s
 rw[if_neg (by decide)]
 refine wpAny_bind (mK pl (wpAny_bind (mK pu (wpAny_bind (wpAny_pure ?_)))));show wpAny _ _ (match Builtin.Slice.sliceAdjust lo hi 1 (n:Int) with|(lo,hi)=>pure (lo,(1:Int),Builtin.Slice.slicePlaces lo hi 1)) _ _ s
 rw[t8 lo hi n];show wpAny _ _ (pure (((sIx n 0 lo:Nat):Int),(1:Int),Builtin.Slice.slicePlaces ((sIx n 0 lo:Nat):Int) ((sIx n n hi:Nat):Int) 1)) _ _ s;rw[sM];exact wpAny_pure h
theorem zC(xs:Array Value)(i k:Nat):((List.range k).filterMap fun(m:Nat)=>xs[((i:Int)+(m:Int)*1).toNat]?).toArray=((xs.toList.drop i).take k).toArray:=by
 have e:(fun(m:Nat)=>xs[((i:Int)+(m:Int)*1).toNat]?)=fun m=>xs[i+m]?:=by
  funext m
  have:((i:Int)+(m:Int)*1).toNat=i+m:=by omega
  rw[this]
 rw[e];have:=pick_run xs i k;rw[List.filterMap_map] at this;have e2:((fun x=>xs[x]?) ∘ fun x=>i+x)=fun m=>xs[i+m]?:=rfl;rw[e2] at this;rw[this]
theorem getItem_tuple_cut{t sl:Addr}{items:Array Value}{vl vu:Value}{lo hi:Option Int}{Q:Value->Shared->Prop}(ht:IsTup s.heap t items)(hs:s.heap.IsSliceOf sl vl vu .none)(pl:IsPart vl lo)(pu:IsPart vu hi)(hw:¬ (sIx items.size 0 lo=0/\sIx items.size items.size hi=items.size))(h:Q (.ref s.heap.objs.size) { s with heap:=s.heap.push { cls:=.type "tuple",data:=.seq ((items.toList.drop (sIx items.size 0 lo)).take (sIx items.size items.size hi-sIx items.size 0 lo)).toArray } })(hsz:items.size<=sizeLine):wpAny (model prog w) A (getItem (.ref t) (.ref sl)) Q E s:=by
 have htake:sizeOk (.seq ((items.toList.drop (sIx items.size 0 lo)).take (sIx items.size items.size hi-sIx items.size 0 lo)).toArray):=by
  show ((items.toList.drop (sIx items.size 0 lo)).take (sIx items.size items.size hi-sIx items.size 0 lo)).toArray.size<=sizeLine;rw[List.size_toArray,List.length_take,List.length_drop,Array.length_toList];omega
 have hj:sIx items.size items.size hi<=items.size:=FD _ _ (Nat.le_refl _) hi;obtain⟨os,hos,hcs,hds⟩:=id hs;have hTs:s.TypeIs (.ref sl) "slice":=⟨os,hos,hcs⟩;unfold getItem
 try with_reducible refine wpAny_holding ?_
 first|refine wpAny_bind (wpAny_pure ?_)|skip
 refine wpAny_bind (wpAny_sequenceKey ht.typeIs (by decide) ?_)
 refine wpAny_bind (wpAny_callSpecial?_slot (name:=Str.ofString "__getitem__") ht.typeIs PyProof.Rows.slot_tuple_getitem
  (wpAny_call_entry PyProof.Rows.slot_tuple_getitem ht.typeIs entry_tuple_getitem ?_ (args_tuple_getitem _ _)))
 show wpAny _ _ (Builtin.Tuple.tupleItemsOf (.ref t) >>= _) _ _ s;refine wpAny_bind (tupleItemsOf_ ht ?_);refine wpAny_bind (wpAny_typeOf hTs ?_);rw[if_pos (by decide)]
 refine wpAny_bind (sliceApplied_gen hs pl pu ?_)
 have hno:¬ ((((sIx items.size 0 lo:Nat):Int) == 0 && (1:Int) == 1 && (sIx items.size items.size hi-sIx items.size 0 lo) == items.size)=true):=by
  intro q;rw[Bool.and_eq_true,Bool.and_eq_true] at q;have q1:((sIx items.size 0 lo:Nat):Int)=0:=eq_of_beq q.1.1;have q2:sIx items.size items.size hi-sIx items.size 0 lo=items.size:=eq_of_beq q.2;exact hw ⟨by omega,by omega⟩
 show wpAny _ _ (if (((sIx items.size 0 lo:Nat):Int) == 0 && (1:Int) == 1 && (sIx items.size items.size hi-sIx items.size 0 lo) == items.size)=true then _ else _) _ _ s
 rw[if_neg hno,zC]
 first
  |exact wpAny_bind (m:=Builtin.Tuple.tupleExact _) (wpAny_newObj_type (wpAny_pure ⟨_,rfl,wpAny_pure h⟩) htake)
  |exact wpAny_bind (m:=Builtin.Tuple.tupleExact _) (wpAny_newObj_type (wpAny_bind (wpAny_pure (wpAny_pure ⟨_,rfl,wpAny_pure h⟩))) htake)
  |exact wpAny_bind (wpAny_bind (m:=Builtin.Tuple.tupleExact _) (wpAny_newObj_type (wpAny_pure (wpAny_pure ⟨_,rfl,wpAny_pure h⟩)) htake))
  |exact wpAny_bind (wpAny_bind (m:=Builtin.Tuple.tupleExact _) (wpAny_newObj_type (wpAny_pure ⟨_,rfl,wpAny_pure h⟩) htake))
end
end HT
namespace L2
open PySem PySem.Spec PyProof.Rows
noncomputable abbrev TO:=St->Hp->(Option Int->Hp->Prop)->Prop
noncomputable def PO(X:Cx)(e:Option Expr)(t:TO):Prop:=
 ∀(pins:List (Addr×Obj)) (s:Shared) (σ:St) (H:Hp) (Q:Option Int->Hp->Prop),Inv X pins σ H s->t σ H Q ->
  wpAny (model X.prog X.w) X.A (evalPart e X.env) (fun u s'=>∃o H',Inv X pins σ H' s'/\IsPart u o/\Q o H') X.xe s
noncomputable def wG:TO:=fun _ H Q=>Q none H
noncomputable def C6(t:TE):TO:=fun σ H Q=>t σ H fun x H1=>∃i,x=.int i/\Q (some i) H1
theorem lG{ns:List Int}:∀ {us:List Value},aH (ns.map V.int) us->IntsAre us ns:=by
 induction ns with
 |nil=>intro us r;rw[List.map_nil] at r;cases r;exact .nil
 |cons n ns ih=>
  intro us r;rw[List.map_cons] at r
  cases r with
  |cons r1 r2=>
   obtain⟨t,e⟩:=r1;subst e;exact .cons n t (ih r2)
section
variable{X:Cx}{e:Expr}{te:TE}{lo hi:Option Expr}{tl th:TO}{pos p2:Pos}
theorem bu:PO X none wG:=by
 intro pins s σ H Q I h;rw[evalPart_none];exact wpAny_pure ⟨none,H,I,.none,h⟩
theorem bb(h:PE X e te):PO X (some e) (C6 te):=by
 intro pins s σ H Q I hw;rw[evalPart_some];refine thn (h pins s σ H _ I hw) fun u s1 ⟨x,H1,I1,r1,q1⟩=>?_;obtain⟨i,rfl,q⟩:=q1;obtain⟨t,rfl⟩:=r1;exact⟨some i,H1,I1,.int i t,q⟩
noncomputable def SlR(X:Cx)(r:V->Option Int->Option Int->Hp->VK->Prop):Prop:=
 ∀(pins:List (Addr×Obj)) (s:Shared) (σ:St) (H:Hp) (x:V) (v vl vu:Value) (lo hi:Option Int) (sl:Addr) (Q:VK),Inv X pins σ H s->a6 x v->s.heap.IsSliceOf sl vl vu .none->IsPart vl lo->IsPart vu hi->r x lo hi H Q ->
  ∃T id,typeLookup (.type T) "__getitem__"=pure (some (.builtin id))/\s.TypeIs v T/\wpAny (model X.prog X.w) X.A (getItem v (.ref sl)) (EP X pins σ Q) X.xe s
theorem SlR.or{r r':V->Option Int->Option Int->Hp->VK->Prop}(h:SlR X r)(h':SlR X r'):SlR X (fun x lo hi H Q=>r x lo hi H Q\/r' x lo hi H Q):=by
 intro pins s σ H x v vl vu lo hi sl Q I rx hs pl pu q;rcases q with q|q
 ·exact h pins s σ H x v vl vu lo hi sl Q I rx hs pl pu q
 ·exact h' pins s σ H x v vl vu lo hi sl Q I rx hs pl pu q
noncomputable def tSl(r:V->Option Int->Option Int->Hp->VK->Prop)(te:TE)(tl th:TO):TE:=fun σ H Q=>te σ H fun x H1=>tl σ H1 fun l H2=>th σ H2 fun u H3=>r x l u H3 Q
theorem aW{r:V->Option Int->Option Int->Hp->VK->Prop}(hr:SlR X r)(he:PE X e te)(hl:PO X lo tl)(hu:PO X hi th):PE X (.Subscript e (.Slice lo hi none p2) pos) (tSl r te tl th):=.mk <| by
 intro pins s σ H Q I h;refine Subscript_ (thn (he pins s σ H _ I h) fun v s1 ⟨x,H1,I1,r1,q1⟩=>?_);refine wpAny_Slice (thn (hl pins s1 σ H1 _ I1 q1) fun vl s2 ⟨l,H2,I2,pl,q2⟩=>thn (hu pins s2 σ H2 _ I2 q2) fun vu s3 ⟨u,H3,I3,pu,q3⟩=>?_);rw[evalPart_none];refine wpAny_pure ?_;have I4:Inv X pins σ H3 { s3 with heap:=s3.heap.push { cls:=.type "slice",data:=.fields #[vl,vu,.none] } }:=I3.kept (t':=s3.toks) fun b ob q=>Heap.get?_push_of_some _ q
 obtain⟨T,id,hT,ht,hg⟩:=hr pins { s3 with heap:=s3.heap.push { cls:=.type "slice",data:=.fields #[vl,vu,.none] } } σ H3 x v vl vu l u s3.heap.objs.size Q I4 r1 (Heap.IsSliceOf.new ..) pl pu q3;show wpAny (model X.prog X.w) X.A (subscriptTail e (.Slice lo hi none p2) v (.ref s3.heap.objs.size)) (EP X pins σ Q) X.xe { s3 with heap:=s3.heap.push { cls:=.type "slice",data:=.fields #[vl,vu,.none] } };exact tail_any (ops:=[.ref s3.heap.objs.size,v]) ht hT hg (by with_unfolding_all rfl)
noncomputable def ka(xs:List V)(lo hi:Option Int):List V:=(xs.drop (HT.sIx xs.length 0 lo)).take (HT.sIx xs.length xs.length hi-HT.sIx xs.length 0 lo)
theorem kO(xs:List V)(lo hi:Option Int):(ka xs lo hi).length<=xs.length:=by
 unfold ka;rw[List.length_take,List.length_drop];omega
noncomputable def HS(K:W.Frag):V->Option Int->Option Int->Hp->VK->Prop:=fun x lo hi H Q=>∃a xs,x=.ref a/\SqT K H a xs /\
 ¬ (HT.sIx xs.length 0 lo=0/\HT.sIx xs.length xs.length hi=xs.length)/\∀p,H p=none->Q (.ref p) (upd H p (.tup (ka xs lo hi)))
theorem EO:SlR X (HS X.K):=by
 intro pins s σ H x v vl vu lo hi sl Q I rx hs pl pu h;obtain⟨a,xs,rfl,hx,hw,q⟩:=h;cases rx;obtain⟨its,r,ht,hz⟩:=I.tuple hx;have hlen:its.toArray.size=xs.length:=by rw[List.size_toArray];exact r.length.symm
 refine⟨"tuple",_,PyProof.Rows.slot_tuple_getitem.lookup,ht.typeIs,?_⟩;refine HT.getItem_tuple_cut ht hs pl pu (by rw[hlen];exact hw) ?_ (by rw[hlen];exact hz)
 rw[hlen];refine⟨.ref s.heap.objs.size,_,I.laid (t':=s.toks) (o:=.tup (ka xs lo hi)) (fun b ob q=>Heap.get?_push_of_some _ q) (Nat.le_refl _) ?_,rfl,q _ (I.hok.fresh (Nat.le_refl _))⟩;exact⟨Nat.le_trans (kO xs lo hi) hz,_,(r.drop (HT.sIx xs.length 0 lo)).take (HT.sIx xs.length xs.length hi-HT.sIx xs.length 0 lo),qm.new _ _⟩
noncomputable def Gm(K:W.Frag):R2:=fun x y H Q=>∃a b xs ys,x=.ref a/\y=.ref b/\SqT K H a xs/\SqT K H b ys/\xs≠[]/\xs.length+ys.length<=sizeLine /\
 (ys=[]->Q (.ref a) H)/\(ys≠[]->∀p,H p=none->Q (.ref p) (upd H p (.tup (xs++ys))))
theorem aH.IM{xs:List V}{us:List Value}(r:aH xs us):us=[]↔xs=[]:=by
 cases r with
 |nil=>simp
 |cons _ _=>simp
theorem BF:OpR X (binaryOp .Add) (Gm X.K):=by
 intro pins s σ H x y v u Q I rx ry h;obtain⟨a,b,xs,ys,rfl,rfl,ha,hb,hx,hz,q1,q2⟩:=h;cases rx;cases ry;obtain⟨its,r1,p1,_⟩:=I.tuple ha;obtain⟨its2,r2,p2,_⟩:=I.tuple hb;refine HT.cat_tup p1 p2 (fun z=>hx (r1.IM.mp z)) (fun z=>⟨.ref a,H,I,rfl,q1 (r2.IM.mp z)⟩) (fun z=>?_) (by rw[←r1.length,←r2.length];exact hz)
 refine⟨.ref s.heap.objs.size,_,I.laid (t':=s.toks) (o:=.tup (xs++ys)) (fun b ob q=>Heap.get?_push_of_some _ q) (Nat.le_refl _) ?_,rfl,q2 (fun w=>z (r2.IM.mpr w)) _ (I.hok.fresh (Nat.le_refl _))⟩;exact⟨by rw[List.length_append];exact hz,_,r1.append r2,qm.new _ _⟩
end
noncomputable def ixN(n:Nat)(i:Int):Option Nat:=if 0<=i then (if i<n then some i.toNat else none) else if -(n:Int)<=i then some (i+n).toNat else none
noncomputable def atI{α:Type}(xs:List α)(i:Int):Option α:=(ixN xs.length i).bind fun j=>xs[j]?
theorem u8{n:Nat}{i:Int}{j:Nat}(h:ixN n i=some j):seqIndex? i n=some j/\j<n/\-(n:Int)<=i/\i<n:=by
 unfold ixN at h;by_cases h0:0<=i
 ·rw[if_pos h0] at h
  by_cases h1:i<n
  ·rw[if_pos h1] at h
   have e:i.toNat=j:=Option.some.inj h;exact⟨by rw[seqIndex_of h0 h1,e],by omega,by omega,h1⟩
  ·rw[if_neg h1] at h;cases h
 ·rw[if_neg h0] at h
  by_cases h1:-(n:Int)<=i
  ·rw[if_pos h1] at h
   have e:(i+n).toNat=j:=Option.some.inj h;exact⟨by rw[seqIndex_neg (by omega) h1,e],by omega,h1,by omega⟩
  ·rw[if_neg h1] at h;cases h
theorem o6{α:Type}{xs:List α}{i:Int}{v:α}(h:atI xs i=some v):∃j,seqIndex? i xs.length=some j/\xs[j]?=some v/\j<xs.length/\-(xs.length:Int)<=i/\i<xs.length:=by
 unfold atI at h
 cases e:ixN xs.length i with
 |none=>rw[e] at h;cases h
 |some j=>
  rw[e] at h;obtain⟨h1,h2,h3,h4⟩:=u8 e;exact⟨j,h1,h,h2,h3,h4⟩
theorem pT{α:Type}{xs:List α}{j:Nat}{v:α}(h:xs[j]?=some v):atI xs (j:Int)=some v:=by
 have hj:j<xs.length:=(List.getElem?_eq_some_iff.mp h).1
 have e:ixN xs.length (j:Int)=some j:=by
  unfold ixN;rw[if_pos (by omega),if_pos (by omega)];simp
 unfold atI;rw[e];exact h
noncomputable def Cl(b:Expr):Prop:=∀o i,subscripted b false o i=operate [o,i] (getItem o i)
noncomputable def IxR(X:Cx)(r:R2):Prop:=
 ∀(value slice:Expr) (pins:List (Addr×Obj)) (s:Shared) (σ:St) (H:Hp) (x y:V) (v u:Value) (Q:VK),Inv X pins σ H s->a6 x v->a6 y u->r x y H Q ->
  subscripted slice false v u=operate [v,u] (getItem v u)->wpAny (model X.prog X.w) X.A (subscriptTail value slice v u) (EP X pins σ Q) X.xe s
noncomputable def MtR(X:Cx)(id:String)(r:V->List V->Hp->VK->Prop):Prop:=
 ∀(pins:List (Addr×Obj)) (s:Shared) (σ:St) (H:Hp) (x:V) (xs:List V) (v:Value) (us:List Value) (Q:VK),Inv X pins σ H s->a6 x v->aH xs us->r x xs H Q ->
  wpAny (model X.prog X.w) X.A (call (.builtin id) (v::us)) (EP X pins σ Q) X.xe s
section
variable{X:Cx}{a b:Expr}{ta tb:TE}{pos:Pos}
theorem IxR.or{r r':R2}(h:IxR X r)(h':IxR X r'):IxR X (fun x y H Q=>r x y H Q\/r' x y H Q):=by
 intro value slice pins s σ H x y v u Q I rx ry q hs;rcases q with q|q
 ·exact h value slice pins s σ H x y v u Q I rx ry q hs
 ·exact h' value slice pins s σ H x y v u Q I rx ry q hs
theorem cc{r:R2}(hr:IxR X r)(ha:PE X a ta)(hb:PE X b tb)(hs:Cl b):PE X (.Subscript a b pos) (tOp r ta tb):=.mk <| by
 intro pins s σ H Q I h;exact Subscript_ (E2 ha hb I h fun v u s2 x y H2 I2 rx ry q=>hr a b pins s2 σ H2 x y v u Q I2 rx ry q (hs _ _))
noncomputable def D9(K:W.Frag):R2:=fun x y H Q=>∃p xs i v,x=.ref p/\y=.int i/\SqL K H p xs/\atI xs i=some v/\Q v H
noncomputable def ES(K:W.Frag):R2:=fun x y H Q=>∃p xs i v,x=.ref p/\y=.int i/\SqT K H p xs/\atI xs i=some v/\Q v H
noncomputable def Hg:R2:=fun x y H Q=>∃z i c,x=.str z/\y=.int i/\z.length<=sizeLine/\atI z.cps.toList i=some c/\Q (.str ⟨#[c]⟩) H
theorem Cw:IxR X (D9 X.K):=by
 intro value slice pins s σ H x y v u Q I rx ry h hs;obtain⟨p,xs,i,z,rfl,rfl,hq,he,q⟩:=h;cases rx;obtain⟨t,rfl⟩:=ry;obtain⟨its,r,pl,hz⟩:=I.list hq;obtain⟨j,h1,h2,h3,h4,h5⟩:=o6 he;obtain⟨w,ew,rw'⟩:=r.get h2;have hl:=r.length;have hn:=j0;have fin:EP X pins σ Q w s:=⟨z,H,I,rw',q⟩;by_cases h0:0<=i
 ·have hj:i.toNat=j:=by
   rw[seqIndex_of h0 h5] at h1;exact Option.some.inj h1
  exact item_listR pl.isList h0 (by omega) (by rw[hj];simpa using ew) fin hs
 ·have hj:(i+(its.toArray.size:Int)).toNat=j:=by
   rw[seqIndex_neg (by omega) h4] at h1
   rw[List.size_toArray,←hl]
   exact Option.some.inj h1
  exact subscriptTail_builtinR (x:=w) pl.isList.typeIs slot_list_getitem.lookup
   (wpAny_getItem_list_neg (Q:=fun r s'=>r=w/\EP X pins σ Q r s') pl.isList (by omega) (by rw[List.size_toArray]<;>omega) (by omega) (by rw[hj];simpa using ew) ⟨rfl,fin⟩) hs
theorem Fm:IxR X (ES X.K):=by
 intro value slice pins s σ H x y v u Q I rx ry h hs;obtain⟨p,xs,i,z,rfl,rfl,hq,he,q⟩:=h;cases rx;obtain⟨t,rfl⟩:=ry;obtain⟨its,r,pl,hz⟩:=I.tuple hq;obtain⟨j,h1,h2,h3,h4,h5⟩:=o6 he;obtain⟨w,ew,rw'⟩:=r.get h2;have hl:=r.length;have hn:=j0;have fin:EP X pins σ Q w s:=⟨z,H,I,rw',q⟩
 exact subscriptTail_builtinR (x:=w) pl.typeIs slot_tuple_getitem.lookup
  (getItem_tuple (j:=j) (Q:=fun r s'=>r=w/\EP X pins σ Q r s') pl (by omega) (by omega) (by rw[List.size_toArray,←hl];exact h1) (by simpa using ew) ⟨rfl,fin⟩) hs
theorem EZ:IxR X Hg:=by
 intro value slice pins s σ H x y v u Q I rx ry h hs;obtain⟨z,i,c,rfl,rfl,hz,he,q⟩:=h;obtain⟨t,rfl⟩:=rx;obtain⟨t',rfl⟩:=ry;obtain⟨j,h1,h2,h3,h4,h5⟩:=o6 he;have hl:z.cps.toList.length=z.length:=by simp[Str.length]
 rw[hl] at h1 h4 h5;have hn:=j0
 exact tail_any (typeIs_str s z t) slot_str_getitem.lookup (getItem_str (c:=c) (by
  have e1:decide (i < -(2^63:Int))=false:=decide_eq_false (by omega)
  have e2:decide (i ≥ 2^63)=false:=decide_eq_false (by omega)
  rw[e1,e2,Bool.or_false]) (by rw[h1];simpa using h2) ⟨.str ⟨#[c]⟩,H,I.tok _,⟨_,rfl⟩,q⟩) hs
noncomputable def rIx(K:W.Frag):R2:=fun x y H Q=>D9 K x y H Q\/ES K x y H Q\/Hg x y H Q
theorem Ef:IxR X (rIx X.K):=Cw.or (Fm.or EZ)
theorem sV(its:List Value)(n j:Nat)(u:Value):Obj.mapSeq (·.setIfInBounds j u) { cls:=.type "list",data:=.seq its.toArray n }={ cls:=.type "list",data:=.seq (its.set j u).toArray n }:=by
 simp[Obj.mapSeq]
theorem Inv.lst{pins:List (Addr×Obj)}{σ:St}{H:Hp}{s:Shared}{p:Addr}{xs:List V}(I:Inv X pins σ H s)(h:H p=some (.lst xs)):
  ∃(its:List Value)(n:Nat),aH xs its/\s.heap.get? p=some { cls:=.type "list",data:=.seq its.toArray n }/\xs.length<=sizeLine:=by
 obtain⟨z,its,n,r,e⟩:=I.hok p _ h;exact⟨its,n,r,e,z⟩
theorem Inv.IT{pins:List (Addr×Obj)}{σ:St}{H:Hp}{s:Shared}{p:Addr}{xs ys:List V}{its its':List Value}{n n':Nat}{f:Obj->Obj}(I:Inv X pins σ H s)(h:H p=some (.lst xs))(ho:s.heap.get? p=some { cls:=.type "list",data:=.seq its.toArray n })(hf:f { cls:=.type "list",data:=.seq its.toArray n }={ cls:=.type "list",data:=.seq its'.toArray n' })(r:aH ys its')(hz:ys.length<=sizeLine)(t:Nat):
  Inv X pins σ (upd H p (.lst ys)) { s with heap:=s.heap.update p f,toks:=t }:=by
 have e:(s.heap.update p f).get? p=some { cls:=.type "list",data:=.seq its'.toArray n' }:=by
  rw[Heap.get?_update_self f ho (by rw[hf]<;>rfl),hf]
 refine I.write (x:=p) (e:=p) (by rw[h];trivial) (.inl rfl) (fun b u hb q=>(Heap.get?_update_other _ _ (Ne.symm hb)).trans q) ⟨_,e⟩ ?_
 exact⟨hz,its',n',r,e⟩
noncomputable def DR:V->V->V->Hp->(Hp->Prop)->Prop:=fun o i v H Q=>∃p xs k j,o=.ref p/\i=.int k/\H p=some (.lst xs)/\ixN xs.length k=some j/\Q (upd H p (.lst (xs.set j v)))
theorem lp:GM X DR:=by
 intro pins s σ H o i v ov iv u Q I ro ri rv h;obtain⟨p,xs,k,j,rfl,rfl,hp,hj,q⟩:=h;cases ro;obtain⟨t,rfl⟩:=ri;obtain⟨its,n,r,ho,hz⟩:=I.lst hp;obtain⟨h1,h2,h3,h4⟩:=u8 hj;have hl:=r.length;have hn:=j0
 have I':Inv X pins σ (upd H p (.lst (xs.set j v))) { s with heap:=s.heap.update p (Obj.mapSeq (·.setIfInBounds j u)) }:=
  I.IT hp ho (sV its n j u) (r.set rv j) (by rw[List.length_set];exact hz) s.toks
 by_cases h0:0<=k
 ·have hk:k.toNat=j:=by
   rw[seqIndex_of h0 h4] at h1;exact Option.some.inj h1
  exact W.ki_setAt ho h0 (by omega) (by rw[List.size_toArray,←hl];exact h4) (by rw[hk];exact⟨_,I',q⟩)
 ·have hk:(k+(its.toArray.size:Int)).toNat=j:=by
   rw[seqIndex_neg (by omega) h3] at h1
   rw[List.size_toArray,←hl]
   exact Option.some.inj h1
  exact W.ki_setBack ho (by omega) (by rw[List.size_toArray,←hl];exact h3) (by omega) (by rw[hk];exact⟨_,I',q⟩)
theorem pA(lo hi:Option Int)(n:Nat):(sliceBounds lo hi none n).1=((HT.sIx n 0 lo:Nat):Int)/\(sliceBounds lo hi none n).2.1=((HT.sIx n n hi:Nat):Int)/\(sliceBounds lo hi none n).2.2=1:=by
 refine⟨?_,?_,rfl⟩
 ·cases lo with
  |none=>simp[sliceBounds,HT.sIx]
  |some i=>
   simp only[sliceBounds,HT.sIx,Option.getD_none,show (1:Int)>0 by decide,if_true]
   by_cases h:i<0
   ·simp only[h,if_true]<;>omega
   ·simp only[h,if_false]<;>omega
 ·cases hi with
  |none=>simp[sliceBounds,HT.sIx]
  |some i=>
   simp only[sliceBounds,HT.sIx,Option.getD_none,show (1:Int)>0 by decide,if_true]
   by_cases h:i<0
   ·simp only[h,if_true]<;>omega
   ·simp only[h,if_false]<;>omega
theorem na(its:List Value)(lo hi:Option Int):slicePick its.toArray lo hi none=((its.drop (HT.sIx its.length 0 lo)).take (HT.sIx its.length its.length hi-HT.sIx its.length 0 lo)).toArray:=by
 obtain⟨h1,h2,h3⟩:=pA lo hi its.toArray.size;unfold slicePick;rw[h1,h2,h3];simp only[sliceRange_one,pick_run,List.size_toArray]<;>rfl
noncomputable def Hu(K:W.Frag):V->Option Int->Option Int->Hp->VK->Prop:=fun x lo hi H Q=>∃a xs,x=.ref a/\SqL K H a xs/\∀p,H p=none->Q (.ref p) (upd H p (.lst (ka xs lo hi)))
theorem Bn:SlR X (Hu X.K):=by
 intro pins s σ H x v vl vu lo hi sl Q I rx hs pl pu h;obtain⟨a,xs,rfl,hx,q⟩:=h;cases rx;obtain⟨its,r,ht,hz⟩:=I.list hx;have hlen:=r.length;refine⟨"list",_,slot_list_getitem.lookup,ht.isList.typeIs,?_⟩;refine wpAny_getItem_list_slice ht.isList hs pl pu .none (by simp) ?_ (by rw[List.size_toArray]<;>omega)
 rw[na,←hlen]
 refine⟨.ref s.heap.objs.size,_,I.laid (t':=s.toks) (o:=.lst (ka xs lo hi)) (fun b ob q=>Heap.get?_push_of_some _ q) (Nat.le_refl _) ?_,rfl,q _ (I.hok.fresh (Nat.le_refl _))⟩;exact⟨Nat.le_trans (kO xs lo hi) hz,_,0,(r.drop (HT.sIx xs.length 0 lo)).take (HT.sIx xs.length xs.length hi-HT.sIx xs.length 0 lo),Heap.get?_push_size _ rfl⟩
theorem mZ:eh X (.type "tuple") (fun xs H Q=>∃p ys,xs=[.ref p]/\((SqL X.K H p ys/\∀l,H l=none->Q (.ref l) (upd H l (.tup ys)))\/(SqT X.K H p ys/\Q (.ref p) H))):=by
 intro pins s σ H xs us Q I r h;obtain⟨p,ys,rfl,h⟩:=h;obtain⟨u,rfl,rx⟩:=iQ r;cases rx;rcases h with⟨hq,q⟩|⟨hq,q⟩
 ·obtain⟨its,r',pl,hz⟩:=I.list hq
  have hlen:=r'.length;refine call_tuple_list pl.isList (fun h' kp=>?_) (by simp only[List.size_toArray]<;>omega)
  have I1:Inv X pins σ H { s with heap:=h' }:=I.kept (t':=s.toks) kp
  have I2:Inv X pins σ (upd H h'.objs.size (.tup ys)) { s with heap:=h'.push { cls:=.type "tuple",data:=.seq its.toArray } }:=
   I1.laid (t':=s.toks) (fun b o e=>Heap.get?_push_of_some _ e) (Nat.le_refl _) (show cM X.prog X.w _ _ _ (.tup ys) from ⟨hz,its,r',qm.new _ _⟩)
  exact⟨.ref h'.objs.size,_,I2,rfl,q _ (I1.hok.fresh (Nat.le_refl _))⟩
 ·obtain⟨its,r',pl,hz⟩:=I.tuple hq
  exact call_tuple_same pl ⟨.ref p,H,I,rfl,q⟩
noncomputable def tyV(K:W.Frag)(T:String)(x:V)(H:Hp):Prop:=match x with
 |.str _=>T="str"
 |.int _=>T="int"
 |.ref p=>(T="list"/\∃xs,SqL K H p xs)\/(T="tuple"/\∃o,K.lookup p=some o/\o.cls=.type "tuple"/\o.dict=none) \/
   (T="dict"/\((∃kvs,H p=some (.dK kvs))\/∃kvs,H p=some (.dT kvs)))\/(T="set"/\∃S n,H p=some (.set S n))
 |_=>False
theorem Al{pins:List (Addr×Obj)}{σ:St}{H:Hp}{s:Shared}{T:String}{x:V}{v:Value}(I:Inv X pins σ H s)(r:a6 x v)(ty:tyV X.K T x H):
  s.TypeIs v T/\∀a,v=.ref a->∃ob,s.heap.get? a=some ob/\ob.dict=none:=by
 cases x with
 |str z=>
  obtain⟨t,rfl⟩:=r;cases (show T="str" from ty)
  exact⟨typeIs_str s z t,fun _ e=>nomatch e⟩
 |int i=>
  obtain⟨t,rfl⟩:=r;cases (show T="int" from ty)
  exact⟨typeIs_int s i t,fun _ e=>nomatch e⟩
 |ref p=>
  cases r;rcases ty with⟨rfl,xs,hq⟩|⟨rfl,o,hk,hc,hd⟩|⟨rfl,hk⟩|⟨rfl,S,n,hk⟩
  ·obtain⟨its,_,pl,_⟩:=I.list hq
   refine⟨pl.isList.typeIs,fun a e=>?_⟩;cases e;obtain⟨o,n,e,c,hd,_⟩:=pl;exact⟨o,e,hd⟩
  ·refine⟨⟨o,I.kIn p o hk,hc⟩,fun a e=>?_⟩
   cases e;exact⟨o,I.kIn _ o hk,hd⟩
  ·have z:∃o,s.heap.get? p=some o/\o.ExactDict:=by
    rcases hk with⟨kvs,hk⟩|⟨kvs,hk⟩
    ·obtain⟨_,_,_,_,o,_,_,e,ex,_⟩:=I.hok p _ hk
     exact⟨o,e,ex⟩
    ·obtain⟨_,_,_,_,o,_,_,e,ex,_⟩:=I.hok p _ hk
     exact⟨o,e,ex⟩
   obtain⟨o,e,ex⟩:=z;refine⟨⟨o,e,ex.1⟩,fun a e2=>?_⟩;cases e2;exact⟨o,e,ex.2.1⟩
  ·obtain⟨o,_,_,_,e,ex,_⟩:=I.hok p _ hk
   refine⟨⟨o,e,ex.1⟩,fun a e2=>?_⟩;cases e2;exact⟨o,e,ex.2.1⟩
 |_=>exact False.elim ty
noncomputable def Fh(K:W.Frag)(T:String)(r:V->List V->Hp->VK->Prop)(to:TE):TE:=fun σ H Q=>to σ H fun x H1=>tyV K T x H1/\r x [] H1 Q
noncomputable def tBM(K:W.Frag)(T:String)(r:V->List V->Hp->VK->Prop)(to:TE)(t:TA):TE:=fun σ H Q=>to σ H fun x H1=>tyV K T x H1/\t σ H1 fun xs H2=>r x xs H2 Q
variable{o e:Expr}{es:List Expr}{to:TE}{t:TA}{name:Str}{apos cpos:Pos}{T id:String}{r:V->List V->Hp->VK->Prop}
theorem j6(pa:PlainAttrs T)(slot:Slot T name id)(hty:typeOf (.builtin id)=pure (.type "method_descriptor"))(hm:MtR X id r)(ho:PE X o to)(hbase:attributeBase o name X.env (eval o X.env)=eval o X.env:=by rfl)(hline:(apos.endLine == cpos.line)=true:=by rfl):PE X (.Call (.Attribute o name apos) [] [] cpos) (Fh X.K T r to):=.mk <| by
 intro pins s σ H Q I h;refine wpAny_Call_method0_late hbase hline (thn (ho pins s σ H _ I h) fun v s1 ⟨x,H1,I1,r1,ty,q1⟩=>?_);obtain⟨h1,h2⟩:=Al I1 r1 ty;exact⟨T,id,pa,slot,hty,h1,h2,Calls.callWith_builtin rfl (PySem.evalArgs_none (hm pins s1 σ H1 x [] v [] Q I1 r1 .nil q1))⟩
theorem fZ(pa:PlainAttrs T)(slot:Slot T name id)(hty:typeOf (.builtin id)=pure (.type "method_descriptor"))(hm:MtR X id r)(ho:PE X o to)(ha:PA X (e::es) t)(hbase:attributeBase o name X.env (eval o X.env)=eval o X.env:=by rfl)
  (hfew:((backTo cpos (starEach (e::es) X.env)).all (fun x=>!x.1) && (backToKw cpos (keywordEach [] X.env)).all (fun x=>x.1.isSome)
   && decide ((e::es).length+([]:List Keyword).length+(if ([]:List Keyword).isEmpty then 0 else 1)<30))=true:=by rfl)
  (hline:(apos.endLine == cpos.line)=true:=by rfl) (hs:starEach (e::es) X.env=(false,eval e X.env)::starEach es X.env:=by rfl) (hplain:(backTo cpos (starEach es X.env)).any (·.1)=false:=by rfl) :
  PE X (.Call (.Attribute o name apos) (e::es) [] cpos) (tBM X.K T r to t):=.mk <| by
 intro pins s σ H Q I h;refine wpAny_Call_method_late hbase hfew hline rfl (thn (ho pins s σ H _ I h) fun v s1 ⟨x,H1,I1,r1,ty,q1⟩=>?_);obtain⟨h1,h2⟩:=Al I1 r1 ty;refine⟨T,id,pa,slot,hty,h1,h2,?_⟩;have hA:=ha cpos pins s1 σ H1 _ I1 q1;rw[hs] at hA ⊢;refine Calls.callWith_builtin (by show (false || (backTo cpos (starEach es X.env)).any (·.1))=false;rw[hplain]<;>rfl) (Calls.evalArgs_plain ?_)
 exact thn hA fun us s2 ⟨vs,H2,I2,r2,q2⟩=>hm pins s2 σ H2 x vs v us Q I2 r1 r2 q2
end
noncomputable def MtM(X:Cx)(id:String)(r:V->List V->Hp->VK->Prop):Prop:=
 ∀(pins:List (Addr×Obj)) (s:Shared) (σ:St) (H:Hp) (x:V) (xs:List V) (v:Value) (us:List Value) (Q:VK),Inv X pins σ H s->a6 x v->aH xs us->r x xs H Q ->
  wpAny (model X.prog X.w) X.A (call (.builtin id) (v::us)) (EP X pins σ Q) X.xe s
theorem aH.one:∀ {x:V} {us:List Value},aH [x] us->∃u,us=[u]/\a6 x u
 |_,_,.cons r .nil=>⟨_,rfl,r⟩
theorem aH.two:∀ {x y:V} {us:List Value},aH [x,y] us->∃u v,us=[u,v]/\a6 x u/\a6 y v
 |_,_,_,.cons r (.cons q .nil)=>⟨_,_,rfl,r,q⟩
theorem aH.zero:∀ {us:List Value},aH [] us->us=[]
 |_,.nil=>rfl
theorem aH.dropLast{xs:List V}{us:List Value}(h:aH xs us):aH xs.dropLast us.dropLast:=by
 induction h with
 |nil=>exact .nil
 |cons r t ih=>
  cases t with
  |nil=>exact .nil
  |cons q t'=>exact .cons r ih
theorem aH.reverse{xs:List V}{us:List Value}(h:aH xs us):aH xs.reverse us.reverse:=by
 induction h with
 |nil=>exact .nil
 |cons r t ih=>rw[List.reverse_cons,List.reverse_cons];exact aH.append ih (.cons r .nil)
theorem aH.rep{xs:List V}{us:List Value}(h:aH xs us):∀k:Nat,aH (List.replicate k xs).flatten (List.replicate k us).flatten
 |0=>.nil
 |k+1=>by
  rw[List.replicate_succ,List.replicate_succ,List.flatten_cons,List.flatten_cons];exact aH.append h (aH.rep h k)
theorem uh{α:Type}(l:List α):l.eraseIdx (l.length-1)=l.dropLast:=by
 induction l with
 |nil=>rfl
 |cons a r ih=>
  cases r with
  |nil=>rfl
  |cons b r=>
   have e:(a::b::r).length-1=((b::r).length-1)+1:=by
    have h1:(a::b::r).length=r.length+2:=rfl;have h2:(b::r).length=r.length+1:=rfl;omega
   rw[e,List.eraseIdx_cons_succ,ih]
   all_goals rfl
theorem ny(its:List Value):∀(k:Nat)(acc:List Value),
  List.foldl (fun x1 x2=>x1++x2) acc.toArray (List.replicate k its.toArray)=(acc++(List.replicate k its).flatten).toArray
 |0,acc=>by simp
 |k+1,acc=>by
  have e:acc.toArray++its.toArray=(acc++its).toArray:=by simp
  have e2:(acc++its)++(List.replicate k its).flatten=acc++(List.replicate (k+1) its).flatten:=by
   rw[List.replicate_succ,List.flatten_cons,List.append_assoc]
  rw[←e2,←ny its k (acc++its),←e,List.replicate_succ,List.foldl_cons]
section
variable{X:Cx}{pins:List (Addr×Obj)}{σ:St}{H:Hp}{s:Shared}{l b:Addr}{xs ys zs:List V}
theorem Inv.lset{its its':List Value}{n:Nat}{f:Array Value->Array Value}{t':Nat}(I:Inv X pins σ H s)(hH:H l=some (.lst xs))(e:s.heap.get? l=some { cls:=.type "list",data:=.seq its.toArray n })(hf:f its.toArray=its'.toArray)(hv:aH ys its')(hz:ys.length<=sizeLine):
  Inv X pins σ (upd H l (.lst ys)) { s with heap:=s.heap.update l (Obj.mapSeq f),toks:=t' }:=by
 have q:=PySem.IsL.update e f;rw[hf] at q;refine I.write (x:=l) (e:=l) (by rw[hH];exact trivial) (.inl rfl) (fun b' u hb hu=>(Heap.get?_update_other s.heap (Obj.mapSeq f) (Ne.symm hb)).trans hu) ⟨_,q⟩ ?_
 exact⟨hz,its',_,hv,q⟩
theorem Inv.lnew{its:List Value}{t':Nat}(I:Inv X pins σ H s)(hv:aH ys its)(hz:ys.length<=sizeLine):
  Inv X pins σ (upd H s.heap.objs.size (.lst ys)) { s with heap:=s.heap.push { cls:=.type "list",data:=.seq its.toArray },toks:=t' }:=
 I.laid (fun _ _ q=>Heap.get?_push_of_some _ q) (Nat.le_refl _) ⟨hz,its,0,hv,Heap.get?_push_size _ rfl⟩
theorem Inv.fresh(I:Inv X pins σ H s):H s.heap.objs.size=none:=I.hok.fresh (Nat.le_refl _)
theorem Inv.IP(I:Inv X pins σ H s)(hH:H l=some (.lst xs)):xs.length<=sizeLine/\∃(its:List Value)(n:Nat),aH xs its/\xs.length=its.length/\s.heap.get? l=some { cls:=.type "list",data:=.seq its.toArray n }:=by
 obtain⟨z,its,n,r,e⟩:=I.hok l _ hH;exact⟨z,its,n,r,r.length,e⟩
theorem rO{n:Nat}(h:n<=sizeLine):Builtin.List.listTooLong n=false:=by
 unfold Builtin.List.listTooLong;exact decide_eq_false (by omega)
end
section
variable{X:Cx}
noncomputable def oW:V->List V->Hp->VK->Prop:=fun x vs H Q=>∃l xs y,x=.ref l/\vs=[y]/\H l=some (.lst xs)/\xs.length<sizeLine/\Q .non (upd H l (.lst (xs++[y])))
theorem fV:MtM X "list.append" oW:=by
 intro pins s σ H x vs v us Q I rx rv h;obtain⟨l,xs,y,rfl,rfl,hH,hz,q⟩:=h;cases rx;obtain⟨u,rfl,ru⟩:=rv.one;obtain⟨z,its,n,r,hl,e⟩:=I.IP hH;refine call_meets F.slot_list_append ⟨_,e,rfl⟩ F.entry_list_append (F.args_list_append_2 _ _) (PySem.list_append l its.toArray n u (by rw[List.size_toArray];omega)) ⟨e,?_⟩
 refine⟨.non,_,I.lset (its':=its++[u]) hH e (by simp) (r.append (.cons ru .nil)) ?_,rfl,q⟩
 rw[List.length_append,List.length_singleton];omega
noncomputable def GF:V->List V->Hp->VK->Prop:=fun x vs H Q=>∃l xs y,x=.ref l/\vs=[]/\H l=some (.lst xs)/\xs[xs.length-1]?=some y/\Q y (upd H l (.lst xs.dropLast))
theorem ln:MtM X "list.pop" GF:=by
 intro pins s σ H x vs v us Q I rx rv h;obtain⟨l,xs,y,rfl,rfl,hH,hy,q⟩:=h;cases rx;have hus:=rv.zero;subst hus;obtain⟨z,its,n,r,hl,e⟩:=I.IP hH;obtain⟨u,hu,ru⟩:=r.get hy
 have hy':its.toArray[its.toArray.size-1]?=some u:=by
  show its.toArray[its.length-1]?=some u;rw[←Array.getElem?_toList,←hl]
  exact hu
 refine call_meets F.slot_list_pop ⟨_,e,rfl⟩ F.entry_list_pop (F.args_list_pop_1 _) (MeetsSeq.list_pop_last l its.toArray n u hy' (by rw[List.size_toArray];omega)) ⟨e,?_⟩
 refine⟨y,_,I.lset (its':=its.dropLast) hH e ?_ r.dropLast ?_,ru,q⟩
 ·show its.toArray.eraseIdxIfInBounds (its.toArray.size-1)=its.dropLast.toArray
  rw[List.size_toArray,List.eraseIdxIfInBounds_toArray,uh]
 ·rw[List.length_dropLast]
  omega
noncomputable def tU:R2:=fun x y H Q=>∃l b xs zs,x=.ref l/\y=.ref b/\H l=some (.lst xs)/\H b=some (.lst zs)/\xs.length+zs.length<=sizeLine/\∀p,H p=none->Q (.ref p) (upd H p (.lst (xs++zs)))
theorem bc:OpR X (binaryOp .Add) tU:=by
 intro pins s σ H x y v u Q I rx ry h;obtain⟨l,b,xs,zs,rfl,rfl,hH,hB,hz,q⟩:=h;cases rx;cases ry;obtain⟨z,its,n,r,hl,e⟩:=I.IP hH;obtain⟨z2,its2,n2,r2,hl2,e2⟩:=I.IP hB;refine PySem.P.add_list e e2 ?_ (by rw[List.size_toArray,List.size_toArray];omega)
 have ea:its.toArray++its2.toArray=(its++its2).toArray:=by simp
 rw[ea];exact⟨.ref _,_,I.lnew (t':=s.toks) (r.append r2) (by rw[List.length_append];omega),rfl,q _ I.fresh⟩
noncomputable def BB:R2:=fun x y H Q=>∃l k xs,x=.ref l/\y=.int k/\H l=some (.lst xs)/\-(2^63)<=k/\k<2^63/\xs.length*k.toNat<=sizeLine /\
 ∀p,H p=none->Q (.ref p) (upd H p (.lst (List.replicate k.toNat xs).flatten))
theorem pO{α:Type}(xs:List α)(k:Nat):(List.replicate k xs).flatten.length=k*xs.length:=by
 induction k with
 |zero=>simp
 |succ k ih=>rw[List.replicate_succ,List.flatten_cons,List.length_append,ih,Nat.succ_mul,Nat.add_comm]
theorem i8:OpR X (binaryOp .Mult) BB:=by
 intro pins s σ H x y v u Q I rx ry h;obtain⟨l,k,xs,rfl,rfl,hH,h1,h2,hz,q⟩:=h;cases rx;obtain⟨t,rfl⟩:=ry;obtain⟨z,its,n,r,hl,e⟩:=I.IP hH;have hlen:its.toArray.size*k.toNat<=sizeLine:=by rw[List.size_toArray,←hl];exact hz
 have hcap:¬ its.toArray.size*k.toNat>(2^63-1) / 8:=by
  have:(sizeLine:Nat)<=(2^63-1) / 8:=by decide
  omega
 have hfit:¬ (!Builtin.List.listFitsIndex k)=true:=by
  rw[fitsIndex_both h1 h2];exact Bool.false_ne_true
 have hlong:¬ Builtin.List.listTooLong (its.toArray.size*k.toNat)=true:=by
  rw[rO hlen];exact Bool.false_ne_true
 have hnew:List.foldl (fun x1 x2=>x1++x2) #[] (List.replicate (if its.toArray.isEmpty=true then 0 else k.toNat) its.toArray)=(List.replicate k.toNat its).flatten.toArray:=by
  have f0:∀m:Nat,List.foldl (fun x1 x2=>x1++x2) #[] (List.replicate m its.toArray)=(List.replicate m its).flatten.toArray:=fun m=>by
   have:=ny its m [];rw[List.nil_append] at this;exact this
  rw[f0]
  cases its with
  |nil=>simp
  |cons a r'=>rw[if_neg (by simp)]
 refine wpAny_binaryOp_repeat_ref (T:="list") (U:="int") (by decide) ⟨_,e,rfl⟩ (fun s'=>typeIs_int s' k t) noFill_list_mul F.fills_int_mul F.slot_int_rmul repeat_list F.slot_int_index.lookup
  (call_meets F.slot_int_rmul (typeIs_int s k t) F.entry_int_rmul (F.args_int_rmul_2 _ _) (int___rmul___int_list k t l its.toArray n)
   ⟨e,rfl,⟨_,e,rfl⟩,call_meets F.slot_list_mul ⟨_,e,rfl⟩ F.entry_list_mul (F.args_list_mul_2 _ _) (AutoListH.list___mul___list_int_3 l its.toArray n k t hfit hcap hlong) ⟨e,?_⟩⟩)
 rw[hnew];exact⟨.ref _,_,I.lnew (t':=s.toks) (r.rep k.toNat) (by rw[pO,Nat.mul_comm];exact hz),rfl,q _ I.fresh⟩
end
section
variable{prog:Program}{w:World}{A:Around}{E:Value->Shared->Prop}{s:Shared}
set_option maxRecDepth 100000 in
end
section
variable{X:Cx}{pins:List (Addr×Obj)}{σ:St}{H:Hp}{s:Shared}{a:Addr}{y v:V}{u r:Value}{o:Option V}{A:Around}{E:Value->Shared->Prop}
theorem Inv.big(I:Inv X pins σ H s):sysModules<s.heap.objs.size:=by
 have h:mainGlobals<s.heap.objs.size:=(I.mod.glob.keeps I.bk).lt;exact Nat.lt_trans (by decide) h
end
noncomputable def FV(i:Expr):Prop:=∀ov iv,subscripted i false ov iv=operate [ov,iv] (getItem ov iv)
theorem BQ{prog:Program}{w:World}{A:Around}{E:Value->Shared->Prop}{s:Shared}{env:Env}{value slice:Expr}{pos:Pos}{T id:String}{Q:Value->Shared->Prop}(hl:typeLookup (.type T) "__getitem__"=pure (some (.builtin id)))(hs:FV slice)(h:wpAny (model prog w) A (eval value env) (fun o s₁=>wpAny (model prog w) A (eval slice env) (fun i s₂=>s₂.TypeIs o T/\wpAny (model prog w) A (getItem o i) Q E s₂) E s₁) E s):
  wpAny (model prog w) A (eval (.Subscript value slice pos) env) Q E s:=by
 refine Subscript_ (wpAny_mono h (fun o s₁ h₁=>wpAny_mono h₁ (fun i s₂ h₂=>?_) fun _ _ x=>x) fun _ _ x=>x);obtain⟨hT,h₂⟩:=h₂;unfold subscriptTail;refine wpAny_bind ?_;rw[getitemInPython_of_ne hT.not_modules];refine wpAny_bind (wpAny_specialOf hT hl ?_)
 have fin:wpAny (model prog w) A (subscripted slice false o i) (fun r s₃=>wpAny (model prog w) A (letTemporaryGo value o r >>= fun _=>pure r) Q E s₃) E s₂:=by
  rw[hs o i];exact wpAny_operating (wpAny_mono h₂ (fun r s₃ h₃=>wpAny_bind (wpAny_letTemporaryGo (wpAny_pure h₃))) fun _ _ x=>x)
 first
  |exact wpAny_pure (wpAny_bind fin)
  |exact wpAny_bind (wpAny_pure (wpAny_bind fin))
  |exact wpAny_bind fin
theorem yC{P:Program}{w:World}{H:Hp}(h:Heap)(hb:sysModules<h.objs.size):cM P w H (h.push { cls:=.type "dict",data:=.dict #[] }) h.objs.size (.dK []):=
 ⟨Nat.zero_le _,beq_eq_false_iff_ne.mpr (Ne.symm (Nat.ne_of_lt hb)),[],.nil,Heap.DictOf.new h⟩
noncomputable def yr:TE:=fun _ H Q=>∀p,H p=none->Q (.ref p) (upd H p (.dK []))
section
variable{X:Cx}{pos:Pos}
theorem zq:PE X (.Dict [] [] pos) yr:=.mk <| fun pins s σ H Q I h=>
 wpAny_Dict_empty ⟨.ref s.heap.objs.size,_,I.laid (a:=s.heap.objs.size) (o:=.dK []) (t':=s.toks) (fun _ _ q=>Heap.get?_push_of_some _ q) (Nat.le_refl _) (yC s.heap I.big),rfl,h _ (I.hok.fresh (Nat.le_refl _))⟩
end
structure M1(X:Cx)(o:Expr)(m:Str)(apos:Pos)(e:Expr)(cpos:Pos):Prop where
 base:attributeBase o m X.env (eval o X.env)=eval o X.env
 few:((backTo cpos (starEach [e] X.env)).all (fun x=>!x.1) && (backToKw cpos (keywordEach [] X.env)).all (fun x=>x.1.isSome)
  && decide (([e]:List Expr).length+([]:List Keyword).length+(if ([]:List Keyword).isEmpty then 0 else 1)<30))=true
 line:(apos.endLine == cpos.line)=true
 trees:backTo cpos (starEach [e] X.env)=[(false,eval e X.env)]
structure M2(X:Cx)(o:Expr)(m:Str)(apos:Pos)(e f:Expr)(cpos:Pos):Prop where
 base:attributeBase o m X.env (eval o X.env)=eval o X.env
 few:((backTo cpos (starEach [e,f] X.env)).all (fun x=>!x.1) && (backToKw cpos (keywordEach [] X.env)).all (fun x=>x.1.isSome)
  && decide (([e,f]:List Expr).length+([]:List Keyword).length+(if ([]:List Keyword).isEmpty then 0 else 1)<30))=true
 line:(apos.endLine == cpos.line)=true
 trees:backTo cpos (starEach [e,f] X.env)=[(false,eval e X.env),(false,eval f X.env)]
end L2
namespace Att
open PySem PySem.W PySem.Calls PyProof.Rows
theorem kX{P:Params}{h:Heap}:∀(ns:List Int)(vs:List Value),WellAll P h vs (ns.map WData.int)->IntsAre vs ns:=by
 intro ns
 induction ns with
 |nil=>
  intro vs w;rw[List.map_nil] at w;cases w;exact .nil
 |cons n ns ih=>
  intro vs w;rw[List.map_cons] at w
  cases w with
  |cons a b=>
   cases a;exact .cons _ _ (ih _ b)
theorem w6{l:OpenLaw}{n:Nat}(hn:l.most=some n){P:Params}{h:Heap}{args:List WData}{vals:List Value}(hpre:l.row.toRowW.claim.pre args=true)(hwl:WellAll P h vals args):
  ∃a vs ns,vals=[Value.ref a]/\args=[WData.list (ns.map WData.int)]/\h.get? a=some { cls:=.type "list",data:=.seq vs.toArray }/\IntsAre vs ns/\ns.length<=n:=by
 have hsh:WShape.hasAll [] args [.list .int]=true:=(pre_splitW hpre).1;have hc:l.pre.holds [] { args:=args }=true:=(pre_splitW hpre).2;obtain⟨d,r,rfl,h1,h2⟩:=hasAllW_cons hsh;obtain rfl:=hasAllW_nil h2;obtain⟨xs,rfl,h3⟩:=hasW_list h1;obtain⟨ns,rfl⟩:=items_int h3
 have hlen:ns.length<=n:=by
  unfold OpenLaw.pre at hc
  have h4:(WTm.not (.lt (.lit (.int (n:Int))) (.len (.arg 0)))).holds [] { args:=[.list (ns.map .int)] }=true:=by
   have h4:=(holds_andW hc).1;rw[hn] at h4;exact h4
  have h5:=condW_of h4 (w_not (w_lt w_lit (w_len_list (w_arg rfl))));rw[List.length_map] at h5;refine Nat.le_of_not_lt fun q=>?_;have q':(n:Int)<((ns.length:Nat):Int):=by omega
  first
   |(rw[decide_eq_true q'] at h5;exact absurd h5 (by decide))
   |(simp at h5;omega)
 cases hwl with
 |cons w1 w2=>
  cases w2
  cases w1 with
  |list ho hall=>exact⟨_,_,ns,rfl,rfl,ho,kX ns _ hall,hlen⟩
theorem xq(l:OpenLaw)(args:List WData):l.row.toRowW.claim.post args (.bool true) args=true:=
 postW_of (r:=l.row.toRowW) (X:=(true == true))
  (show WShape.has [] (.bool true) .bool=true by first|rfl|decide|simp[WShape.has,WShape.arms,WShape.armsAll])
  (show (WTm.eq .res (.lit (.bool true))).value [] { args:=args,res:=some (.bool true),after:=args }=some (.bool (true == true)) from w_eq_bool (w_res rfl) w_lit) rfl
theorem q9{l:OpenLaw}{n:Nat}{q:Program}{loose:List Str}{XP:(Str->Option Value)->Heap->Prop}{YP:World->Heap->Prop}{d:DefRec}(hn:l.most=some n)(hdf:d.params.defaults=[])
  (call:∀(w:World)(s₀ s₁:Shared)(mg mb:Str->Option Value)(fa:Addr)(o:Obj)(pm cd doc:Value)(a:Addr)(vs:List Value)(ns:List Int),
   Ground q loose [] XP w s₀ mg mb s₁.heap->YP w s₁.heap ->
   s₁.heap.get? fa=some o->o.data=.func (docDef d.name d.params d.body d.scope pm cd doc)->s₁.heap.CodeRec cd d.name->mg d.name=some (.ref fa) ->
   s₁.heap.get? a=some { cls:=.type "list",data:=.seq vs.toArray }->IntsAre vs ns->ns.length<=n->s₁.gens=#[] ->
   codeAny (model l.prog w) callerA (.call (.ref fa) ⟨[.ref a],[]⟩) (fun r s'=>r=.ok (.ret (.bool true))/\OldK s₁.heap s'.heap/\s'.os=s₁.os/\AllBare s'.gens) s₁) :
  WalkO q loose XP YP l.row.toRowW d [] (fun f vs=>PySem.call f vs):=by
 intro w s₀ s₁ mg mb G Y fa o pm cd doc dV kV ho hd hcd hD hmg hg args vals as hpre hlay hrd hwl hlo;obtain rfl:dV=.none:=Dflts.none hD hdf;obtain rfl:kV=.none:=Dflts.noKw hD;obtain⟨a,vs,ns,rfl,rfl,hobj,hints,hlen⟩:=w6 hn hpre hwl;refine enter_call (codeAny_mono (call w s₀ s₁ mg mb fa o pm cd doc a vs ns G Y ho (fd_plain hd) hcd hmg hobj hints hlen hg) fun r s' hq=>?_);obtain⟨rfl,h2,h3,h4⟩:=hq
 exact⟨.inl ⟨.bool true,.bool true,[],rfl,fun _=>rfl,.bool true,xq l _,fun _=>⟨List.Pairwise.nil,fun _ hm=>(nomatch hm)⟩⟩,h2,h3,h4⟩
end Att
namespace L2
open PySem PySem.Spec PyProof.Rows
theorem oB:∀ {vs:List Value} {ns:List Int},IntsAre vs ns->aH (ns.map V.int) vs
 |_,_,.nil=>.nil
 |_,_,.cons n t h=>.cons ⟨t,rfl⟩ (oB h)
noncomputable def Gi(_:Hp):Prop:=True
noncomputable abbrev KOf{K:W.Frag}{h:Heap}(_:K.In h):W.Frag:=K
noncomputable def defArgs(s:Stmt):Arguments:=match s with
 |.FunctionDef _ a _ _ _ _ _ _ _ _=>a
 |_=>{ posonlyargs:=[],args:=[],vararg:=none,kwonlyargs:=[],kw_defaults:=[],kwarg:=none,defaults:=[] }
noncomputable def defBody(s:Stmt):List Stmt:=match s with
 |.FunctionDef _ _ b _ _ _ _ _ _ _=>b
 |_=>[]
noncomputable def defScope(s:Stmt):Scope:=match s with
 |.FunctionDef _ _ _ _ _ _ sc _ _ _=>sc
 |_=>{ kind:=.function,names:=[],isGenerator:=false,isCoroutine:=false }
noncomputable abbrev CX0:CXT:=fun _ _ _ _ _ _=>False
noncomputable abbrev E0:XK:=fun _ _ _=>False
theorem bq{X:Cx}:o9 CX0 X E0:=fun _ _ _ _ _ _ _ h=>h.elim
structure Fun(K:W.Frag)(x qual:Str)(st:Stmt)(f:Addr)(fd:FuncData):Prop where
 ex:∃(oc:Value)(od:Option Addr)(kV doc pm:Value)(an:Option Addr)(cdv ct:Value) (osl:Array (Option Value)),
  fd=W.fnOf x qual (defArgs st) (defBody st) (defScope st) .none kV doc pm an cdv ct/\K.lookup f=some ⟨oc,od,.func fd,osl⟩/\W.codeIn K cdv qual=true
 kp:W.keepIn K (.ref f)=true
section
variable{P:Program}{w:World}{K:W.Frag}{mg:Str->Option Value}{base:Heap}
theorem Fun.ok{x qual:Str}{st:Stmt}{f:Addr}{fd:FuncData}{N ps:List Str}{k:Nat}{sp:Sp}(F:Fun K x qual st f fd)(S:aN N ps (defScope st))(len:∀vs H Q E,sp vs H Q E->vs.length=ps.length)
  (hbody:∀(cdv:Value)(A:Around)(outer:List Env)(s:Shared)(H:Hp)(vs:List V)(Q:VK)(E:XK),du k (A.deeper (envOfC qual (defScope st) s.heap.objs.size f cdv))->sp vs H Q E ->
   ∃t,PSs (fW CX0 P w K mg base N qual (defScope st) f cdv A outer s H E).nox (defBody st) t/\t { nx:=fun _ H'=>Q .non H',rt:=Q } (start N vs) H):aV P w K mg base CX0 (k+1) f fd ps sp:=by
 obtain⟨oc,od,kV,doc,pm,an,cdv,ct,osl,rfl,lk,hcd⟩:=F.ex;refine zH lk hcd S len fun A outer s H vs Q E hr hsp=>?_;obtain⟨t,h,q⟩:=hbody cdv A outer s H vs Q E hr hsp;exact⟨t,h.nox,q⟩
theorem Fun.binds{x qual:Str}{st:Stmt}{f:Addr}{fd:FuncData}{ps:List Str}(F:Fun K x qual st f fd)(h:∀(kV doc pm:Value)(an:Option Addr)(cdv ct:Value)(us:List Value),us.length=ps.length->bindArgs (W.fnOf x qual (defArgs st) (defBody st) (defScope st) .none kV doc pm an cdv ct) ⟨us,[]⟩=pure (ps.zip us)):bx K fd ps []:=by
 obtain⟨oc,od,kV,doc,pm,an,cdv,ct,osl,rfl,lk,hcd⟩:=F.ex;exact .all (h kV doc pm an cdv ct)
theorem ud{x qual:Str}{st:Stmt}{f:Addr}{oc:Value}{od an:Option Addr}{osl:Array (Option Value)}{kV doc pm cdv ct:Value}(l:K.lookup f=some ⟨oc,od,.func (W.fnOf x qual (defArgs st) (defBody st) (defScope st) .none kV doc pm an cdv ct),osl⟩)(c:W.codeIn K cdv qual=true)(k:W.keepIn K (.ref f)=true):Fun K x qual st f (W.fnOf x qual (defArgs st) (defBody st) (defScope st) .none kV doc pm an cdv ct):=⟨⟨oc,od,kV,doc,pm,an,cdv,ct,osl,rfl,l,c⟩,k⟩
end
theorem dH{n:Nat}(h:n<=1000):n<sizeLine:=Nat.lt_of_le_of_lt h (by decide)
section
variable{X:Cx}
theorem pv(i:Nat){x:Str}{pos:Pos}(hN:X.N[i]?=some x:=by rfl)(hv:Vis X.env.scope x:=by first|exact Or.inl rfl|exact Or.inr (Or.inl rfl)|exact Or.inr (Or.inr rfl))(hd:(x == ("__debug__":Str))=false:=by decide)(hcd:(x == ("__classdict__":Str))=false:=by decide):PE X (.Name x pos) (B2 i):=tm hN hv hd hcd
end
theorem pP{c A B:Prop}[Decidable c](h1:c->A)(h2:¬ c->B):if c then A else B:=by
 by_cases h:c
 ·rw[if_pos h]
  exact h1 h
 ·rw[if_neg h]
  exact h2 h
noncomputable def c8(H H':Hp):Prop:=∀b o,H b=some o->H' b=some o
theorem c8.refl(H:Hp):c8 H H:=fun _ _ h=>h
theorem c8.trans{H H1 H2:Hp}(a:c8 H H1)(b:c8 H1 H2):c8 H H2:=fun c o h=>b c o (a c o h)
end L2
set_option maxHeartbeats 1000000
namespace L2
open PySem PySem.Spec PyProof.Rows
section
variable{prog:Program}{w:World}{A:Around}{E:Value->Shared->Prop}{R:Result->Shared->Prop}{s:Shared}
noncomputable def ib(elt:Expr)(gens:List Comprehension)(scope:Scope)(pos:Pos)(d:Nat)(acc:Value)(env:Env):Sem Unit:=
 match gens[d+1]? with
 |some g'=>do
  let x ← eval g'.iter env
  standAt g'.iter.pos
  let x ← if g'.is_async != 0 then foldedIterable g'.iter x else foldedSetIterable g'.iter env x
  let _ ← runOwn (.compStart (.ListComp elt gens scope pos) (d+1) (← holding [x] (if g'.is_async != 0 then asyncIter x else pyIter x)) acc env) env
 |none=>do let _ ← call (.builtin "list.append") [acc,←eval elt env]
theorem o0{elt target iter:Expr}{gens:List Comprehension}{ifs:List Expr}{scope:Scope}{pos:Pos}{d:Nat}{it acc:Value}{env:Env}(I:Nat->Shared->Prop)(hg:gens[d]?=some ⟨target,iter,ifs,0⟩)(ha:∀g',gens[d+1]?=some g'->g'.is_async=0)
  (turn:∀n s,I n s->wpAny (model prog w) A (pyNext it) (fun r s₁=>match r with
   |none=>R (.ok .next) s₁
   | some v=>wpAny (model prog w) A (letOwnedTupleGo target it v) (fun _ s₁'=>wpAny (model prog w) A (assign target env v) (fun _ s₂ =>
     wpAny (model prog w) A (forIn ifs true fun c r=>if r=true then do let ok ← isTrue c env (eval c env);pure (ForInStep.yield ok) else pure (ForInStep.yield r)) (fun ok s₃=>
      if ok=true then wpAny (model prog w) A (ib elt gens scope pos d acc env) (fun _ s₅=>∃m,m<n/\I m s₅) (fun _ _=>False) s₃
      else ∃m,m<n/\I m s₃) (fun _ _=>False) s₂) (fun _ _=>False) s₁') (fun _ _=>False) s₁) (fun _ _=>False) s)
  (n:Nat) (h:I n s) :
  codeAny (model prog w) A (.compLoop (.ListComp elt gens scope pos) d it acc env) R s:=by
 refine codeAny_loop rfl I (fun n s hI=>?_) n h;show wpAny _ A ((compTurn (.ListComp elt gens scope pos) d it acc env).onRaise (fun x=>do noteFrame x env;theTreesLotGoes x)) _ _ s
 refine wpAny_noted ?_;unfold compTurn;simp only[hg];refine wpAny_bind (wpAny_standAt (wpAny_bind (wpAny_mono (turn n s hI) (fun r s₁ h₁=>?_) fun _ _ x=>x.elim)))
 cases r with
 |none=>exact wpAny_pure h₁
 |some v=>
  refine wpAny_bind (wpAny_mono h₁ (fun _ s₁' h₁'=>?_) fun _ _ x=>x.elim);refine wpAny_bind (wpAny_mono h₁' (fun _ s₂ h₂=>wpAny_bind (wpAny_mono h₂ (fun ok s₃ h₃=>?_) fun _ _ x=>x.elim)) fun _ _ x=>x.elim)
  cases ok with
  |false=>exact wpAny_pure ⟨rfl,h₃⟩
  |true=>
   have h₃':wpAny (model prog w) A (ib elt gens scope pos d acc env) (fun _ s₅=>∃m,m<n/\I m s₅) (fun _ _=>False) s₃:=h₃;unfold ib at h₃';rw[if_pos rfl]
   cases hd:gens[d+1]? with
   |none=>
    rw[hd] at h₃';exact wpAny_bind (wpAny_mono h₃' (fun _ s₅ h₅=>wpAny_pure ⟨rfl,h₅⟩) fun _ _ x=>x.elim)
   |some g'=>
    rw[hd] at h₃';have h0:=ha g' hd;have e0:(g'.is_async != 0)=false:=by rw[h0];rfl
    dsimp only at h₃' ⊢;simp only[e0,Bool.false_eq_true,if_false] at h₃' ⊢;intro Γ p hΓ;have q:=h₃' Γ p hΓ;simp only[Sem.wp_bind'] at q ⊢;refine Sem.wp_mono _ Γ _ (fun x p₁ s₄ q₁=>?_) (fun _ _ _ z=>z.elim) _ _ q;refine Sem.wp_mono _ Γ _ (fun _ p₂ s₄ q₂=>?_) (fun _ _ _ z=>z.elim) _ _ q₁;refine Sem.wp_mono _ Γ _ (fun x p₂ s₄ q₂=>?_) (fun _ _ _ z=>z.elim) _ _ q₂;refine Sem.wp_mono _ Γ _ (fun x p₂ s₄ q₂=>?_) (fun _ _ _ z=>z.elim) _ _ q₂
    refine Sem.wp_mono _ Γ _ (fun x p₂ s₄ q₂=>?_) (fun _ _ _ z=>z.elim) _ _ q₂;exact⟨rfl,q₂⟩
end
section
variable{prog:Program}{w:World}{A:Around}{E:Value->Shared->Prop}{R:Result->Shared->Prop}{s:Shared}
theorem ni{elt target iter:Expr}{gens:List Comprehension}{ifs:List Expr}{scope:Scope}{pos:Pos}{d:Nat}{it acc:Value}{env:Env}(hg:gens[d]?=some ⟨target,iter,ifs,0⟩)(h0:codeAny (model prog w) A (.compLoop (.ListComp elt gens scope pos) d it acc env) R s)(h:wpAny (model prog w) A (pyIter it) (fun it' s'=>codeAny (model prog w) A (.compLoop (.ListComp elt gens scope pos) d it' acc env) R s') (fun _ _=>False) s):
  codeAny (model prog w) A (.compStart (.ListComp elt gens scope pos) d it acc env) R s:=by
 refine codeAny_of_tree ?_;show wpAny _ _ ((compStart (.ListComp elt gens scope pos) d it acc env).onRaise (fun x=>do noteFrame x env;standAt theWindowsPlace)) _ _ s
 refine wpAny_notedAt ?_;unfold compStart;have hcl:clausesOf (.ListComp elt gens scope pos)=gens:=rfl;simp only[hcl,hg,Option.elim];refine wpAny_ite ?_;rw[if_neg (by decide)]
 refine wpAny_bind (wpAny_askSetting (wpAny_ite ?_));split
 ·first
   |exact wpAny_bind (wpAny_pure (wpAny_pure (And.intro rfl h0)))
   |exact wpAny_pure (And.intro rfl h0)
 ·exact wpAny_bind (wpAny_rule (wpAny_bind (wpAny_standAt (wpAny_bind (wpAny_mono h (fun it' s' h'=>wpAny_pure (And.intro rfl h')) fun _ _ x=>x.elim)))))
end
noncomputable abbrev TL:=Addr->St->Hp->(St->Hp->Prop)->Prop
noncomputable def PL(X:Cx)(elt:Expr)(gens:List Comprehension)(scope:Scope)(pos:Pos)(d:Nat)(t:TL):Prop:=
 ∀(pins:List (Addr×Obj)) (s:Shared) (σ:St) (H:Hp) (acc:Addr) (K:St->Hp->Prop),Inv X pins σ H s->t acc σ H K ->
  wpAny (model X.prog X.w) X.A (ib elt gens scope pos d (.ref acc) X.env) (fun _ s'=>∃σ' H',Inv X pins σ' H' s'/\K σ' H') (fun _ _=>False) s
noncomputable def PTs(X:Cx)(ifs:List Expr)(t:TT):Prop:=
 ∀(pins:List (Addr×Obj)) (s:Shared) (σ:St) (H:Hp) (Q:Bool->Hp->Prop),Inv X pins σ H s->t σ H Q ->
  wpAny (model X.prog X.w) X.A (forIn ifs true fun c r=>if r=true then do let ok ← isTrue c X.env (eval c X.env);pure (ForInStep.yield ok) else pure (ForInStep.yield r)) (TP X pins σ Q) X.xe s
noncomputable def uB:TT:=fun _ H Q=>Q true H
noncomputable def Dj(te:TE):TL:=fun acc σ H K=>te σ H fun y H1=>∃xs,H1 acc=some (.lst xs)/\xs.length<sizeLine/\K σ (upd H1 acc (.lst (xs++[y])))
noncomputable def yI(J:It)(g:TG)(tc:TT)(l:TL):TL:=fun acc σ H K=>∃W:Nat->Nat->St->Hp->Prop,(∃m,W 0 m σ H)/\∀i m σ H,W i m σ H ->
 (J.stop i H/\K σ H)\/(J.go i H/\∀x H',J.yld i H x H'->g x σ H' fun σ2 H2=>tc σ2 H2 fun b H3=>
  if b=true then l acc σ2 H3 (fun σ3 H4=>∃m',m'<m/\W (i+1) m' σ3 H4) else ∃m',m'<m/\W (i+1) m' σ2 H3)
section
variable{X:Cx}{elt:Expr}{gens:List Comprehension}{scope:Scope}{pos:Pos}{d:Nat}{te:TE}{l:TL}{tg iter:Expr}{ifs:List Expr}{wi:TI}{g:TG}{tc:TT}
theorem uO:PTs X [] uB:=fun pins s σ H Q I h=>wpAny_tests_nil ⟨H,I,h⟩
theorem BY{c:Expr}(hc:PT X c tc):PTs X [c] tc:=fun pins s σ H Q I h=>wpAny_tests_one (hc pins s σ H Q I h)
theorem pB(hx:X.xe=fun _ _=>False)(hd:gens[d+1]?=none)(he:PE X elt te):PL X elt gens scope pos d (Dj te):=by
 intro pins s σ H acc K I h;unfold ib;rw[hd];have he':=he pins s σ H _ I h;rw[hx] at he';refine wpAny_bind (thn he' fun u s1 ⟨y,H1,I1,r1,xs,e1,z1,k1⟩=>?_);have ha:=fV pins s1 σ H1 (.ref acc) [y] (.ref acc) [u] (fun v H2=>v=.non/\H2=upd H1 acc (.lst (xs++[y]))) I1 rfl (.cons r1 .nil) ⟨acc,xs,y,rfl,rfl,e1,z1,rfl,rfl⟩;rw[hx] at ha;refine wpAny_bind (thn ha fun v s2 ⟨v',H2,I2,r2,e2,e3⟩=>wpAny_pure ⟨σ,H2,I2,by rw[e3];exact k1⟩)
theorem xo(hx:X.xe=fun _ _=>False)(hc:X.calm=true)(hd:gens[d]?=some ⟨tg,iter,ifs,0⟩)(ha:∀g',gens[d+1]?=some g'->g'.is_async=0)(hg:PG X tg g)(ht:PTs X ifs tc)(hl:PL X elt gens scope pos d l){pins:List (Addr×Obj)}{s:Shared}{σ:St}{H:Hp}{acc it:Addr}{fp:List Addr}{tn:Nat->Heap->Prop}{J:It}{K:St->Hp->Prop}{R:Result->Shared->Prop}(I:Inv X pins σ H s)(T:yP X.prog X.w X.K tg J fp it tn)(st:tn 0 s.heap)(f2:∀b∈fp,kg X pins H b)(h:yI J g tc l acc σ H K)(hR:∀σ' H' s',Inv X pins σ' H' s'->K σ' H'->R (.ok .next) s'):
  codeAny (model X.prog X.w) X.A (.compLoop (.ListComp elt gens scope pos) d (.ref it) (.ref acc) X.env) R s:=by
 obtain⟨W,⟨m0,w0⟩,turn⟩:=h;have stat:∀ {H':Hp},(∀b∈fp,H' b=none)->∀b∈fp,kg X pins H' b:=fun hn b hb=>⟨hn b hb,(f2 b hb).2⟩;refine o0 (fun n s'=>∃i σ' H',Inv X pins σ' H' s'/\tn i s'.heap/\(∀b∈fp,H' b=none)/\W i n σ' H') hd ha ?_ m0 ⟨0,σ,H,I,st,fun b hb=>(f2 b hb).1,w0⟩;rintro n s3 ⟨i,σ3,H3,I3,st3,fr3,w3⟩;rcases turn i n σ3 H3 w3 with⟨stop,qn⟩|⟨go,step⟩
 ·refine thn (T.done X rfl rfl rfl hc i pins s3 σ3 H3 _ I3 (stat fr3) st3 stop) fun r s4 ⟨hr,I4⟩=>?_
  subst hr;exact hR σ3 H3 s4 I4 qn
 ·refine thn (T.item X rfl rfl rfl hc i pins s3 σ3 H3 _ I3 (stat fr3) st3 go) fun r s4 ⟨u,hr,h4⟩=>?_
  subst hr;refine thn h4 fun _ s5 ⟨x,H5,I5,r5,y5,st5,fr5⟩=>?_;have I5':=I5.pinned (stat fr5) (T.obj _ _ st5)
  have again:∀ {σ7:St} {H7:Hp} {s7:Shared} {m':Nat},Inv X (pins++lJ fp s5.heap) σ7 H7 s7->m'<n->W (i+1) m' σ7 H7->∃m,m<n/\∃i σ' H',Inv X pins σ' H' s7/\tn i s7.heap/\(∀b∈fp,H' b=none)/\W i m σ' H':=fun {σ7 H7 s7 m'} I7 hm w7=>by
   refine⟨m',hm,i+1,σ7,H7,I7.unpinned,T.keep _ _ _ st5 fun b hb o e=>(I7.pin (b,o) (List.mem_append_right _ (List.mem_append_right _ (gu hb e)))).1,fun b hb=>?_,w7⟩;obtain⟨o,e,d⟩:=T.obj _ _ st5 b hb;exact(I7.pin (b,o) (List.mem_append_right _ (List.mem_append_right _ (gu hb e)))).2.1
  have hg':=hg _ s5 σ3 H5 x u _ I5' r5 (step x H5 y5);rw[hx] at hg';refine thn hg' fun _ s6 ⟨σ6,H6,I6,q6⟩=>?_;have ht':=ht _ s6 σ6 H6 _ I6 q6;rw[hx] at ht';refine thn ht' fun ok s7 ⟨H7,I7,q7⟩=>?_
  cases ok with
  |false=>
   rw[if_neg Bool.false_ne_true] at q7 ⊢;obtain⟨m',hm,w7⟩:=q7;exact again I7 hm w7
  |true=>
   rw[if_pos rfl] at q7 ⊢;refine thn (hl _ s7 σ6 H7 acc _ I7 q7) fun _ s8 ⟨σ8,H8,I8,m',hm,w8⟩=>?_;exact again I8 hm w8
end
noncomputable def gD(env:Env):List (Str×NameKind)->List (Str×Addr)->List (Str×Addr)
 | [],acc=>acc
 |(n,k)::r,acc=>if k == .free then gD env r ((n,(env.cells.lookup n).getD 0)::acc) else gD env r acc
theorem ux{scope:Scope}{env:Env}(h:∀y∈scope.names,y.2=.free->∃c,env.cells.lookup y.1=some c):closureFor scope env=pure (gD env scope.names []):=by
 have gen:∀(names:List (Str×NameKind)) (acc:List (Str×Addr)),(∀y∈names,y.2=.free->∃c,env.cells.lookup y.1=some c) ->
   (forIn names acc fun(x:Str×NameKind) (r:List (Str×Addr))=>(if (x.2 == NameKind.free)=true then do let a ← cellOf env x.1;pure (ForInStep.yield ((x.1,a)::r)) else pure (ForInStep.yield r):Sem _))=pure (gD env names acc):=by
  intro names
  induction names with
  |nil=>intro acc _;rfl
  |cons y r ih=>
   intro acc hy;obtain⟨n,k⟩:=y;rw[List.forIn_cons];unfold gD
   cases hk:k == NameKind.free with
   |true=>
    obtain⟨c,hc⟩:=hy (n,k) (List.mem_cons_self ..) (by simpa using hk)
    simp only[hk,if_true,cellOf,hc,Option.getD_some];exact ih _ fun y hy'=>hy y (List.mem_cons_of_mem _ hy')
   |false=>
    simp only[hk,Bool.false_eq_true,if_false];exact ih _ fun y hy'=>hy y (List.mem_cons_of_mem _ hy')
 have:=gen scope.names [] h;unfold closureFor;show ((forIn scope.names ([]:List (Str×Addr)) fun(x:Str×NameKind) (r:List (Str×Addr))=>(if (x.2 == NameKind.free)=true then do let a ← cellOf env x.1;pure (ForInStep.yield ((x.1,a)::r)) else pure (ForInStep.yield r):Sem _)) >>= fun z=>pure z)=_
 rw[this];rfl
theorem fY{env:Env}:∀ {names:List (Str×NameKind)} {acc:List (Str×Addr)} {n:Str} {c:Addr},(n,c)∈gD env names acc->(n,c)∈acc\/((n,NameKind.free)∈names/\c=(env.cells.lookup n).getD 0)
 | [],_,_,_,h=>.inl h
 |(m,k)::r,acc,n,c,h=>by
  unfold gD at h;split at h
  ·rename_i hk
   rcases fY h with h|⟨h1,h2⟩
   ·rcases List.mem_cons.mp h with e|e
    ·cases e
     have:k=.free:=by simpa using hk
     subst this;exact .inr ⟨List.mem_cons_self ..,rfl⟩
    ·exact .inl e
   ·exact .inr ⟨List.mem_cons_of_mem _ h1,h2⟩
  ·rcases fY h with h|⟨h1,h2⟩
   ·exact .inl h
   ·exact .inr ⟨List.mem_cons_of_mem _ h1,h2⟩
theorem jT{env:Env}:∀ {names:List (Str×NameKind)} {acc:List (Str×Addr)} {n:Str},((n,NameKind.free)∈names\/∃c,(n,c)∈acc)->∃c,(n,c)∈gD env names acc
 | [],_,_,h=>by
  rcases h with h|h
  ·cases h
  ·exact h
 |(m,k)::r,acc,n,h=>by
  unfold gD;split
  ·rename_i hk
   apply jT;rcases h with h|⟨c,h⟩
   ·rcases List.mem_cons.mp h with e|e
    ·cases e;exact .inr ⟨_,List.mem_cons_self ..⟩
    ·exact .inl e
   ·exact .inr ⟨c,List.mem_cons_of_mem _ h⟩
  ·rename_i hk
   apply jT;rcases h with h|h
   ·rcases List.mem_cons.mp h with e|e
    ·cases e;simp at hk
    ·exact .inl e
   ·exact .inr h
theorem fy:∀ {names:List (Str×NameKind)} {h:Heap} {acc:List (Str×Addr)} {n:Str} {c:Addr},(n,c)∈cellsFrom h.objs.size names acc ->
  (n,c)∈acc\/((n,NameKind.cell)∈names/\h.objs.size<=c/\(pushCells h names).IsCell c none)
 | [],_,_,_,_,m=>.inl m
 |(x,k)::r,h,acc,n,c,m=>by
  unfold cellsFrom at m;unfold pushCells;split at m
  ·rename_i hk
   rw[if_pos hk];have sz:(h.push { cls:=.type "cell",data:=.cell none }).objs.size=h.objs.size+1:=Heap.size_push ..;rw[←sz] at m
   rcases fy m with m|⟨m1,m2,m3⟩
   ·rcases List.mem_cons.mp m with e|e
    ·cases e
     have:k=.cell:=by simpa using hk
     subst this;exact .inr ⟨List.mem_cons_self ..,Nat.le_refl _,⟨_,pushCells_keeps _ _ _ _ (Heap.get?_push_size _ rfl),rfl⟩⟩
    ·exact .inl e
   ·exact .inr ⟨List.mem_cons_of_mem _ m1,by omega,m3⟩
  ·rename_i hk
   rw[if_neg hk];rcases fy m with m|⟨m1,m2,m3⟩
   ·exact .inl m
   ·exact .inr ⟨List.mem_cons_of_mem _ m1,m2,m3⟩
theorem c9:∀ {names:List (Str×NameKind)} {k:Nat} {acc:List (Str×Addr)} {n:Str},((n,NameKind.cell)∈names\/∃c,(n,c)∈acc)->∃c,(n,c)∈cellsFrom k names acc
 | [],_,_,_,h=>by
  rcases h with h|h
  ·cases h
  ·exact h
 |(m,k)::r,j,acc,n,h=>by
  unfold cellsFrom;split
  ·rename_i hk
   apply c9;rcases h with h|⟨c,h⟩
   ·rcases List.mem_cons.mp h with e|e
    ·cases e;exact .inr ⟨_,List.mem_cons_self ..⟩
    ·exact .inl e
   ·exact .inr ⟨c,List.mem_cons_of_mem _ h⟩
  ·rename_i hk
   apply c9;rcases h with h|h
   ·rcases List.mem_cons.mp h with e|e
    ·cases e;simp at hk
    ·exact .inl e
   ·exact .inr h
theorem fx:∀ {names:List (Str×NameKind)} {k:Nat} {acc:List (Str×Addr)},(∀n c,(n,c)∈acc->c<k)->(∀n m c,(n,c)∈acc->(m,c)∈acc->n=m) ->
  ∀n m c,(n,c)∈cellsFrom k names acc->(m,c)∈cellsFrom k names acc->n=m
 | [],_,_,_,h2,n,m,c,a,b=>h2 n m c a b
 |(x,kd)::r,k,acc,h1,h2,n,m,c,a,b=>by
  unfold cellsFrom at a b;split at a
  ·rename_i hk
   rw[if_pos hk] at b;refine fx (k:=k+1) ?_ ?_ n m c a b
   ·intro n c h
    rcases List.mem_cons.mp h with e|e
    ·cases e;exact Nat.lt_succ_self _
    ·exact Nat.lt_succ_of_lt (h1 n c e)
   ·intro n m c h h'
    rcases List.mem_cons.mp h with e|e<;>rcases List.mem_cons.mp h' with e'|e'
    ·cases e;cases e';rfl
    ·cases e;exact absurd (h1 _ _ e') (Nat.lt_irrefl _)
    ·cases e';exact absurd (h1 _ _ e) (Nat.lt_irrefl _)
    ·exact h2 n m c e e'
  ·rename_i hk
   rw[if_neg hk] at b;exact fx h1 h2 n m c a b
theorem dq{α:Type}:∀ {l:List (Str×α)} {n:Str},(∃c,(n,c)∈l)->∃c,l.lookup n=some c
 | [],_,⟨_,h⟩=>by cases h
 |(k,v)::r,n,⟨c,h⟩=>by
  rw[List.lookup_cons]
  cases hb:n == k with
  |true=>exact⟨v,rfl⟩
  |false=>
   rcases List.mem_cons.mp h with e|e
   ·cases e;simp at hb
   ·exact dq ⟨c,e⟩
noncomputable def mW(scope osc:Scope)(N:List Str)(src:List (Option Nat))(ON:List Str):Bool:=
 (scope.kind == .function) && (osc.kind == .function) && decide (src.length=N.length) &&
 (scope.names.all fun y=>(scope.names.lookup y.1 == some y.2) && (if y.2 == .free then osc.names.lookup y.1 == some .cell else true)) &&
 ((N.zip src).all fun p=>match p.2 with|none=>true|some j=>(ON[j]? == some p.1) && (scope.names.lookup p.1 == some .free))
noncomputable def qr(src:List (Option Nat))(σ:St):St:=src.map fun o=>match o with|none=>none|some j=>(σ[j]?).join
noncomputable def Cx.blk(X:Cx)(scope:Scope)(N:List Str)(cs:List (Str×Addr))(C:Addr)(s:Shared)(H:Hp)(ex:List Addr)(pn:List (Addr×Obj)):Cx:=
 { X with N:=N,s₀:=s,H₀:=H,env:=compEnvC scope cs C X.env,outer:=X.stack,stack:=X.stack,ex:=ex,fn:=fun x=>decide (scope.names.lookup x=some .cell),pn:=pn,xe:=fun _ _=>False }
section
variable{X:Cx}{pins:List (Addr×Obj)}{σ:St}{H:Hp}{s:Shared}{scope:Scope}{N:List Str}{src:List (Option Nat)}
theorem nX{osc:Scope}{ON:List Str}(h:mW scope osc N src ON=true):scope.kind=.function/\osc.kind=.function/\src.length=N.length /\
  (∀y∈scope.names,scope.names.lookup y.1=some y.2)/\(∀y∈scope.names,y.2=.free->osc.names.lookup y.1=some .cell) /\
  (∀(i:Nat)(x:Str)(j:Nat),N[i]?=some x->src[i]?=some (some j)->ON[j]?=some x/\scope.names.lookup x=some .free):=by
 unfold mW at h;simp only[Bool.and_eq_true,decide_eq_true_eq,beq_iff_eq,List.all_eq_true] at h;obtain⟨⟨⟨⟨h1,h2⟩,h3⟩,h4⟩,h5⟩:=h;refine⟨h1,h2,h3,fun y hy=>(h4 y hy).1,fun y hy e=>?_,fun i x j e1 e2=>?_⟩
 ·have:=(h4 y hy).2
  rw[e] at this;simpa using this
 ·have hm:(x,some j)∈N.zip src:=by
   apply List.mem_of_getElem? (i:=i);rw[List.getElem?_zip_eq_some];exact⟨e1,e2⟩
  have:=h5 _ hm;simpa using this
theorem ia{env:Env}(hk:env.scope.kind=.function):∀ {names:List (Str×NameKind)} {x:Str} {k:NameKind},names.lookup x=some k->(k=.free->env.kindOf x=some .cell) ->
  (names.map fun(n,k)=>if (k == NameKind.free && env.scope.kind == .function && env.kindOf n == some .cell) then (n,NameKind.cell) else (n,k)).lookup x=some (if k=.free then .cell else k)
 | [],_,_,h,_=>by simp at h
 |(n,k')::r,x,k,h,hf=>by
  have ih:=@ia env hk r x k;show List.lookup x ((if (k' == NameKind.free && env.scope.kind == .function && env.kindOf n == some .cell)=true then (n,NameKind.cell) else (n,k'))::_)=_
  cases hx:x == n with
  |true=>
   simp only[List.lookup_cons,hx] at h;have e:x=n:=by simpa using hx
   subst e;cases h;by_cases hfr:k'=.free
   ·have:=hf hfr
    subst hfr;rw[if_pos (by rw[this,hk];rfl)]
    simp[List.lookup_cons]
   ·have hfr':(k' == NameKind.free)=false:=by simpa using hfr
    rw[if_neg (by rw[hfr'];simp),if_neg hfr]
    simp[List.lookup_cons]
  |false=>
   simp only[List.lookup_cons,hx] at h;by_cases hc:(k' == NameKind.free && env.scope.kind == .function && env.kindOf n == some .cell)=true
   ·rw[if_pos hc];simp only[List.lookup_cons,hx];exact ih h hf
   ·rw[if_neg hc];simp only[List.lookup_cons,hx];exact ih h hf
theorem su{env:Env}{names:List (Str×NameKind)}{x:Str}(h:(names.map fun(n,k)=>if (k == NameKind.free && env.scope.kind == .function && env.kindOf n == some .cell) then (n,NameKind.cell) else (n,k)).lookup x=some .cell):
  (x,NameKind.cell)∈names\/(x,NameKind.free)∈names:=by
 have hm:=mem_of_lookup h;obtain⟨⟨n,k⟩,hy,e⟩:=List.mem_map.mp hm;dsimp only at e;split at e
 ·rename_i hc
  cases e;simp only[Bool.and_eq_true,beq_iff_eq] at hc;rw[hc.1.1] at hy;exact .inr hy
 ·cases e;exact .inl hy
theorem pI{env:Env}{names:List (Str×NameKind)}{x:Str}(hk:env.scope.kind=.function)(hfr:∀y∈names,y.2=.free->env.kindOf y.1=some .cell)(h:(names.map fun(n,k)=>if (k == NameKind.free && env.scope.kind == .function && env.kindOf n == some .cell) then (n,NameKind.cell) else (n,k)).lookup x=some .free):False:=by
 have hm:=mem_of_lookup h;obtain⟨⟨n,k⟩,hy,e⟩:=List.mem_map.mp hm;dsimp only at e;split at e
 ·cases e
 ·rename_i hc
  cases e;have:=hfr _ hy rfl;exact hc (by rw[this,hk];rfl)
theorem xz{fp:List Addr}(I:Inv X pins σ H s)(hb:mW scope X.env.scope N src X.N=true)(f2:∀b∈fp,kg X pins H b)(fo:∀b∈fp,∃o,s.heap.get? b=some o){t:Nat}:
  Inv (X.blk scope N (cellsFrom (s.heap.objs.size+1) scope.names (gD X.env scope.names [])) s.heap.objs.size s H fp (X.pn++pins)) [] (qr src σ) H { s with heap:=pushCells (s.heap.push { cls:=.type "dict",data:=.dict #[] }) scope.names,toks:=t }:=by
 obtain⟨hk,hok,hlen,hnd,hfr,hsrc⟩:=nX hb;have keep:∀b o,s.heap.get? b=some o->(pushCells (s.heap.push { cls:=.type "dict",data:=.dict #[] }) scope.names).get? b=some o:=fun b o e=>pushCells_keeps _ _ b o (Heap.get?_push_of_some _ e);have hfr':∀y∈scope.names,y.2=.free->X.env.kindOf y.1=some .cell:=hfr;have sz:(s.heap.push { cls:=.type "dict",data:=.dict #[] }).objs.size=s.heap.objs.size+1:=Heap.size_push ..
 have cell:∀n c,(n,c)∈cellsFrom (s.heap.objs.size+1) scope.names (gD X.env scope.names []) ->
   (X.env.cells.lookup n=some c/\(n,NameKind.free)∈scope.names)\/((n,NameKind.cell)∈scope.names/\s.heap.objs.size<c/\(pushCells (s.heap.push { cls:=.type "dict",data:=.dict #[] }) scope.names).IsCell c none):=by
  intro n c h;rw[←sz] at h
  rcases fy h with h|⟨h1,h2,h3⟩
  ·rcases fY h with h|⟨h1,h2⟩
   ·cases h
   ·obtain⟨c',hc'⟩:=I.ok.has n (.inl (hfr' _ h1 rfl))
    rw[hc'] at h2;exact .inl ⟨by rw[hc',h2];rfl,h1⟩
  ·exact .inr ⟨h1,by rw[sz] at h2;exact h2,h3⟩
 have oldc:∀n c,X.env.cells.lookup n=some c->c<s.heap.objs.size:=fun n c e=>by
  obtain⟨v,o,ho,_⟩:=I.cell n c e;exact Heap.lt_size ho
 have hH:H s.heap.objs.size=none:=I.hok.fresh (Nat.le_refl _)
 have ok:(X.blk scope N (cellsFrom (s.heap.objs.size+1) scope.names (gD X.env scope.names [])) s.heap.objs.size s H fp (X.pn++pins)).Ok:={
  mod:=I.ok.mod
  kind:=hk
  glob:=I.ok.glob
  blt:=I.ok.blt
  above:=Nat.le_refl _
  inj:=fun x y c a b=>by
   refine fx (k:=s.heap.objs.size+1) (acc:=gD X.env scope.names []) ?_ ?_ x y c (mem_of_lookup a) (mem_of_lookup b)
   ·intro n c h
    rcases fY h with h|⟨h1,h2⟩
    ·cases h
    ·obtain⟨c',hc'⟩:=I.ok.has n (.inl (hfr' _ h1 rfl))
     rw[hc'] at h2;rw[h2];exact Nat.lt_succ_of_lt (oldc n c' hc')
   ·intro n m c h h'
    rcases fY h with h|⟨h1,h2⟩
    ·cases h
    ·rcases fY h' with h'|⟨h1',h2'⟩
     ·cases h'
     ·obtain⟨c1,hc1⟩:=I.ok.has n (.inl (hfr' _ h1 rfl))
      obtain⟨c2,hc2⟩:=I.ok.has m (.inl (hfr' _ h1' rfl));rw[hc1] at h2;rw[hc2] at h2';have e1:c=c1:=h2;have e2:c=c2:=h2';exact I.ok.inj n m c (by rw[e1];exact hc1) (by rw[e2];exact hc2)
  has:=fun x h=>by
   have hm:(x,NameKind.cell)∈scope.names\/(x,NameKind.free)∈scope.names:=by
    rcases h with h|h
    ·exact su (env:=X.env) h
    ·exact(pI (env:=X.env) hok hfr' h).elim
   have:∃c,(x,c)∈cellsFrom (s.heap.objs.size+1) scope.names (gD X.env scope.names []):=by
    rcases hm with hm|hm
    ·exact c9 (.inl hm)
    ·exact c9 (.inr (jT (.inl hm)))
   exact dq this
  cab:=fun x c hf e=>by
   have hf':scope.names.lookup x=some .cell:=of_decide_eq_true hf;rcases cell x c (mem_of_lookup e) with⟨_,h⟩|⟨_,h,_⟩
   ·have:=hnd _ h
    rw[hf'] at this;cases this
   ·exact Nat.le_of_lt h
  hd:=I.ok.hd
  frames:=I.ok.frames
  stk:=.inl rfl
  exf:=fun b hb=>by
   obtain⟨o,ho⟩:=fo b hb;have hlt:=Heap.lt_size ho;refine⟨Nat.ne_of_lt hlt,fun x c e=>?_⟩;rcases cell x c (mem_of_lookup e) with⟨h,_⟩|⟨_,h,_⟩
   ·exact(f2 b hb).2.2.2.2.1 x c h
   ·exact Nat.ne_of_gt (Nat.lt_trans hlt h)
  bs:=I.bs
  bsz:=Nat.le_trans I.ok.bsz I.sz
  noex:=fun b o e hb=>by
   rcases(f2 b hb).2.2.2.1 with h|h
   ·exact I.ok.noex b o e h
   ·exact absurd (Nat.lt_of_lt_of_le (Heap.lt_size e) (Nat.le_trans I.ok.bsz h)) (Nat.lt_irrefl _)
  exfs:=fun b hb hm=>by
   rcases List.mem_cons.mp (I.IK b hm) with h|h
   ·exact(f2 b hb).2.1 h
   ·exact(f2 b hb).2.2.1 h
  funs:=I.stack
  frf:=I.IJ
  tt:=I.ok.tt.mono I.base.tbls }
 refine⟨ok,rfl,I.bare,Un.kept keep,⟨fun _=>none,(Heap.Ns.new s.heap (.type "dict")).keeps (pushCells_keeps _ _),fun i x v e1 e2 e3=>?_⟩,fun x c e=>?_,hH,fun x c e=>?_,fun p hp=>?_,I.hok.kept keep,?_⟩
 ·-- a captured name
  have e2':(src.map fun o=>match o with|none=>none|some j=>(σ[j]?).join)[i]?=some (some v):=e2
  rw[List.getElem?_map] at e2'
  cases hs:src[i]? with
  |none=>rw[hs] at e2';cases e2'
  |some o=>
   rw[hs] at e2'
   cases o with
   |none=>cases e2'
   |some j=>
    have ej:(σ[j]?).join=some v:=by simpa using e2'
    have ej':σ[j]?=some (some v):=by
     cases hq:σ[j]? with
     |none=>rw[hq] at ej;cases ej
     |some z=>rw[hq] at ej;simpa using ej
    obtain⟨n1,n2⟩:=hsrc i x j e1 hs;have hfree:X.env.kindOf x=some .cell:=hfr' (x,.free) (mem_of_lookup n2) rfl;obtain⟨m,hn,hl⟩:=I.loc;obtain⟨u,r,l⟩:=hl j x v n1 ej' (.inr (.inl hfree));refine⟨u,r,.inr ⟨.inl ?_,?_⟩⟩
    ·have:=ia (env:=X.env) hok n2 (fun _=>hfree)
     exact this
    ·rcases l with⟨h,_⟩|⟨_,c,hc,hcell⟩
     ·rw[hfree] at h;cases h
     ·have:∃c',(x,c')∈cellsFrom (s.heap.objs.size+1) scope.names (gD X.env scope.names []):=c9 (.inr (jT (.inl (mem_of_lookup n2))))
      obtain⟨c',hc'⟩:=dq this;refine⟨c',hc',?_⟩;rcases cell x c' (mem_of_lookup hc') with⟨h,_⟩|⟨h,_,_⟩
      ·rw[hc] at h
       cases h;obtain⟨oc,ho,hd⟩:=hcell;exact⟨oc,keep _ _ ho,hd⟩
      ·have:=hnd _ h
       rw[n2] at this;cases this
 ·rcases cell x c (mem_of_lookup e) with⟨h,_⟩|⟨_,_,h⟩
  ·obtain⟨v,o,ho,hd⟩:=I.cell x c h
   exact⟨v,o,keep _ _ ho,hd⟩
  ·exact⟨_,h⟩
 ·rcases cell x c (mem_of_lookup e) with⟨h,_⟩|⟨_,h,_⟩
  ·exact I.freeC x c h
  ·exact I.hok.fresh (Nat.le_of_lt h)
 ·rw[List.append_nil] at hp
  obtain⟨e,n,ne,nf,d⟩:=I.pin p hp;refine⟨keep _ _ e,n,Nat.ne_of_lt (Heap.lt_size e),fun hm=>?_,d⟩;rcases List.mem_cons.mp (I.IK _ hm) with h|h
  ·exact ne h
  ·exact nf h
 ·show (src.map _).length=N.length
  rw[List.length_map];exact hlen
theorem Cg{fp:List Addr}{cs:List (Str×Addr)}{C:Addr}{σ':St}{H':Hp}{s':Shared}{pins':List (Addr×Obj)}(I:Inv X pins σ H s)(f2:∀b∈fp,kg X pins H b)(I':Inv (X.blk scope N cs C s H fp (X.pn++pins)) pins' σ' H' s'):Inv X pins σ H' s':=
 I.call' (ch:=fp) I'.os I'.base I'.hok I'.bare fun b hb=>⟨(f2 b hb).2.2.2.1,(f2 b hb).2.1,(f2 b hb).2.2.2.2.1,(f2 b hb).2.2.2.2.2⟩
theorem Ah{C:Addr}{h':Heap}(I:Inv X pins σ H s)(hC:H C=none)(hL:C≠X.env.locals)(h1:X.s₀.heap.objs.size<=C)(h2:∀x c,X.env.cells.lookup x=some c->c≠C)(h3:∀p∈X.pn++pins,p.1≠C)(hs:Heap.SameBut C s.heap h'):Inv X pins σ H { s with heap:=h' }:=
 I.turned (t':=s.toks) (fun b o hb e=>(hs.2 b hb).trans e) hC hL (.inr h1) h2 h3
end
section
variable{M:Model}{A:Around}{E:Value->Shared->Prop}{s:Shared}
theorem sk{scope:Scope}{globals:Addr}{cl:List (Str×Addr)}{qual:Str}{env:Env}{Q:Env->Shared->Prop}(hQ:Q (newEnv scope s.heap.objs.size globals (cellsFrom (s.heap.objs.size+1) scope.names cl) qual none .none (some env) builtinsNs) { s with heap:=pushCells (s.heap.push { cls:=.type "dict",data:=.dict #[] }) scope.names }):
  wpAny M A (newFunctionEnv scope globals cl [] qual none .none (some env)) Q E s:=by
 simp only[newFunctionEnv,Option.isSome_some,if_true];refine wpAny_bind (wpAny_alloc ?_);refine wpAny_bind (wpAny_layCells _ (fun name kind cells=>by cases hkc:kind == NameKind.cell<;>simp[hkc]) _ _ _ _ ?_)
 rw[show ({ s with heap:=s.heap.push { cls:=.type "dict",data:=.dict #[] } }:Shared).heap.objs.size=s.heap.objs.size+1 from Heap.size_push ..]
 simp only[List.forIn_nil];exact wpAny_bind (wpAny_pure (wpAny_pure hQ))
end
section
variable{X:Cx}{elt tg iter:Expr}{ifs:List Expr}{bO:List Comprehension}{scope:Scope}{pos:Pos}{N:List Str}{src:List (Option Nat)}{wi:TI}{g:TG}{tc:TT}{l:TL}
noncomputable def vd(src:List (Option Nat))(wi:TI)(g:TG)(tc:TT)(l:TL):TE:=fun σ H Q=>wi σ H fun J H1=>∀acc,H1 acc=none->yI J g tc l acc (qr src σ) (upd H1 acc (.lst [])) fun _ H'=>Q (.ref acc) H'
theorem zE{use:Option (Value->Sem Unit)}{pins:List (Addr×Obj)}{s:Shared}{σ:St}{H:Hp}{Q:Value->Shared->Prop}{Q':VK}(hc:X.calm=true)(hb:mW scope X.env.scope N src X.N=true)(ha:∀g',bO[0]?=some g'->g'.is_async=0)(hi:PI X tg iter wi)(hg:∀cs C s H ex pn,PG (X.blk scope N cs C s H ex pn) tg g)(ht:∀cs C s H ex pn,PTs (X.blk scope N cs C s H ex pn) ifs tc)(hl:∀cs C s H ex pn,PL (X.blk scope N cs C s H ex pn) elt (⟨tg,iter,ifs,0⟩::bO) scope pos 0 l)(hs:∀x,foldedSetIterable iter X.env x=pure x)(I:Inv X pins σ H s)(h:vd src wi g tc l σ H Q')
  (hQ:∀(acc C:Addr)(H':Hp)(s':Shared)(m:Str->Option Value),Inv X pins σ H' s'->Q' (.ref acc) H'->s'.heap.Ns C m->H' C=none->C≠X.env.locals->X.s₀.heap.objs.size<=C->(∀x c,X.env.cells.lookup x=some c->c≠C)->(∀p∈X.pn++pins,p.1≠C) ->
   compPost (model X.prog X.w) X.A X.xe use Q (.ref acc) C (.ok .next) s') :
  wpAny (model X.prog X.w) X.A (comprehension (.ListComp elt (⟨tg,iter,ifs,0⟩::bO) scope pos) scope X.env (firstIterPos (⟨tg,iter,ifs,0⟩::bO) pos) (newList []) false (firstIter (⟨tg,iter,ifs,0⟩::bO) X.env) use) Q X.xe s:=by
 obtain⟨hk,hok,hlen,hnd,hfr,hsrc⟩:=nX hb;refine wpAny_comprehension_free (g:=⟨tg,iter,ifs,0⟩) (gs:=bO) rfl hs (ux fun y hy e=>I.ok.has y.1 (.inl (hfr y hy e))) hk (fun y hy e=>by have:=hnd y hy;rw[e] at this;exact this) ?_
 refine thn (hi pins s σ H _ I h) fun v s1 h1=>thn h1 fun itv s2 h2=>?_;obtain⟨it,fp,tn,J,H2,e,I2,T,st2,f2,q⟩:=h2;subst e;have hfresh:H2 s2.heap.objs.size=none:=I2.hok.fresh (Nat.le_refl _);refine wpAny_newObj_type (sk ?_);dsimp only;have old:∀b o,s2.heap.get? b=some o->(s2.heap.push { cls:=.type "list",dict:=none,data:=.seq ([]:List Value).toArray }).get? b=some o:=fun b o e=>Heap.get?_push_of_some _ e
 have I3:Inv X pins σ (upd H2 s2.heap.objs.size (.lst [])) { s2 with heap:=s2.heap.push { cls:=.type "list",dict:=none,data:=.seq ([]:List Value).toArray } }:=
  I2.lnew (its:=[]) (t':=s2.toks) .nil (by decide)
 have f3:∀b∈fp,kg X pins (upd H2 s2.heap.objs.size (.lst [])) b:=fun b hb=>by
  obtain⟨o,ho,_⟩:=T.obj _ _ st2 b hb;exact⟨by rw[aw (Nat.ne_of_lt (Heap.lt_size ho))];exact(f2 b hb).1,(f2 b hb).2⟩
 have fo3:∀b∈fp,∃o,({ s2 with heap:=s2.heap.push { cls:=.type "list",dict:=none,data:=.seq ([]:List Value).toArray } }:Shared).heap.get? b=some o:=fun b hb=>by
  obtain⟨o,ho,_⟩:=T.obj _ _ st2 b hb;exact⟨o,old b o ho⟩
 generalize hs3:({ s2 with heap:=s2.heap.push { cls:=.type "list",dict:=none,data:=.seq ([]:List Value).toArray } }:Shared)=s3 at I3 fo3 ⊢
 have st3:tn 0 s3.heap:=by
  rw[←hs3]
  exact T.keep _ _ _ st2 fun b _ o e=>old b o e
 have IB:=xz (t:=s3.toks) I3 hb f3 fo3;have stB:tn 0 (pushCells (s3.heap.push { cls:=.type "dict",data:=.dict #[] }) scope.names):=T.keep _ _ _ st3 fun b _ o e=>pushCells_keeps _ _ b o (Heap.get?_push_of_some _ e)
 have fB:∀b∈fp,kg (X.blk scope N (cellsFrom (s3.heap.objs.size+1) scope.names (gD X.env scope.names [])) s3.heap.objs.size s3 (upd H2 s2.heap.objs.size (.lst [])) fp (X.pn++pins)) [] (upd H2 s2.heap.objs.size (.lst [])) b:=fun b hb=>by
  obtain⟨n0,n1,n2,n3,n4,n5⟩:=f3 b hb;refine⟨n0,(IB.ok.exf b hb).1,IB.ok.exfs b hb,.inl hb,(IB.ok.exf b hb).2,fun p hp=>?_⟩;rw[List.append_nil] at hp;exact n5 p hp
 have loop:codeAny (model X.prog X.w) X.A (.compLoop (.ListComp elt (⟨tg,iter,ifs,0⟩::bO) scope pos) 0 (.ref it) (.ref s2.heap.objs.size) (compEnvC scope (cellsFrom (s3.heap.objs.size+1) scope.names (gD X.env scope.names [])) s3.heap.objs.size X.env))
   (compPost (model X.prog X.w) X.A X.xe use Q (.ref s2.heap.objs.size) s3.heap.objs.size) { s3 with heap:=pushCells (s3.heap.push { cls:=.type "dict",data:=.dict #[] }) scope.names }:=by
  refine xo (X:=X.blk scope N (cellsFrom (s3.heap.objs.size+1) scope.names (gD X.env scope.names [])) s3.heap.objs.size s3 (upd H2 s2.heap.objs.size (.lst [])) fp (X.pn++pins)) rfl hc rfl (by simpa using ha) (hg _ _ _ _ _ _) (ht _ _ _ _ _ _) (hl _ _ _ _ _ _) IB T stB fB (q _ hfresh) fun σ' H' s' I' k'=>?_
  obtain⟨m,hn,_⟩:=I'.loc;refine hQ _ _ H' s' m (Cg I3 f3 I') k' hn I'.free ?_ I3.sz ?_ ?_
  ·exact Nat.ne_of_gt I3.lt
  ·intro x c e
   obtain⟨v,o,ho,_⟩:=I3.cell x c e;exact Nat.ne_of_lt (Heap.lt_size ho)
  ·intro p hp
   exact Nat.ne_of_lt (Heap.lt_size (I3.pin p hp).1)
 subst hs3;exact ni (d:=0) rfl loop (T.self X.A 0 _ _ _ stB loop)
theorem oX(hc:X.calm=true)(hb:mW scope X.env.scope N src X.N=true)(ha:∀g',bO[0]?=some g'->g'.is_async=0)(hi:PI X tg iter wi)(hg:∀cs C s H ex pn,PG (X.blk scope N cs C s H ex pn) tg g)(ht:∀cs C s H ex pn,PTs (X.blk scope N cs C s H ex pn) ifs tc)(hl:∀cs C s H ex pn,PL (X.blk scope N cs C s H ex pn) elt (⟨tg,iter,ifs,0⟩::bO) scope pos 0 l)(hs:∀x,foldedSetIterable iter X.env x=pure x:=by intro _;rfl):PE X (.ListComp elt (⟨tg,iter,ifs,0⟩::bO) scope pos) (vd src wi g tc l):=.mk <| by
 intro pins s σ H Q I h;rw[eval_ListComp];refine zE (use:=none) hc hb ha hi hg ht hl hs I h fun acc C H' s' m I' q' hn hC hL h1 h2 h3=>?_;exact⟨m,hn,fun h' hs'=>⟨.ref acc,H',Ah I' hC hL h1 h2 h3 hs',rfl,q'⟩⟩
end
section
variable{X:Cx}
noncomputable def f9(H:Hp):V->Option String
 |.non=>some "NoneType"
 |.bl _=>some "bool"
 |.int _=>some "int"
 |.str _=>some "str"
 |.ref a=>match H a with
  |some (.lst _)=>some "list"
  |some (.tup _)=>some "tuple"
  |some (.dK _)=>some "dict"
  |some (.dT _)=>some "dict"
  |some (.frz _ (.lst _))=>some "list"
  |_=>none
 |_=>none
noncomputable def isA(H:Hp)(x:V)(T:String):Bool:=match f9 H x with
 |some t=>t == T || (t == "bool" && T == "int")
 |none=>false
theorem wO{K:W.Frag}{H:Hp}{x:V}{t:String}(h:f9 H x=some t):jY K H x (.type t):=by
 cases x with
 |non=>cases h;exact .non
 |bl b=>cases h;exact .bl b
 |int i=>cases h;exact .int i
 |str z=>cases h;exact .str z
 |byt b=>cases h
 |flt b=>cases h
 |ty n=>cases h
 |ref a=>
  unfold f9 at h;dsimp only at h;split at h
  ·rename_i e;cases h;exact .lst e
  ·rename_i e;cases h;exact .tup e
  ·rename_i e;cases h;exact .dK e
  ·rename_i e;cases h;exact .dT e
  ·rename_i e;cases h;exact .frz e
  ·cases h
noncomputable def kF:List String:=["NoneType","bool","int","str","list","tuple","dict"]
theorem qO{H:Hp}{x:V}{t:String}(h:f9 H x=some t):t∈kF:=by
 cases x with
 |non=>cases h;decide
 |bl b=>cases h;decide
 |int i=>cases h;decide
 |str z=>cases h;decide
 |byt b=>cases h
 |flt b=>cases h
 |ty n=>cases h
 |ref a=>
  unfold f9 at h;dsimp only at h;split at h<;>first|(cases h;decide)|cases h
theorem Ec(K:W.Frag){t T:String}(ht:t∈kF)(hT:T∈kF):W.kitOne K (.type t) (.type T)=some (t == T || (t == "bool" && T == "int")):=by
 simp only[kF,List.mem_cons,List.not_mem_nil,or_false] at ht hT;rcases ht with rfl|rfl|rfl|rfl|rfl|rfl|rfl<;>rcases hT with rfl|rfl|rfl|rfl|rfl|rfl|rfl<;>with_unfolding_all rfl
theorem qV:eh X (.builtin "isinstance") (fun xs H Q=>∃x T,xs=[x,.ty T]/\T∈kF/\(f9 H x).isSome=true/\Q (.bl (isA H x T)) H):=by
 intro pins s σ H xs us Q I r h;obtain⟨x,T,rfl,hT,hs,q⟩:=h;obtain⟨u,w',rfl,rx,rT⟩:=FR r;cases (show w'=Value.type T from rT)
 obtain⟨t,ht⟩:=Option.isSome_iff_exists.mp hs;refine wP I rx (wO ht) (Ec X.K (qO ht) hT) fun tk=>⟨.bl (isA H x T),H,I.tok tk,?_,q⟩;show _=Value.bool (isA H x T);unfold isA;rw[ht]
end
end L2
set_option autoImplicit false
namespace L2
open PySem PySem.Spec PyProof.Rows
inductive D where
 |non|bl (b:Bool)|int (i:Int)|str (x:Str)|tup (ds:List D)|lst (ds:List D)
 |dk (ks:List Int)|dt (ks:List (List Int))
noncomputable def dkO(ks:List Int):List (Key×V):=ks.map fun k=>(Sum.inl k,V.int 1)
noncomputable def dtO(ks:List (List Int)):List (List Key×V):=ks.map fun k=>(k.map Sum.inl,V.int 1)
theorem vp:∀ {a b:List Int},dkO a=dkO b->a=b
 | [],[],_=>rfl
 |x::a,y::b,h=>by
  simp only[dkO,List.map_cons,List.cons.injEq,Prod.mk.injEq,Sum.inl.injEq,and_true] at h;rw[h.1,vp h.2]
 | [],_::_,h=>by simp[dkO] at h
 |_::_,[],h=>by simp[dkO] at h
theorem uW:∀ {a b:List Int},(a.map Sum.inl:List Key)=b.map Sum.inl->a=b
 | [],[],_=>rfl
 |x::a,y::b,h=>by
  simp only[List.map_cons,List.cons.injEq,Sum.inl.injEq] at h;rw[h.1,uW h.2]
 | [],_::_,h=>by simp at h
 |_::_,[],h=>by simp at h
theorem wB:∀ {a b:List (List Int)},dtO a=dtO b->a=b
 | [],[],_=>rfl
 |x::a,y::b,h=>by
  simp only[dtO,List.map_cons,List.cons.injEq,Prod.mk.injEq,and_true] at h;rw[uW h.1,wB h.2]
 | [],_::_,h=>by simp[dtO] at h
 |_::_,[],h=>by simp[dtO] at h
mutual
noncomputable def Dat(H:Hp):D->V->Prop
 |.non,v=>v=.non
 |.bl b,v=>v=.bl b
 |.int i,v=>v=.int i
 |.str x,v=>v=.str x
 |.tup ds,v=>∃a xs,v=.ref a/\H a=some (.tup xs)/\aE H ds xs
 |.lst ds,v=>∃a xs,v=.ref a/\H a=some (.lst xs)/\aE H ds xs
 |.dk ks,v=>∃a xs,v=.ref a/\H a=some (.dK (dkO xs))/\xs=ks
 |.dt ks,v=>∃a xs,v=.ref a/\H a=some (.dT (dtO xs))/\xs=ks
noncomputable def aE(H:Hp):List D->List V->Prop
 | [],xs=>xs=[]
 |d::ds,xs=>∃x r,xs=x::r/\Dat H d x/\aE H ds r
end
mutual
noncomputable def dep:D->Nat
 |.tup ds=>dR ds+1
 |.lst ds=>dR ds+1
 |.dk _=>1000000
 |.dt _=>1000000
 |_=>0
noncomputable def dR:List D->Nat
 | []=>0
 |d::ds=>max (dep d) (dR ds)
end
mutual
noncomputable def eqD:D->D->Bool
 |.non,.non=>true
 |.bl a,.bl b=>a == b
 |.bl a,.int b=>(if a then 1 else 0) == b
 |.int a,.bl b=>a == (if b then 1 else 0)
 |.int a,.int b=>a == b
 |.str a,.str b=>a == b
 |.tup a,.tup b=>fP a b
 |.lst a,.lst b=>fP a b
 |.dk a,.dk b=>a == b
 |.dt a,.dt b=>a == b
 |_,_=>false
noncomputable def fP:List D->List D->Bool
 | [],[]=>true
 |x::xs,y::ys=>eqD x y && fP xs ys
 |_,_=>false
end
theorem si:∀ {ds:List D} {d:D},d∈ds->dep d<=dR ds
 |d::ds,e,h=>by
  unfold dR;rcases List.mem_cons.mp h with rfl|h
  ·exact Nat.le_max_left _ _
  ·exact Nat.le_trans (si h) (Nat.le_max_right _ _)
theorem aE.length:∀ {H:Hp} {ds:List D} {xs:List V},aE H ds xs->xs.length=ds.length
 |H,[],xs,h=>by
  have e:xs=[]:=by simpa[aE] using h
  rw[e];rfl
 |H,d::ds,xs,h=>by
  obtain⟨x,r,rfl,_,t⟩:∃x r,xs=x::r/\Dat H d x/\aE H ds r:=by simpa only[aE] using h
  rw[List.length_cons,List.length_cons,aE.length t]
theorem aE.get:∀ {H:Hp} {ds:List D} {xs:List V} {i:Nat} {d:D},aE H ds xs->ds[i]?=some d->∃x,xs[i]?=some x/\Dat H d x
 |H,[],xs,i,d,h,e=>by simp at e
 |H,d'::ds,xs,i,d,h,e=>by
  obtain⟨x,r,rfl,hx,t⟩:∃x r,xs=x::r/\Dat H d' x/\aE H ds r:=by simpa only[aE] using h
  cases i with
  |zero=>simp at e;subst e;exact⟨x,rfl,hx⟩
  |succ i=>simpa using aE.get t (i:=i) (by simpa using e)
theorem aE.of_get:∀ {H:Hp} {ds:List D} {xs:List V},xs.length=ds.length->(∀(i:Nat)(d:D)(x:V),ds[i]?=some d->xs[i]?=some x->Dat H d x)->aE H ds xs
 |H,[],[],_,_=>by simp[aE]
 |H,d::ds,x::xs,hl,h=>by
  simp only[aE];exact⟨x,xs,rfl,h 0 d x rfl rfl,aE.of_get (by simpa using hl) fun i d x e1 e2=>h (i+1) d x (by simpa using e1) (by simpa using e2)⟩
 |H,[],_::_,hl,_=>by simp at hl
 |H,_::_,[],hl,_=>by simp at hl
theorem aE.append:∀ {H:Hp} {ds es:List D} {xs ys:List V},aE H ds xs->aE H es ys->aE H (ds++es) (xs++ys)
 |H,[],es,xs,ys,h,h'=>by
  have e:xs=[]:=by simpa[aE] using h
  rw[e];exact h'
 |H,d::ds,es,xs,ys,h,h'=>by
  obtain⟨x,r,rfl,hx,t⟩:∃x r,xs=x::r/\Dat H d x/\aE H ds r:=by simpa only[aE] using h
  show aE H (d::(ds++es)) (x::(r++ys));simp only[aE];exact⟨x,r++ys,rfl,hx,aE.append t h'⟩
theorem aE.one{H:Hp}{d:D}{x:V}(h:Dat H d x):aE H [d] [x]:=by
 simp only[aE];exact⟨x,[],rfl,h,rfl⟩
mutual
theorem Dat.same{H H':Hp}(e:c8 H H'):∀ {d:D} {v:V},Dat H d v->Dat H' d v
 |.non,v,h=>by simpa only[Dat] using h
 |.bl b,v,h=>by simpa only[Dat] using h
 |.int i,v,h=>by simpa only[Dat] using h
 |.str x,v,h=>by simpa only[Dat] using h
 |.tup ds,v,h=>by
  simp only[Dat] at h ⊢;obtain⟨a,xs,rfl,h1,h2⟩:=h;exact⟨a,xs,rfl,e a _ h1,aE.same e h2⟩
 |.lst ds,v,h=>by
  simp only[Dat] at h ⊢;obtain⟨a,xs,rfl,h1,h2⟩:=h;exact⟨a,xs,rfl,e a _ h1,aE.same e h2⟩
 |.dk ks,v,h=>by
  simp only[Dat] at h ⊢;obtain⟨a,xs,rfl,h1,h2⟩:=h;exact⟨a,xs,rfl,e a _ h1,h2⟩
 |.dt ks,v,h=>by
  simp only[Dat] at h ⊢;obtain⟨a,xs,rfl,h1,h2⟩:=h;exact⟨a,xs,rfl,e a _ h1,h2⟩
theorem aE.same{H H':Hp}(e:c8 H H'):∀ {ds:List D} {xs:List V},aE H ds xs->aE H' ds xs
 | [],xs,h=>by simpa only[aE] using h
 |d::ds,xs,h=>by
  simp only[aE] at h ⊢;obtain⟨x,r,rfl,h1,h2⟩:=h;exact⟨x,r,rfl,Dat.same e h1,aE.same e h2⟩
end
mutual
theorem Dat.inj{H:Hp}:∀ {d e:D} {v:V},Dat H d v->Dat H e v->d=e
 |.non,e,v,h,h'=>by
  simp only[Dat] at h;subst h;cases e<;>simp only[Dat] at h'<;>first|rfl|(obtain⟨_,_,h',_⟩:=h';cases h';done)|(cases h';done)
 |.bl b,e,v,h,h'=>by
  simp only[Dat] at h;subst h;cases e<;>simp only[Dat] at h'<;>first|(obtain⟨_,_,h',_⟩:=h';cases h';done)|(cases h';rfl)|(cases h';done)
 |.int i,e,v,h,h'=>by
  simp only[Dat] at h;subst h;cases e<;>simp only[Dat] at h'<;>first|(obtain⟨_,_,h',_⟩:=h';cases h';done)|(cases h';rfl)|(cases h';done)
 |.str x,e,v,h,h'=>by
  simp only[Dat] at h;subst h;cases e<;>simp only[Dat] at h'<;>first|(obtain⟨_,_,h',_⟩:=h';cases h';done)|(cases h';rfl)|(cases h';done)
 |.tup ds,e,v,h,h'=>by
  simp only[Dat] at h;obtain⟨a,xs,rfl,h1,h2⟩:=h
  cases e with
  |tup es=>
   simp only[Dat] at h';obtain⟨b,ys,e1,h3,h4⟩:=h';cases e1;rw[h1] at h3;cases h3;rw[aE.inj h2 h4]
  |lst es=>
   simp only[Dat] at h';obtain⟨b,ys,e1,h3,h4⟩:=h';cases e1;rw[h1] at h3;cases h3
  |dk es=>
   simp only[Dat] at h';obtain⟨b,ys,e1,h3,h4⟩:=h';cases e1;rw[h1] at h3;cases h3
  |dt es=>
   simp only[Dat] at h';obtain⟨b,ys,e1,h3,h4⟩:=h';cases e1;rw[h1] at h3;cases h3
  |_=>simp only[Dat] at h';cases h'
 |.lst ds,e,v,h,h'=>by
  simp only[Dat] at h;obtain⟨a,xs,rfl,h1,h2⟩:=h
  cases e with
  |lst es=>
   simp only[Dat] at h';obtain⟨b,ys,e1,h3,h4⟩:=h';cases e1;rw[h1] at h3;cases h3;rw[aE.inj h2 h4]
  |tup es=>
   simp only[Dat] at h';obtain⟨b,ys,e1,h3,h4⟩:=h';cases e1;rw[h1] at h3;cases h3
  |dk es=>
   simp only[Dat] at h';obtain⟨b,ys,e1,h3,h4⟩:=h';cases e1;rw[h1] at h3;cases h3
  |dt es=>
   simp only[Dat] at h';obtain⟨b,ys,e1,h3,h4⟩:=h';cases e1;rw[h1] at h3;cases h3
  |_=>simp only[Dat] at h';cases h'
 |.dk ds,e,v,h,h'=>by
  simp only[Dat] at h;obtain⟨a,xs,rfl,h1,rfl⟩:=h
  cases e with
  |tup es=>
   simp only[Dat] at h';obtain⟨b,ys,e1,h3,h4⟩:=h';cases e1;rw[h1] at h3;cases h3
  |lst es=>
   simp only[Dat] at h';obtain⟨b,ys,e1,h3,h4⟩:=h';cases e1;rw[h1] at h3;cases h3
  |dk es=>
   simp only[Dat] at h';obtain⟨b,ys,e1,h3,h4⟩:=h';cases e1;rw[h1] at h3;rw[←h4,vp (a:=xs) (b:=ys)]
   simpa using h3
  |dt es=>
   simp only[Dat] at h';obtain⟨b,ys,e1,h3,h4⟩:=h';cases e1;rw[h1] at h3;cases h3
  |_=>simp only[Dat] at h';cases h'
 |.dt ds,e,v,h,h'=>by
  simp only[Dat] at h;obtain⟨a,xs,rfl,h1,rfl⟩:=h
  cases e with
  |tup es=>
   simp only[Dat] at h';obtain⟨b,ys,e1,h3,h4⟩:=h';cases e1;rw[h1] at h3;cases h3
  |lst es=>
   simp only[Dat] at h';obtain⟨b,ys,e1,h3,h4⟩:=h';cases e1;rw[h1] at h3;cases h3
  |dk es=>
   simp only[Dat] at h';obtain⟨b,ys,e1,h3,h4⟩:=h';cases e1;rw[h1] at h3;cases h3
  |dt es=>
   simp only[Dat] at h';obtain⟨b,ys,e1,h3,h4⟩:=h';cases e1;rw[h1] at h3;rw[←h4,wB (a:=xs) (b:=ys)]
   simpa using h3
  |_=>simp only[Dat] at h';cases h'
theorem aE.inj{H:Hp}:∀ {ds es:List D} {xs:List V},aE H ds xs->aE H es xs->ds=es
 | [],[],_,_,_=>rfl
 | [],e::es,xs,h,h'=>by
  simp only[aE] at h h';obtain⟨x,r,rfl,_⟩:=h';cases h
 |d::ds,[],xs,h,h'=>by
  simp only[aE] at h h';obtain⟨x,r,rfl,_⟩:=h;cases h'
 |d::ds,e::es,xs,h,h'=>by
  simp only[aE] at h h';obtain⟨x,r,rfl,h1,h2⟩:=h;obtain⟨x',r',e1,h3,h4⟩:=h';cases e1;rw[Dat.inj h1 h3,aE.inj h2 h4]
end
mutual
theorem yS:∀d:D,eqD d d=true
 |.non=>by simp[eqD]
 |.bl b=>by simp[eqD]
 |.int i=>by simp[eqD]
 |.str x=>by simp[eqD]
 |.tup ds=>by simp only[eqD];exact fX ds
 |.lst ds=>by simp only[eqD];exact fX ds
 |.dk ks=>by simp[eqD]
 |.dt ks=>by simp[eqD]
theorem fX:∀ds:List D,fP ds ds=true
 | []=>by simp[fP]
 |d::ds=>by simp only[fP,yS d,fX ds,Bool.and_self]
end
theorem mP:∀ {ds es:List D},ds.length≠es.length->fP ds es=false
 | [],[],h=>absurd rfl h
 | [],_::_,_=>by simp[fP]
 |_::_,[],_=>by simp[fP]
 |d::ds,e::es,h=>by
  simp only[fP,mP (ds:=ds) (es:=es) (by simpa using h),Bool.and_false]
theorem iX:∀ {ds es:List D},ds.length=es.length->(List.range ds.length).all (fun j=>eqD (ds.getD j .non) (es.getD j .non))=fP ds es
 | [],[],_=>by simp[fP]
 | [],_::_,h=>by simp at h
 |_::_,[],h=>by simp at h
 |d::ds,e::es,h=>by
  have ih:=iX (ds:=ds) (es:=es) (by simpa using h)
  rw[List.length_cons,List.range_succ_eq_map,List.all_cons,List.all_map];simp only[fP,←ih]
  rfl
end L2
namespace L2
open PySem PySem.Spec PyProof.Rows AutoSeq1
noncomputable def rf(h:Heap)(l:Addr):Prop:=∃es ep,h.get? l=some { cls:=.type "dict",data:=.dict es ep }
theorem jB:isSubtype (.type "NoneType") (.type "dict")=pure false:=by rw[isSubtype_type];kernel_rfl
theorem kG:isSubtype (.type "bool") (.type "dict")=pure false:=by rw[isSubtype_type];kernel_rfl
theorem kz:isSubtype (.type "int") (.type "dict")=pure false:=by rw[isSubtype_type];kernel_rfl
theorem kD:isSubtype (.type "str") (.type "dict")=pure false:=by rw[isSubtype_type];kernel_rfl
theorem kH:isSubtype (.type "tuple") (.type "dict")=pure false:=by rw[isSubtype_type];kernel_rfl
theorem kP:isSubtype (.type "list") (.type "dict")=pure false:=by rw[isSubtype_type];kernel_rfl
theorem r6:isSubtype (.type "dict") (.type "NoneType")=pure false:=by rw[isSubtype_type];kernel_rfl
theorem vR:isSubtype (.type "dict") (.type "bool")=pure false:=by rw[isSubtype_type];kernel_rfl
theorem iB:isSubtype (.type "dict") (.type "int")=pure false:=by rw[isSubtype_type];kernel_rfl
theorem kZ:isSubtype (.type "dict") (.type "str")=pure false:=by rw[isSubtype_type];kernel_rfl
theorem k9:isSubtype (.type "dict") (.type "tuple")=pure false:=by rw[isSubtype_type];kernel_rfl
theorem lm:isSubtype (.type "dict") (.type "list")=pure false:=by rw[isSubtype_type];kernel_rfl
section
variable(l b:Addr)(es:Array DictEntry)(ep:Nat)
noncomputable abbrev DO(es:Array DictEntry)(ep:Nat):Obj:={ cls:=.type "dict",data:=.dict es ep }
theorem D7:Meets (Builtin.«dict.__eq__» ⟨[.ref l,.none],[]⟩) (fun _ R s=>s.heap.get? l=some (DO es ep)/\R (.ok (.ret .notImplemented)) s):=
 .of_wp fun prog w A R s h=>by obtain⟨hp,g,d,tk,os⟩:=s;obtain⟨hl,h⟩:=h;have f1:=jB;wp_walk using wpAny_loadPart' hl,wpAny_load hl;exact⟨_,rfl,h⟩
theorem EM:Meets (Builtin.«dict.__ne__» ⟨[.ref l,.none],[]⟩) (fun _ R s=>s.heap.get? l=some (DO es ep)/\R (.ok (.ret .notImplemented)) s):=
 .of_wp fun prog w A R s h=>by obtain⟨hp,g,d,tk,os⟩:=s;obtain⟨hl,h⟩:=h;have f1:=jB;wp_walk using wpAny_loadPart' hl,wpAny_load hl;exact⟨_,rfl,h⟩
theorem Gd(c:Bool):Meets (Builtin.«dict.__eq__» ⟨[.ref l,.bool c],[]⟩) (fun _ R s=>s.heap.get? l=some (DO es ep)/\R (.ok (.ret .notImplemented)) s):=
 .of_wp fun prog w A R s h=>by obtain⟨hp,g,d,tk,os⟩:=s;obtain⟨hl,h⟩:=h;have f1:=kG;wp_walk using wpAny_loadPart' hl,wpAny_load hl;exact⟨_,rfl,h⟩
theorem FS(c:Bool):Meets (Builtin.«dict.__ne__» ⟨[.ref l,.bool c],[]⟩) (fun _ R s=>s.heap.get? l=some (DO es ep)/\R (.ok (.ret .notImplemented)) s):=
 .of_wp fun prog w A R s h=>by obtain⟨hp,g,d,tk,os⟩:=s;obtain⟨hl,h⟩:=h;have f1:=kG;wp_walk using wpAny_loadPart' hl,wpAny_load hl;exact⟨_,rfl,h⟩
theorem HD(c:Int)(u:Tok):Meets (Builtin.«dict.__eq__» ⟨[.ref l,.int c u],[]⟩) (fun _ R s=>s.heap.get? l=some (DO es ep)/\R (.ok (.ret .notImplemented)) s):=
 .of_wp fun prog w A R s h=>by obtain⟨hp,g,d,tk,os⟩:=s;obtain⟨hl,h⟩:=h;have f1:=kz;wp_walk using wpAny_loadPart' hl,wpAny_load hl;exact⟨_,rfl,h⟩
theorem Hy(c:Int)(u:Tok):Meets (Builtin.«dict.__ne__» ⟨[.ref l,.int c u],[]⟩) (fun _ R s=>s.heap.get? l=some (DO es ep)/\R (.ok (.ret .notImplemented)) s):=
 .of_wp fun prog w A R s h=>by obtain⟨hp,g,d,tk,os⟩:=s;obtain⟨hl,h⟩:=h;have f1:=kz;wp_walk using wpAny_loadPart' hl,wpAny_load hl;exact⟨_,rfl,h⟩
theorem GY(c:Str)(u:Tok):Meets (Builtin.«dict.__eq__» ⟨[.ref l,.str c u],[]⟩) (fun _ R s=>s.heap.get? l=some (DO es ep)/\R (.ok (.ret .notImplemented)) s):=
 .of_wp fun prog w A R s h=>by obtain⟨hp,g,d,tk,os⟩:=s;obtain⟨hl,h⟩:=h;have f1:=kD;wp_walk using wpAny_loadPart' hl,wpAny_load hl;exact⟨_,rfl,h⟩
theorem Hq(c:Str)(u:Tok):Meets (Builtin.«dict.__ne__» ⟨[.ref l,.str c u],[]⟩) (fun _ R s=>s.heap.get? l=some (DO es ep)/\R (.ok (.ret .notImplemented)) s):=
 .of_wp fun prog w A R s h=>by obtain⟨hp,g,d,tk,os⟩:=s;obtain⟨hl,h⟩:=h;have f1:=kD;wp_walk using wpAny_loadPart' hl,wpAny_load hl;exact⟨_,rfl,h⟩
theorem G1(its:Array Value)(n:Nat)(dd:Option Addr)(sl:Array (Option Value)):Meets (Builtin.«dict.__eq__» ⟨[.ref l,.ref b],[]⟩) (fun _ R s=>s.heap.get? l=some (DO es ep)/\s.heap.get? b=some ⟨.type "tuple",dd,.seq its n,sl⟩/\R (.ok (.ret .notImplemented)) s):=
 .of_wp fun prog w A R s h=>by obtain⟨hp,g,d,tk,os⟩:=s;obtain⟨hl,hb,h⟩:=h;have f1:=kH;wp_walk using wpAny_loadPart' hl,wpAny_load hl,wpAny_loadPart' hb,wpAny_load hb;exact⟨_,rfl,h⟩
theorem G4(its:Array Value)(n:Nat)(dd:Option Addr)(sl:Array (Option Value)):Meets (Builtin.«dict.__ne__» ⟨[.ref l,.ref b],[]⟩) (fun _ R s=>s.heap.get? l=some (DO es ep)/\s.heap.get? b=some ⟨.type "tuple",dd,.seq its n,sl⟩/\R (.ok (.ret .notImplemented)) s):=
 .of_wp fun prog w A R s h=>by obtain⟨hp,g,d,tk,os⟩:=s;obtain⟨hl,hb,h⟩:=h;have f1:=kH;wp_walk using wpAny_loadPart' hl,wpAny_load hl,wpAny_loadPart' hb,wpAny_load hb;exact⟨_,rfl,h⟩
theorem GB(its:Array Value)(n:Nat)(dd:Option Addr)(sl:Array (Option Value)):Meets (Builtin.«dict.__eq__» ⟨[.ref l,.ref b],[]⟩) (fun _ R s=>s.heap.get? l=some (DO es ep)/\s.heap.get? b=some ⟨.type "list",dd,.seq its n,sl⟩/\R (.ok (.ret .notImplemented)) s):=
 .of_wp fun prog w A R s h=>by obtain⟨hp,g,d,tk,os⟩:=s;obtain⟨hl,hb,h⟩:=h;have f1:=kP;wp_walk using wpAny_loadPart' hl,wpAny_load hl,wpAny_loadPart' hb,wpAny_load hb;exact⟨_,rfl,h⟩
theorem Gk(its:Array Value)(n:Nat)(dd:Option Addr)(sl:Array (Option Value)):Meets (Builtin.«dict.__ne__» ⟨[.ref l,.ref b],[]⟩) (fun _ R s=>s.heap.get? l=some (DO es ep)/\s.heap.get? b=some ⟨.type "list",dd,.seq its n,sl⟩/\R (.ok (.ret .notImplemented)) s):=
 .of_wp fun prog w A R s h=>by obtain⟨hp,g,d,tk,os⟩:=s;obtain⟨hl,hb,h⟩:=h;have f1:=kP;wp_walk using wpAny_loadPart' hl,wpAny_load hl,wpAny_loadPart' hb,wpAny_load hb;exact⟨_,rfl,h⟩
theorem Ga(c:Bool):Meets (Builtin.«int.__eq__» ⟨[.bool c,.ref l],[]⟩) (fun _ R s=>s.heap.get? l=some (DO es ep)/\R (.ok (.ret .notImplemented)) s):=
 .of_wp fun prog w A R s h=>by obtain⟨hp,g,d,tk,os⟩:=s;obtain⟨hl,h⟩:=h;have f1:=iB;wp_walk using wpAny_loadPart' hl,wpAny_load hl;exact⟨_,rfl,h⟩
theorem Gy(c:Bool):Meets (Builtin.«int.__ne__» ⟨[.bool c,.ref l],[]⟩) (fun _ R s=>s.heap.get? l=some (DO es ep)/\R (.ok (.ret .notImplemented)) s):=
 .of_wp fun prog w A R s h=>by obtain⟨hp,g,d,tk,os⟩:=s;obtain⟨hl,h⟩:=h;have f1:=iB;wp_walk using wpAny_loadPart' hl,wpAny_load hl;exact⟨_,rfl,h⟩
theorem Gf(c:Int)(u:Tok):Meets (Builtin.«int.__eq__» ⟨[.int c u,.ref l],[]⟩) (fun _ R s=>s.heap.get? l=some (DO es ep)/\R (.ok (.ret .notImplemented)) s):=
 .of_wp fun prog w A R s h=>by obtain⟨hp,g,d,tk,os⟩:=s;obtain⟨hl,h⟩:=h;have f1:=iB;wp_walk using wpAny_loadPart' hl,wpAny_load hl;exact⟨_,rfl,h⟩
theorem HC(c:Int)(u:Tok):Meets (Builtin.«int.__ne__» ⟨[.int c u,.ref l],[]⟩) (fun _ R s=>s.heap.get? l=some (DO es ep)/\R (.ok (.ret .notImplemented)) s):=
 .of_wp fun prog w A R s h=>by obtain⟨hp,g,d,tk,os⟩:=s;obtain⟨hl,h⟩:=h;have f1:=iB;wp_walk using wpAny_loadPart' hl,wpAny_load hl;exact⟨_,rfl,h⟩
theorem Ir(c:Str)(u:Tok):Meets (Builtin.«str.__eq__» ⟨[.str c u,.ref l],[]⟩) (fun _ R s=>s.heap.get? l=some (DO es ep)/\R (.ok (.ret .notImplemented)) s):=
 .of_wp fun prog w A R s h=>by obtain⟨hp,g,d,tk,os⟩:=s;obtain⟨hl,h⟩:=h;have f1:=kZ;wp_walk using wpAny_loadPart' hl,wpAny_load hl;exact⟨_,rfl,h⟩
theorem Ip(c:Str)(u:Tok):Meets (Builtin.«str.__ne__» ⟨[.str c u,.ref l],[]⟩) (fun _ R s=>s.heap.get? l=some (DO es ep)/\R (.ok (.ret .notImplemented)) s):=
 .of_wp fun prog w A R s h=>by obtain⟨hp,g,d,tk,os⟩:=s;obtain⟨hl,h⟩:=h;have f1:=kZ;wp_walk using wpAny_loadPart' hl,wpAny_load hl;exact⟨_,rfl,h⟩
theorem HV(its:Array Value)(n:Nat)(dd:Option Addr)(sl:Array (Option Value)):Meets (Builtin.«tuple.__eq__» ⟨[.ref b,.ref l],[]⟩) (fun _ R s=>s.heap.get? l=some (DO es ep)/\s.heap.get? b=some ⟨.type "tuple",dd,.seq its n,sl⟩/\R (.ok (.ret .notImplemented)) s):=
 .of_wp fun prog w A R s h=>by obtain⟨hp,g,d,tk,os⟩:=s;obtain⟨hl,hb,h⟩:=h;have f1:=k9;wp_walk using wpAny_loadPart' hl,wpAny_load hl,wpAny_loadPart' hb,wpAny_load hb;exact⟨_,rfl,h⟩
theorem HR(its:Array Value)(n:Nat)(dd:Option Addr)(sl:Array (Option Value)):Meets (Builtin.«tuple.__ne__» ⟨[.ref b,.ref l],[]⟩) (fun _ R s=>s.heap.get? l=some (DO es ep)/\s.heap.get? b=some ⟨.type "tuple",dd,.seq its n,sl⟩/\R (.ok (.ret .notImplemented)) s):=
 .of_wp fun prog w A R s h=>by obtain⟨hp,g,d,tk,os⟩:=s;obtain⟨hl,hb,h⟩:=h;have f1:=k9;wp_walk using wpAny_loadPart' hl,wpAny_load hl,wpAny_loadPart' hb,wpAny_load hb;exact⟨_,rfl,h⟩
theorem Iq(its:Array Value)(n:Nat)(dd:Option Addr)(sl:Array (Option Value)):Meets (Builtin.«list.__eq__» ⟨[.ref b,.ref l],[]⟩) (fun _ R s=>s.heap.get? l=some (DO es ep)/\s.heap.get? b=some ⟨.type "list",dd,.seq its n,sl⟩/\R (.ok (.ret .notImplemented)) s):=
 .of_wp fun prog w A R s h=>by obtain⟨hp,g,d,tk,os⟩:=s;obtain⟨hl,hb,h⟩:=h;have f1:=lm;wp_walk using wpAny_loadPart' hl,wpAny_load hl,wpAny_loadPart' hb,wpAny_load hb;exact⟨_,rfl,h⟩
theorem HY(its:Array Value)(n:Nat)(dd:Option Addr)(sl:Array (Option Value)):Meets (Builtin.«list.__ne__» ⟨[.ref b,.ref l],[]⟩) (fun _ R s=>s.heap.get? l=some (DO es ep)/\s.heap.get? b=some ⟨.type "list",dd,.seq its n,sl⟩/\R (.ok (.ret .notImplemented)) s):=
 .of_wp fun prog w A R s h=>by obtain⟨hp,g,d,tk,os⟩:=s;obtain⟨hl,hb,h⟩:=h;have f1:=lm;wp_walk using wpAny_loadPart' hl,wpAny_load hl,wpAny_loadPart' hb,wpAny_load hb;exact⟨_,rfl,h⟩
end
noncomputable def Eq3(A:Around)(s:Shared)(v u:Value)(b:Bool):Prop:=SeqAt.RcAt A s v u b/\SeqAt.EqAt A s v u b/\SeqAt.RcNeAt A s v u (!b)
section
variable{A:Around}{s:Shared}{l:Addr}
theorem fS{v:Value}(hne:v≠.ref l)(h:SeqAt.RcAt A s v (.ref l) false):SeqAt.EqAt A s v (.ref l) false:=fun prog w E Q q=>by
 unfold eqBool;refine wpAny_holding ?_;refine wpAny_ite_split (fun hab=>absurd (eq_of_beq hab) hne) (fun _=>?_);cases v<;>exact wpAny_bind (h prog w E _ (wpAny_truthy_bool q))
theorem zn(d:rf s.heap l)(hu:A.units<cLine):Eq3 A s .none (.ref l) false:=by
 obtain⟨es,ep,ho⟩:=d
 have a:SeqAt.RcAt A s .none (.ref l) false:=fun prog w E Q h=>SeqAt.rc_eq_decline_or (k:=false) rfl ⟨_,ho,rfl⟩ (by decide) r6 F.slot_NoneType_eq F.slot_dict_eq_refl
  (fun _ hq=>call_gives F.slot_NoneType_eq rfl F.entry_NoneType_eq (F.args_NoneType_eq_2 _ _) (SeqAt.NoneType___eq___none_ref_0 l) hq)
  (fun _ hq=>call_meets F.slot_dict_eq_refl ⟨_,ho,rfl⟩ F.entry_dict_eq (F.args_dict_eq_2 _ _) (D7 l es ep) ⟨ho,hq⟩)
  (fun _ hq=>wpAny_of_eq (rfl:isSame .none (.ref l)=pure false) hq) (.inr hu) h
 exact⟨a,fS nofun a,fun prog w E Q h=>SeqAt.rc_ne_decline_or (k:=false) rfl ⟨_,ho,rfl⟩ (by decide) r6 F.slot_NoneType_ne F.slot_dict_ne_refl
  (fun _ hq=>call_gives F.slot_NoneType_ne rfl F.entry_NoneType_ne (F.args_NoneType_ne_2 _ _) (SeqAt.NoneType___ne___none_ref_0 l) hq)
  (fun _ hq=>call_meets F.slot_dict_ne_refl ⟨_,ho,rfl⟩ F.entry_dict_ne (F.args_dict_ne_2 _ _) (EM l es ep) ⟨ho,hq⟩)
  (fun _ hq=>wpAny_of_eq (rfl:isSame .none (.ref l)=pure false) hq) (.inr hu) h⟩
theorem DK(c:Bool)(d:rf s.heap l)(hu:A.units<cLine):Eq3 A s (.bool c) (.ref l) false:=by
 obtain⟨es,ep,ho⟩:=d
 have a:SeqAt.RcAt A s (.bool c) (.ref l) false:=fun prog w E Q h=>SeqAt.rc_eq_decline_or (k:=false) rfl ⟨_,ho,rfl⟩ (by decide) vR F.slot_bool_eq F.slot_dict_eq_refl
  (fun _ hq=>call_meets F.slot_bool_eq rfl F.entry_int_eq (F.args_int_eq_2 _ _) (Ga l es ep c) ⟨ho,hq⟩)
  (fun _ hq=>call_meets F.slot_dict_eq_refl ⟨_,ho,rfl⟩ F.entry_dict_eq (F.args_dict_eq_2 _ _) (Gd l es ep c) ⟨ho,hq⟩)
  (fun _ hq=>wpAny_of_eq (rfl:isSame (.bool c) (.ref l)=pure false) hq) (.inr hu) h
 exact⟨a,fS nofun a,fun prog w E Q h=>SeqAt.rc_ne_decline_or (k:=false) rfl ⟨_,ho,rfl⟩ (by decide) vR F.slot_bool_ne F.slot_dict_ne_refl
  (fun _ hq=>call_meets F.slot_bool_ne rfl F.entry_int_ne (F.args_int_ne_2 _ _) (Gy l es ep c) ⟨ho,hq⟩)
  (fun _ hq=>call_meets F.slot_dict_ne_refl ⟨_,ho,rfl⟩ F.entry_dict_ne (F.args_dict_ne_2 _ _) (FS l es ep c) ⟨ho,hq⟩)
  (fun _ hq=>wpAny_of_eq (rfl:isSame (.bool c) (.ref l)=pure false) hq) (.inr hu) h⟩
theorem DH(c:Int)(u:Tok)(d:rf s.heap l)(hu:A.units<cLine):Eq3 A s (.int c u) (.ref l) false:=by
 obtain⟨es,ep,ho⟩:=d
 have a:SeqAt.RcAt A s (.int c u) (.ref l) false:=fun prog w E Q h=>SeqAt.rc_eq_decline_or (k:=false) (typeIs_int s c u) ⟨_,ho,rfl⟩ (by decide) iB F.slot_int_eq F.slot_dict_eq_refl
  (fun _ hq=>call_meets F.slot_int_eq (typeIs_int s c u) F.entry_int_eq (F.args_int_eq_2 _ _) (Gf l es ep c u) ⟨ho,hq⟩)
  (fun _ hq=>call_meets F.slot_dict_eq_refl ⟨_,ho,rfl⟩ F.entry_dict_eq (F.args_dict_eq_2 _ _) (HD l es ep c u) ⟨ho,hq⟩)
  (fun _ hq=>wpAny_of_eq (rfl:isSame (.int c u) (.ref l)=pure false) hq) (.inr hu) h
 exact⟨a,fS nofun a,fun prog w E Q h=>SeqAt.rc_ne_decline_or (k:=false) (typeIs_int s c u) ⟨_,ho,rfl⟩ (by decide) iB F.slot_int_ne F.slot_dict_ne_refl
  (fun _ hq=>call_meets F.slot_int_ne (typeIs_int s c u) F.entry_int_ne (F.args_int_ne_2 _ _) (HC l es ep c u) ⟨ho,hq⟩)
  (fun _ hq=>call_meets F.slot_dict_ne_refl ⟨_,ho,rfl⟩ F.entry_dict_ne (F.args_dict_ne_2 _ _) (Hy l es ep c u) ⟨ho,hq⟩)
  (fun _ hq=>wpAny_of_eq (rfl:isSame (.int c u) (.ref l)=pure false) hq) (.inr hu) h⟩
theorem DP(c:Str)(u:Tok)(d:rf s.heap l)(hu:A.units<cLine):Eq3 A s (.str c u) (.ref l) false:=by
 obtain⟨es,ep,ho⟩:=d
 have a:SeqAt.RcAt A s (.str c u) (.ref l) false:=fun prog w E Q h=>SeqAt.rc_eq_decline_or (k:=false) (typeIs_str s c u) ⟨_,ho,rfl⟩ (by decide) kZ F.slot_str_eq F.slot_dict_eq_refl
  (fun _ hq=>call_meets F.slot_str_eq (typeIs_str s c u) F.entry_str_eq (F.args_str_eq_2 _ _) (Ir l es ep c u) ⟨ho,hq⟩)
  (fun _ hq=>call_meets F.slot_dict_eq_refl ⟨_,ho,rfl⟩ F.entry_dict_eq (F.args_dict_eq_2 _ _) (GY l es ep c u) ⟨ho,hq⟩)
  (fun _ hq=>wpAny_of_eq (rfl:isSame (.str c u) (.ref l)=pure false) hq) (.inr hu) h
 exact⟨a,fS nofun a,fun prog w E Q h=>SeqAt.rc_ne_decline_or (k:=false) (typeIs_str s c u) ⟨_,ho,rfl⟩ (by decide) kZ F.slot_str_ne F.slot_dict_ne_refl
  (fun _ hq=>call_meets F.slot_str_ne (typeIs_str s c u) F.entry_str_ne (F.args_str_ne_2 _ _) (Ip l es ep c u) ⟨ho,hq⟩)
  (fun _ hq=>call_meets F.slot_dict_ne_refl ⟨_,ho,rfl⟩ F.entry_dict_ne (F.args_dict_ne_2 _ _) (Hq l es ep c u) ⟨ho,hq⟩)
  (fun _ hq=>wpAny_of_eq (rfl:isSame (.str c u) (.ref l)=pure false) hq) (.inr hu) h⟩
theorem li{b:Addr}{ob ol:Obj}{Q:Bool->Shared->Prop}{M:Model}{E:Value->Shared->Prop}(h1:s.heap.get? b=some ob)(h2:s.heap.get? l=some ol)(hb:ob.cls≠ol.cls)(hl:ol.cls≠.type "tuple")(q:Q false s):wpAny M A (isSame (.ref b) (.ref l)) Q E s:=
 SeqAt.wpAny_isSame_ref_other' (fun e=>by subst e;rw[h1] at h2;cases h2;exact hb rfl) h1 h2 hl q
theorem Dx{b:Addr}{its:Array Value}(hb:s.heap.IsTuple b its)(d:rf s.heap l)(hu:A.units<cLine):Eq3 A s (.ref b) (.ref l) false:=by
 obtain⟨es,ep,ho⟩:=d;obtain⟨⟨cls,dd,data,sl⟩,hp,hc,n,hd⟩:=id hb;simp only at hc hd;subst hc hd;have ne:Value.ref b≠Value.ref l:=fun e=>by cases e;exact absurd (congrArg (fun o:Obj=>o.cls) (Option.some.inj (hp.symm.trans ho))) (by simp)
 have a:SeqAt.RcAt A s (.ref b) (.ref l) false:=fun prog w E Q h=>SeqAt.rc_eq_decline_or (k:=false) ⟨_,hp,rfl⟩ ⟨_,ho,rfl⟩ (by decide) k9 F.slot_tuple_eq F.slot_dict_eq_refl
  (fun _ hq=>call_meets F.slot_tuple_eq ⟨_,hp,rfl⟩ F.entry_tuple_eq (F.args_tuple_eq_2 _ _) (HV l b es ep _ _ _ _) ⟨ho,hp,hq⟩)
  (fun _ hq=>call_meets F.slot_dict_eq_refl ⟨_,ho,rfl⟩ F.entry_dict_eq (F.args_dict_eq_2 _ _) (G1 l b es ep _ _ _ _) ⟨ho,hp,hq⟩)
  (fun _ hq=>li hp ho (by simp) (by simp) hq) (.inr hu) h
 exact⟨a,fS ne a,fun prog w E Q h=>SeqAt.rc_ne_decline_or (k:=false) ⟨_,hp,rfl⟩ ⟨_,ho,rfl⟩ (by decide) k9 F.slot_tuple_ne F.slot_dict_ne_refl
  (fun _ hq=>call_meets F.slot_tuple_ne ⟨_,hp,rfl⟩ F.entry_tuple_ne (F.args_tuple_ne_2 _ _) (HR l b es ep _ _ _ _) ⟨ho,hp,hq⟩)
  (fun _ hq=>call_meets F.slot_dict_ne_refl ⟨_,ho,rfl⟩ F.entry_dict_ne (F.args_dict_ne_2 _ _) (G4 l b es ep _ _ _ _) ⟨ho,hp,hq⟩)
  (fun _ hq=>li hp ho (by simp) (by simp) hq) (.inr hu) h⟩
theorem Dh{b:Addr}{its:Array Value}(hb:s.heap.IsList b its)(d:rf s.heap l)(hu:A.units<cLine):Eq3 A s (.ref b) (.ref l) false:=by
 obtain⟨es,ep,ho⟩:=d;obtain⟨⟨cls,dd,data,sl⟩,hp,hc,n,hd⟩:=id hb;simp only at hc hd;subst hc hd;have ne:Value.ref b≠Value.ref l:=fun e=>by cases e;exact absurd (congrArg (fun o:Obj=>o.cls) (Option.some.inj (hp.symm.trans ho))) (by simp)
 have a:SeqAt.RcAt A s (.ref b) (.ref l) false:=fun prog w E Q h=>SeqAt.rc_eq_decline_or (k:=false) ⟨_,hp,rfl⟩ ⟨_,ho,rfl⟩ (by decide) lm F.slot_list_eq F.slot_dict_eq_refl
  (fun _ hq=>call_meets F.slot_list_eq ⟨_,hp,rfl⟩ F.entry_list_eq (F.args_list_eq_2 _ _) (Iq l b es ep _ _ _ _) ⟨ho,hp,hq⟩)
  (fun _ hq=>call_meets F.slot_dict_eq_refl ⟨_,ho,rfl⟩ F.entry_dict_eq (F.args_dict_eq_2 _ _) (GB l b es ep _ _ _ _) ⟨ho,hp,hq⟩)
  (fun _ hq=>li hp ho (by simp) (by simp) hq) (.inr hu) h
 exact⟨a,fS ne a,fun prog w E Q h=>SeqAt.rc_ne_decline_or (k:=false) ⟨_,hp,rfl⟩ ⟨_,ho,rfl⟩ (by decide) lm F.slot_list_ne F.slot_dict_ne_refl
  (fun _ hq=>call_meets F.slot_list_ne ⟨_,hp,rfl⟩ F.entry_list_ne (F.args_list_ne_2 _ _) (HY l b es ep _ _ _ _) ⟨ho,hp,hq⟩)
  (fun _ hq=>call_meets F.slot_dict_ne_refl ⟨_,ho,rfl⟩ F.entry_dict_ne (F.args_dict_ne_2 _ _) (Gk l b es ep _ _ _ _) ⟨ho,hp,hq⟩)
  (fun _ hq=>li hp ho (by simp) (by simp) hq) (.inr hu) h⟩
end
end L2
namespace L2
open PySem PySem.Spec PyProof.Rows
section
variable{X:Cx}{pins:List (Addr×Obj)}{σ:St}{H:Hp}{s:Shared}
theorem vP:∀ {xs:List V} {us:List Value} {j:Nat} {x:V},aH xs us->xs[j]?=some x->∀(h:j<us.toArray.size),a6 x us.toArray[j]:=fun {xs us j x} r e h=>by
 obtain⟨u,h1,h2⟩:=r.get e
 have:us[j]?=some us.toArray[j]:=by
  rw[List.getElem?_eq_getElem (by simpa using h)]
  simp
 rw[h1] at this;cases this;exact h2
theorem gq(I:Inv X pins σ H s){a:Addr}{xs:List V}(h:H a=some (.tup xs)):∃its:List Value,aH xs its/\s.heap.IsTuple a its.toArray:=by
 obtain⟨its,r,p,_⟩:=I.tuple (SqT.of (K:=X.K) h);exact⟨its,r,p⟩
theorem jf(I:Inv X pins σ H s){a:Addr}{xs:List V}(h:H a=some (.lst xs)):∃its:List Value,aH xs its/\s.heap.IsList a its.toArray:=by
 obtain⟨its,r,p,_⟩:=I.list (SqL.of (K:=X.K) h);exact⟨its,r,p.isList⟩
theorem oJ(I:Inv X pins σ H s){a:Addr}{kvs:List (Key×V)}(h:H a=some (.dK kvs)):rf s.heap a:=by
 obtain⟨_,_,vs,_,o,es,ep,e1,⟨c1,c2,c3⟩,e2,_⟩:=I.hok _ _ h;obtain⟨cls,dd,data,sl⟩:=o;simp only at c1 c2 c3 e2;subst c1 c2 c3 e2;exact⟨_,_,e1⟩
theorem nW(I:Inv X pins σ H s){a:Addr}{kvs:List (List Key×V)}(h:H a=some (.dT kvs)):rf s.heap a:=by
 obtain⟨_,_,vs,_,o,es,ep,e1,⟨c1,c2,c3⟩,e2,_⟩:=I.hok _ _ h;obtain⟨cls,dd,data,sl⟩:=o;simp only at c1 c2 c3 e2;subst c1 c2 c3 e2;exact⟨_,_,e1⟩
theorem xR{ds es:List D}:((List.range (min ds.length es.length)).all (fun j=>eqD (ds.getD j .non) (es.getD j .non)) && ds.length == es.length)=fP ds es:=by
 by_cases h:ds.length=es.length
 ·rw[←iX h]
  have:min ds.length es.length=ds.length:=by omega
  rw[this];simp[h]
 ·rw[mP h]
  have:(ds.length == es.length)=false:=by simpa using h
  rw[this,Bool.and_false]
theorem lv(I:Inv X pins σ H s)(n:Nat):∀(d e:D)(x y:V)(v u:Value)(A:Around),dep d<=n->A.units+n<cLine->Dat H d x->Dat H e y->a6 x v->a6 y u ->
  SeqAt.RcAt A s v u (eqD d e)/\SeqAt.EqAt A s v u (eqD d e)/\SeqAt.RcNeAt A s v u (!eqD d e):=by
 induction n with
 |zero=>
  intro d e x y v u A hd hu hx hy rx ry;have hu':A.units<cLine:=by omega
  cases d with
  |tup ds=>simp only[dep] at hd;omega
  |lst ds=>simp only[dep] at hd;omega
  |dk ds=>simp only[dep] at hd;omega
  |dt ds=>simp only[dep] at hd;omega
  |non=>
   simp only[Dat] at hx;subst hx;cases rx
   cases e with
   |non=>simp only[Dat] at hy;subst hy;cases ry;exact⟨SeqAt.RcAt.none_none,SeqAt.EqAt.same _,SeqAt.RcNeAt.none_none⟩
   |bl b=>simp only[Dat] at hy;subst hy;cases ry;exact⟨SeqAt.RcAt.none_bool b,SeqAt.EqAt.none_bool b,SeqAt.RcNeAt.none_bool b⟩
   |int b=>simp only[Dat] at hy;subst hy;obtain⟨t,rfl⟩:=ry;exact⟨SeqAt.RcAt.none_int b t,SeqAt.EqAt.none_int b t,SeqAt.RcNeAt.none_int b t⟩
   |str b=>simp only[Dat] at hy;subst hy;obtain⟨t,rfl⟩:=ry;exact⟨SeqAt.RcAt.none_str b t,SeqAt.EqAt.none_str b t,SeqAt.RcNeAt.none_str b t⟩
   |tup es=>
    simp only[Dat] at hy;obtain⟨b,ys,rfl,hb,_⟩:=hy;cases ry;obtain⟨its,_,p⟩:=gq I hb;exact⟨SeqAt.RcAt.none_tuple p hu',SeqAt.EqAt.none_tuple p hu',SeqAt.RcNeAt.none_tuple p hu'⟩
   |lst es=>
    simp only[Dat] at hy;obtain⟨b,ys,rfl,hb,_⟩:=hy;cases ry;obtain⟨its,_,p⟩:=jf I hb;exact⟨SeqAt.RcAt.none_list p hu',SeqAt.EqAt.none_list p hu',SeqAt.RcNeAt.none_list p hu'⟩
   |dk es=>
    simp only[Dat] at hy;obtain⟨b,ys,rfl,hb,_⟩:=hy;cases ry;exact zn (oJ I hb) hu'
   |dt es=>
    simp only[Dat] at hy;obtain⟨b,ys,rfl,hb,_⟩:=hy;cases ry;exact zn (nW I hb) hu'
  |bl a=>
   simp only[Dat] at hx;subst hx;cases rx
   cases e with
   |non=>simp only[Dat] at hy;subst hy;cases ry;exact⟨SeqAt.RcAt.bool_none a,SeqAt.EqAt.bool_none a,SeqAt.RcNeAt.bool_none a⟩
   |bl b=>simp only[Dat] at hy;subst hy;cases ry;exact⟨SeqAt.RcAt.bool_bool a b,SeqAt.EqAt.bool_bool a b,SeqAt.RcNeAt.bool_bool a b⟩
   |int b=>simp only[Dat] at hy;subst hy;obtain⟨t,rfl⟩:=ry;exact⟨SeqAt.RcAt.bool_int a b t,SeqAt.EqAt.bool_int a b t,SeqAt.RcNeAt.bool_int a b t⟩
   |str b=>simp only[Dat] at hy;subst hy;obtain⟨t,rfl⟩:=ry;exact⟨SeqAt.RcAt.bool_str a b t,SeqAt.EqAt.bool_str a b t,SeqAt.RcNeAt.bool_str a b t⟩
   |tup es=>
    simp only[Dat] at hy;obtain⟨b,ys,rfl,hb,_⟩:=hy;cases ry;obtain⟨its,_,p⟩:=gq I hb;exact⟨SeqAt.RcAt.bool_tuple a p hu',SeqAt.EqAt.bool_tuple a p hu',SeqAt.RcNeAt.bool_tuple a p hu'⟩
   |lst es=>
    simp only[Dat] at hy;obtain⟨b,ys,rfl,hb,_⟩:=hy;cases ry;obtain⟨its,_,p⟩:=jf I hb;exact⟨SeqAt.RcAt.bool_list a p hu',SeqAt.EqAt.bool_list a p hu',SeqAt.RcNeAt.bool_list a p hu'⟩
   |dk es=>
    simp only[Dat] at hy;obtain⟨b,ys,rfl,hb,_⟩:=hy;cases ry;exact DK a (oJ I hb) hu'
   |dt es=>
    simp only[Dat] at hy;obtain⟨b,ys,rfl,hb,_⟩:=hy;cases ry;exact DK a (nW I hb) hu'
  |int a=>
   simp only[Dat] at hx;subst hx;obtain⟨t',rfl⟩:=rx
   cases e with
   |non=>simp only[Dat] at hy;subst hy;cases ry;exact⟨SeqAt.RcAt.int_none a t',SeqAt.EqAt.int_none a t',SeqAt.RcNeAt.int_none a t'⟩
   |bl b=>simp only[Dat] at hy;subst hy;cases ry;exact⟨SeqAt.RcAt.int_bool a t' b,SeqAt.EqAt.int_bool a t' b,SeqAt.RcNeAt.int_bool a t' b⟩
   |int b=>simp only[Dat] at hy;subst hy;obtain⟨t,rfl⟩:=ry;exact⟨SeqAt.RcAt.int_int a t' b t,SeqAt.EqAt.int_int a t' b t,SeqAt.RcNeAt.int_int a t' b t⟩
   |str b=>simp only[Dat] at hy;subst hy;obtain⟨t,rfl⟩:=ry;exact⟨SeqAt.RcAt.int_str a t' b t,SeqAt.EqAt.int_str a t' b t,SeqAt.RcNeAt.int_str a t' b t⟩
   |tup es=>
    simp only[Dat] at hy;obtain⟨b,ys,rfl,hb,_⟩:=hy;cases ry;obtain⟨its,_,p⟩:=gq I hb;exact⟨SeqAt.RcAt.int_tuple a t' p hu',SeqAt.EqAt.int_tuple a t' p hu',SeqAt.RcNeAt.int_tuple a t' p hu'⟩
   |lst es=>
    simp only[Dat] at hy;obtain⟨b,ys,rfl,hb,_⟩:=hy;cases ry;obtain⟨its,_,p⟩:=jf I hb;exact⟨SeqAt.RcAt.int_list a t' p hu',SeqAt.EqAt.int_list a t' p hu',SeqAt.RcNeAt.int_list a t' p hu'⟩
   |dk es=>
    simp only[Dat] at hy;obtain⟨b,ys,rfl,hb,_⟩:=hy;cases ry;exact DH a t' (oJ I hb) hu'
   |dt es=>
    simp only[Dat] at hy;obtain⟨b,ys,rfl,hb,_⟩:=hy;cases ry;exact DH a t' (nW I hb) hu'
  |str a=>
   simp only[Dat] at hx;subst hx;obtain⟨t',rfl⟩:=rx
   cases e with
   |non=>simp only[Dat] at hy;subst hy;cases ry;exact⟨SeqAt.RcAt.str_none a t',SeqAt.EqAt.str_none a t',SeqAt.RcNeAt.str_none a t'⟩
   |bl b=>simp only[Dat] at hy;subst hy;cases ry;exact⟨SeqAt.RcAt.str_bool a t' b,SeqAt.EqAt.str_bool a t' b,SeqAt.RcNeAt.str_bool a t' b⟩
   |int b=>simp only[Dat] at hy;subst hy;obtain⟨t,rfl⟩:=ry;exact⟨SeqAt.RcAt.str_int a t' b t,SeqAt.EqAt.str_int a t' b t,SeqAt.RcNeAt.str_int a t' b t⟩
   |str b=>simp only[Dat] at hy;subst hy;obtain⟨t,rfl⟩:=ry;exact⟨SeqAt.RcAt.str_str a t' b t,SeqAt.EqAt.str_str a t' b t,SeqAt.RcNeAt.str_str a t' b t⟩
   |tup es=>
    simp only[Dat] at hy;obtain⟨b,ys,rfl,hb,_⟩:=hy;cases ry;obtain⟨its,_,p⟩:=gq I hb;exact⟨SeqAt.RcAt.str_tuple a t' p hu',SeqAt.EqAt.str_tuple a t' p hu',SeqAt.RcNeAt.str_tuple a t' p hu'⟩
   |lst es=>
    simp only[Dat] at hy;obtain⟨b,ys,rfl,hb,_⟩:=hy;cases ry;obtain⟨its,_,p⟩:=jf I hb;exact⟨SeqAt.RcAt.str_list a t' p hu',SeqAt.EqAt.str_list a t' p hu',SeqAt.RcNeAt.str_list a t' p hu'⟩
   |dk es=>
    simp only[Dat] at hy;obtain⟨b,ys,rfl,hb,_⟩:=hy;cases ry;exact DP a t' (oJ I hb) hu'
   |dt es=>
    simp only[Dat] at hy;obtain⟨b,ys,rfl,hb,_⟩:=hy;cases ry;exact DP a t' (nW I hb) hu'
 |succ n ih=>
  intro d e x y v u A hd hu hx hy rx ry;have hu':A.units<cLine:=by omega
  by_cases h0:dep d<=n
  ·exact ih d e x y v u A h0 (by omega) hx hy rx ry
  have hin:A.in1.units+n<cLine:=by show A.units+1+n<cLine;omega
  have items:∀(ds es:List D)(xs ys:List V)(its its2:List Value),dR ds<=n->aE H ds xs->aE H es ys->aH xs its->aH ys its2 ->
    ∀j (h1:j<its.toArray.size) (h2:j<its2.toArray.size),SeqAt.EqAt A.in1 s its.toArray[j] its2.toArray[j] (eqD (ds.getD j .non) (es.getD j .non)):=by
   intro ds es xs ys its its2 hdp hxs hys r1 r2 j h1 h2;have l1:j<ds.length:=by rw[←hxs.length,r1.length];simpa using h1
   have l2:j<es.length:=by rw[←hys.length,r2.length];simpa using h2
   obtain⟨x',ex,hx'⟩:=hxs.get (List.getElem?_eq_getElem l1);obtain⟨y',ey,hy'⟩:=hys.get (List.getElem?_eq_getElem l2);have g1:ds.getD j .non=ds[j]:=by rw[List.getD_eq_getElem?_getD,List.getElem?_eq_getElem l1];rfl
   have g2:es.getD j .non=es[j]:=by rw[List.getD_eq_getElem?_getD,List.getElem?_eq_getElem l2];rfl
   rw[g1,g2];exact(ih ds[j] es[j] x' y' _ _ A.in1 (Nat.le_trans (si (List.getElem_mem l1)) hdp) hin hx' hy' (vP r1 ex h1) (vP r2 ey h2)).2.1
  cases d with
  |non=>simp only[dep] at h0;omega
  |bl a=>simp only[dep] at h0;omega
  |int a=>simp only[dep] at h0;omega
  |str a=>simp only[dep] at h0;omega
  |dk ds=>simp only[dep] at hd;have:cLine=9900:=rfl;omega
  |dt ds=>simp only[dep] at hd;have:cLine=9900:=rfl;omega
  |tup ds=>
   simp only[dep] at hd;have hx0:=hx;simp only[Dat] at hx;obtain⟨a,xs,rfl,ha,hxs⟩:=hx;cases rx;obtain⟨its,r1,p⟩:=gq I ha
   cases e with
   |non=>simp only[Dat] at hy;subst hy;cases ry;exact⟨SeqAt.RcAt.tuple_none p hu',SeqAt.EqAt.tuple_none p hu',SeqAt.RcNeAt.tuple_none p hu'⟩
   |bl b=>simp only[Dat] at hy;subst hy;cases ry;exact⟨SeqAt.RcAt.tuple_bool b p hu',SeqAt.EqAt.tuple_bool b p hu',SeqAt.RcNeAt.tuple_bool b p hu'⟩
   |int b=>simp only[Dat] at hy;subst hy;obtain⟨t,rfl⟩:=ry;exact⟨SeqAt.RcAt.tuple_int b t p hu',SeqAt.EqAt.tuple_int b t p hu',SeqAt.RcNeAt.tuple_int b t p hu'⟩
   |str b=>simp only[Dat] at hy;subst hy;obtain⟨t,rfl⟩:=ry;exact⟨SeqAt.RcAt.tuple_str b t p hu',SeqAt.EqAt.tuple_str b t p hu',SeqAt.RcNeAt.tuple_str b t p hu'⟩
   |lst es=>
    simp only[Dat] at hy;obtain⟨b,ys,rfl,hb,_⟩:=hy;cases ry;obtain⟨its2,_,p2⟩:=jf I hb;exact⟨SeqAt.RcAt.tuple_list p p2 hu',SeqAt.EqAt.tuple_list p p2 hu',SeqAt.RcNeAt.tuple_list p p2 hu'⟩
   |dk es=>
    simp only[Dat] at hy;obtain⟨b,ys,rfl,hb,_⟩:=hy;cases ry;exact Dx p (oJ I hb) hu'
   |dt es=>
    simp only[Dat] at hy;obtain⟨b,ys,rfl,hb,_⟩:=hy;cases ry;exact Dx p (nW I hb) hu'
   |tup es=>
    have hy0:=hy;simp only[Dat] at hy;obtain⟨b,ys,rfl,hb,hys⟩:=hy;cases ry;obtain⟨its2,r2,p2⟩:=gq I hb;have it:=items ds es xs ys its its2 (by omega) hxs hys r1 r2
    have z1:its.toArray.size=ds.length:=by rw[←hxs.length,r1.length];simp
    have z2:its2.toArray.size=es.length:=by rw[←hys.length,r2.length];simp
    have e0:=xR (ds:=ds) (es:=es)
    have rc:SeqAt.RcAt A s (.ref a) (.ref b) (fP ds es):=by
     have:=SeqAt.RcAt.tuples p p2 hu' it;rw[z1,z2,e0] at this;exact this
    have rn:SeqAt.RcNeAt A s (.ref a) (.ref b) (!fP ds es):=by
     have:=SeqAt.RcNeAt.tuples p p2 hu' it;rw[z1,z2,e0] at this;exact this
    simp only[eqD];refine⟨rc,?_,rn⟩;by_cases hab:a=b
    ·subst hab
     have:D.tup ds=D.tup es:=hx0.inj hy0;cases this;rw[fX];exact SeqAt.EqAt.same _
    ·exact .of_refs hab rc
  |lst ds=>
   simp only[dep] at hd;have hx0:=hx;simp only[Dat] at hx;obtain⟨a,xs,rfl,ha,hxs⟩:=hx;cases rx;obtain⟨its,r1,p⟩:=jf I ha
   cases e with
   |non=>simp only[Dat] at hy;subst hy;cases ry;exact⟨SeqAt.RcAt.list_none p hu',SeqAt.EqAt.list_none p hu',SeqAt.RcNeAt.list_none p hu'⟩
   |bl b=>simp only[Dat] at hy;subst hy;cases ry;exact⟨SeqAt.RcAt.list_bool b p hu',SeqAt.EqAt.list_bool b p hu',SeqAt.RcNeAt.list_bool b p hu'⟩
   |int b=>simp only[Dat] at hy;subst hy;obtain⟨t,rfl⟩:=ry;exact⟨SeqAt.RcAt.list_int b t p hu',SeqAt.EqAt.list_int b t p hu',SeqAt.RcNeAt.list_int b t p hu'⟩
   |str b=>simp only[Dat] at hy;subst hy;obtain⟨t,rfl⟩:=ry;exact⟨SeqAt.RcAt.list_str b t p hu',SeqAt.EqAt.list_str b t p hu',SeqAt.RcNeAt.list_str b t p hu'⟩
   |tup es=>
    simp only[Dat] at hy;obtain⟨b,ys,rfl,hb,_⟩:=hy;cases ry;obtain⟨its2,_,p2⟩:=gq I hb;exact⟨SeqAt.RcAt.list_tuple p p2 hu',SeqAt.EqAt.list_tuple p p2 hu',SeqAt.RcNeAt.list_tuple p p2 hu'⟩
   |dk es=>
    simp only[Dat] at hy;obtain⟨b,ys,rfl,hb,_⟩:=hy;cases ry;exact Dh p (oJ I hb) hu'
   |dt es=>
    simp only[Dat] at hy;obtain⟨b,ys,rfl,hb,_⟩:=hy;cases ry;exact Dh p (nW I hb) hu'
   |lst es=>
    have hy0:=hy;simp only[Dat] at hy;obtain⟨b,ys,rfl,hb,hys⟩:=hy;cases ry;obtain⟨its2,r2,p2⟩:=jf I hb;have it:=items ds es xs ys its its2 (by omega) hxs hys r1 r2
    have z1:its.toArray.size=ds.length:=by rw[←hxs.length,r1.length];simp
    have z2:its2.toArray.size=es.length:=by rw[←hys.length,r2.length];simp
    have both:SeqAt.RcAt A s (.ref a) (.ref b) (fP ds es)/\SeqAt.RcNeAt A s (.ref a) (.ref b) (!fP ds es):=by
     by_cases hl:ds.length=es.length
     ·have r:=SeqAt.RcAt.lists p p2 (by rw[z1,z2];exact hl) hu' it
      have q:=SeqAt.RcNeAt.lists p p2 (by rw[z1,z2];exact hl) hu' it
      rw[z1,iX hl] at r q;exact⟨r,q⟩
     ·have hne:(its.toArray.size != its2.toArray.size)=true:=by rw[z1,z2];simpa using hl
      rw[mP hl];exact⟨SeqAt.RcAt.lists_lengths p p2 hne hu',SeqAt.RcNeAt.lists_lengths p p2 hne hu'⟩
    simp only[eqD];refine⟨both.1,?_,both.2⟩;by_cases hab:a=b
    ·subst hab
     have:D.lst ds=D.lst es:=hx0.inj hy0;cases this;rw[fX];exact SeqAt.EqAt.same _
    ·exact .of_refs hab both.1
noncomputable def Fu(neg:Bool):R2:=fun x y H Q=>∃d e,Dat H d x/\Dat H e y/\dep d<=100/\Q (.bl (if neg then !eqD d e else eqD d e)) H
theorem cK(hu:X.A.units+100<cLine):OpR X (compareOp .Eq) (Fu false):=by
 intro pins s σ H x y v u Q I rx ry h;obtain⟨d,e,hx,hy,hd,q⟩:=h;exact(lv I 100 d e x y v u X.A hd hu hx hy rx ry).1 X.prog X.w _ _ ⟨.bl _,H,I,rfl,q⟩
theorem gK(hu:X.A.units+100<cLine):OpR X (compareOp .NotEq) (Fu true):=by
 intro pins s σ H x y v u Q I rx ry h;obtain⟨d,e,hx,hy,hd,q⟩:=h;exact(lv I 100 d e x y v u X.A hd hu hx hy rx ry).2.2 X.prog X.w _ _ ⟨.bl _,H,I,rfl,q⟩
end
theorem zV{H:Hp}{p:Addr}{o:HO}(h:H p=none):c8 H (upd H p o):=fun b u e=>by
 rw[aw (bp e h)];exact e
theorem n6(H:Hp):∀ns:List Int,aE H (ns.map D.int) (ns.map V.int)
 | []=>by simp[aE]
 |n::r=>by
  simp only[List.map_cons,aE];exact⟨_,_,rfl,by simp[Dat],n6 H r⟩
theorem gh{H:Hp}:∀ {ns:List Int} {xs:List V},aE H (ns.map D.int) xs->xs=ns.map V.int
 | [],xs,h=>by simpa[aE] using h
 |n::r,xs,h=>by
  simp only[List.map_cons,aE] at h;obtain⟨x,t,rfl,h1,h2⟩:=h;rw[gh h2];simp only[Dat] at h1;rw[h1];rfl
theorem rj{e k y:Int}(h:0<k)(h2:k<=2^64):m8 (e%k) y:=by
 have h1:=Int.emod_nonneg e (Int.ne_of_gt h);have h3:=Int.emod_lt_of_pos e h;exact .inl ⟨by omega,by omega⟩
theorem tK{x y:Int}(h:-(2^64)<x/\x<2^64):m8 x y:=.inl h
theorem yQ{x y:Int}(h:-(2^64)<y/\y<2^64):m8 x y:=.inr h
section
variable{X:Cx}{tg a b l:Expr}{ta tb tl:TE}{pos:Pos}
theorem aY(K:W.Frag)(h:X.K=K):IxR X (rIx K):=h ▸ Ef
theorem bi(K:W.Frag)(h:X.K=K):eh X (.builtin "len") (fun xs H Q=>∃x n,xs=[x]/\Cm K x H n/\Q (.int n) H):=h ▸ yl
theorem eM(K:W.Frag)(h:X.K=K)(ha:PE X a ta)(he:∀whole,isTrue a X.env whole=(do let v ← whole;standAt a.pos;holding [v] (truthy v))):
  PT X a (fun σ H Q=>ta σ H fun x H'=>∃k,t6 K x H' k/\Q k H'):=h ▸ yU ha he
theorem gX(K:W.Frag)(h:X.K=K):eh X (.type "tuple") (fun xs H Q=>∃p ys,xs=[.ref p]/\((SqL K H p ys/\∀l,H l=none->Q (.ref l) (upd H l (.tup ys)))\/(SqT K H p ys/\Q (.ref p) H))):=h ▸ mZ
end
noncomputable def HW(J:It)(g:TG)(tb:TS)(D:g9)(σ:St)(H:Hp):Prop:=∃W:Nat->Nat->St->Hp->Prop,(∃m,W 0 m σ H)/\∀i m σ H,W i m σ H ->
 (J.stop i H/\D.nx σ H)\/(J.go i H/\∃N:St->Hp->Prop,(∀σ' H',N σ' H'->∃m',m'<m/\W (i+1) m' σ' H')/\∀x H',J.yld i H x H'->g x σ H' fun σ2 H2=>tb { D with nx:=N,ct:=N,bk:=D.nx } σ2 H2)
theorem vg(wi:TI)(g:TG)(tb:TS)(D:g9)(σ:St)(H:Hp):BV wi g tb D σ H=wi σ H fun J H1=>HW J g tb D σ H1:=rfl
mutual
noncomputable def noL:D->Bool
 |.lst _=>false
 |.dk _=>false
 |.dt _=>false
 |.tup ds=>IG ds
 |_=>true
noncomputable def IG:List D->Bool
 | []=>true
 |d::ds=>noL d && IG ds
end
theorem qy:∀ {ds:List D},(∀d∈ds,noL d=true)->IG ds=true
 | [],_=>by simp[IG]
 |d::ds,h=>by
  simp only[IG,Bool.and_eq_true];exact⟨h d (List.mem_cons_self ..),qy fun e he=>h e (List.mem_cons_of_mem _ he)⟩
end L2
namespace L2
end L2
namespace L2
open PySem
theorem du.IE{k:Nat}{A:Around}(r:du k A):A.units+100<cLine:=by have:=r.un;omega
theorem pe:∀ {ds:List D} {n:Nat},(∀d∈ds,dep d<=n)->dR ds<=n
 | [],n,_=>by simp[dR]
 |d::ds,n,h=>by
  simp only[dR];exact Nat.max_le.mpr ⟨h d (List.mem_cons_self ..),pe fun e he=>h e (List.mem_cons_of_mem _ he)⟩
theorem nV(ns:List Int):dR (ns.map D.int)=0:=by
 have:dR (ns.map D.int)<=0:=pe fun d hd=>by
  obtain⟨n,_,rfl⟩:=List.mem_map.mp hd;simp[dep]
 omega
end L2
namespace L2
open PySem PySem.Spec PyProof.Rows
section
variable{X:Cx}
theorem zN(hu:X.A.units+100<cLine):OpR X (compareOp .NotEq) (fun x y H Q=>∃a b xs,x=.ref a/\y=.ref b/\SqL X.K H a xs/\SqL X.K H b []/\Q (.bl (!xs.isEmpty)) H):=by
 intro pins s σ H x y v u Q I rx ry h;obtain⟨a,b,xs,rfl,rfl,ha,hb,q⟩:=h;cases rx;cases ry;obtain⟨its,r1,p1,_⟩:=I.list ha;obtain⟨its2,r2,p2,_⟩:=I.list hb;cases r2;have hu':X.A.units<cLine:=by omega
 cases xs with
 |nil=>
  cases r1;have:=SeqAt.RcNeAt.lists (e:=fun _=>true) p1.isList p2.isList rfl hu' (fun j h1 _=>absurd h1 (by simp))
  exact this X.prog X.w _ _ ⟨.bl _,H,I,rfl,q⟩
 |cons x xs=>
  have hne:(its.toArray.size != ([]:List Value).toArray.size)=true:=by
   have:=r1.length;rw[List.size_toArray,←this]
   simp
  exact SeqAt.RcNeAt.lists_lengths p1.isList p2.isList hne hu' X.prog X.w _ _ ⟨.bl _,H,I,rfl,q⟩
end
end L2
namespace L2
open PySem
theorem aE.take{H:Hp}:∀ {ds:List D} {xs:List V} (n:Nat),aE H ds xs->aE H (ds.take n) (xs.take n):=fun {ds xs} n h=>by
 refine aE.of_get (by rw[List.length_take,List.length_take,h.length]) fun i d x e1 e2=>?_
 rw[List.getElem?_take] at e1 e2;split at e1
 ·rename_i hi
  rw[if_pos hi] at e2;obtain⟨x',h1,h2⟩:=h.get e1;rw[e2] at h1;cases h1;exact h2
 ·cases e1
theorem aE.drop{H:Hp}:∀ {ds:List D} {xs:List V} (n:Nat),aE H ds xs->aE H (ds.drop n) (xs.drop n):=fun {ds xs} n h=>by
 refine aE.of_get (by rw[List.length_drop,List.length_drop,h.length]) fun i d x e1 e2=>?_
 rw[List.getElem?_drop] at e1 e2;obtain⟨x',h1,h2⟩:=h.get e1;rw[e2] at h1;cases h1;exact h2
end L2
namespace L2
open PySem PySem.Spec PyProof.Rows
section
variable{X:Cx}{e st:Expr}{te ts:TE}{pos p2:Pos}
noncomputable def GD(K:W.Frag)(te ts:TE):TE:=fun σ H Q=>te σ H fun x H1=>ts σ H1 fun k H2=>k=.int (-1)/\∃a xs,x=.ref a/\SqL K H2 a xs/\∀p,H2 p=none->Q (.ref p) (upd H2 p (.lst xs.reverse))
theorem Fc(K:W.Frag)(hK:X.K=K)(he:PE X e te)(hs:PE X st ts):PE X (.Subscript e (.Slice none none (some st) p2) pos) (GD K te ts):=.mk <| by
 subst hK;intro pins s σ H Q I h;refine Subscript_ (thn (he pins s σ H _ I h) fun v s1 ⟨x,H1,I1,r1,q1⟩=>?_);refine wpAny_Slice ?_;rw[evalPart_none];refine wpAny_pure (wpAny_pure ?_);rw[evalPart_some];refine thn (hs pins s1 σ H1 _ I1 q1) fun u s2 ⟨k,H2,I2,r2,q2⟩=>?_;obtain⟨rfl,a,xs,rfl,hx,q⟩:=q2;obtain⟨t,rfl⟩:=r2;cases r1;have I4:Inv X pins σ H2 { s2 with heap:=s2.heap.push { cls:=.type "slice",data:=.fields #[.none,.none,.int (-1) t] } }:=I2.kept (t':=s2.toks) fun b ob q=>Heap.get?_push_of_some _ q
 obtain⟨its,r,ht,hz⟩:=I4.list hx;have hlen:=r.length;refine tail_any (ops:=[.ref a,.ref s2.heap.objs.size]) (ht.isList.typeIs) slot_list_getitem.lookup ?_ (by with_unfolding_all rfl)
 refine wpAny_getItem_list_slice ht.isList (Heap.IsSliceOf.new ..) .none .none (.int (-1) t) (by simp) ?_ (by rw[List.size_toArray]<;>omega)
 rw[W.krv_pick];refine⟨.ref _,_,I4.laid (t':=s2.toks) (o:=.lst xs.reverse) (fun b ob q=>Heap.get?_push_of_some _ q) (Nat.le_refl _) ?_,rfl,q _ (I4.hok.fresh (Nat.le_refl _))⟩;refine⟨by rw[List.length_reverse];exact hz,its.reverse,0,?_,Heap.get?_push_size _ rfl⟩
 exact r.reverse
end
noncomputable def LD(H:Hp)(l:Addr)(ds:List D):Prop:=IG ds=true/\∃xs,H l=some (.lst xs)/\aE H ds xs
theorem qF{ds es:List D}:IG (ds++es)=(IG ds && IG es):=by
 induction ds with
 |nil=>simp[IG]
 |cons d ds ih=>simp[IG,ih,Bool.and_assoc]
inductive Tr where
 |lf (x:List D)
 |nd (x:List D) (l r:Tr)
namespace Tr
noncomputable def d:Tr->D
 |.lf x=>.tup x
 |.nd x l r=>.tup (x++[l.d,r.d])
noncomputable def size:Tr->Nat
 |.lf _=>1
 |.nd _ l r=>l.size+r.size+1
noncomputable def lvs:Tr->Nat
 |.lf _=>1
 |.nd _ l r=>l.lvs+r.lvs
noncomputable def dp:Tr->Nat
 |.lf _=>0
 |.nd _ l r=>1+max l.dp r.dp
noncomputable def post:Tr->List Tr
 |.lf x=>[.lf x]
 |.nd x l r=>l.post++r.post++[.nd x l r]
noncomputable def pre:Tr->List Tr
 |.lf x=>[.lf x]
 |.nd x l r=>.nd x l r::(r.pre++l.pre)
noncomputable def ok(lw:Str):Tr->Prop
 |.lf x=>x[0]?=some (.str lw)/\IG x=true
 |.nd x l r=>(∃w,x[0]?=some (.str w)/\w≠lw)/\IG x=true/\l.ok lw/\r.ok lw
theorem fT:∀t:Tr,t.size+1=2*t.lvs
 |.lf x=>rfl
 |.nd x l r=>by
  have:=fT l;have:=fT r;simp only[size,lvs];omega
theorem ok.noL{lw:Str}:∀ {t:Tr},t.ok lw->noL t.d=true
 |.lf x,h=>by simp only[d,L2.noL];exact h.2
 |.nd x l r,h=>by
  obtain⟨_,h1,h2,h3⟩:=h;simp only[d,L2.noL,qF,Bool.and_eq_true];exact⟨h1,by simp[IG,ok.noL h2,ok.noL h3]⟩
theorem ok.post{lw:Str}:∀ {t:Tr},t.ok lw->∀u∈t.post,u.ok lw
 |.lf x,h,u,hu=>by simp only[Tr.post,List.mem_singleton] at hu;subst hu;exact h
 |.nd x l r,h,u,hu=>by
  simp only[Tr.post,List.mem_append,List.mem_singleton] at hu;rcases hu with(hu|hu)|hu
  ·exact ok.post h.2.2.1 u hu
  ·exact ok.post h.2.2.2 u hu
  ·subst hu;exact h
theorem ok.IG{lw:Str}{ts:List Tr}(h:∀t∈ts,t.ok lw):IG (ts.map d)=true:=qy fun e he=>by
 obtain⟨t,ht,rfl⟩:=List.mem_map.mp he;exact(h t ht).noL
end Tr
section
variable{X:Cx}
theorem iJ{prog:Program}{w:World}{A:Around}{E:Value->Shared->Prop}{s:Shared}{t sl:Addr}{items:Array Value}{vl vu:Value}{lo hi:Option Int}{Q:Value->Shared->Prop}(ht:IsTup s.heap t items)(hs:s.heap.IsSliceOf sl vl vu .none)(pl:IsPart vl lo)(pu:IsPart vu hi)(hw:HT.sIx items.size 0 lo=0/\HT.sIx items.size items.size hi=items.size)(h:Q (.ref t) s):wpAny (model prog w) A (getItem (.ref t) (.ref sl)) Q E s:=by
 obtain⟨os,hos,hcs,hds⟩:=id hs;have hTs:s.TypeIs (.ref sl) "slice":=⟨os,hos,hcs⟩;unfold getItem
 try with_reducible refine wpAny_holding ?_
 first|refine wpAny_bind (wpAny_pure ?_)|skip
 refine wpAny_bind (wpAny_sequenceKey ht.typeIs (by decide) ?_)
 refine wpAny_bind (wpAny_callSpecial?_slot (name:=Str.ofString "__getitem__") ht.typeIs PyProof.Rows.slot_tuple_getitem
  (wpAny_call_entry PyProof.Rows.slot_tuple_getitem ht.typeIs PyProof.Rows.entry_tuple_getitem ?_ (PyProof.Rows.args_tuple_getitem _ _)))
 show wpAny _ _ (Builtin.Tuple.tupleItemsOf (.ref t) >>= _) _ _ s;refine wpAny_bind (tupleItemsOf_ ht ?_);refine wpAny_bind (wpAny_typeOf hTs ?_);rw[if_pos (by decide)]
 refine wpAny_bind (HT.sliceApplied_gen hs pl pu ?_)
 have hyes:(((HT.sIx items.size 0 lo:Nat):Int) == 0 && (1:Int) == 1 && (HT.sIx items.size items.size hi-HT.sIx items.size 0 lo) == items.size)=true:=by
  rw[hw.1,hw.2];simp
 show wpAny _ _ (if (((HT.sIx items.size 0 lo:Nat):Int) == 0 && (1:Int) == 1 && (HT.sIx items.size items.size hi-HT.sIx items.size 0 lo) == items.size)=true then _ else _) _ _ s
 rw[if_pos hyes];unfold Builtin.Tuple.tupleIsExact;refine wpAny_bind (wpAny_bind (wpAny_typeOf ht.typeIs (wpAny_pure ?_)));rw[if_pos (by decide)]
 exact wpAny_bind (wpAny_rule (wpAny_pure ⟨_,rfl,wpAny_pure h⟩))
noncomputable def vE(K:W.Frag):V->Option Int->Option Int->Hp->VK->Prop:=fun x lo hi H Q=>∃a xs,x=.ref a/\SqT K H a xs /\
 if HT.sIx xs.length 0 lo=0/\HT.sIx xs.length xs.length hi=xs.length then Q (.ref a) H else ∀p,H p=none->Q (.ref p) (upd H p (.tup (ka xs lo hi)))
theorem wq:SlR X (vE X.K):=by
 intro pins s σ H x v vl vu lo hi sl Q I rx hs pl pu h;obtain⟨a,xs,rfl,hx,h⟩:=h;by_cases hw:HT.sIx xs.length 0 lo=0/\HT.sIx xs.length xs.length hi=xs.length
 ·rw[if_pos hw] at h
  cases rx;obtain⟨its,r,ht,hz⟩:=I.tuple hx;have hlen:its.toArray.size=xs.length:=by rw[List.size_toArray];exact r.length.symm
  exact⟨"tuple",_,PyProof.Rows.slot_tuple_getitem.lookup,ht.typeIs,iJ ht hs pl pu (by rw[hlen];exact hw) ⟨.ref a,H,I,rfl,h⟩⟩
 ·rw[if_neg hw] at h
  exact EO pins s σ H (.ref a) v vl vu lo hi sl Q I rx hs pl pu ⟨a,xs,rfl,hx,hw,h⟩
theorem An(K:W.Frag)(h:X.K=K):SlR X (vE K):=h ▸ wq
theorem tP{xs:List V}{lo hi:Option Int}(h:HT.sIx xs.length 0 lo=0/\HT.sIx xs.length xs.length hi=xs.length):ka xs lo hi=xs:=by
 unfold ka;rw[h.1,h.2];simp
end
section
variable{X:Cx}
theorem zf(hu:X.A.units+100<cLine):OpR X (compareOp .Eq) (fun x y H Q=>∃a b xs,x=.ref a/\y=.ref b/\SqL X.K H a xs/\SqL X.K H b []/\Q (.bl xs.isEmpty) H):=by
 intro pins s σ H x y v u Q I rx ry h;obtain⟨a,b,xs,rfl,rfl,ha,hb,q⟩:=h;cases rx;cases ry;obtain⟨its,r1,p1,_⟩:=I.list ha;obtain⟨its2,r2,p2,_⟩:=I.list hb;cases r2;have hu':X.A.units<cLine:=by omega
 cases xs with
 |nil=>
  cases r1;have:=SeqAt.RcAt.lists (e:=fun _=>true) p1.isList p2.isList rfl hu' (fun j h1 _=>absurd h1 (by simp))
  exact this X.prog X.w _ _ ⟨.bl _,H,I,rfl,q⟩
 |cons x xs=>
  have hne:(its.toArray.size != ([]:List Value).toArray.size)=true:=by
   have:=r1.length;rw[List.size_toArray,←this]
   simp
  exact SeqAt.RcAt.lists_lengths p1.isList p2.isList hne hu' X.prog X.w _ _ ⟨.bl _,H,I,rfl,q⟩
end
noncomputable def wdD(w:List Int):D:=.tup (w.map D.int)
structure SN(n:Nat)(H:Hp)(S:Addr)(ad:Nat->Addr)(fs:Nat->List D):Prop where
 s:H S=some (.lst ((List.range n).map fun i=>.ref (ad i)))
 l:∀i,i<n->LD H (ad i) (fs i)
noncomputable def StE(w:World)(e:DictEntry)(p:Str×V):Prop:=e.hash=PyData.keyHash w.params p.1/\(∃t,e.key=.str p.1 t)/\a6 p.2 e.val
noncomputable def StD(w:World)(K:W.Frag)(a:Addr)(kvs:List (Str×V)):Prop:=∃(o:Obj)(es:List DictEntry)(ep:Nat),K.lookup a=some o/\o.ExactDict/\o.data=.dict es.toArray ep/\Paired (StE w) es kvs
noncomputable def gJ(kvs:List (Str×V))(x:Str):Option V:=(kvs.find? fun p=>decide (p.1=x)).map (·.2)
theorem StE.find{P:Program}{w:World}:∀ {es:List DictEntry} {kvs:List (Str×V)} {x:Str} {v:V},Paired (StE w) es kvs->gJ kvs x=some v->∃u,findBy (bn P w).is es.toArray (Sum.inr x)=some u/\a6 v u:=by
 intro es
 induction es with
 |nil=>intro kvs x v h hv;cases h;cases hv
 |cons e es ih=>
  intro kvs x v h hv
  cases h with
  | @cons _ p _ kvs r t=>
   obtain⟨h1,⟨tk,h2⟩,h3⟩:=r
   have hf:findBy (bn P w).is (e::es).toArray (Sum.inr x)=if gC (Sum.inr x) e.key=true then some e.val else findBy (bn P w).is es.toArray (Sum.inr x):=by
    unfold findBy;simp only[List.find?_toArray,List.find?_cons,lN];cases gC (Sum.inr x) e.key<;>simp
   by_cases hx:p.1=x
   ·have hk:gC (Sum.inr x) e.key=true:=by rw[h2,←hx];exact oS _ _
    rw[hf,if_pos hk];unfold gJ at hv;rw[List.find?_cons_of_pos (by simp[hx])] at hv
    cases hv;exact⟨_,rfl,h3⟩
   ·have hk:¬ gC (Sum.inr x) e.key=true:=by
     rw[h2];intro z;rcases bt z with⟨i,t',e1,e2⟩|⟨y,t',e1,e2⟩
     ·cases e2
     ·injection e2 with e2 _
      injection e1 with e1;exact hx (e2.trans e1.symm)
    rw[hf,if_neg hk];unfold gJ at hv;rw[List.find?_cons_of_neg (by simp[hx])] at hv
    exact ih t hv
theorem StE.keys{P:Program}{w:World}:∀ {es:List DictEntry} {kvs:List (Str×V)},Paired (StE w) es kvs->∀e∈es,∃k,(bn P w).is k e.key=true/\e.hash=(bn P w).hash k
 |_,_,.nil,e,h=>by cases h
 |_,_,.cons (a:=e0) (b:=p) r t,e,h=>by
  rcases List.mem_cons.mp h with rfl|h
  ·obtain⟨h1,⟨tk,h2⟩,_⟩:=r
   exact⟨Sum.inr p.1,by rw[h2];exact gI _ _ _ _,h1⟩
  ·exact StE.keys t e h
section
variable{X:Cx}{o i:Expr}{ty:TE}{pos:Pos}{a:Addr}{kvs:List (Str×V)}
noncomputable def DB(kvs:List (Str×V))(td ty:TE):TE:=fun σ H Q=>td σ H fun _ H0=>ty σ H0 fun y H1=>∃x v,y=.str x/\gJ kvs x=some v/\Q v H1
theorem BJ(hd:StD X.w X.K a kvs)(ho:PE X o (tC (.ref a)))(hi:PE X i ty)(hs:FV i):PE X (.Subscript o i pos) (DB kvs (tC (.ref a)) ty):=.mk <| by
 intro pins s σ H Q I h;obtain⟨ob,es,ep,hk,hx,hdat,hp⟩:=hd;refine BQ PySem.F.slot_dict_getitem.lookup hs (thn (ho pins s σ H (fun x H1=>x=.ref a/\ty σ H1 fun y H1=>∃x v,y=.str x/\gJ kvs x=some v/\Q v H1) I ⟨rfl,h⟩) fun u s1 ⟨x,H1,I1,rx,ex,q1⟩=>thn (hi pins s1 σ H1 _ I1 q1) fun iv s2 ⟨y,H2,I2,ry,k,v,ey,hv,q2⟩=>?_);subst ex;subst ey;obtain rfl:u=Value.ref a:=rx;obtain⟨t,rfl⟩:=ry;obtain⟨u',hf,ru⟩:=StE.find (P:=X.prog) hp hv
 have hg:s2.heap.get? a=some ob:=I2.kIn a ob hk;have hm:s2.heap.MapOf (bn X.prog X.w) a (findBy (bn X.prog X.w).is es.toArray):=⟨ob,es.toArray,ep,hg,hx,hdat,fun e he=>StE.keys hp e (by simpa using he),fun _=>rfl⟩
 exact⟨⟨ob,hg,hx.1⟩,wpAny_getItem_of (knd:=bn X.prog X.w) (gI _ _ _ _) hm hf ⟨v,H2,I2.tok _,ru,q2⟩⟩
end
open Classical in
noncomputable def eqF(H:Hp)(dx:D)(u:Value):Bool:=if h:∃d,∃x,a6 x u/\Dat H d x then eqD (Classical.choose h) dx else false
theorem o4{H:Hp}{dx d:D}{x:V}{u:Value}(r:a6 x u)(h:Dat H d x):eqF H dx u=eqD d dx:=by
 have hex:∃d,∃x,a6 x u/\Dat H d x:=⟨d,x,r,h⟩;unfold eqF;rw[dif_pos hex];obtain⟨x',r',h'⟩:=Classical.choose_spec hex;have:x'=x:=r'.inj r;subst this;rw[Dat.inj h' h]
theorem iw{H:Hp}{dx:D}:∀ {ds:List D} {xs:List V} {its:List Value},aE H ds xs->aH xs its->its.any (eqF H dx)=ds.any fun d=>eqD d dx
 | [],xs,its,h,r=>by
  simp only[aE] at h;subst h;cases r;rfl
 |d::ds,xs,its,h,r=>by
  simp only[aE] at h;obtain⟨x,xr,rfl,h1,h2⟩:=h
  cases r with
  |cons r1 r2=>rw[List.any_cons,List.any_cons,o4 r1 h1,iw h2 r2]
theorem jI{H:Hp}:∀ {ds:List D} {xs:List V} {its:List Value},aE H ds xs->aH xs its->∀u∈its,∃d x,d∈ds/\a6 x u/\Dat H d x
 | [],xs,its,h,r,u,hu=>by simp only[aE] at h;subst h;cases r;cases hu
 |d::ds,xs,its,h,r,u,hu=>by
  simp only[aE] at h;obtain⟨x,xr,rfl,h1,h2⟩:=h
  cases r with
  |cons r1 r2=>
   rcases List.mem_cons.mp hu with rfl|hu
   ·exact⟨d,x,List.mem_cons_self ..,r1,h1⟩
   ·obtain⟨d',x',m,q⟩:=jI h2 r2 u hu
    exact⟨d',x',List.mem_cons_of_mem _ m,q⟩
theorem pC:∀ {ds:List D} {d:D},d∈ds->dep d<=dR ds
 |e::ds,d,h=>by
  simp only[dR];rcases List.mem_cons.mp h with rfl|h
  ·omega
  ·have:=pC h;omega
noncomputable def inD(dx:D)(ds:List D):Bool:=ds.any fun d=>eqD d dx
noncomputable def EH(neg:Bool):R2:=fun x y H Q=>∃dx ds,Dat H dx x/\(Dat H (.lst ds) y\/Dat H (.tup ds) y)/\dR ds<=90/\Q (.bl (if neg then !inD dx ds else inD dx ds)) H
section
variable{X:Cx}
theorem A3(hu:X.A.units+100<cLine):OpR X (compareOp .In) (EH false):=by
 intro pins s σ H x y v u Q I rx ry h;obtain⟨dx,ds,hx,hy,hdp,q⟩:=h
 have he:∀ {xs:List V} {its:List Value},aE H ds xs->aH xs its->∀w,w∈its.toArray->SeqAt.EqAt X.A.in1 s w v (eqF H dx w):=fun hd r w hw=>by
  obtain⟨d,z,hm,rz,hz⟩:=jI hd r w (by simpa using hw)
  rw[o4 rz hz];exact(lv I 90 d dx z x w v X.A.in1 (Nat.le_trans (pC hm) hdp) (by show X.A.units+1+90<cLine;omega) hz hx rz rx).2.1
 rcases hy with hy|hy
 ·simp only[Dat] at hy
  obtain⟨a,xs,rfl,ha,hd⟩:=hy;cases ry;obtain⟨its,r,pl,_⟩:=I.list (SqL.of ha);refine SeqAt.in_listAt (eqF H dx) pl.isList (he hd r) ⟨.bl _,H,I,rfl,?_⟩;rw[show its.toArray.any (eqF H dx)=its.any (eqF H dx) by simp,iw hd r]
  exact q
 ·simp only[Dat] at hy
  obtain⟨a,xs,rfl,ha,hd⟩:=hy;cases ry;obtain⟨its,r,pl,_⟩:=I.tuple (SqT.of ha);refine SeqAt.in_tupleAt (eqF H dx) pl (he hd r) ⟨.bl _,H,I,rfl,?_⟩;rw[show its.toArray.any (eqF H dx)=its.any (eqF H dx) by simp,iw hd r]
  exact q
theorem xk(hu:X.A.units+100<cLine):OpR X (compareOp .NotIn) (EH true):=by
 intro pins s σ H x y v u Q I rx ry h;obtain⟨dx,ds,hx,hy,hdp,q⟩:=h
 have he:∀ {xs:List V} {its:List Value},aE H ds xs->aH xs its->∀w,w∈its.toArray->SeqAt.EqAt X.A.in1 s w v (eqF H dx w):=fun hd r w hw=>by
  obtain⟨d,z,hm,rz,hz⟩:=jI hd r w (by simpa using hw)
  rw[o4 rz hz];exact(lv I 90 d dx z x w v X.A.in1 (Nat.le_trans (pC hm) hdp) (by show X.A.units+1+90<cLine;omega) hz hx rz rx).2.1
 rcases hy with hy|hy
 ·simp only[Dat] at hy
  obtain⟨a,xs,rfl,ha,hd⟩:=hy;cases ry;obtain⟨its,r,pl,_⟩:=I.list (SqL.of ha);refine SeqAt.notIn_listAt (eqF H dx) pl.isList (he hd r) ⟨.bl _,H,I,rfl,?_⟩;rw[show its.toArray.any (eqF H dx)=its.any (eqF H dx) by simp,iw hd r]
  exact q
 ·simp only[Dat] at hy
  obtain⟨a,xs,rfl,ha,hd⟩:=hy;cases ry;obtain⟨its,r,pl,_⟩:=I.tuple (SqT.of ha);refine SeqAt.notIn_tupleAt (eqF H dx) pl (he hd r) ⟨.bl _,H,I,rfl,?_⟩;rw[show its.toArray.any (eqF H dx)=its.any (eqF H dx) by simp,iw hd r]
  exact q
end
end L2
namespace L2
open PySem PySem.Spec PyProof.Rows
mutual
noncomputable def pyD:D->PyData
 |.non=>.none
 |.bl b=>.bool b
 |.int i=>.int i
 |.str x=>.str x
 |.tup ds=>.tuple (gF ds)
 |.lst ds=>.list (gF ds)
 |.dk ks=>.dict (ks.map fun k=>(.int k,.int 1))
 |.dt ks=>.dict (ks.map fun k=>(.tuple (k.map .int),.int 1))
noncomputable def gF:List D->List PyData
 | []=>[]
 |d::ds=>pyD d::gF ds
end
noncomputable def jJ(d:D):Str:=(pyD d).shown
theorem qP{P:Program}{w:World}{h:Heap}:∀ {ks:List Int} {vs:List (Key×Value)} {es:List DictEntry},KV (dkO ks) vs->Pairs (bn P w) es vs ->
  ReadsAll h (es.map (·.key)) (ks.map PyData.int) []/\ReadsAll h (es.map (·.val)) (ks.map fun _=>PyData.int 1) []
 | [],vs,es,r,p=>by
  cases r;cases p;exact⟨.nil,.nil⟩
 |k::ks,vs,es,r,p=>by
  cases r with
  |cons r1 r2=>
   cases p with
   |cons hk hv p2=>
    obtain⟨e1,e2⟩:=r1;obtain⟨q1,q2⟩:=qP r2 p2;dsimp only at e1 e2;rw[←e1] at hk
    rcases bt (k:=Sum.inl k) hk with⟨i,t,e3,e4⟩|⟨x,t,e3,e4⟩
    ·cases e3
     obtain⟨u,e2⟩:=e2;refine⟨?_,?_⟩
     ·show ReadsAll h (_::_) (_::_) ([]++[])
      refine .cons ?_ q1;dsimp only;rw[e4];exact .int k t
     ·show ReadsAll h (_::_) (_::_) ([]++[])
      refine .cons ?_ q2;dsimp only;rw[hv,e2];exact .int 1 u
    ·cases e3
theorem mO{h:Heap}:∀ {k:List Int} {its:List Value},aH ((k.map Sum.inl).map kV) its->ReadsAll h its (k.map PyData.int) []
 | [],its,r=>by cases r;exact .nil
 |i::k,its,r=>by
  cases r with
  |cons r1 r2=>
   obtain⟨u,rfl⟩:=r1;exact ReadsAll.cons (as:=[]) (bs:=[]) (.int i u) (mO r2)
section
variable{X:Cx}{pins:List (Addr×Obj)}{σ:St}{H:Hp}{s:Shared}
theorem rY(I:Inv X pins σ H s):∀ {ks:List (List Int)} {xs:List (List Key×Addr×Value)},Paired (fun(p:List Key×V) (q:List Key×Addr×Value)=>p.1=q.1/\H q.2.1=some (.tup (p.1.map kV))/\a6 p.2 q.2.2) (dtO ks) xs ->
  ReadsAll s.heap ((xs.map (entryOfKey (tupleKind (bn X.prog X.w)))).map (·.key)) (ks.map fun k=>PyData.tuple (k.map .int)) []/\ReadsAll s.heap ((xs.map (entryOfKey (tupleKind (bn X.prog X.w)))).map (·.val)) (ks.map fun _=>PyData.int 1) []
 | [],xs,r=>by cases r;exact⟨.nil,.nil⟩
 |k::ks,xs,r=>by
  cases r with
  |cons r1 r2=>
   obtain⟨e1,e2,e3⟩:=r1;obtain⟨q1,q2⟩:=rY I r2;obtain⟨its,rv,⟨o,h1,h2,n,h3⟩,_⟩:=I.tuple (SqT.of (K:=X.K) e2);obtain⟨u,e3⟩:=e3;refine⟨?_,?_⟩
   ·show ReadsAll s.heap (_::_) (_::_) ([]++[])
    refine .cons ?_ q1;show Reads s.heap (.ref _) (.tuple _) [];exact .tuple h1 h2 h3 (by simpa using mO rv)
   ·show ReadsAll s.heap (_::_) (_::_) ([]++[])
    refine .cons ?_ q2;dsimp only[entryOfKey];rw[e3];exact .int 1 u
mutual
theorem mB(I:Inv X pins σ H s):∀ {d:D} {v:V} {u:Value},Dat H d v->a6 v u->∃as,Reads s.heap u (pyD d) as/\∀b∈as,∃o,H b=some o
 |.non,v,u,h,r=>by
  simp only[Dat] at h;subst h;cases r;exact⟨_,.none,by simp⟩
 |.bl b,v,u,h,r=>by
  simp only[Dat] at h;subst h;cases r;exact⟨_,.bool b,by simp⟩
 |.int i,v,u,h,r=>by
  simp only[Dat] at h;subst h;obtain⟨t,rfl⟩:=r;exact⟨_,.int i t,by simp⟩
 |.str x,v,u,h,r=>by
  simp only[Dat] at h;subst h;obtain⟨t,rfl⟩:=r;exact⟨_,.str x t,by simp⟩
 |.tup ds,v,u,h,r=>by
  simp only[Dat] at h;obtain⟨a,xs,rfl,ha,hd⟩:=h;cases r;obtain⟨its,rv,⟨o,h1,h2,n,h3⟩,_⟩:=I.tuple (SqT.of ha);obtain⟨as,hr,hm⟩:=g7 I hd rv;exact⟨_,.tuple h1 h2 h3 (by simpa using hr),hm⟩
 |.lst ds,v,u,h,r=>by
  simp only[Dat] at h;obtain⟨a,xs,rfl,ha,hd⟩:=h;cases r;obtain⟨its,rv,⟨o,n,h1,h2,h3,h4⟩,_⟩:=I.list (SqL.of ha);obtain⟨as,hr,hm⟩:=g7 I hd rv;refine⟨_,.list h1 h2 h4 (by simpa using hr),fun b hb=>?_⟩
  rcases List.mem_cons.mp hb with rfl|hb
  ·exact⟨_,ha⟩
  ·exact hm b hb
 |.dk ks,v,u,h,r=>by
  simp only[Dat] at h;obtain⟨a,xs,rfl,ha,rfl⟩:=h;cases r;obtain⟨_,_,vs,kv,o,es,ep,e1,⟨c1,_,_⟩,e2,_,p,_⟩:=I.hok _ _ ha;obtain⟨q1,q2⟩:=qP (h:=s.heap) kv p;refine⟨_,.dict (kvs:=xs.map fun k=>(PyData.int k,PyData.int 1)) e1 c1 e2 (by simpa[List.map_map,Function.comp_def] using q1) (by simpa[List.map_map,Function.comp_def] using q2),fun b hb=>?_⟩
  simp only[List.append_nil,List.mem_singleton] at hb;subst hb;exact⟨_,ha⟩
 |.dt ks,v,u,h,r=>by
  simp only[Dat] at h;obtain⟨a,xs,rfl,ha,rfl⟩:=h;cases r;obtain⟨_,_,ys,pr,o,es,ep,e1,⟨c1,_,_⟩,e2,e3,_⟩:=I.hok _ _ ha;obtain⟨q1,q2⟩:=rY I pr;rw[←e3] at q1 q2
  refine⟨_,.dict (kvs:=xs.map fun k:List Int=>(PyData.tuple (k.map PyData.int),PyData.int 1)) e1 c1 e2 (by simpa[List.map_map,Function.comp_def] using q1) (by simpa[List.map_map,Function.comp_def] using q2),fun b hb=>?_⟩
  simp only[List.append_nil,List.mem_singleton] at hb;subst hb;exact⟨_,ha⟩
theorem g7(I:Inv X pins σ H s):∀ {ds:List D} {xs:List V} {us:List Value},aE H ds xs->aH xs us->∃as,ReadsAll s.heap us (gF ds) as/\∀b∈as,∃o,H b=some o
 | [],xs,us,h,r=>by
  simp only[aE] at h;subst h;cases r;exact⟨_,.nil,by simp⟩
 |d::ds,xs,us,h,r=>by
  simp only[aE] at h;obtain⟨x,xr,rfl,h1,h2⟩:=h
  cases r with
  |cons r1 r2=>
   obtain⟨as,a1,m1⟩:=mB I h1 r1;obtain⟨bs,b1,m2⟩:=g7 I h2 r2;exact⟨_,.cons a1 b1,fun b hb=>(List.mem_append.mp hb).elim (m1 b) (m2 b)⟩
end
end
mutual
noncomputable def wt:D->Nat
 |.non=>4
 |.bl _=>5
 |.int i=>i.natAbs.log2+3
 |.str x=>(reprText x).length
 |.tup ds=>wts ds+3
 |.lst ds=>wts ds+2
 |.dk ks=>(ks.map fun k=>k.natAbs.log2+10).sum+2
 |.dt ks=>(ks.map fun k=>(k.map fun i=>i.natAbs.log2+5).sum+10).sum+2
noncomputable def wts:List D->Nat
 | []=>0
 |d::ds=>wt d+2+wts ds
end
mutual
noncomputable def fit:D->Bool
 |.int i=>decide (i.natAbs.log2<1920)
 |.tup ds=>jh ds
 |.lst ds=>jh ds
 |.dk ks=>ks.all fun i=>decide (i.natAbs.log2<1920)
 |.dt ks=>ks.all fun k=>k.all fun i=>decide (i.natAbs.log2<1920)
 |_=>true
noncomputable def jh:List D->Bool
 | []=>true
 |d::ds=>fit d && jh ds
end
theorem nG:∀ {k:List Int},(k.all fun i=>decide (i.natAbs.log2<1920))=true->PyData.showableAll (k.map .int)=true
 | [],_=>rfl
 |i::k,h=>by
  simp only[List.all_cons,Bool.and_eq_true] at h;simp only[List.map_cons,PyData.showableAll,PyData.showable,Bool.and_eq_true];exact⟨h.1,nG h.2⟩
theorem vm:∀ {ks:List Int},(ks.all fun i=>decide (i.natAbs.log2<1920))=true->PyData.showableKv (ks.map fun k=>(PyData.int k,PyData.int 1))=true
 | [],_=>rfl
 |i::k,h=>by
  simp only[List.all_cons,Bool.and_eq_true] at h;simp only[List.map_cons,PyData.showableKv,PyData.showable,Bool.and_eq_true];exact⟨⟨h.1,by decide⟩,vm h.2⟩
theorem uN:∀ {ks:List (List Int)},(ks.all fun k=>k.all fun i=>decide (i.natAbs.log2<1920))=true->PyData.showableKv (ks.map fun k=>(PyData.tuple (k.map .int),PyData.int 1))=true
 | [],_=>rfl
 |i::k,h=>by
  simp only[List.all_cons,Bool.and_eq_true] at h;simp only[List.map_cons,PyData.showableKv,PyData.showable,Bool.and_eq_true];exact⟨⟨nG h.1,by decide⟩,uN h.2⟩
mutual
theorem mw:∀ {d:D},fit d=true->(pyD d).showable=true
 |.non,h=>rfl
 |.bl b,h=>rfl
 |.int i,h=>h
 |.str x,h=>rfl
 |.tup ds,h=>kn (ds:=ds) (by simpa only[fit] using h)
 |.lst ds,h=>kn (ds:=ds) (by simpa only[fit] using h)
 |.dk ks,h=>vm (ks:=ks) (by simpa only[fit] using h)
 |.dt ks,h=>uN (ks:=ks) (by simpa only[fit] using h)
theorem kn:∀ {ds:List D},jh ds=true->PyData.showableAll (gF ds)=true
 | [],h=>rfl
 |d::ds,h=>by
  simp only[jh,Bool.and_eq_true] at h;simp only[gF,PyData.showableAll,Bool.and_eq_true];exact⟨mw h.1,kn h.2⟩
end
mutual
theorem lb:∀(d:D),dep d<=1000->(pyD d).hasDict=false/\(pyD d).depth=dep d
 |.non,_=>by simp[pyD,PyData.depth,PyData.hasDict,dep]
 |.bl b,_=>by simp[pyD,PyData.depth,PyData.hasDict,dep]
 |.int i,_=>by simp[pyD,PyData.depth,PyData.hasDict,dep]
 |.str x,_=>by simp[pyD,PyData.depth,PyData.hasDict,dep]
 |.tup ds,h=>by
  simp only[dep] at h;obtain⟨a,b⟩:=lM ds (by omega)
  simp only[pyD,PyData.depth,PyData.hasDict,dep,a,b,true_and]
 |.lst ds,h=>by
  simp only[dep] at h;obtain⟨a,b⟩:=lM ds (by omega)
  simp only[pyD,PyData.depth,PyData.hasDict,dep,a,b,true_and]
 |.dk ks,h=>by simp[dep] at h
 |.dt ks,h=>by simp[dep] at h
theorem lM:∀(ds:List D),dR ds<=1000->PyData.hasDictAll (gF ds)=false/\PyData.depthAll (gF ds)=dR ds
 | [],_=>by simp[gF,PyData.depthAll,PyData.hasDictAll,dR]
 |d::ds,h=>by
  simp only[dR] at h;obtain⟨a,b⟩:=lb d (by omega)
  obtain⟨a',b'⟩:=lM ds (by omega)
  simp only[gF,PyData.hasDictAll,PyData.depthAll,dR,a,a',b,b',Bool.or_self,true_and]
end
theorem kQ:∀(ts:List Str)(k:Nat)(acc:Str),(textFrom k acc ts).length<=acc.length+(ts.map fun t=>t.length+2).sum
 | [],k,acc=>by simp[textFrom]
 |t::ts,k,acc=>by
  have ih:=kQ ts (k+1) (acc++(if k>0 then ", " else "":String)++t)
  have e:(acc++(if k>0 then ", " else "":String)++t).length<=acc.length+2+t.length:=by
   rw[strLen_append,strLen_append];have:(((if k>0 then ", " else "":String):Str)).length<=2:=by split<;>decide
   omega
  simp only[textFrom,List.map_cons,List.sum_cons];omega
theorem jD:∀ts:List Str,(Str.join ", " ts).length<=(ts.map fun t=>t.length+2).sum
 | []=>by simp[Str.join];decide
 | [x]=>by
  show x.length<=_;simp
 |x::y::r=>by
  have ih:=jD (y::r);show (x ++ ", "++Str.join ", " (y::r)).length<=_;rw[strLen_append,strLen_append];have e2:((", ":String):Str).length=2:=rfl;simp only[List.map_cons,List.sum_cons] at ih ⊢;omega
theorem k7(i:Int):((toString i:String):Str).length<=i.natAbs.log2+3:=by
 have h:=int_text_length_le (a:=i) (k:=i.natAbs.log2+1) (Nat.succ_pos _) (Nat.lt_succ_self _);rw[show ((toString i:String):Str).length=(toString i).length from PySem.ofString_length _]
 omega
theorem qe:∀(k:List Int),((PyData.shownAll (k.map .int)).map fun t=>t.length+2).sum<=(k.map fun i=>i.natAbs.log2+5).sum
 | []=>by simp[PyData.shownAll]
 |i::k=>by
  have h1:=k7 i;have h2:=qe k;simp only[List.map_cons,PyData.shownAll,PyData.shown,List.sum_cons];omega
theorem qD(ps:List Str):(dictText ps).length<=(ps.map fun t=>t.length+2).sum+2:=by
 unfold dictText;rw[strLen_append,strLen_append];have h1:=jD ps;have h2:(("{":String):Str).length=1:=rfl;have h3:(("}":String):Str).length=1:=rfl;omega
theorem D1:∀(ks:List Int),((PyData.shownKv (ks.map fun k=>(PyData.int k,PyData.int 1))).map fun t=>t.length+2).sum<=(ks.map fun k=>k.natAbs.log2+10).sum
 | []=>by simp[PyData.shownKv]
 |i::k=>by
  have h1:=k7 i;have h2:=D1 k;have h3:=k7 1;have h4:((1:Int).natAbs).log2=0:=by decide
  have h5:((": ":String):Str).length=2:=rfl;simp only[List.map_cons,PyData.shownKv,PyData.shown,List.sum_cons,strLen_append];have h6:((toString (1:Int):String):Str).length=1:=rfl;omega
theorem DD:∀(ks:List (List Int)),((PyData.shownKv (ks.map fun k=>(PyData.tuple (k.map .int),PyData.int 1))).map fun t=>t.length+2).sum<=(ks.map fun k=>(k.map fun i=>i.natAbs.log2+5).sum+10).sum
 | []=>by simp[PyData.shownKv]
 |i::k=>by
  have h1:=qe i;have h2:=DD k;have h5:((": ":String):Str).length=2:=rfl
  have h7:(tupleText (PyData.shownAll (i.map .int))).length<=(i.map fun i=>i.natAbs.log2+5).sum+3:=by
   unfold tupleText;rw[strLen_append,strLen_append];have h1:=jD (PyData.shownAll (i.map .int));have h2:(("(":String):Str).length=1:=rfl;have h3:(((if (PyData.shownAll (i.map .int)).length == 1 then ",)" else ")":String)):Str).length<=2:=by split<;>decide
   omega
  simp only[List.map_cons,PyData.shownKv,PyData.shown,List.sum_cons,strLen_append];have h6:((toString (1:Int):String):Str).length=1:=rfl;omega
mutual
theorem yy:∀(d:D),(pyD d).shown.length<=wt d
 |.non=>by show (("None":String):Str).length<=4;decide
 |.bl b=>by cases b<;>(show (_:Str).length<=5)<;>decide
 |.int i=>k7 i
 |.str x=>Nat.le_refl _
 |.tup ds=>by
  have h:=t5 ds;show (tupleText (PyData.shownAll (gF ds))).length<=wts ds+3;unfold tupleText;rw[strLen_append,strLen_append];have h1:=jD (PyData.shownAll (gF ds));have h2:(("(":String):Str).length=1:=rfl;have h3:(((if (PyData.shownAll (gF ds)).length == 1 then ",)" else ")":String)):Str).length<=2:=by split<;>decide
  omega
 |.lst ds=>by
  have h:=t5 ds;show (listText (PyData.shownAll (gF ds))).length<=wts ds+2;unfold listText;rw[strLen_append];have h1:=kQ (PyData.shownAll (gF ds)) 0 "[";have h2:(("[":String):Str).length=1:=rfl;have h3:(("]":String):Str).length=1:=rfl;omega
 |.dk ks=>Nat.le_trans (qD _) (Nat.add_le_add_right (D1 ks) 2)
 |.dt ks=>Nat.le_trans (qD _) (Nat.add_le_add_right (DD ks) 2)
theorem t5:∀(ds:List D),((PyData.shownAll (gF ds)).map fun t=>t.length+2).sum<=wts ds
 | []=>by simp[gF,PyData.shownAll,wts]
 |d::ds=>by
  have h1:=yy d;have h2:=t5 ds;simp only[gF,PyData.shownAll,List.map_cons,List.sum_cons,wts];omega
end
section
variable{X:Cx}
theorem lX(hg:X.A.guards=some [])(hu:X.A.units+100<cLine):eh X (.builtin "repr") (fun xs H Q=>∃(a:Addr)(d:D),xs=[.ref a]/\Dat H d (.ref a)/\dep d<=90/\fit d=true/\wt d<=1000000/\Q (.str (jJ d)) H):=by
 intro pins s σ H xs us Q I r h;obtain⟨a,d,rfl,hd,hdp,hf,hw,q⟩:=h;obtain⟨u,rfl,rx⟩:=iQ r;have ru:=rx;cases rx;obtain⟨as,hr,_⟩:=mB I hd ru;obtain⟨nd,dp⟩:=lb d (by omega)
 refine repr_of_reads' hr (mw hf) (fun z=>by rw[nd] at z;cases z) hg (by rw[dp];omega) (fun _ _ e=>e) (fun h' t tk hk=>?_) (Nat.le_trans (yy d) (Nat.le_trans hw (by decide)))
 exact⟨.str (jJ d),H,I.kept (t':=tk) hk,⟨t,rfl⟩,q⟩
theorem gv(hg:X.A.guards=some [])(hu:X.A.units+100<cLine)(hs:(X.K.lookup sysModules).isSome=true):eh X (.builtin "repr") (fun xs H Q=>∃(a:Addr)(d:D),xs=[.ref a]/\Dat H d (.ref a)/\(pyD d).depth<=90/\fit d=true/\wt d<=1000000/\Q (.str (jJ d)) H):=by
 intro pins s σ H xs us Q I r h;obtain⟨a,d,rfl,hd,hdp,hf,hw,q⟩:=h;obtain⟨u,rfl,rx⟩:=iQ r;have ru:=rx;cases rx;obtain⟨as,hr,hm⟩:=mB I hd ru
 have hn:sysModules ∉ as:=fun z=>by
  obtain⟨o,e⟩:=hm _ z;obtain⟨ob,e2⟩:=Option.isSome_iff_exists.mp hs;have h1:=I.ok.mod.kin _ _ e2;have h2:=I.base.free _ _ (I.ok.bs _ _ h1).1 (I.ok.bs _ _ h1).2 (I.ok.noex _ _ h1);rw[e] at h2;cases h2
 refine repr_of_reads' hr (mw hf) (fun _=>hn) hg (by omega) (fun _ _ e=>e) (fun h' t tk hk=>?_) (Nat.le_trans (yy d) (Nat.le_trans hw (by decide)))
 exact⟨.str (jJ d),H,I.kept (t':=tk) hk,⟨t,rfl⟩,q⟩
end
section
variable{prog:Program}{w:World}{A:Around}{E:Value->Shared->Prop}
theorem HF{it a:Addr}{vs:Array Value}(ha:a≠it)(n:Nat):∀(i:Nat)(s:Shared)(Q:List Value->Shared->Prop),s.heap.IsListIter it a i->s.heap.IsList a vs->i+n<=vs.size ->
  (∀h',h'.IsListIter it a (i+n)->Heap.SameBut it s.heap h'->Q ((vs.toList.drop i).take n) { s with heap:=h' })->wpAny (model prog w) A (draw (.ref it) n) Q E s:=by
 induction n with
 |zero=>
  intro i s Q st ls le q;refine wpAny_pure ?_;have:=q s.heap st (Heap.SameBut.refl ..);simpa using this
 |succ n ih=>
  intro i s Q st ls le q;have lt:i<vs.size:=by omega
  refine wpAny_bind (m:=pyNext (.ref it)) (wpAny_pyNext_list_item st ls (x:=vs[i]) (by simp[lt]) fun h1 st1 sb1=>?_)
  refine wpAny_bind (wpAny_holding (ih (i+1) _ _ st1 (ls.extBut sb1.extBut ha) (by omega) fun h2 st2 sb2=>wpAny_pure ?_))
  have e1:vs.toList.drop i=vs[i]::vs.toList.drop (i+1):=by simp[List.drop_eq_getElem_cons,lt]
  have q2:=q h2 (by rw[←Nat.add_assoc,Nat.add_right_comm];exact st2) (sb1.trans sb2)
  rwa [e1,List.take_succ_cons] at q2
theorem Ch{a:Addr}{vs:Array Value}{s:Shared}{Q:List Value->Shared->Prop}(hh:A.handled=none)(ls:s.heap.IsList a vs)(q:∀h',Heap.ExtBut s.heap.objs.size s.heap h'->Q vs.toList { s with heap:=h' }):wpAny (model prog w) A (unpackItems (.ref a) vs.size none) Q E s:=by
 have ne:a≠s.heap.objs.size:=by
  obtain⟨o,ho,_⟩:=ls;exact Nat.ne_of_lt (Heap.lt_size ho)
 unfold unpackItems notIterableAtAll;refine wpAny_bind (wpAny_bind (wpAny_specialOf ls.typeIs PySem.F.slot_list_iter.lookup (wpAny_pure ?_)));simp only[Option.isNone_some,Bool.false_eq_true,if_false];refine wpAny_bind (wpAny_holding (wpAny_pyIter_list ls (wpAny_bind (wpAny_holding (HF ne vs.size 0 _ _ ⟨_,Heap.get?_push_size _ rfl,rfl,rfl⟩ (ls.push _) (by omega) fun h1 st1 sb1=>?_)))))
 have eall:List.take vs.size (List.drop 0 vs.toList)=vs.toList:=by rw[List.drop_zero,List.take_of_length_le (by simp)]
 rw[eall,if_neg (by simp)]
 refine wpAny_bind (wpAny_holding (wpAny_pyNext_list_end hh st1 ((ls.push _).extBut sb1.extBut ne) (by simp) fun h2 eb=>?_))
 simp only[Option.isSome_none,Bool.false_eq_true,if_false];exact wpAny_pure (q h2 fun b o hb e=>eb b o hb (sb1.extBut b o hb (Heap.get?_push_of_some _ e)))
end
section
variable{X:Cx}{pos:Pos}
noncomputable def Go(K:W.Frag)(n:Nat)(t:TGs):TG:=fun v σ H Q=>∃a xs,v=.ref a/\SqL K H a xs/\xs.length=n/\t xs σ H Q
theorem Fb{es:List Expr}{k:Nat}{t:TGs}{n:Nat}(hc:X.calm=true)(h:PGs X es t)(hn:(assignEach es X.env).length=n:=by rfl)(hst:(assignEach es X.env).findIdx? (·.1)=none:=by rfl):PG X (.Tuple es k pos) (Go X.K n t):=by
 intro pins s σ H v u Q I r hw;obtain⟨a,xs,e1,hq,hl,hw⟩:=hw;subst e1;cases r;obtain⟨its,rv,ht,hz⟩:=I.list hq;have hlen:(assignEach es X.env).length=its.toArray.size:=by simp[hn,←hl,rv.length]
 rw[assign_Tuple];refine wpAny_bind (wpAny_standAt ?_);unfold unpack;rw[hlen,hst];refine wpAny_bind (wpAny_holding (Ch (I.ok.hd hc) ht.isList fun h' hx=>?_));have I1:Inv X pins σ H { s with heap:=h' }:=I.kept (t':=s.toks) fun b o e=>hx b o (Nat.ne_of_lt (Heap.lt_size e)) e;exact h pins _ σ H xs _ Q I1 (by simpa using rv) hw
theorem xl(K:W.Frag)(h:X.K=K)(hu:X.A.units+100<cLine):OpR X (compareOp .NotEq) (fun x y H Q=>∃a b xs,x=.ref a/\y=.ref b/\SqL K H a xs/\SqL K H b []/\Q (.bl (!xs.isEmpty)) H):=h ▸ zN hu
theorem wM(K:W.Frag)(h:X.K=K)(hu:X.A.units+100<cLine):OpR X (compareOp .Eq) (fun x y H Q=>∃a b xs,x=.ref a/\y=.ref b/\SqL K H a xs/\SqL K H b []/\Q (.bl xs.isEmpty) H):=h ▸ zf hu
end
section
variable{X:Cx}
theorem bD{es fs x1 pos te t}(ha:PE X (.Tuple fs x1 pos) te)(hr:PA X es t):PA X (.Tuple fs x1 pos::es) (jP te t):=aa ha hr (by rfl)
theorem jG{es fs pos te t}(ha:PE X (.List fs pos) te)(hr:PA X es t):PA X (.List fs pos::es) (jP te t):=aa ha hr (by rfl)
theorem ai{es c j pos te t}(ha:PE X (.Constant c j pos) te)(hr:PA X es t):PA X (.Constant c j pos::es) (jP te t):=aa ha hr (by rfl)
end
end L2
namespace L2
open PySem PySem.Spec PySem.Calls PyProof.Rows
noncomputable def Frz(H H':Hp):Prop:=∀b o u,H b=some (.frz o u)->H' b=some (.frz o u)
noncomputable def uI(H:Hp)(f:Addr)(q:Str)(params:Arguments)(body:Expr)(scope:Scope)(clos:List (Str×Addr)):Prop:=
 ∃(pm:Value)(c:Addr)(ctv:Value)(oc:Obj)(vs:Array Value)(t:Tok)(u u':HO),H f=some (.frz (W.kla_obj "<lambda>" q params body scope clos pm c ctv) u)/\H c=some (.frz oc u')/\oc.data=.fields vs/\vs[1]?=some (.str q t)
noncomputable def xn(K:W.Frag)(c P:Addr):Bool:=match K.lookup c with
 | some o=>(o.cls == .type "code") && c != P && (match o.data with
  | .fields vs=>(vs[11]? == some (.ref P)) && (match vs.getD 18 .none,vs.getD 7 .none,vs.getD 9 .none,vs.getD 10 .none with
   |.str _ _,.int _ _,.bool _,.int _ _=>true
   |_,_,_,_=>false)
  |_=>false)
 |none=>false
theorem w5{K:W.Frag}{h:Heap}{c P:Addr}(X:K.In h)(e:xn K c P=true):W.CodeHd h c P:=by
 unfold xn at e
 cases q:K.lookup c with
 |none=>rw[q] at e;cases e
 |some o=>
  rw[q] at e;simp only[Bool.and_eq_true] at e;obtain⟨⟨e1,e2⟩,e3⟩:=e
  cases d:o.data with
  |fields vs=>
   rw[d] at e3;simp only[Bool.and_eq_true] at e3;obtain⟨e4,e5⟩:=e3;have e4':vs[11]?=some (.ref P):=eq_of_beq e4;split at e5
   ·rename_i f tf g tg b x tt h18 h7 h9 h10
    refine⟨o,vs,f,tf,g,tg,b,x,tt,X _ _ q,eq_of_beq e1,d,e4',?_,h18,h7,h9,h10,by simpa using e2⟩
    simp[Array.getD_eq_getD_getElem?,e4']
   ·cases e5
  |_=>rw[d] at e3;cases e3
theorem tR{pos:Pos}{a b:Int}{c cv:Value}(l:List Value)(h:TriplesOk l)(e:codeAmong pos (l++[rawInt a,rawInt b,c])=some cv):codeAmong pos l=some cv\/cv=c:=by
 fun_induction TriplesOk l with
 |case1=>
  simp only[List.nil_append,rawInt,codeAmong] at e;split at e
  ·exact .inr (Option.some.inj e).symm
  ·cases e
 |case2 a' t b' u x bO ih=>
  simp only[List.cons_append,codeAmong] at e ⊢;split at e
  ·rename_i hc
   rw[if_pos hc];exact .inl e
  ·rename_i hc
   rw[if_neg hc];exact ih h e
 |case3 l h1 h2=>exact h.elim
section
variable{P:Program}{w:World}{H H':Hp}{h h':Heap}{p:Addr}{ps:Array Value}
theorem Un.lam{fs:List Addr}(hok:HOk P w H h)(hP:H p=some (.tbl ps))(k:∀b o,b≠p->h.get? b=some o->h'.get? b=some o)(hp':∃o,h'.get? p=some o)(same:∀b,b<h.objs.size->H' b=H b):Un fs [] H H' h h':=by
 have ne:∀b,H b=none->b≠p:=fun b n z=>by rw[z,hP] at n;cases n
 refine⟨fun b o q n _ _=>k b o (ne b n) q,fun b o q n _ _=>⟨o.slots,k b o (ne b n) q⟩,fun b o q n _=>(same b (Heap.lt_size q)).trans n,fun b o q _=>?_,fun b xs q=>(same b (hok.lt q)).trans q,fun b o u q=>(same b (hok.lt q)).trans q,fun b xs q=>⟨#[],?_⟩⟩
 ·by_cases hb:b=p
  ·rw[hb];exact hp'
  ·exact⟨o,k b o hb q⟩
 ·rw[(same b (hok.lt q)).trans q];simp
theorem HOk.lam(hok:HOk P w H h)(hP:H p=some (.tbl ps))(k:∀b o,b≠p->h.get? b=some o->h'.get? b=some o)(same:∀b,b<h.objs.size->H' b=H b)(newP:cM P w H' h' p (.tbl ps))(new:∀b u,h.objs.size<=b->H' b=some u->cM P w H' h' b u):HOk P w H' h':=fun b u e=>by
 rcases Nat.lt_or_ge b h.objs.size with hb|hb
 ·rw[same b hb] at e
  by_cases hp:b=p
  ·subst hp
   rw[hP] at e;cases e;exact newP
  ·refine(hok b u e).stay (fun c v hc q=>k c v ?_ q) (fun c q=>(same c (hok.lt q)).trans q) (fun c xs q=>(same c (hok.lt q)).trans q) fun c o u q=>(same c (hok.lt q)).trans q
   rcases hc with rfl|hc
   ·exact hp
   ·rintro rfl
    rw[hP] at hc;cases hc
 ·exact new b u hb e
end
noncomputable def Gu(q:Str)(args:Arguments)(body:Expr)(scope:Scope)(clos:List (Str×Addr)):TE:=fun _ H Q=>∀f H',c8 H H'->H f=none->uI H' f q args body scope clos->Q (.ref f) H'
section
variable{X:Cx}{args:Arguments}{body:Expr}{scope:Scope}{pos:Pos}{x:Str}{c p:Addr}{clos:List (Str×Addr)}
theorem o5(hcode:X.env.code=.ref c)(hq:X.env.qual=x ++ ".<locals>.")(hm:(x,c,p)∈i5 X.K)(hh:xn X.K c p=true)(hcl:closureFor scope X.env=pure clos)(hdef:defaultsOf args X.env=([],[]):=by rfl):
  PE X (.Lambda args body scope pos) (Gu (x ++ ".<locals>." ++ "<lambda>") args body scope clos):=.mk <| by
 intro pins s σ H Q I h;refine W.kla_eval hdef ?_;rw[hq];obtain⟨ps,eP,z0⟩:=(I.ok.tt.mono I.base.tbls) _ hm;obtain⟨qs,hP,tr,codes⟩:=I.hok _ _ eP;dsimp only at eP z0 hP;have C:W.CodeHd s.heap c p:=(w5 I.ok.mod.kin hh).keeps I.bk;have hg:s.heap.Ns mainGlobals X.mg:=I.ok.mod.glob.keeps I.bk;obtain⟨bm,ob,b1,b2,b3,b4,b5,b6⟩:=I.ok.mod.bm
 have hgP:mainGlobals≠p:=fun q=>by
  obtain⟨o,es,ep,e,hd,_⟩:=hg;rw[q,hP] at e;cases e;cases hd
 have hbP:bm≠p:=fun q=>by
  have e:=I.bk _ _ b3;rw[q,hP] at e;cases e;cases b4
 have hbG:bm≠mainGlobals:=fun q=>by
  obtain⟨o,es,ep,e,hd,_⟩:=I.ok.mod.glob;rw[q,e] at b3;cases b3;rw[hd] at b6;cases b6
 have hB:s.heap.BuiltinsAt X.mg p:=⟨bm,ob,b1,b2,hbG,hbP,I.bk _ _ b3,b4,b5,b6⟩;have hps:p<s.heap.objs.size:=Heap.lt_size hP
 cases e:codeAmong pos qs.toList with
 |none=>
  refine W.kla_makeFunction (mg:=X.mg) hcl I.ok.glob hg hcode C hP tr e hgP hB fun c' ctv h' tk hx hge hlt hrec htb=>?_;obtain⟨c₂,oc,vs,t,e2,hoc,hd,hv⟩:=hrec;cases e2;have hps':p<h'.objs.size:=Heap.lt_size htb
  let H':Hp:=upd (upd H c' (.frz oc (.own p))) h'.objs.size (.frz (W.kla_obj "<lambda>" (x ++ ".<locals>." ++ "<lambda>") args body scope clos ((X.mg "__name__").getD .none) c' ctv) (.own h'.objs.size))
  have ef:H' h'.objs.size=some (.frz (W.kla_obj "<lambda>" (x ++ ".<locals>." ++ "<lambda>") args body scope clos ((X.mg "__name__").getD .none) c' ctv) (.own h'.objs.size)):=bR;have ec:H' c'=some (.frz oc (.own p)):=(aw (Nat.ne_of_lt hlt)).trans bR
  have same:∀b,b<s.heap.objs.size->H' b=H b:=fun b hb=>by
   have h1:b≠h'.objs.size:=Nat.ne_of_lt (Nat.lt_trans (Nat.lt_of_lt_of_le hb hge) hlt);have h2:b≠c':=Nat.ne_of_lt (Nat.lt_of_lt_of_le hb hge);exact(aw h1).trans (aw h2)
  have k:∀b o,b≠p->s.heap.get? b=some o->(h'.push (W.kla_obj "<lambda>" (x ++ ".<locals>." ++ "<lambda>") args body scope clos ((X.mg "__name__").getD .none) c' ctv)).get? b=some o:=fun b o n q=>Heap.get?_push_of_some _ (hx b o n q);have htb':=Heap.get?_push_of_some (W.kla_obj "<lambda>" (x ++ ".<locals>." ++ "<lambda>") args body scope clos ((X.mg "__name__").getD .none) c' ctv) htb;refine⟨.ref h'.objs.size,H',I.un (Un.lam I.hok eP k ⟨_,htb'⟩ same) (I.hok.lam eP k same ⟨_,htb',?_,?_⟩ ?_),rfl,h _ _ (fun b o q=>(same b (I.hok.lt q)).trans q) (I.hok.fresh (Nat.le_trans hge (Nat.le_of_lt hlt))) ⟨_,c',ctv,oc,vs,t,_,_,ef,ec,hd,hv⟩⟩
  ·rw[Array.toList_append]
   exact TriplesOk_snoc _ _ _ _ tr
  ·intro pos' cv q
   rw[Array.toList_append] at q;rcases tR _ tr q with q|rfl
   ·obtain⟨c1,o1,v1,t1,q1,a1,a2,a3,a4,a5⟩:=codes pos' cv q
    exact⟨c1,o1,v1,t1,q1,a1,(same c1 (I.hok.lt a2)).trans a2,a3,a4,a5⟩
   ·exact⟨c',oc,vs,t,_,rfl,ec,hd,hv,z0⟩
  ·intro b u hb q
   by_cases hbf:b=h'.objs.size
   ·subst hbf
    rw[ef] at q;cases q;exact⟨Heap.get?_push_size _ rfl,_,Heap.get?_push_size _ rfl⟩
   ·have q':upd H c' (.frz oc (.own p)) b=some u:=(aw hbf).symm.trans q
    by_cases hbc:b=c'
    ·subst hbc
     rw[bR] at q';cases q';exact⟨Heap.get?_push_of_some _ hoc,_,Heap.get?_push_of_some _ hoc⟩
    ·rw[aw hbc,I.hok.fresh hb] at q';cases q'
 |some cv=>
  obtain⟨c',oc,vs,t,q,rfl,ec,hd,hv,hq0⟩:=codes pos cv e
  have hqq:q=x ++ ".<locals>." ++ "<lambda>":=by
   rw[hq0] at z0;injection z0 with z0;injection z0
  subst hqq;refine W.kla_makeFunctionHit (mg:=X.mg) hcl I.ok.glob hg hcode C hP tr e hB fun ctv h' tk hk hsz=>?_;have hne:∀b u,H b=some u->b≠h'.objs.size:=fun b u q z=>absurd (Nat.lt_of_lt_of_le (I.hok.lt q) hsz) (by rw[z];exact Nat.lt_irrefl _)
  refine⟨.ref h'.objs.size,upd H h'.objs.size (.frz (W.kla_obj "<lambda>" (x ++ ".<locals>." ++ "<lambda>") args body scope clos ((X.mg "__name__").getD .none) c' ctv) (.own h'.objs.size)),I.laid (fun b u q=>Heap.get?_push_of_some _ (hk b u q)) hsz ?_,rfl,h _ _ (fun b o q=>(aw (hne b o q)).trans q) (I.hok.fresh hsz) ⟨_,c',ctv,oc,vs,t,_,_,bR,(aw (hne _ _ ec)).trans ec,hd,hv⟩⟩;exact⟨Heap.get?_push_size _ rfl,_,Heap.get?_push_size _ rfl⟩
end
structure Clo(P:Program)(w:World)(K:W.Frag)(mg:Str->Option Value)(base:Heap)(H₀:Hp)(k:Nat)(f:Addr)(n:Nat)(sp:Sp):Prop where
 fn:(∃(oc:Value)(od:Option Addr)(fd:FuncData) (sl:Array (Option Value)) (u:HO),H₀ f=some (.frz ⟨oc,od,.func fd,sl⟩ u))\/∃(oc:Value)(od:Option Addr)(fd:FuncData) (sl:Array (Option Value)),K.lookup f=some ⟨oc,od,.func fd,sl⟩
 len:∀vs H Q E,sp vs H Q E->vs.length=n
 run:∀(A:Around)(outer:List Env)(s:Shared)(H:Hp)(us:List Value)(vs:List V)(Q:VK)(E:XK),du k A->rP P w K mg base A outer s H->Frz H₀ H->aH vs us->sp vs H Q E ->
  codeAny (model P w) A (.call (.ref f) ⟨us,[]⟩) (CR CX0 outer P w H s Q E) s
theorem Mod.mono{K:W.Frag}{mg:Str->Option Value}{b b':Heap}(m:Mod K mg b)(k:∀a o,b.get? a=some o->b'.get? a=some o):Mod K mg b':=
 ⟨m.kin.keeps k,m.glob.keeps k,let ⟨mb,h1,h2⟩:=m.blt;⟨mb,h1.keeps k,h2⟩,m.nolimit.keeps k,let ⟨bm,ob,h1,h2,h3,r⟩:=m.bm;⟨bm,ob,h1,h2,k _ _ h3,r⟩⟩
noncomputable def A5(X:Cx)(σ:St)(b:Heap):Prop:=∀(i:Nat)(x:Str)(v:V),X.N[i]?=some x->σ[i]?=some (some v)->X.env.scope.names.lookup x=some .cell->X.fn x=true->∃c u,X.env.cells.lookup x=some c/\b.IsCell c (some u)/\a6 v u
theorem kR{h b b':Heap}:∀ {l:List Env},h.FunFrames b l->(∀a∈frs l,b'.get? a=none)->h.FunFrames b' l
 | [],_,_=>trivial
 |env::r,x,k=>by
  obtain⟨hk,⟨L,o,hf,hn,ho,hd⟩,hr⟩:=x;have hL:L∈frs (env::r):=by unfold frs;rw[List.filterMap_cons,hf];exact List.mem_cons_self
  refine⟨hk,⟨L,o,hf,k L hL,ho,hd⟩,kR hr fun a ha=>k a ?_⟩;unfold frs at ha ⊢;rw[List.filterMap_cons,hf];exact List.mem_cons_of_mem _ ha
theorem Inv.grow{X:Cx}{pins:List (Addr×Obj)}{σ:St}{H:Hp}{s:Shared}(I:Inv X pins σ H s):
  ∃b',(∀a o,X.base.get? a=some o->b'.get? a=some o)/\rP X.prog X.w X.K X.mg b' X.A X.stack s H/\A5 X σ b':=by
 have keep:∀a o,s.heap.get? a=some o->H a=none->a ∉ frs X.stack->(W.hideAll s.heap (trk s.heap H++frs X.stack)).get? a=some o:=fun a o e n hf=>W.hideAll_get _ e fun hm=>by
  rcases List.mem_append.mp hm with z|z
  ·have q:(H a).isSome=true:=(List.mem_filter.mp z).2
   rw[n] at q;simp at q
  ·exact hf z
 have sub:∀a o,X.base.get? a=some o->(W.hideAll s.heap (trk s.heap H++frs X.stack)).get? a=some o:=fun a o e=>keep a o (I.bs a o e).1 (I.bs a o e).2 fun hm=>by
  have:=(I.stack.mem hm).1;rw[e] at this;cases this
 have e0:=I.env0;refine⟨W.hideAll s.heap (trk s.heap H++frs X.stack),sub,⟨e0.frames,e0.mod.mono sub,fun a o e=>⟨W.of_hideAll _ e,?_⟩,Nat.le_of_eq (W.hideAll_size _ _),kR e0.funs fun a ha=>W.hideAll_none _ (List.mem_append_right _ ha),e0.frf,e0.tt,e0.hok,e0.bare⟩,?_⟩
 ·cases q:H a with
  |none=>rfl
  |some u=>
   have hm:a∈trk s.heap H:=List.mem_filter.mpr ⟨List.mem_range.mpr (I.hok.lt q),by simp[q]⟩
   rw[W.hideAll_none _ (List.mem_append_left _ hm)] at e;cases e
 ·intro i x v h1 h2 h3 h4
  obtain⟨m,hn,hl⟩:=I.loc;obtain⟨u,r,l⟩:=hl i x v h1 h2 (.inr (.inl h3));rcases l with⟨k,_⟩|⟨_,c,hc,o,ho,hd⟩
  ·have k':X.env.scope.names.lookup x=some .local:=k
   rw[h3] at k';cases k'
  ·refine⟨c,u,hc,⟨o,keep c o ho (I.freeC x c hc) fun hm=>?_,hd⟩,r⟩
   rcases List.mem_cons.mp (I.IK c hm) with z|z
   ·exact I.cne x c hc z
   ·obtain⟨_,o',ho',_⟩:=I.ok.funs.mem z
    exact absurd (Nat.lt_of_lt_of_le (Heap.lt_size ho') (I.ok.cab x c h4 hc)) (Nat.lt_irrefl _)
noncomputable def Ac(X:Cx)(spf:Heap->Sp)(t:TA):TE:=fun σ H Q=>t σ H fun vs H1=>∀b',(∀a o,X.base.get? a=some o->b'.get? a=some o)->A5 X σ b'->spf b' vs H1 Q E0
section
variable{X:Cx}{k:Nat}{f:Addr}{fd:FuncData}{ps:List Str}{x:Str}{p pos:Pos}{e:Expr}{es:List Expr}{t:TA}{spf:Heap->Sp}
theorem ju(F:∀b',aV X.prog X.w X.K X.mg b' CX0 k f fd ps (spf b'))(hr:du k X.A)(hg:Gl X x)(hm:X.mg x=some (.ref f))(hk:W.keepIn X.K (.ref f)=true)(hb:bx X.K fd ps [])(ha:PA X (e::es) t)(hdb:(x == ("__debug__":Str))=false:=by decide)(he:starEach (e::es) X.env=(false,eval e X.env)::starEach es X.env:=by rfl)(hpl:(backTo pos (starEach es X.env)).any (·.1)=false:=by rfl):
  PE X (.Call (.Name x p) (e::es) [] pos) (Ac X spf t):=.mk <| by
 intro pins s σ H Q I h;refine wpAny_Call_Name_kw (iu I hg hm ?_ hdb);refine W.callWith_K (h₀:=X.base) I.ok.mod.kin hk (thn (ha pos pins s σ H _ I h) fun us s1 ⟨vs,H1,I1,r,q⟩=>⟨I1.kIn,?_⟩) he hpl;obtain⟨b',sub,e0,cb⟩:=I1.grow;have q:=q b' sub cb;have hl:(us++[]).length=ps.length:=by rw[List.append_nil,←r.length];exact(F b').len _ _ _ _ q
 have hbb:=hb s1 us I1.kIn hl;rw[List.append_nil] at hbb;refine wpAny_call (codeAny_mono ((F b').run X.A X.stack s1 H1 ⟨us,[]⟩ us vs Q E0 hr e0 hbb r q) fun r s' hq=>?_)
 cases r with
 |error e=>exact False.elim hq
 |ok fl=>
  cases fl with
  |ret u=>exact I1.after hq
  |next=>exact False.elim hq
  |brk=>exact False.elim hq
  |cont=>exact False.elim hq
end
noncomputable def qX(P:Program)(w:World)(K:W.Frag)(mg:Str->Option Value)(base:Heap)(N:List Str)(qual:Str)(scope:Scope)(f:Addr)(cd:Value)(cl:List (Str×Addr))(A:Around)(outer:List Env)(s:Shared)(H:Hp):Cx where
 prog:=P
 w:=w
 K:=K
 mg:=mg
 base:=base
 A:=A.deeper (W.envX qual scope s.heap.objs.size f cd cl)
 N:=N
 s₀:=s
 H₀:=H
 env:=W.envX qual scope s.heap.objs.size f cd cl
 outer:=outer
 stack:=W.envX qual scope s.heap.objs.size f cd cl::outer
 ex:=[]
 calm:=true
 fn:=fun _=>false
 pn:=[]
 xe:=fun _ _=>False
structure rQ(ps cs:List Str)(sc:Scope):Prop where
 kind:sc.kind=.function
 co:sc.isCoroutine=false
 gen:sc.isGenerator=false
 nd:(ps++cs).Nodup
 par:∀x∈ps,sc.names.lookup x=some .local
 free:∀x∈cs,sc.names.lookup x=some .free
 has:∀y∈sc.names,y.2≠.cell/\(y.2=.free->y.1∈cs)
noncomputable def nT(b:Heap)(cl:List (Str×Addr))(cs:List Str)(caps:List V):Prop:=caps.length=cs.length/\(∀x c,cl.lookup x=some c->x∈cs)/\(∀x y c,cl.lookup x=some c->cl.lookup y=some c->x=y) /\
 ∀(j:Nat)(x:Str)(v:V),cs[j]?=some x->caps[j]?=some v->∃c u,cl.lookup x=some c/\b.IsCell c (some u)/\a6 v u
theorem l8{α:Type}:∀ {ps:List Str} {us:List α} {i:Nat} {x:Str} {u:α},ps.Nodup->ps[i]?=some x->us[i]?=some u->(ps.zip us).reverse.lookup x=some u:=by
 intro ps
 induction ps with
 |nil=>intro us i x u _ h;simp at h
 |cons p ps ih=>
  intro us i x u nd h1 h2
  cases us with
  |nil=>simp at h2
  |cons w us=>
   obtain⟨n1,n2⟩:=List.nodup_cons.mp nd;rw[List.zip_cons_cons,List.reverse_cons,List.lookup_append]
   cases i with
   |zero=>
    simp at h1 h2;subst h1 h2
    have:(ps.zip us).reverse.lookup p=none:=by
     rw[List.lookup_eq_none_iff];intro q hq;rw[List.mem_reverse] at hq;have:=(List.of_mem_zip (a:=q.1) (b:=q.2) hq).1;simp only[beq_eq_false_iff_ne,ne_eq,bne_iff_ne];intro z;exact n1 (z ▸ this)
    rw[this];simp[List.lookup]
   |succ i=>
    rw[ih n2 (by simpa using h1) (by simpa using h2)]
    rfl
structure wL(K:W.Frag)(x qual:Str)(st:Stmt)(f:Addr)(fd:FuncData)(c p:Addr):Prop where
 ex:∃(oc:Value)(od:Option Addr)(kV doc pm:Value)(an:Option Addr)(ct:Value) (osl:Array (Option Value)),
  fd=W.fnOf x qual (defArgs st) (defBody st) (defScope st) .none kV doc pm an (.ref c) ct/\K.lookup f=some ⟨oc,od,.func fd,osl⟩/\W.codeIn K (.ref c) qual=true
 tab:(x,c,p)∈i5 K
 hd:xn K c p=true
theorem wL.ok{P:Program}{w:World}{K:W.Frag}{mg:Str->Option Value}{base:Heap}{x qual:Str}{st:Stmt}{f c p:Addr}{fd:FuncData}{N ps:List Str}{k:Nat}{sp:Sp}(F:wL K x qual st f fd c p)(S:aN N ps (defScope st))(len:∀vs H Q E,sp vs H Q E->vs.length=ps.length)
  (hbody:∀(A:Around)(outer:List Env)(s:Shared)(H:Hp)(vs:List V)(Q:VK)(E:XK),du k (A.deeper (envOfC qual (defScope st) s.heap.objs.size f (.ref c)))->sp vs H Q E ->
   ∃t,PSs (fW CX0 P w K mg base N qual (defScope st) f (.ref c) A outer s H E).nox (defBody st) t/\t { nx:=fun _ H'=>Q .non H',rt:=Q } (start N vs) H):aV P w K mg base CX0 (k+1) f fd ps sp:=by
 obtain⟨oc,od,kV,doc,pm,an,ct,osl,rfl,lk,hcd⟩:=F.ex;refine zH lk hcd S len fun A outer s H vs Q E hr hsp=>?_;obtain⟨t,h,q⟩:=hbody A outer s H vs Q E hr hsp;exact⟨t,h.nox,q⟩
theorem BN{K:W.Frag}{x qual:Str}{st:Stmt}{f c p:Addr}{oc:Value}{od an:Option Addr}{osl:Array (Option Value)}{kV doc pm cdv ct:Value}(l:K.lookup f=some ⟨oc,od,.func (W.fnOf x qual (defArgs st) (defBody st) (defScope st) .none kV doc pm an cdv ct),osl⟩)(hc:W.codeIn K cdv qual=true)(e:cdv=.ref c)(t:(i5 K).contains (x,c,p)=true)(h:xn K c p=true):wL K x qual st f (W.fnOf x qual (defArgs st) (defBody st) (defScope st) .none kV doc pm an cdv ct) c p:=by
 subst e;exact⟨⟨oc,od,kV,doc,pm,an,ct,osl,rfl,l,hc⟩,by simpa using t,h⟩
noncomputable def ndB:List Nat->Bool
 | []=>true
 |a::r=>!(r.contains a) && ndB r
theorem vQ{α:Type}(f:α->Nat):∀ {l:List α} {q:α},ndB (l.map f)=true->q∈l->l.find? (fun t=>f t == f q)=some q
 | [],_,_,m=>nomatch m
 |a::r,q,h,m=>by
  rw[List.map_cons,ndB,Bool.and_eq_true] at h;obtain⟨h1,h2⟩:=h;rcases List.mem_cons.mp m with e|m
  ·subst e
   rw[List.find?_cons_of_pos (by simp)]
  ·have ne:(f a == f q)=false:=by
    cases z:f a == f q with
    |false=>rfl
    |true=>
     have z':f a=f q:=eq_of_beq z
     have:(r.map f).contains (f a)=true:=by
      rw[z'];simpa using⟨q,m,rfl⟩
     rw[this] at h1;cases h1
   rw[List.find?_cons_of_neg (by rw[ne];simp)]
   exact vQ f h2 m
noncomputable def mX(K:W.Frag)(b:Addr):Option HO:=((i5 K).find? fun t=>t.2.2 == b).map fun t=>HO.tbl #[.str (t.1 ++ ".<locals>." ++ "<lambda>") 0]
theorem mR{K:W.Frag}{b:Addr}{o:HO}(e:mX K b=some o):∃t∈i5 K,t.2.2=b/\o=HO.tbl #[.str (t.1 ++ ".<locals>." ++ "<lambda>") 0]:=by
 unfold mX at e
 cases q:(i5 K).find? (fun t=>t.2.2 == b) with
 |none=>rw[q] at e;cases e
 |some t=>
  rw[q] at e;cases e;have:=List.find?_some q;exact⟨t,List.mem_of_find?_eq_some q,eq_of_beq this,rfl⟩
noncomputable def Am(K:W.Frag)(names:List Str):Bool:=W.noTabs K && ndB ((i5 K).map fun t=>t.2.2) && (i5 K).all fun t=>names.contains t.1
theorem Bj{K:W.Frag}{t:Str×Addr×Addr}(h:t∈i5 K):W.tabIn K t.1=some t.2:=by
 unfold i5 at h;split at h
 ·obtain⟨e,_,q⟩:=List.mem_filterMap.mp h
  split at q
  ·rename_i x tk hx
   cases z:W.tabIn K x with
   |none=>rw[z] at q;cases q
   |some r=>rw[z] at q;cases q;exact z
  ·cases q
 ·cases h
theorem xf{P:Program}{w:World}{K:W.Frag}{mg mb:Str->Option Value}{CX:CXT}{k:Nat}{fa a:Addr}{fd:FuncData}{x:Str}{sp:Sp}{s₁:Shared}{vs:List Value}{ns:List Int}(KX:K.In s₁.heap)(hns:s₁.heap.Ns mainGlobals mg)(hb:s₁.heap.Ns builtinsNs mb)(hbb:∀x:Str,x≠"__name__"->mb x=bootBuiltins x)(hlim:s₁.heap.NoLimit)(hg:s₁.gens=#[])(hbm:∃bm ob,mg "__builtins__"=some (.ref bm)/\bm≠builtinsNs/\s₁.heap.get? bm=some ob/\ob.cls=.type "module"/\ob.dict=some builtinsNs/\ob.data=.plain)(hT:∀t∈i5 K,W.CodeHd s₁.heap t.2.1 t.2.2/\s₁.heap.get? t.2.2=some (W.tabObj #[]))(nt:W.noTabs K=true)(nd:ndB ((i5 K).map fun t=>t.2.2)=true)(ha:s₁.heap.get? a=some { cls:=.type "list",data:=.seq vs.toArray })(hi:IntsAre vs ns)(hl:ns.length<=sizeLine)(hr:du k callerA)(F:∀base:Heap,aV P w K mg base CX k fa fd [x] sp)(hbind:∀(s:Shared)(u:Value),BindsTo s fd ⟨[u],[]⟩ [(x,u)])(hsp:∀H:Hp,SqL K H a (ns.map V.int)->sp [.ref a] H (fun v _=>v=.bl true) fun _ _ _=>False)(hCX:∀H e s',CX [] H s₁ (fun _ _ _=>False) e s'->False):
  codeAny (model P w) callerA (.call (.ref fa) ⟨[.ref a],[]⟩) (fun r s'=>r=.ok (.ret (.bool true))/\OldK s₁.heap s'.heap/\s'.os=s₁.os/\AllBare s'.gens) s₁:=by
 have rv:=oB hi;have lenV:=hi.length
 have tabNot:∀b o,K.lookup b=some o->mX K b=none:=fun b o e=>by
  cases q:mX K b with
  |none=>rfl
  |some u=>
   obtain⟨t,ht,rfl,_⟩:=mR q;have e1:=(hT t ht).2;rw[KX _ _ e] at e1;cases e1;have h2:=List.all_eq_true.mp nt _ (W.mem_of_lookupK e);exact absurd (show false=true from h2) Bool.false_ne_true
 have tabA:mX K a=none:=by
  cases q:mX K a with
  |none=>rfl
  |some u=>
   obtain⟨t,ht,e,_⟩:=mR q;have e1:=(hT t ht).2;rw[e,ha] at e1;cases e1
 have core:∀H:Hp,(∀b,b≠a->H b=mX K b)->(H a=none\/(K.lookup a=none/\H a=some (.frz { cls:=.type "list",data:=.seq vs.toArray } (.lst (ns.map V.int)))))->SqL K H a (ns.map V.int) ->
   codeAny (model P w) callerA (.call (.ref fa) ⟨[.ref a],[]⟩) (fun r s'=>r=.ok (.ret (.bool true))/\OldK s₁.heap s'.heap/\s'.os=s₁.os/\AllBare s'.gens) s₁:=by
  intro H hH hA hS
  have what:∀b u,H b=some u->(b=a/\K.lookup a=none/\u=.frz { cls:=.type "list",data:=.seq vs.toArray } (.lst (ns.map V.int)))\/∃t∈i5 K,t.2.2=b/\u=HO.tbl #[.str (t.1 ++ ".<locals>." ++ "<lambda>") 0]:=fun b u e=>by
   by_cases hb:b=a
   ·subst hb
    rcases hA with z|⟨z1,z2⟩
    ·rw[z] at e;cases e
    ·rw[z2] at e;cases e
     exact .inl ⟨rfl,z1,rfl⟩
   ·rw[hH b hb] at e
    exact .inr (mR e)
  have hok:HOk P w H s₁.heap:=fun b u e=>by
   rcases what b u e with⟨rfl,_,rfl⟩|⟨t,ht,rfl,rfl⟩
   ·exact⟨ha,by rw[List.length_map];exact hl,vs,_,rv,ha⟩
   ·exact⟨#[],(hT t ht).2,trivial,fun pos cv q=>by cases q⟩
  have tt:wU K H:=fun t ht=>by
   refine⟨#[.str (t.1 ++ ".<locals>." ++ "<lambda>") 0],?_,rfl⟩
   have ne:t.2.2≠a:=fun z=>by
    have e1:=(hT t ht).2;rw[z,ha] at e1;cases e1
   rw[hH _ ne];unfold mX;rw[vQ (fun t:Str×Addr×Addr=>t.2.2) nd ht];rfl
  have base_of:∀ {b:Addr} {o:Obj},s₁.heap.get? b=some o->H b=none->(pk s₁.heap H).get? b=some o:=fun e n=>xZ e n
  have freeB:∀ {b:Addr} {o:Obj},s₁.heap.get? b=some o->o.cls≠.none->o.cls≠.type "list"->H b=none:=fun {b o} e c1 c2=>by
   cases q:H b with
   |none=>rfl
   |some u=>
    rcases what b u q with⟨rfl,_,_⟩|⟨t,ht,rfl,_⟩
    ·rw[ha] at e;cases e;exact absurd rfl c2
    ·rw[(hT t ht).2] at e;cases e;exact absurd rfl c1
  have noD:∀ {b:Addr} {o:Obj} {es:Array DictEntry} {ep:Nat},s₁.heap.get? b=some o->o.data=.dict es ep->H b=none:=fun {b o es ep} e d=>by
   cases q:H b with
   |none=>rfl
   |some u=>
    rcases what b u q with⟨rfl,_,_⟩|⟨t,ht,rfl,_⟩
    ·rw[ha] at e;cases e;cases d
    ·rw[(hT t ht).2] at e;cases e;cases d
  have nsK:∀ {b:Addr} {m:Str->Option Value},s₁.heap.Ns b m->(pk s₁.heap H).Ns b m:=fun {b m} ⟨o,es,ep,e,d,r⟩=>⟨o,es,ep,base_of e (noD e d),d,r⟩
  have hKb : K.In (pk s₁.heap H):=fun b o e=>base_of (KX b o e) (by
   cases q:H b with
   |none=>rfl
   |some u=>
    by_cases hb:b=a
    ·subst hb
     rcases hA with z|⟨z1,_⟩
     ·rw[z] at q;cases q
     ·rw[e] at z1;cases z1
    ·rw[hH b hb,tabNot b o e] at q;cases q)
  have hM:Mod K mg (pk s₁.heap H):=⟨hKb,nsK hns,⟨mb,nsK hb,hbb⟩,let ⟨mc,h1,h2⟩:=hlim;⟨mc,nsK h1,h2⟩,
   let ⟨bm,ob,b1,b2,b3,b4,b5,b6⟩:=hbm;⟨bm,ob,b1,b2,base_of b3 (freeB b3 (by rw[b4];nofun) (by rw[b4];decide)),b4,b5,b6⟩⟩
  have e0:rP P w K mg (pk s₁.heap H) callerA [] s₁ H:=⟨rfl,hM,fun b o e=>Bd e,Nat.le_of_eq (wN _ _),trivial,fun b hb=>absurd (show b∈([]:List Addr) from hb) (by simp),tt,hok,.of_eq hg⟩
  refine codeAny_mono ((F _).run callerA [] s₁ H ⟨[.ref a],[]⟩ [.ref a] [.ref a] _ _ hr e0 (hbind s₁ (.ref a)) (.cons rfl .nil) (hsp H hS)) fun r s' h=>?_
  cases r with
  |error e=>exact(hCX H e s' h).elim
  |ok fl=>
   cases fl with
   |next=>exact False.elim h
   |brk=>exact False.elim h
   |cont=>exact False.elim h
   |ret u=>
    obtain⟨v,H',os,bare,un,hok',r',q⟩:=h;have q':v=.bl true:=q;subst q';obtain rfl:u=Value.bool true:=r';refine⟨rfl,⟨fun b o e=>?_,fun b o e=>un.there b o e (by simp)⟩,os,bare⟩
    cases q:H b with
    |none=>exact .inl (un.keep b o e q (by intro z;exact absurd (show b∈([]:List Addr) from z) (by simp)) (by simp))
    |some u=>
     rcases what b u q with⟨rfl,_,rfl⟩|⟨t,ht,rfl,rfl⟩
     ·have z2:=un.frzs _ _ _ q
      obtain⟨e1,_⟩:=hok _ _ q;obtain⟨e2,_⟩:=hok' _ _ z2;rw[e] at e1;cases e1;exact .inl e2
     ·obtain⟨more,z2⟩:=un.tbls _ _ q
      obtain⟨qs,e2,_⟩:=hok' _ _ z2;have e1:=(hT t ht).2;rw[e] at e1;obtain rfl:=Option.some.inj e1;exact .inr (.inl ⟨((hT t ht).1.tab (hT t ht).2).isCodeTable,rfl,#[],qs,rfl,by rw[Array.empty_append];exact e2⟩)
 cases hk:K.lookup a with
 |some o=>
  have e:=KX a o hk;rw[ha] at e;cases e;exact core (fun b=>mX K b) (fun _ _=>rfl) (.inl tabA) (.inr ⟨_,vs.toArray,_,hk,rfl,rfl,rfl,by rw[List.size_toArray,lenV];exact hl,by simpa using rv⟩)
 |none=>
  refine core (fun b=>if b=a then some (.frz { cls:=.type "list",data:=.seq vs.toArray } (.lst (ns.map V.int))) else mX K b) (fun b hb=>if_neg hb) (.inr ⟨hk,if_pos rfl⟩) (.inl (.inr ⟨_,if_pos rfl⟩))
theorem zI{l:W.OpenLaw}{n k:Nat}{q:Program}{loose:List Str}{XP:(Str->Option Value)->Heap->Prop}{YP:World->Heap->Prop}{d:DefRec}{K:Params->W.Frag}{CX:CXT}{sp:W.Frag->Sp}{x:Str}(hn:l.most=some n)(hn2:n<=sizeLine)(hdf:d.params.defaults=[])(hr:du k callerA)(hY:∀(w:World)(h:Heap),YP w h->(K w.params).In h)(tabs:∀w:World,Am (K w.params) ((recsOf q).map (·.name))=true)
  (F:∀(w:World)(mg:Str->Option Value)(fa:Addr)(h:Heap),(K w.params).In h->h.Ns mainGlobals mg->mg d.name=some (.ref fa) ->
   ∃fd:FuncData,(∀(s:Shared)(u:Value),BindsTo s fd ⟨[u],[]⟩ [(x,u)])/\∀base:Heap,aV l.prog w (K w.params) mg base CX k fa fd [x] (sp (K w.params)))
  (hsp:∀(K:W.Frag)(H:Hp)(a:Addr)(ns:List Int),ns.length<=n->Gi H->SqL K H a (ns.map V.int)->sp K [.ref a] H (fun v _=>v=.bl true) fun _ _ _=>False)
  (hCX:∀(H:Hp)(s:Shared)(e:Value)(s':Shared),CX [] H s (fun _ _ _=>False) e s'->False) :
  W.WalkO q loose XP YP l.row.toRowW d [] (fun f vs=>PySem.call f vs):=by
 refine Att.q9 hn hdf fun w s₀ s₁ mg mb fa o pm cd doc a vs ns G Y ho hd hcd hmg hobj hints hlen hg=>?_;have KX:=hY w _ Y;have tb:=tabs w;unfold Am at tb;rw[Bool.and_eq_true,Bool.and_eq_true] at tb;obtain⟨⟨t1,t2⟩,t3⟩:=tb;obtain⟨fd,hb,hF⟩:=F w mg fa _ KX G.T.g hmg;refine xf KX G.T.g G.T.b G.T.builtins G.T.nolimit hg G.T.bmain (fun t ht=>?_) t1 t2 hobj hints (Nat.le_trans hlen hn2) hr hF hb (fun H hS=>hsp _ H a ns hlen trivial hS) fun H e s'=>hCX H s₁ e s'
 have hc:=List.all_eq_true.mp t3 t ht;have hm:t.1∈(recsOf q).map (·.name):=by simpa using hc
 obtain⟨r,hr1,hr2⟩:=List.mem_map.mp hm
 cases z:(recsOf q).find? (fun e=>e.name == t.1) with
 |none=>
  have:=List.find?_eq_none.mp z r hr1;rw[hr2] at this;simp at this
 |some d'=>exact W.tab_of G.T KX z (Bj ht)
end L2
namespace L2
open PySem PySem.Spec PySem.Calls PyProof.Rows
open AutoSeq1 (wpAny_loadPart')
section
variable{prog:Program}{w:World}{A:Around}{E:Value->Shared->Prop}{S:Shared}
set_option maxHeartbeats 2000000 in
end
end L2
namespace L2
open PySem PySem.Spec PySem.Calls PyProof.Rows
structure Src(prog:Program)(w:World)(A:Around)(j q:Addr)(its:Array Value)(It1:Nat->Heap->Prop)(Sq1:Heap->Prop):Prop where
 item:∀(n:Nat)(v:Value)(S:Shared)(Q:Value->Shared->Prop)(E:Value->Shared->Prop),It1 n S.heap->Sq1 S.heap->its[n]?=some v->(∀h1,It1 (n+1) h1->Heap.SameBut j S.heap h1->Q v { S with heap:=h1 })->wpAny (model prog w) A (Builtin.SmallTypes.nextOf (.ref j)) Q E S
 stop:∀(n:Nat)(S:Shared)(Q:Value->Shared->Prop)(E:Value->Shared->Prop),It1 n S.heap->Sq1 S.heap->its[n]?=none->(∀h1 e,Heap.ExtBut j S.heap h1->(∃o,h1.get? e=some o/\o.cls=.type "StopIteration")->E (.ref e) { S with heap:=h1 })->wpAny (model prog w) A (Builtin.SmallTypes.nextOf (.ref j)) Q E S
 mv:∀(n:Nat)(h h1:Heap),It1 n h->(∀o,h.get? j=some o->h1.get? j=some o)->It1 n h1
 sv:∀(h h1:Heap),Sq1 h->(∀o,h.get? q=some o->h1.get? q=some o)->Sq1 h1
 live:∀(n:Nat)(h:Heap),It1 n h->∃o vs,h.get? j=some o/\o.data=.fields vs
structure Kd(cls:String)(Sa:W.Frag->Hp->Addr->List V->Prop)(Iti:Heap->Addr->Addr->Nat->Prop)(Is:Heap->Addr->Array Value->Prop):Prop where
 got:∀ {X:Cx} {pins:List (Addr×Obj)} {σ:St} {H:Hp} {s:Shared} {a:Addr} {xs:List V},Inv X pins σ H s->Sa X.K H a xs->∃its:List Value,aH xs its/\Is s.heap a its.toArray
 inj:∀ {X:Cx} {pins:List (Addr×Obj)} {σ:St} {H:Hp} {s:Shared} {a:Addr} {xs ys:List V},Inv X pins σ H s->Sa X.K H a xs->Sa X.K H a ys->xs=ys
 src:∀(prog:Program)(w:World)(A:Around)(j q:Addr)(its:Array Value),A.handled=none->Src prog w A j q its (fun n h=>Iti h j q n) (fun h=>Is h q its)
 seq:∀ {h:Heap} {a:Addr} {its:Array Value},Is h a its->∃o n,h.get? a=some o/\o.data=.seq its n
 ne:∀ {X:Cx} {pins:List (Addr×Obj)} {σ:St} {H:Hp} {s:Shared} {a b:Addr} {xs:List V},Inv X pins σ H s->Sa X.K H a xs->kg X pins H b->a≠b
 itr:∀ {prog:Program} {w:World} {A:Around} {E:Value->Shared->Prop} {S:Shared} {a:Addr} {its:Array Value} {Q:Value->Shared->Prop},Is S.heap a its->Q (.ref S.heap.objs.size) { S with heap:=S.heap.push { cls:=.type cls,data:=.fields #[.ref a,.int 0 0] } }->wpAny (model prog w) A (pyIter (.ref a)) Q E S
 sv:∀ {h h1:Heap} {a:Addr} {its:Array Value},Is h a its->(∀ob,h.get? a=some ob->h1.get? a=some ob)->Is h1 a its
 new:∀ {h:Heap} {j q:Addr},h.get? j=some { cls:=.type cls,data:=.fields #[.ref q,.int 0 0] }->Iti h j q 0
theorem wD{X:Cx}(K:W.Frag)(h:X.K=K){ts:List Expr}{k n:Nat}{pos:Pos}{t:TGs}(hc:X.calm=true)(hts:PGs X ts t)(hn:(assignEach ts X.env).length=n:=by rfl)(hst:(assignEach ts X.env).findIdx? (·.1)=none:=by rfl):PG X (.Tuple ts k pos) (Fe K n t):=h ▸ Eg hc hts hn hst
section
variable{n:Nat}(hn:0<n)
include hn
end
structure Gq(c:Nat->Nat->Bool):Prop where
 as:∀i j,c i j=true->c j i=false
 tr:∀i j k,c j i=false->c k j=false->c k i=false
section
variable{c:Nat->Nat->Bool}(L:Gq c)
noncomputable def Dn(c:Nat->Nat->Bool)(p:Array Nat)(k:Nat):Prop:=∀i j,i<=j->j<k->c (p.getD i 0) (p.getD j 0)=false
include L
end
section
variable{c:Nat->Nat->Bool}(L:Gq c)
include L
end
noncomputable def GK:List Int->List Int->Bool
 | [],[]=>false
 | [],_::_=>true
 |_::_,[]=>false
 |x::xs,y::ys=>if x=y then GK xs ys else decide (x<y)
end L2
namespace L2
open PySem PySem.Spec PyProof.Rows
inductive AV where
 |d (x:D)
 |r (v:V)
 |p (v:V) (P:Hp->Prop)
inductive OC where
 |own (xs:List AV)
 |frz (ds:List D)
 |dic (kvs:List (Str×AV))
noncomputable abbrev Om:=Addr->Option OC
noncomputable abbrev SA:=List (Option AV)
noncomputable abbrev Fs:=Addr->Bool
noncomputable def Om.put(Z:Om)(l:Addr)(c:OC):Om:=fun b=>if b=l then some c else Z b
theorem Om.IA{Z:Om}{l:Addr}{c:OC}:Z.put l c l=some c:=by unfold Om.put;rw[if_pos rfl]
theorem Om.ID{Z:Om}{l b:Addr}{c:OC}(h:b≠l):Z.put l c b=Z b:=by unfold Om.put;rw[if_neg h]
theorem Om.IC{Z:Om}{l:Addr}{c e:OC}:(Z.put l c).put l e=Z.put l e:=by funext b;unfold Om.put;split<;>rfl
theorem Om.IL{Z:Om}{l p:Addr}{c e:OC}(h:p≠l):(Z.put l c).put p e=(Z.put p e).put l c:=by
 funext b;unfold Om.put;split<;>split<;>simp_all
noncomputable def ow:Option OC->Bool
 |some (.own _)=>true
 |some (.dic _)=>true
 |_=>false
noncomputable def Fs.add(F:Fs)(l:Addr):Fs:=fun b=>decide (b=l) || F b
noncomputable def cut(F:Fs)(H:Hp)(Z:Om):Hp:=fun b=>if (ow (Z b) || F b)=true then none else H b
noncomputable def RV(G:Hp):AV->V->Prop
 |.d x,v=>Dat G x v
 |.r u,v=>v=u
 |.p u P,v=>v=u/\∀G',c8 G G'->P G'
noncomputable def RVs(G:Hp):List AV->List V->Prop
 | [],vs=>vs=[]
 |a::as,vs=>∃v r,vs=v::r/\RV G a v/\RVs G as r
noncomputable def RS(G:Hp)(ρ:SA)(σ:St):Prop:=ρ.length=σ.length/\∀(i:Nat)(a:AV),ρ[i]?=some (some a)->∃v,σ[i]?=some (some v)/\RV G a v
noncomputable def RKs(G:Hp):List (Str×AV)->List (Key×V)->Prop
 | [],ks=>ks=[]
 |p::r,ks=>∃v r',ks=((Sum.inr p.1:Key),v)::r'/\RV G p.2 v/\RKs G r r'
structure Rep(F:Fs)(H:Hp)(Z:Om):Prop where
 own:∀l xs,Z l=some (.own xs)->∃vs,H l=some (.lst vs)/\RVs (cut F H Z) xs vs
 frz:∀l ds,Z l=some (.frz ds)->Dat (cut F H Z) (.lst ds) (.ref l)
 hid:∀b,F b=true->Z b=none/\∃vs,H b=some (.lst vs)
 dic:∀l kvs,Z l=some (.dic kvs)->∃ks,H l=some (.dK ks)/\RKs (cut F H Z) kvs ks
structure Fr(F:Fs)(H:Hp)(Z:Om)(H':Hp)(Z':Om):Prop where
 st:∀b o,ow (Z b)=false->F b=false->H b=some o->H' b=some o/\ow (Z' b)=false
 hd:∀b,F b=true->H' b=H b
section
variable{F:Fs}{H H1 H2 H':Hp}{Z Z1 Z2 Z':Om}{G G':Hp}
theorem Fr.refl:Fr F H Z H Z:=⟨fun _ _ h _ e=>⟨e,h⟩,fun _ _=>rfl⟩
theorem Fr.trans(a:Fr F H Z H1 Z1)(b:Fr F H1 Z1 H2 Z2):Fr F H Z H2 Z2:=
 ⟨fun c o h f e=>let ⟨x,y⟩:=a.st c o h f e;b.st c o y f x,fun c h=>(b.hd c h).trans (a.hd c h)⟩
theorem bH{b:Addr}{o:HO}:cut F H Z b=some o↔ow (Z b)=false/\F b=false/\H b=some o:=by
 unfold cut;cases ow (Z b)<;>cases F b<;>simp
theorem Fr.same(a:Fr F H Z H' Z'):c8 (cut F H Z) (cut F H' Z'):=fun b o e=>by
 obtain⟨h,f,e⟩:=bH.mp e;obtain⟨x,y⟩:=a.st b o h f e;exact bH.mpr ⟨y,f,x⟩
theorem aS:c8 (cut F H Z) H:=fun b o e=>(bH.mp e).2.2
theorem RV.same(e:c8 G G'):∀ {a:AV} {v:V},RV G a v->RV G' a v
 |.d _,_,h=>Dat.same e h
 |.r _,_,h=>h
 |.p _ _,_,h=>⟨h.1,fun G2 s=>h.2 G2 (e.trans s)⟩
theorem RVs.same(e:c8 G G'):∀ {as:List AV} {vs:List V},RVs G as vs->RVs G' as vs
 | [],_,h=>h
 |_::_,_,⟨v,r,h1,h2,h3⟩=>⟨v,r,h1,h2.same e,h3.same e⟩
theorem RKs.same(e:c8 G G'):∀ {as:List (Str×AV)} {vs:List (Key×V)},RKs G as vs->RKs G' as vs
 | [],_,h=>h
 |_::_,_,⟨v,r,h1,h2,h3⟩=>⟨v,r,h1,h2.same e,h3.same e⟩
theorem RS.same(e:c8 G G'){ρ:SA}{σ:St}(h:RS G ρ σ):RS G' ρ σ:=⟨h.1,fun i a q=>let ⟨v,x,y⟩:=h.2 i a q;⟨v,x,y.same e⟩⟩
theorem RVs.length:∀ {as:List AV} {vs:List V},RVs G as vs->vs.length=as.length
 | [],_,h=>by cases h;rfl
 |_::_,_,⟨v,r,h1,_,h3⟩=>by subst h1;simp[h3.length]
theorem RVs.get:∀ {as:List AV} {vs:List V} {i:Nat} {a:AV},RVs G as vs->as[i]?=some a->∃v,vs[i]?=some v/\RV G a v
 | [],_,_,_,_,e=>by simp at e
 |_::_,_,0,_,⟨v,r,h1,h2,_⟩,e=>by subst h1;simp at e;subst e;exact⟨v,rfl,h2⟩
 |_::_,_,i+1,_,⟨v,r,h1,_,h3⟩,e=>by subst h1;simp at e;obtain⟨v',e1,e2⟩:=h3.get e;exact⟨v',by simpa using e1,e2⟩
theorem RVs.append:∀ {as bs:List AV} {vs us:List V},RVs G as vs->RVs G bs us->RVs G (as++bs) (vs++us)
 | [],_,_,_,h,k=>by cases h;exact k
 |_::_,_,_,_,⟨v,r,h1,h2,h3⟩,k=>by subst h1;exact⟨v,_,rfl,h2,h3.append k⟩
theorem RVs.one{a:AV}{v:V}(h:RV G a v):RVs G [a] [v]:=⟨v,[],rfl,h,rfl⟩
theorem RVs.dats:∀ {ds:List D} {vs:List V},RVs G (ds.map AV.d) vs↔aE G ds vs
 | [],_=>by simp[RVs,aE]
 |d::ds,vs=>by
  simp only[List.map_cons,RVs,aE,RV];constructor
  ·rintro⟨v,r,h1,h2,h3⟩;exact⟨v,r,h1,h2,RVs.dats.mp h3⟩
  ·rintro⟨v,r,h1,h2,h3⟩;exact⟨v,r,h1,h2,RVs.dats.mpr h3⟩
theorem RVs.set{as:List AV}{vs:List V}(i:Nat){a:AV}{v:V}(h:RVs G as vs)(k:RV G a v):RVs G (as.set i a) (vs.set i v):=by
 induction as generalizing vs i with
 |nil=>cases h;exact rfl
 |cons b as ih=>
  obtain⟨u,r,rfl,h2,h3⟩:=h
  cases i with
  |zero=>exact⟨v,r,rfl,k,h3⟩
  |succ i=>exact⟨u,_,rfl,h2,ih i h3⟩
theorem RVs.dropLast:∀ {as:List AV} {vs:List V},RVs G as vs->RVs G as.dropLast vs.dropLast
 | [],_,h=>by cases h;exact rfl
 | [a],_,⟨v,r,h1,h2,h3⟩=>by cases h3;subst h1;exact rfl
 |a::b::as,_,⟨v,r,h1,h2,h3⟩=>by
  obtain⟨u,r',rfl,k2,k3⟩:=id h3;subst h1;exact⟨v,_,rfl,h2,h3.dropLast⟩
theorem Rep.free(R:Rep F H Z){p:Addr}(h:H p=none):Z p=none/\F p=false:=by
 constructor
 ·cases e:Z p with
  |none=>rfl
  |some c=>cases c with
   |own xs=>obtain⟨vs,q,_⟩:=R.own p xs e;rw[h] at q;cases q
   |frz ds=>
    have q:=R.frz p ds e;simp only[Dat] at q;obtain⟨a,xs,e1,e2,_⟩:=q;cases e1;rw[aS _ _ e2] at h;cases h
   |dic kvs=>obtain⟨vs,q,_⟩:=R.dic p kvs e;rw[h] at q;cases q
 ·cases e:F p with
  |false=>rfl
  |true=>obtain⟨_,o,q⟩:=R.hid p e;rw[h] at q;cases q
theorem Rep.lay(R:Rep F H Z){p:Addr}{o:HO}(h:H p=none):Rep F (upd H p o) Z/\Fr F H Z (upd H p o) Z/\cut F (upd H p o) Z p=some o:=by
 have hs:=zV (o:=o) h
 have fr:Fr F H Z (upd H p o) Z:=⟨fun b u x f e=>⟨hs _ _ e,x⟩,fun b f=>by
  obtain⟨_,u,q⟩:=R.hid b f
  rw[aw (bp q h)]⟩
 obtain⟨f1,f2⟩:=R.free h;refine⟨⟨fun l xs e=>?_,fun l ds e=>(R.frz l ds e).same fr.same,fun b f=>?_,fun l ks e=>(by obtain⟨vs,e1,e2⟩:=R.dic l ks e;exact⟨vs,hs _ _ e1,e2.same fr.same⟩)⟩,fr,bH.mpr ⟨by rw[f1];rfl,f2,bR⟩⟩
 ·obtain⟨vs,e1,e2⟩:=R.own l xs e
  exact⟨vs,hs _ _ e1,e2.same fr.same⟩
 ·obtain⟨x,u,q⟩:=R.hid b f
  exact⟨x,u,hs _ _ q⟩
theorem wT{l:Addr}{xs ys:List AV}{o:HO}(h:Z l=some (.own xs)):cut F (upd H l o) (Z.put l (.own ys))=cut F H Z:=by
 funext b
 unfold cut Om.put;by_cases hb:b=l
 ·subst hb;rw[if_pos rfl,h];simp[ow]
 ·rw[if_neg hb,aw hb]
theorem Rep.write(R:Rep F H Z){l:Addr}{xs ys:List AV}{vs:List V}(h:Z l=some (.own xs))(hv:RVs (cut F H Z) ys vs):
  Rep F (upd H l (.lst vs)) (Z.put l (.own ys))/\Fr F H Z (upd H l (.lst vs)) (Z.put l (.own ys)):=by
 have c:=wT (F:=F) (H:=H) (ys:=ys) (o:=.lst vs) h
 refine ⟨⟨fun k zs e=>?_,fun k ds e=>?_,fun b f=>?_,fun k ks e=>(by
  have hk:k≠l:=fun z=>(by subst z;rw[Om.IA] at e;cases e)
  rw[Om.ID hk] at e;rw[c,aw hk];exact R.dic k ks e)⟩,fun b o x f e=>?_,fun b f=>?_⟩
 ·rw[c]
  by_cases hk:k=l
  ·subst hk;rw[Om.IA] at e;cases e;exact⟨vs,bR,hv⟩
  ·rw[Om.ID hk] at e;rw[aw hk];exact R.own k zs e
 ·rw[c]
  by_cases hk:k=l
  ·subst hk;rw[Om.IA] at e;cases e
  ·rw[Om.ID hk] at e;exact R.frz k ds e
 ·obtain⟨x,o,q⟩:=R.hid b f
  have hb:b≠l:=fun z=>by subst z;rw[h] at x;cases x
  exact⟨by rw[Om.ID hb];exact x,o,by rw[aw hb];exact q⟩
 ·have hb:b≠l:=fun z=>by subst z;rw[h] at x;cases x
  rw[Om.ID hb,aw hb];exact⟨e,x⟩
 ·obtain⟨x,o,q⟩:=R.hid b f
  have hb:b≠l:=fun z=>by subst z;rw[h] at x;cases x
  exact aw hb
theorem Rep.mk'(R:Rep F H Z){l:Addr}{xs:List AV}{vs:List V}(h:H l=none)(hv:RVs (cut F H Z) xs vs):
  Rep F (upd H l (.lst vs)) (Z.put l (.own xs))/\Fr F H Z (upd H l (.lst vs)) (Z.put l (.own xs)):=by
 obtain⟨f1,f2⟩:=R.free h
 have c:cut F (upd H l (.lst vs)) (Z.put l (.own xs))=cut F H Z:=by
  funext b
  unfold cut Om.put;by_cases hb:b=l
  ·subst hb;rw[if_pos rfl,f1,f2,h];simp[ow]
  ·rw[if_neg hb,aw hb]
 refine ⟨⟨fun k zs e=>?_,fun k ds e=>?_,fun b f=>?_,fun k ks e=>(by
  have hk:k≠l:=fun z=>(by subst z;rw[Om.IA] at e;cases e)
  rw[Om.ID hk] at e;rw[c,aw hk];exact R.dic k ks e)⟩,fun b o x f e=>?_,fun b f=>?_⟩
 ·rw[c]
  by_cases hk:k=l
  ·subst hk;rw[Om.IA] at e;cases e;exact⟨vs,bR,hv⟩
  ·rw[Om.ID hk] at e;rw[aw hk];exact R.own k zs e
 ·rw[c]
  by_cases hk:k=l
  ·subst hk;rw[Om.IA] at e;cases e
  ·rw[Om.ID hk] at e;exact R.frz k ds e
 ·obtain⟨x,o,q⟩:=R.hid b f
  have hb:b≠l:=bp q h;exact⟨by rw[Om.ID hb];exact x,o,by rw[aw hb];exact q⟩
 ·have hb:b≠l:=bp e h
  rw[Om.ID hb,aw hb];exact⟨e,x⟩
 ·obtain⟨x,o,q⟩:=R.hid b f
  exact aw (bp q h)
theorem Rep.freeze(R:Rep F H Z){l:Addr}{ds:List D}(h:Z l=some (.own (ds.map AV.d))):
  Rep F H (Z.put l (.frz ds))/\Fr F H Z H (Z.put l (.frz ds))/\Dat (cut F H (Z.put l (.frz ds))) (.lst ds) (.ref l):=by
 have fr:Fr F H Z H (Z.put l (.frz ds)):=⟨fun b o x f e=>⟨e,by
  by_cases hb:b=l
  ·subst hb;rw[h] at x;cases x
  ·rw[Om.ID hb];exact x⟩,fun _ _=>rfl⟩
 obtain⟨vs,e1,e2⟩:=R.own l _ h
 have hF:F l=false:=by
  cases e:F l with
  |false=>rfl
  |true=>have:=(R.hid l e).1;rw[h] at this;cases this
 have dl:Dat (cut F H (Z.put l (.frz ds))) (.lst ds) (.ref l):=by
  simp only[Dat];exact⟨l,vs,rfl,bH.mpr ⟨by rw[Om.IA];rfl,hF,e1⟩,(RVs.dats.mp e2).same fr.same⟩
 refine ⟨⟨fun k zs e=>?_,fun k es e=>?_,fun b f=>?_,fun k ks e=>(by
  have hk:k≠l:=fun z=>(by subst z;rw[Om.IA] at e;cases e)
  rw[Om.ID hk] at e;obtain⟨us,q1,q2⟩:=R.dic k ks e;exact⟨us,q1,q2.same fr.same⟩)⟩,fr,dl⟩
 ·by_cases hk:k=l
  ·subst hk;rw[Om.IA] at e;cases e
  ·rw[Om.ID hk] at e
   obtain⟨us,q1,q2⟩:=R.own k zs e;exact⟨us,q1,q2.same fr.same⟩
 ·by_cases hk:k=l
  ·subst hk;rw[Om.IA] at e;cases e;exact dl
  ·rw[Om.ID hk] at e;exact(R.frz k es e).same fr.same
 ·obtain⟨x,o,q⟩:=R.hid b f
  have hb:b≠l:=fun z=>by subst z;rw[h] at x;cases x
  exact⟨by rw[Om.ID hb];exact x,o,q⟩
theorem Rep.hide(R:Rep F H Z){l:Addr}{vs:List V}(h:H l=none):Rep (F.add l) (upd H l (.lst vs)) Z/\cut (F.add l) (upd H l (.lst vs)) Z=cut F H Z:=by
 obtain⟨f1,f2⟩:=R.free h
 have c:cut (F.add l) (upd H l (.lst vs)) Z=cut F H Z:=by
  funext b
  unfold cut Fs.add;by_cases hb:b=l
  ·subst hb;simp[h]
  ·rw[aw hb];simp[hb]
 refine⟨⟨fun k zs e=>?_,fun k ds e=>?_,fun b f=>?_,fun k ks e=>(by rw[c];obtain⟨us,q1,q2⟩:=R.dic k ks e;exact⟨us,by rw[aw (bp q1 h)];exact q1,q2⟩)⟩,c⟩
 ·rw[c]
  obtain⟨us,q1,q2⟩:=R.own k zs e;exact⟨us,by rw[aw (bp q1 h)];exact q1,q2⟩
 ·rw[c];exact R.frz k ds e
 ·by_cases hb:b=l
  ·subst hb;exact⟨f1,_,bR⟩
  ·have f':F b=true:=by simpa[Fs.add,hb] using f
   obtain⟨x,o,q⟩:=R.hid b f';exact⟨x,o,by rw[aw hb];exact q⟩
theorem Rep.hwrite(R:Rep F H Z){l:Addr}{vs:List V}(h:F l=true):Rep F (upd H l (.lst vs)) Z/\cut F (upd H l (.lst vs)) Z=cut F H Z:=by
 have c:cut F (upd H l (.lst vs)) Z=cut F H Z:=by
  funext b
  unfold cut;by_cases hb:b=l
  ·subst hb;simp[h]
  ·rw[aw hb]
 refine ⟨⟨fun k zs e=>?_,fun k ds e=>?_,fun b f=>?_,fun k ks e=>(by
  have hk:k≠l:=fun z=>(by subst z;rw[(R.hid _ h).1] at e;cases e)
  rw[c,aw hk];exact R.dic k ks e)⟩,c⟩
 ·rw[c]
  obtain⟨us,q1,q2⟩:=R.own k zs e;have hk:k≠l:=fun z=>by subst z;rw[(R.hid _ h).1] at e;cases e
  exact⟨us,by rw[aw hk];exact q1,q2⟩
 ·rw[c];exact R.frz k ds e
 ·by_cases hb:b=l
  ·subst hb;exact⟨(R.hid _ h).1,_,bR⟩
  ·obtain⟨x,o,q⟩:=R.hid b f
   exact⟨x,o,by rw[aw hb];exact q⟩
theorem Rep.unhide{l:Addr}{vs:List V}(R:Rep (F.add l) H Z)(hF:F l=false)(h:H l=some (.lst vs)):
  Rep F H Z/\c8 (cut (F.add l) H Z) (cut F H Z)/\cut F H Z l=some (.lst vs):=by
 have hl:Z l=none:=(R.hid l (by simp[Fs.add])).1
 have sm:c8 (cut (F.add l) H Z) (cut F H Z):=fun b o e=>by
  obtain⟨x,f,e⟩:=bH.mp e;refine bH.mpr ⟨x,?_,e⟩;unfold Fs.add at f
  cases q:F b with
  |false=>rfl
  |true=>rw[q] at f;simp at f
 refine⟨⟨fun k zs e=>?_,fun k ds e=>(R.frz k ds e).same sm,fun b f=>R.hid b (by simp[Fs.add,f]),fun k ks e=>(by obtain⟨us,q1,q2⟩:=R.dic k ks e;exact⟨us,q1,q2.same sm⟩)⟩,sm,bH.mpr ⟨by rw[hl];rfl,hF,h⟩⟩
 obtain⟨us,q1,q2⟩:=R.own k zs e;exact⟨us,q1,q2.same sm⟩
end
noncomputable def LP{α β:Type}(R:Hp->α->β->Prop)(F:Fs)(H:Hp)(Z:Om)(Q':α->Om->Prop)(Q:β->Hp->Prop):Prop:=
 ∀a Z' v H',Rep F H' Z'->Fr F H Z H' Z'->R (cut F H' Z') a v->Q' a Z'->Q v H'
theorem LP.fr{α β:Type}{R:Hp->α->β->Prop}{F:Fs}{H H1:Hp}{Z Z1:Om}{Q':α->Om->Prop}{Q:β->Hp->Prop}(k:LP R F H Z Q' Q)(f:Fr F H Z H1 Z1):LP R F H1 Z1 Q' Q:=
 fun a Z' v H' rp fr rv q=>k a Z' v H' rp (f.trans fr) rv q
structure Ref{α β:Type}(R:Hp->α->β->Prop)(t:St->Hp->(β->Hp->Prop)->Prop)(t':SA->Om->(α->Om->Prop)->Prop):Prop where
 run:∀(F:Fs)(H:Hp)(Z:Om)(σ:St)(ρ:SA)(Q:β->Hp->Prop)(Q':α->Om->Prop),Rep F H Z->RS (cut F H Z) ρ σ->t' ρ Z Q'->LP R F H Z Q' Q->t σ H Q
theorem Ref.go{α β:Type}{R:Hp->α->β->Prop}{t:St->Hp->(β->Hp->Prop)->Prop}{t':SA->Om->(α->Om->Prop)->Prop}(h:Ref R t t'){F:Fs}{H:Hp}{Z:Om}{σ:St}{ρ:SA}{Q:β->Hp->Prop}{Q':α->Om->Prop}(rp:Rep F H Z)(rs:RS (cut F H Z) ρ σ)(w:t' ρ Z Q')(k:∀a Z1 v H1,Rep F H1 Z1->Fr F H Z H1 Z1->RS (cut F H1 Z1) ρ σ->R (cut F H1 Z1) a v->Q' a Z1->Q v H1):t σ H Q:=
 h.run F H Z σ ρ Q Q' rp rs w fun a Z1 v H1 rp1 fr1 rv q=>k a Z1 v H1 rp1 fr1 (rs.same fr1.same) rv q
noncomputable abbrev AE:=SA->Om->(AV->Om->Prop)->Prop
noncomputable abbrev AT:=SA->Om->(Bool->Om->Prop)->Prop
noncomputable abbrev AA:=SA->Om->(List AV->Om->Prop)->Prop
noncomputable def REq{α:Type}(_:Hp)(a b:α):Prop:=a=b
noncomputable abbrev a9(t:TE)(t':AE):Prop:=Ref RV t t'
noncomputable abbrev gE(t:TT)(t':AT):Prop:=Ref REq t t'
noncomputable abbrev gM(t:TA)(t':AA):Prop:=Ref RVs t t'
structure ce where
 nx:SA->Om->Prop
 rt:AV->Om->Prop
 bk:SA->Om->Prop:=fun _ _=>False
 ct:SA->Om->Prop:=fun _ _=>False
noncomputable abbrev AS:=ce->SA->Om->Prop
structure LE(F:Fs)(H:Hp)(Z:Om)(D':ce)(D:g9):Prop where
 nx:LP RS F H Z D'.nx D.nx
 rt:LP RV F H Z D'.rt D.rt
 bk:LP RS F H Z D'.bk D.bk
 ct:LP RS F H Z D'.ct D.ct
theorem LE.fr{F:Fs}{H H1:Hp}{Z Z1:Om}{D':ce}{D:g9}(k:LE F H Z D' D)(f:Fr F H Z H1 Z1):LE F H1 Z1 D' D:=⟨k.nx.fr f,k.rt.fr f,k.bk.fr f,k.ct.fr f⟩
structure fD(t:TS)(t':AS):Prop where
 run:∀(F:Fs)(H:Hp)(Z:Om)(σ:St)(ρ:SA)(D:g9)(D':ce),Rep F H Z->RS (cut F H Z) ρ σ->t' D' ρ Z->LE F H Z D' D->t D σ H
noncomputable abbrev AG:=AV->SA->Om->(SA->Om->Prop)->Prop
noncomputable abbrev AGs:=List AV->SA->Om->(SA->Om->Prop)->Prop
structure kU(g:TG)(g':AG):Prop where
 run:∀(F:Fs)(H:Hp)(Z:Om)(σ:St)(ρ:SA)(v:V)(a:AV)(Q:St->Hp->Prop)(Q':SA->Om->Prop),Rep F H Z->RS (cut F H Z) ρ σ->RV (cut F H Z) a v->g' a ρ Z Q'->LP RS F H Z Q' Q->g v σ H Q
structure re(g:TGs)(g':AGs):Prop where
 run:∀(F:Fs)(H:Hp)(Z:Om)(σ:St)(ρ:SA)(v:List V)(a:List AV)(Q:St->Hp->Prop)(Q':SA->Om->Prop),Rep F H Z->RS (cut F H Z) ρ σ->RVs (cut F H Z) a v->g' a ρ Z Q'->LP RS F H Z Q' Q->g v σ H Q
noncomputable abbrev ASp:=List AV->Om->(AV->Om->Prop)->Prop
noncomputable def e9(sp:ASp):Sp:=fun vs H Q _=>∃(F:Fs)(xs:List AV)(Z:Om)(Q':AV->Om->Prop),Rep F H Z/\RVs (cut F H Z) xs vs/\sp xs Z Q'/\LP RV F H Z Q' Q
noncomputable def DC:AS:=fun D ρ Z=>D.nx ρ Z
noncomputable def Ci(t u:AS):AS:=fun D ρ Z=>t { D with nx:=u D } ρ Z
noncomputable def C4(te:AE):AS:=fun D ρ Z=>te ρ Z fun _ Z1=>D.nx ρ Z1
noncomputable def GR(te:AE):AS:=fun D ρ Z=>te ρ Z D.rt
noncomputable def Hl(c:AT)(t u:AS):AS:=fun D ρ Z=>c ρ Z fun b Z1=>if b=true then t D ρ Z1 else u D ρ Z1
noncomputable def Ck(te:AE)(g:AG):AS:=fun D ρ Z=>te ρ Z fun x Z1=>g x ρ Z1 D.nx
noncomputable def EN(c:AT)(tb:AS):AS:=fun D ρ Z=>∃W:Nat->SA->Om->Prop,(∃m,W m ρ Z)/\∀m ρ Z,W m ρ Z ->
 c ρ Z fun b Z1=>if b=true then ∃N:SA->Om->Prop,(∀ρ' Z',N ρ' Z'->∃m',m'<m/\W m' ρ' Z')/\tb { D with nx:=N,ct:=N,bk:=D.nx } ρ Z1 else D.nx ρ Z1
noncomputable def jZ(i:Nat):AG:=fun v ρ Z Q=>Q (ρ.set i (some v)) Z
noncomputable def DZ:AGs:=fun vs ρ Z Q=>vs=[]/\Q ρ Z
noncomputable def yu(t:AG)(u:AGs):AGs:=fun vs ρ Z Q=>∃v r,vs=v::r/\t v ρ Z fun ρ' Z'=>u r ρ' Z' Q
section
variable{t u:TS}{t' u':AS}{te:TE}{te':AE}{tc:TT}{tc':AT}{g:TG}{g':AG}{gs:TGs}{gs':AGs}
theorem RS.set{G:Hp}{ρ:SA}{σ:St}{i:Nat}{a:AV}{v:V}(h:RS G ρ σ)(r:RV G a v):RS G (ρ.set i (some a)) (σ.set i (some v)):=by
 refine⟨by simp[h.1],fun j b e=>?_⟩
 by_cases hj:j=i
 ·subst hj
  rw[List.getElem?_set] at e;rw[List.getElem?_set];simp only[if_true] at e ⊢;split at e
  ·rename_i hl
   cases e;rw[if_pos (h.1 ▸ hl)];exact⟨v,rfl,r⟩
  ·cases e
 ·rw[List.getElem?_set_ne (Ne.symm hj)] at e
  rw[List.getElem?_set_ne (Ne.symm hj)];exact h.2 j b e
theorem a7:fD DU DC:=⟨fun F H Z σ ρ D D' rp rs h k=>k.nx ρ Z σ H rp .refl rs h⟩
theorem aD(h1:fD t t')(h2:fD u u'):fD (Ej t u) (Ci t' u'):=⟨fun F H Z σ ρ D D' rp rs h k=>
 h1.run F H Z σ ρ _ _ rp rs h ⟨fun ρ1 Z1 σ1 H1 rp1 fr1 rs1 q=>h2.run F H1 Z1 σ1 ρ1 D D' rp1 rs1 q (k.fr fr1),k.rt,k.bk,k.ct⟩⟩
theorem sP(h:a9 te te'):fD (yc te) (C4 te'):=⟨fun F H Z σ ρ D D' rp rs w k=>h.go rp rs w fun a Z1 v H1 rp1 fr1 rs1 rv q=>k.nx ρ Z1 σ H1 rp1 fr1 rs1 q⟩
theorem bh(h:a9 te te'):fD (ER te) (GR te'):=⟨fun F H Z σ ρ D D' rp rs w k=>h.run F H Z σ ρ _ _ rp rs w k.rt⟩
theorem dS(hc:gE tc tc')(h1:fD t t')(h2:fD u u'):fD (Ei tc t u) (Hl tc' t' u'):=⟨fun F H Z σ ρ D D' rp rs w k=>
 hc.go rp rs w fun a Z1 v H1 rp1 fr1 rs1 rv q=>by
  cases (show a=v from rv)
  cases a with
  |true=>rw[if_pos rfl] at q ⊢;exact h1.run F H1 Z1 σ ρ D D' rp1 rs1 q (k.fr fr1)
  |false=>rw[if_neg Bool.false_ne_true] at q ⊢;exact h2.run F H1 Z1 σ ρ D D' rp1 rs1 q (k.fr fr1)⟩
theorem aM(h:a9 te te')(hg:kU g g'):fD (sQ te g) (Ck te' g'):=⟨fun F H Z σ ρ D D' rp rs w k=>h.go rp rs w fun a Z1 v H1 rp1 fr1 rs1 rv q=>
 hg.run F H1 Z1 σ ρ v a _ _ rp1 rs1 rv q (k.nx.fr fr1)⟩
theorem aq{i:Nat}:kU (nN i) (jZ i):=⟨fun F H Z σ ρ v a Q Q' rp rs rv w k=>k _ Z _ H rp .refl (rs.set rv) w⟩
theorem za:re G9 DZ:=⟨fun F H Z σ ρ vs as Q Q' rp rs rv w k=>by
 obtain⟨rfl,w⟩:=w
 exact⟨rv,k ρ Z σ H rp .refl rs w⟩⟩
theorem jj(h1:kU g g')(h2:re gs gs'):re (CH g gs) (yu g' gs'):=⟨fun F H Z σ ρ vs as Q Q' rp rs rv w k=>by
 obtain⟨a,r,rfl,w⟩:=w;obtain⟨v,us,rfl,rv1,rv2⟩:=rv
 exact⟨v,us,rfl,h1.run F H Z σ ρ v a _ _ rp rs rv1 w fun ρ1 Z1 σ1 H1 rp1 fr1 rs1 q=>h2.run F H1 Z1 σ1 ρ1 us r Q Q' rp1 rs1 (rv2.same fr1.same) q (k.fr fr1)⟩⟩
theorem BG(hc:gE tc tc')(hb:fD t t'):fD (tZ tc t) (EN tc' t'):=⟨fun F H Z σ ρ D D' rp rs w k=>by
 obtain⟨W,⟨m0,w0⟩,turn⟩:=w;refine⟨fun m σ1 H1=>∃ρ1 Z1,Rep F H1 Z1/\RS (cut F H1 Z1) ρ1 σ1/\Fr F H Z H1 Z1/\W m ρ1 Z1,⟨m0,ρ,Z,rp,rs,.refl,w0⟩,?_⟩;rintro m σ1 H1 ⟨ρ1,Z1,rp1,rs1,fr1,w1⟩;refine hc.go rp1 rs1 (turn m ρ1 Z1 w1) fun a Z2 v H2 rp2 fr2 rs2 rv q=>?_;cases (show a=v from rv)
 have k2:=k.fr (fr1.trans fr2)
 cases a with
 |true=>
  rw[if_pos rfl] at q ⊢;obtain⟨N,hN,q⟩:=q;refine⟨fun σ' H'=>∃ρ' Z',Rep F H' Z'/\RS (cut F H' Z') ρ' σ'/\Fr F H Z H' Z'/\N ρ' Z',?_,hb.run F H2 Z2 σ1 ρ1 _ _ rp2 rs2 q ⟨?_,k2.rt,k2.nx,?_⟩⟩
  ·rintro σ' H' ⟨ρ',Z',e1,e2,e3,e4⟩
   obtain⟨m',hm,z⟩:=hN _ _ e4;exact⟨m',hm,ρ',Z',e1,e2,e3,z⟩
  ·exact fun ρ' Z' σ' H' e1 e2 e3 e4=>⟨ρ',Z',e1,e3,(fr1.trans fr2).trans e2,e4⟩
  ·exact fun ρ' Z' σ' H' e1 e2 e3 e4=>⟨ρ',Z',e1,e3,(fr1.trans fr2).trans e2,e4⟩
 |false=>
  rw[if_neg Bool.false_ne_true] at q ⊢
  exact k2.nx ρ1 Z2 σ1 H2 rp2 .refl rs2 q⟩
end
noncomputable def xL(G:Hp)(as:List AV)(J:It):Prop:=∀(F:Fs)(H:Hp)(Z:Om),Rep F H Z->c8 G (cut F H Z)->J.stop as.length H /\
 ∀(i:Nat)(a:AV),as[i]?=some a->J.go i H/\∀x H',J.yld i H x H'->Rep F H' Z/\Fr F H Z H' Z/\RV (cut F H' Z) a x
noncomputable abbrev AI:=SA->Om->(List AV->Om->Prop)->Prop
noncomputable abbrev uf(t:TI)(t':AI):Prop:=Ref xL t t'
noncomputable def iO(g:AG)(tb:AS)(D:ce):List AV->SA->Om->Prop
 | [],ρ,Z=>D.nx ρ Z
 |a::as,ρ,Z=>g a ρ Z fun ρ1 Z1=>tb { nx:=iO g tb D as,ct:=iO g tb D as,bk:=D.nx,rt:=D.rt } ρ1 Z1
noncomputable def G3(wi:AI)(g:AG)(tb:AS):AS:=fun D ρ Z=>wi ρ Z fun as Z1=>iO g tb D as ρ Z1
theorem eF{α:Type}{as:List α}{i:Nat}(h:i<as.length):∃a,as[i]?=some a/\as.drop i=a::as.drop (i+1):=
 ⟨as[i],List.getElem?_eq_getElem h,List.drop_eq_getElem_cons h⟩
theorem oK{wi:TI}{wi':AI}{g:TG}{g':AG}{t:TS}{t':AS}(hi:uf wi wi')(hg:kU g g')(hb:fD t t'):fD (BV wi g t) (G3 wi' g' t'):=⟨fun F H Z σ ρ D D' rp rs w k=>by
 rw[vg];refine hi.go rp rs w fun as Z1 J H1 rp1 fr1 rs1 it q=>?_;refine⟨fun i m σ2 H2=>m+i=as.length/\∃ρ2 Z2,Rep F H2 Z2/\RS (cut F H2 Z2) ρ2 σ2/\Fr F H1 Z1 H2 Z2/\iO g' t' D' (as.drop i) ρ2 Z2,⟨as.length,rfl,ρ,Z1,rp1,rs1,.refl,q⟩,?_⟩;rintro i m σ2 H2 ⟨hm,ρ2,Z2,rp2,rs2,fr2,q2⟩;obtain⟨stop,go⟩:=it F H2 Z2 rp2 fr2.same;by_cases hl:i<as.length
 ·obtain⟨a,ha,hd⟩:=eF hl
  rw[hd] at q2;obtain⟨g1,y1⟩:=go i a ha;refine .inr ⟨g1,fun σ' H'=>m-1+(i+1)=as.length/\∃ρ' Z',Rep F H' Z'/\RS (cut F H' Z') ρ' σ'/\Fr F H1 Z1 H' Z'/\iO g' t' D' (as.drop (i+1)) ρ' Z',fun σ' H' z=>⟨m-1,by omega,z⟩,fun x H' hy=>?_⟩
  obtain⟨rp3,fr3,rv3⟩:=y1 x H' hy;have fr13:=(fr2.trans fr3);refine hg.run F H' Z2 σ2 ρ2 x a _ _ rp3 (rs2.same fr3.same) rv3 q2 fun ρ4 Z4 σ4 H4 rp4 fr4 rs4 q4=>?_;have k4:=k.fr ((fr1.trans fr13).trans fr4);refine hb.run F H4 Z4 σ4 ρ4 _ _ rp4 rs4 q4 ⟨?_,k4.rt,k4.nx,?_⟩
  ·exact fun ρ' Z' σ' H'' e1 e2 e3 e4=>⟨by omega,ρ',Z',e1,e3,(fr13.trans fr4).trans e2,e4⟩
  ·exact fun ρ' Z' σ' H'' e1 e2 e3 e4=>⟨by omega,ρ',Z',e1,e3,(fr13.trans fr4).trans e2,e4⟩
 ·have hi:i=as.length:=by omega
  subst hi;rw[List.drop_length] at q2
  exact .inl ⟨stop,k.nx ρ2 Z2 σ2 H2 rp2 (fr1.trans fr2) rs2 q2⟩⟩
noncomputable abbrev AL:=List AV->SA->Om->(List AV->SA->Om->Prop)->Prop
structure Fa(l:Addr)(F:Fs)(H:Hp)(Z:Om)(H':Hp)(Z':Om):Prop where
 st:∀b o,ow (Z b)=false->F b=false->H b=some o->H' b=some o/\ow (Z' b)=false
 hd:∀b,F b=true->b≠l->H' b=H b
theorem Fr.fa{l:Addr}{F:Fs}{H H':Hp}{Z Z':Om}(h:Fr F H Z H' Z'):Fa l F H Z H' Z':=⟨h.st,fun b f _=>h.hd b f⟩
theorem Fa.trans{l:Addr}{F:Fs}{H H1 H2:Hp}{Z Z1 Z2:Om}(a:Fa l F H Z H1 Z1)(b:Fa l F H1 Z1 H2 Z2):Fa l F H Z H2 Z2:=
 ⟨fun c o h f e=>let ⟨x,y⟩:=a.st c o h f e;b.st c o y f x,fun c h n=>(b.hd c h n).trans (a.hd c h n)⟩
theorem Fa.same{l:Addr}{F:Fs}{H H':Hp}{Z Z':Om}(a:Fa l F H Z H' Z'):c8 (cut F H Z) (cut F H' Z'):=fun b o e=>by
 obtain⟨h,f,e⟩:=bH.mp e;obtain⟨x,y⟩:=a.st b o h f e;exact bH.mpr ⟨y,f,x⟩
noncomputable def LL(l:Addr)(F:Fs)(H:Hp)(Z:Om)(K':List AV->SA->Om->Prop)(K:St->Hp->Prop):Prop:=
 ∀xs vs ρ Z' σ H',Rep F H' Z'->Fa l F H Z H' Z'->RS (cut F H' Z') ρ σ->H' l=some (.lst vs)->RVs (cut F H' Z') xs vs->K' xs ρ Z'->K σ H'
structure Bi(l:TL)(l':AL):Prop where
 run:∀(F:Fs)(H:Hp)(Z:Om)(σ:St)(ρ:SA)(acc:Addr)(vs:List V)(xs:List AV)(K:St->Hp->Prop)(K':List AV->SA->Om->Prop),Rep F H Z->RS (cut F H Z) ρ σ->F acc=true->H acc=some (.lst vs)->RVs (cut F H Z) xs vs ->
  l' xs ρ Z K'->LL acc F H Z K' K->l acc σ H K
noncomputable def k6:AT:=fun _ Z Q=>Q true Z
noncomputable def qL(te:AE):AL:=fun xs ρ Z K=>te ρ Z fun y Z1=>xs.length<sizeLine/\K (xs++[y]) ρ Z1
noncomputable def fk(g:AG)(tc:AT)(l:AL):List AV->AL
 | [],xs,ρ,Z,K=>K xs ρ Z
 |a::as,xs,ρ,Z,K=>g a ρ Z fun ρ1 Z1=>tc ρ1 Z1 fun b Z2=>if b=true then l xs ρ1 Z2 (fun xs' ρ' Z'=>fk g tc l as xs' ρ' Z' K) else fk g tc l as xs ρ1 Z2 K
noncomputable def rd(src:List (Option Nat))(ρ:SA):SA:=src.map fun o=>match o with|none=>none|some j=>(ρ[j]?).join
noncomputable def und:List AV->Option (List D)
 | []=>some []
 |.d x::r=>(und r).map (x::·)
 |_=>none
theorem ik:∀ds:List D,und (ds.map AV.d)=some ds
 | []=>rfl
 |d::ds=>by simp[und,ik ds]
theorem er:∀ {xs:List AV} {ds:List D},und xs=some ds->xs=ds.map AV.d
 | [],ds,h=>by cases h;rfl
 |.d x::r,ds,h=>by
  simp only[und,Option.map_eq_some_iff] at h;obtain⟨es,e1,rfl⟩:=h;rw[er e1];rfl
 |.r _::_,_,h=>by simp[und] at h
 |.p _ _::_,_,h=>by simp[und] at h
noncomputable def Dc(src:List (Option Nat))(wi:AI)(g:AG)(tc:AT)(l:AL):AE:=fun ρ Z Q=>wi ρ Z fun as Z1=>fk g tc l as [] (rd src ρ) Z1 fun xs _ Z'=>∃ds,und xs=some ds/\Q (.d (.lst ds)) Z'
section
variable{te:TE}{te':AE}{tc:TT}{tc':AT}{g:TG}{g':AG}{wi:TI}{wi':AI}{l:TL}{l':AL}{src:List (Option Nat)}
theorem Gv:gE uB k6:=⟨fun F H Z σ ρ Q Q' rp rs w k=>k true Z true H rp .refl rfl w⟩
theorem tM(h:a9 te te'):Bi (Dj te) (qL te'):=⟨fun F H Z σ ρ acc vs xs K K' rp rs fa ha rx w k=>by
 refine h.go rp rs w fun y Z1 v H1 rp1 fr1 rs1 rv q=>?_;obtain⟨q1,q2⟩:=q;have ha1:H1 acc=some (.lst vs):=(fr1.hd acc fa).trans ha;obtain⟨rp2,c2⟩:=rp1.hwrite (vs:=vs++[v]) fa;refine⟨vs,ha1,by rw[rx.length];exact q1,k (xs++[y]) (vs++[v]) ρ Z1 σ _ rp2 ?_ ?_ bR ?_ q2⟩
 ·refine fr1.fa.trans ⟨fun b o e1 e2 e3=>⟨?_,e1⟩,fun b f n=>aw n⟩
  have hb:b≠acc:=fun z=>by subst z;rw[fa] at e2;cases e2
  rw[aw hb];exact e3
 ·rw[c2];exact rs1
 ·rw[c2];exact(rx.same fr1.same).append (.one rv)⟩
theorem FG(hg:kU g g')(hc:gE tc tc')(hl:Bi l l'){G:Hp}{as:List AV}{J:It}(it:xL G as J){F:Fs}{H:Hp}{Z:Om}{σ:St}{ρ:SA}{acc:Addr}{vs:List V}{xs:List AV}{K:St->Hp->Prop}{K':List AV->SA->Om->Prop}(rp:Rep F H Z)(rs:RS (cut F H Z) ρ σ)(fa:F acc=true)(ha:H acc=some (.lst vs))(rx:RVs (cut F H Z) xs vs)(sG:c8 G (cut F H Z))(w:fk g' tc' l' as xs ρ Z K')(k:LL acc F H Z K' K):yI J g tc l acc σ H K:=by
 refine⟨fun i m σ2 H2=>m+i=as.length/\∃ρ2 Z2 vs2 xs2,Rep F H2 Z2/\RS (cut F H2 Z2) ρ2 σ2/\Fa acc F H Z H2 Z2/\H2 acc=some (.lst vs2)/\RVs (cut F H2 Z2) xs2 vs2/\fk g' tc' l' (as.drop i) xs2 ρ2 Z2 K',
  ⟨as.length,rfl,ρ,Z,vs,xs,rp,rs,Fr.refl.fa,ha,rx,w⟩,?_⟩
 rintro i m σ2 H2 ⟨hm,ρ2,Z2,vs2,xs2,rp2,rs2,fr2,ha2,rx2,q2⟩;obtain⟨stop,go⟩:=it F H2 Z2 rp2 (sG.trans fr2.same);by_cases hl':i<as.length
 ·obtain⟨a,hai,hd⟩:=eF hl'
  rw[hd] at q2;obtain⟨g1,y1⟩:=go i a hai;refine .inr ⟨g1,fun x H' hy=>?_⟩;obtain⟨rp3,fr3,rv3⟩:=y1 x H' hy;refine hg.run F H' Z2 σ2 ρ2 x a _ _ rp3 (rs2.same fr3.same) rv3 q2 fun ρ4 Z4 σ4 H4 rp4 fr4 rs4 q4=>?_;refine hc.go rp4 rs4 q4 fun b Z5 b' H5 rp5 fr5 rs5 rb q5=>?_;cases (show b=b' from rb)
  have fr25:Fr F H2 Z2 H5 Z5:=(fr3.trans fr4).trans fr5;have ha5:H5 acc=some (.lst vs2):=(fr25.hd acc fa).trans ha2;have rx5:=rx2.same fr25.same
  cases b with
  |true=>
   rw[if_pos rfl] at q5 ⊢;refine hl.run F H5 Z5 σ4 ρ4 acc vs2 xs2 _ _ rp5 rs5 fa ha5 rx5 q5 fun xs6 vs6 ρ6 Z6 σ6 H6 e1 e2 e3 e4 e5 e6=>?_;exact⟨m-1,by omega,by omega,ρ6,Z6,vs6,xs6,e1,e3,(fr2.trans fr25.fa).trans e2,e4,e5,e6⟩
  |false=>
   rw[if_neg Bool.false_ne_true] at q5 ⊢;exact⟨m-1,by omega,by omega,ρ4,Z5,vs2,xs2,rp5,rs5,fr2.trans fr25.fa,ha5,rx5,q5⟩
 ·have hi:i=as.length:=by omega
  subst hi;rw[List.drop_length] at q2;exact .inl ⟨stop,k xs2 vs2 ρ2 Z2 σ2 H2 rp2 fr2 rs2 ha2 rx2 q2⟩
theorem RS.blk{G:Hp}{ρ:SA}{σ:St}(h:RS G ρ σ):RS G (rd src ρ) (qr src σ):=by
 refine⟨by simp[rd,qr],fun i a e=>?_⟩
 unfold rd at e;unfold qr;rw[List.getElem?_map] at e ⊢
 cases q:src[i]? with
 |none=>rw[q] at e;simp at e
 |some o=>
  rw[q] at e
  cases o with
  |none=>simp at e
  |some j=>
   simp only[Option.map_some,Option.some.injEq] at e ⊢
   have e':ρ[j]?=some (some a):=by
    cases z:ρ[j]? with
    |none=>rw[z] at e;simp at e
    |some y=>rw[z] at e;simp at e;rw[e]
   obtain⟨v,e1,e2⟩:=h.2 j a e';exact⟨v,by rw[e1];rfl,e2⟩
theorem Bk(hi:uf wi wi')(hg:kU g g')(hc:gE tc tc')(hl:Bi l l'){F:Fs}{H:Hp}{Z:Om}{σ:St}{ρ:SA}{Q:VK}{K':List AV->SA->Om->Prop}(rp:Rep F H Z)(rs:RS (cut F H Z) ρ σ)(w:wi' ρ Z fun as Z1=>fk g' tc' l' as [] (rd src ρ) Z1 K')(k:∀p xs vs ρ' Z' H',F p=false->(∀b o,ow (Z b)=false->F b=false->H b=some o->b≠p)->Rep (F.add p) H' Z'->Fr F H Z H' Z'->H' p=some (.lst vs)->RVs (cut (F.add p) H' Z') xs vs->K' xs ρ' Z'->Q (.ref p) H'):vd src wi g tc l σ H Q:=by
 refine hi.go rp rs w fun as Z1 J H1 rp1 fr1 rs1 it q=>fun acc hacc=>?_;obtain⟨rp2,c2⟩:=rp1.hide (vs:=[]) hacc;obtain⟨f1,f2⟩:=rp1.free hacc;have hb1:∀b,b≠acc->F b=false->(F.add acc) b=false:=fun b h f=>by simp[Fs.add,h,f]
 have hne:∀b o,ow (Z b)=false->F b=false->H b=some o->b≠acc:=fun b o h f e=>bp (fr1.st b o h f e).1 hacc;refine FG (xs:=[]) hg hc hl it rp2 (by rw[c2];exact rs1.blk) (by simp[Fs.add]) bR rfl (by rw[c2];exact c8.refl _) q fun xs vs ρ' Z' σ' H' e1 e2 e3 e4 e5 e6=>?_
 refine k acc xs vs ρ' Z' H' f2 hne e1 ⟨fun b o h f e=>?_,fun b f=>?_⟩ e4 e5 e6
 ·obtain⟨x,y⟩:=fr1.st b o h f e
  have hb:=hne b o h f e;exact e2.st b o y (hb1 b hb f) (by rw[aw hb];exact x)
 ·have hb:b≠acc:=fun z=>by subst z;rw[f] at f2;cases f2
  rw[e2.hd b (by simp[Fs.add,f]) hb,aw hb,fr1.hd b f]
theorem ur(hi:uf wi wi')(hg:kU g g')(hc:gE tc tc')(hl:Bi l l'):a9 (vd src wi g tc l) (Dc src wi' g' tc' l'):=⟨fun F H Z σ ρ Q Q' rp rs w k=>by
 refine Bk hi hg hc hl rp rs w fun p xs vs ρ' Z' H' f hne rp1 fr1 e1 e2 q=>?_;obtain⟨ds,hu,q⟩:=q;cases er hu;obtain⟨rp2,sm,hp⟩:=rp1.unhide f e1;refine k (.d (.lst ds)) Z' _ H' rp2 fr1 ?_ q;simp only[RV,Dat]
 exact⟨p,vs,rfl,hp,RVs.dats.mp (e2.same sm)⟩⟩
end
noncomputable def bL(Z:Om):AV->Option D
 |.d x=>some x
 |.r (.ref l)=>match Z l with
  |some (.own xs)=>(und xs).map D.lst
  |some (.frz ds)=>some (.lst ds)
  |_=>none
 |_=>none
noncomputable def c0(Z:Om):AV->Option (List AV)
 |.d (.lst ds)=>some (ds.map AV.d)
 |.r (.ref l)=>match Z l with
  |some (.own xs)=>some xs
  |some (.frz ds)=>some (ds.map AV.d)
  |_=>none
 |_=>none
noncomputable def iI:AV->Option (List AV)
 |.d (.tup ds)=>some (ds.map AV.d)
 |_=>none
noncomputable def yT(Z:Om)(x:AV)(K:D->Om->Prop):Prop:=match x with
 |.d x=>K x Z
 |.r (.ref l)=>match Z l with
  |some (.own xs)=>∃ds,und xs=some ds/\K (.lst ds) (Z.put l (.frz ds))
  |some (.frz ds)=>K (.lst ds) Z
  |_=>False
 |_=>False
section
variable{F:Fs}{H:Hp}{Z:Om}{x:AV}{v:V}
theorem f6(rp:Rep F H Z)(rv:RV (cut F H Z) x v){xs:List AV}(h:c0 Z x=some xs):∃a vs,v=.ref a/\H a=some (.lst vs)/\RVs (cut F H Z) xs vs:=by
 cases x with
 |d x=>cases x with
  |lst ds=>
   simp only[c0,Option.some.injEq] at h;subst h;simp only[RV,Dat] at rv;obtain⟨a,vs,rfl,e1,e2⟩:=rv;exact⟨a,vs,rfl,aS _ _ e1,RVs.dats.mpr e2⟩
  |_=>simp[c0] at h
 |p u P=>simp[c0] at h
 |r u=>
  cases (show v=u from rv)
  cases v with
  |ref l=>
   simp only[c0] at h
   cases e:Z l with
   |none=>rw[e] at h;simp at h
   |some c=>
    rw[e] at h
    cases c with
    |own ys=>
     simp only[Option.some.injEq] at h;subst h;obtain⟨vs,e1,e2⟩:=rp.own l _ e;exact⟨l,vs,rfl,e1,e2⟩
    |frz ds=>
     simp only[Option.some.injEq] at h;subst h;have q:=rp.frz l ds e;simp only[Dat] at q;obtain⟨a,vs,e1,e2,e3⟩:=q;cases e1;exact⟨l,vs,rfl,aS _ _ e2,RVs.dats.mpr e3⟩
    |dic ks=>simp at h
  |_=>simp[c0] at h
theorem xC(rv:RV (cut F H Z) x v){xs:List AV}(h:iI x=some xs):∃a vs,v=.ref a/\cut F H Z a=some (.tup vs)/\RVs (cut F H Z) xs vs:=by
 cases x with
 |d x=>cases x with
  |tup ds=>
   simp only[iI,Option.some.injEq] at h;subst h;simp only[RV,Dat] at rv;obtain⟨a,vs,rfl,e1,e2⟩:=rv;exact⟨a,vs,rfl,e1,RVs.dats.mpr e2⟩
  |_=>simp[iI] at h
 |p u P=>simp[iI] at h
 |r u=>simp[iI] at h
theorem jk(rp:Rep F H Z)(rv:RV (cut F H Z) x v){d:D}(h:bL Z x=some d):Dat H d v:=by
 cases x with
 |d x=>
  simp only[bL,Option.some.injEq] at h;subst h;exact Dat.same aS rv
 |p u P=>simp[bL] at h
 |r u=>
  cases (show v=u from rv)
  cases v with
  |ref l=>
   simp only[bL] at h
   cases e:Z l with
   |none=>rw[e] at h;simp at h
   |some c=>
    rw[e] at h
    cases c with
    |own ys=>
     simp only[Option.map_eq_some_iff] at h;obtain⟨ds,h1,rfl⟩:=h;cases er h1;obtain⟨vs,e1,e2⟩:=rp.own l _ e;simp only[Dat];exact⟨l,vs,rfl,e1,(RVs.dats.mp e2).same aS⟩
    |frz ds=>
     simp only[Option.some.injEq] at h;subst h;exact(rp.frz l ds e).same aS
    |dic ks=>simp at h
  |_=>simp[bL] at h
theorem gA(rp:Rep F H Z)(rv:RV (cut F H Z) x v){ds:List D}(h:bL Z x=some (.lst ds)):∃a vs,v=.ref a/\H a=some (.lst vs)/\aE (cut F H Z) ds vs:=by
 have:c0 Z x=some (ds.map AV.d):=by
  cases x with
  |d x=>simp only[bL,Option.some.injEq] at h;subst h;rfl
  |p u P=>simp[bL] at h
  |r u=>cases u with
   |ref l=>
    simp only[bL] at h;simp only[c0]
    cases e:Z l with
    |none=>rw[e] at h;simp at h
    |some c=>
     rw[e] at h
     cases c with
     |own ys=>
      simp only[Option.map_eq_some_iff] at h;obtain⟨es,h1,h2⟩:=h;cases h2;rw[er h1]
     |frz es=>simp only[Option.some.injEq] at h;cases h;rfl
     |dic ks=>simp at h
   |_=>simp[bL] at h
 obtain⟨a,vs,e1,e2,e3⟩:=f6 rp rv this;exact⟨a,vs,e1,e2,RVs.dats.mp e3⟩
theorem Fp(rp:Rep F H Z)(rv:RV (cut F H Z) x v){K:D->Om->Prop}(h:yT Z x K):∃d Z',Rep F H Z'/\Fr F H Z H Z'/\Dat (cut F H Z') d v/\K d Z':=by
 cases x with
 |d x=>exact⟨x,Z,rp,.refl,rv,h⟩
 |p u P=>exact h.elim
 |r u=>
  cases (show v=u from rv)
  cases v with
  |ref l=>
   simp only[yT] at h
   cases e:Z l with
   |none=>rw[e] at h;exact h.elim
   |some c=>
    rw[e] at h
    cases c with
    |own ys=>
     obtain⟨ds,h1,h2⟩:=h;cases er h1;obtain⟨q1,q2,q3⟩:=rp.freeze e;exact⟨_,_,q1,q2,q3,h2⟩
    |frz ds=>exact⟨_,_,rp,.refl,rp.frz l ds e,h⟩
    |dic ks=>exact h.elim
  |_=>exact h.elim
end
noncomputable abbrev A2:=AV->AV->Om->(AV->Om->Prop)->Prop
structure dv(r:R2)(r':A2):Prop where
 run:∀(F:Fs)(H:Hp)(Z:Om)(v u:V)(x y:AV)(Q:VK)(Q':AV->Om->Prop),Rep F H Z->RV (cut F H Z) x v->RV (cut F H Z) y u->r' x y Z Q'->LP RV F H Z Q' Q->r v u H Q
structure GE(r:V->Hp->VK->Prop)(r':AV->Om->(AV->Om->Prop)->Prop):Prop where
 run:∀(F:Fs)(H:Hp)(Z:Om)(v:V)(x:AV)(Q:VK)(Q':AV->Om->Prop),Rep F H Z->RV (cut F H Z) x v->r' x Z Q'->LP RV F H Z Q' Q->r v H Q
structure mj(r:List V->Hp->VK->Prop)(r':List AV->Om->(AV->Om->Prop)->Prop):Prop where
 run:∀(F:Fs)(H:Hp)(Z:Om)(vs:List V)(xs:List AV)(Q:VK)(Q':AV->Om->Prop),Rep F H Z->RVs (cut F H Z) xs vs->r' xs Z Q'->LP RV F H Z Q' Q->r vs H Q
noncomputable def Ba(i:Nat):AE:=fun ρ Z Q=>∃a,ρ[i]?=some (some a)/\Q a Z
noncomputable def aC(d:D):AE:=fun _ Z Q=>Q (.d d) Z
noncomputable def aOp(r:A2)(ta tb:AE):AE:=fun ρ Z Q=>ta ρ Z fun x Z1=>tb ρ Z1 fun y Z2=>r x y Z2 Q
noncomputable def aUn(r:AV->Om->(AV->Om->Prop)->Prop)(ta:AE):AE:=fun ρ Z Q=>ta ρ Z fun x Z1=>r x Z1 Q
noncomputable def GW:AA:=fun _ Z Q=>Q [] Z
noncomputable def C8(ta:AE)(tr:AA):AA:=fun ρ Z Q=>ta ρ Z fun x Z1=>tr ρ Z1 fun xs Z2=>Q (x::xs) Z2
noncomputable def GL(t:AA):AE:=fun ρ Z Q=>t ρ Z fun xs Z1=>xs.length<=sizeLine/\∃ds,und xs=some ds/\Q (.d (.tup ds)) Z1
noncomputable def HG(t:AA):AE:=fun ρ Z Q=>t ρ Z fun xs Z1=>xs.length<=sizeLine/\∃ds,und xs=some ds/\Q (.d (.lst ds)) Z1
noncomputable def C5(t:AA):AE:=fun ρ Z Q=>t ρ Z fun xs Z1=>xs.length<=sizeLine/\∀p,Z1 p=none->Q (.r (.ref p)) (Z1.put p (.own xs))
noncomputable def Dp(sp:ASp)(t:AA):AE:=fun ρ Z Q=>t ρ Z fun xs Z1=>sp xs Z1 Q
noncomputable def aCB(r:List AV->Om->(AV->Om->Prop)->Prop)(t:AA):AE:=fun ρ Z Q=>t ρ Z fun xs Z1=>r xs Z1 Q
noncomputable def Cz(t:AE):AT:=fun ρ Z Q=>t ρ Z fun x Z1=>∃k,x=.d (.bl k)/\Q k Z1
noncomputable def He(t u:AT):AT:=fun ρ Z Q=>t ρ Z fun c Z1=>if c=true then u ρ Z1 Q else Q false Z1
noncomputable def aOr(t u:AT):AT:=fun ρ Z Q=>t ρ Z fun c Z1=>if c=true then Q true Z1 else u ρ Z1 Q
noncomputable def Gp(t:AT):AT:=fun ρ Z Q=>t ρ Z fun c Z1=>Q (!c) Z1
section
variable{ta tb tc:TE}{ta' tb' tc':AE}{t u:TT}{t' u':AT}{r r2:R2}{r' r2':A2}{s:TA}{s':AA}
theorem ae{i:Nat}:a9 (B2 i) (Ba i):=⟨fun F H Z σ ρ Q Q' rp rs h k=>by
 obtain⟨a,e,q⟩:=h;obtain⟨v,e1,e2⟩:=rs.2 i a e
 exact⟨v,e1,k a Z v H rp .refl e2 q⟩⟩
theorem av{i:Int}:a9 (tC (.int i)) (aC (.int i)):=⟨fun F H Z σ ρ Q Q' rp rs h k=>k _ Z _ H rp .refl (by simp[RV,Dat]) h⟩
theorem aF{x:Str}:a9 (tC (.str x)) (aC (.str x)):=⟨fun F H Z σ ρ Q Q' rp rs h k=>k _ Z _ H rp .refl (by simp[RV,Dat]) h⟩
theorem yF{b:Bool}:a9 (tC (.bl b)) (aC (.bl b)):=⟨fun F H Z σ ρ Q Q' rp rs h k=>k _ Z _ H rp .refl (by simp[RV,Dat]) h⟩
theorem ei:a9 (tC .non) (aC .non):=⟨fun F H Z σ ρ Q Q' rp rs h k=>k _ Z _ H rp .refl (by simp[RV,Dat]) h⟩
noncomputable def Gr(v:V):AE:=fun _ Z Q=>Q (.r v) Z
theorem fh{v:V}:a9 (tC v) (Gr v):=⟨fun F H Z σ ρ Q Q' rp rs h k=>k (.r v) Z _ H rp .refl rfl h⟩
theorem am(h2:dv r r')(ha:a9 ta ta')(hb:a9 tb tb'):a9 (tOp r ta tb) (aOp r' ta' tb'):=⟨fun F H Z σ ρ Q Q' rp rs h k=>
 ha.go rp rs h fun x Z1 v H1 rp1 fr1 rs1 rv1 q1=>hb.go rp1 rs1 q1 fun y Z2 u H2 rp2 fr2 rs2 rv2 q2=>h2.run F H2 Z2 v u x y Q Q' rp2 (rv1.same fr2.same) rv2 q2 (k.fr (fr1.trans fr2))⟩
theorem Ce{r:V->Hp->VK->Prop}{r':AV->Om->(AV->Om->Prop)->Prop}(h2:GE r r')(ha:a9 ta ta'):a9 (tUn r ta) (aUn r' ta'):=⟨fun F H Z σ ρ Q Q' rp rs h k=>
 ha.go rp rs h fun x Z1 v H1 rp1 fr1 rs1 rv1 q1=>h2.run F H1 Z1 v x Q Q' rp1 rv1 q1 (k.fr fr1)⟩
theorem ah:gM Bl GW:=⟨fun F H Z σ ρ Q Q' rp rs h k=>k [] Z _ H rp .refl rfl h⟩
theorem ac(ha:a9 ta ta')(hs:gM s s'):gM (jP ta s) (C8 ta' s'):=⟨fun F H Z σ ρ Q Q' rp rs h k=>
 ha.go rp rs h fun x Z1 v H1 rp1 fr1 rs1 rv1 q1=>hs.go rp1 rs1 q1 fun y Z2 u H2 rp2 fr2 rs2 rv2 q2=>k (x::y) Z2 (v::u) H2 rp2 (fr1.trans fr2) ⟨v,u,rfl,rv1.same fr2.same,rv2⟩ q2⟩
theorem bV(hs:gM s s'):a9 (BL s) (GL s'):=⟨fun F H Z σ ρ Q Q' rp rs h k=>
 hs.go rp rs h fun xs Z1 vs H1 rp1 fr1 rs1 rv1 ⟨z,ds,hu,q1⟩=>⟨by rw[rv1.length];exact z,fun p hp=>by
  cases er hu;obtain⟨rp2,fr2,hc⟩:=rp1.lay (o:=.tup vs) hp;refine k _ Z1 _ _ rp2 (fr1.trans fr2) ?_ q1;simp only[RV,Dat]
  exact⟨p,vs,rfl,hc,(RVs.dats.mp rv1).same fr2.same⟩⟩⟩
theorem cL(hs:gM s s'):a9 (B6 s) (HG s'):=⟨fun F H Z σ ρ Q Q' rp rs h k=>
 hs.go rp rs h fun xs Z1 vs H1 rp1 fr1 rs1 rv1 ⟨z,ds,hu,q1⟩=>⟨by rw[rv1.length];exact z,fun p hp=>by
  cases er hu;obtain⟨rp2,fr2,hc⟩:=rp1.lay (o:=.lst vs) hp;refine k _ Z1 _ _ rp2 (fr1.trans fr2) ?_ q1;simp only[RV,Dat]
  exact⟨p,vs,rfl,hc,(RVs.dats.mp rv1).same fr2.same⟩⟩⟩
theorem lO(hs:gM s s'):a9 (B6 s) (C5 s'):=⟨fun F H Z σ ρ Q Q' rp rs h k=>
 hs.go rp rs h fun xs Z1 vs H1 rp1 fr1 rs1 rv1 ⟨z,q1⟩=>⟨by rw[rv1.length];exact z,fun p hp=>by
  obtain⟨rp2,fr2⟩:=rp1.mk' (vs:=vs) hp rv1
  exact k (.r (.ref p)) _ _ _ rp2 (fr1.trans fr2) rfl (q1 p (rp1.free hp).1)⟩⟩
theorem aT{sp:ASp}{E:XK}(hs:gM s s'):a9 (sr (e9 sp) [] E s) (Dp sp s'):=⟨fun F H Z σ ρ Q Q' rp rs h k=>
 hs.go rp rs h fun xs Z1 vs H1 rp1 fr1 rs1 rv1 q=>⟨F,xs,Z1,Q',rp1,by rw[List.append_nil];exact rv1,q,k.fr fr1⟩⟩
theorem cg{r:List V->Hp->VK->Prop}{r':List AV->Om->(AV->Om->Prop)->Prop}(hr:mj r r')(hs:gM s s'):a9 (tCB r s) (aCB r' s'):=⟨fun F H Z σ ρ Q Q' rp rs h k=>
 hs.go rp rs h fun xs Z1 vs H1 rp1 fr1 rs1 rv1 q=>hr.run F H1 Z1 vs xs Q Q' rp1 rv1 q (k.fr fr1)⟩
theorem aK(ha:a9 ta ta'):gE (DM ta) (Cz ta'):=⟨fun F H Z σ ρ Q Q' rp rs h k=>
 ha.go rp rs h fun x Z1 v H1 rp1 fr1 rs1 rv1 ⟨c,e,q⟩=>by subst e;exact⟨c,by simpa[RV,Dat] using rv1,k c Z1 c H1 rp1 fr1 rfl q⟩⟩
theorem lC(h1:gE t t')(h2:gE u u'):gE (GX t u) (He t' u'):=⟨fun F H Z σ ρ Q Q' rp rs h k=>
 h1.go rp rs h fun c Z1 c' H1 rp1 fr1 rs1 rv1 q=>by
  cases (show c=c' from rv1)
  cases c with
  |true=>rw[if_pos rfl] at q ⊢;exact h2.run F H1 Z1 σ ρ Q Q' rp1 rs1 q (k.fr fr1)
  |false=>rw[if_neg Bool.false_ne_true] at q ⊢;exact k false Z1 false H1 rp1 fr1 rfl q⟩
theorem Ew(h1:gE t t')(h2:gE u u'):gE (tOr t u) (aOr t' u'):=⟨fun F H Z σ ρ Q Q' rp rs h k=>
 h1.go rp rs h fun c Z1 c' H1 rp1 fr1 rs1 rv1 q=>by
  cases (show c=c' from rv1)
  cases c with
  |true=>rw[if_pos rfl] at q ⊢;exact k true Z1 true H1 rp1 fr1 rfl q
  |false=>rw[if_neg Bool.false_ne_true] at q ⊢;exact h2.run F H1 Z1 σ ρ Q Q' rp1 rs1 q (k.fr fr1)⟩
theorem yJ(h1:gE t t'):gE (Gb t) (Gp t'):=⟨fun F H Z σ ρ Q Q' rp rs h k=>
 h1.go rp rs h fun c Z1 c' H1 rp1 fr1 rs1 rv1 q=>by
  cases (show c=c' from rv1)
  exact k _ Z1 _ H1 rp1 fr1 rfl q⟩
theorem DJ{G:Hp}{c:Bool}{v:V}(h:RV G (.d (.bl c)) v):v=.bl c:=by simpa[RV,Dat] using h
noncomputable def gH(Z:Om)(x:AV):Option Bool:=match x with
 |.d .non=>some false
 |.d (.bl b)=>some b
 |.d (.int i)=>some (i != 0)
 |.d (.tup ds)=>some (!ds.isEmpty)
 |x=>(c0 Z x).map fun xs=>!xs.isEmpty
noncomputable def Hh(ta:AE):AT:=fun ρ Z Q=>ta ρ Z fun x Z1=>∃k,gH Z1 x=some k/\Q k Z1
theorem kK{α β:Type}{xs:List α}{ys:List β}(h:xs.length=ys.length):xs.isEmpty=ys.isEmpty:=by
 cases xs<;>cases ys<;>simp_all
theorem Av{K:W.Frag}{F:Fs}{H1:Hp}{Z1:Om}{x:AV}{v:V}{c:Bool}(rp1:Rep F H1 Z1)(rv1:RV (cut F H1 Z1) x v)(e:gH Z1 x=some c):t6 K v H1 c:=by
  have ls:∀ {xs:List AV},c0 Z1 x=some xs->c=(!xs.isEmpty)->t6 K v H1 c:=fun {xs} e1 e2=>by
   obtain⟨a,vs,rfl,e3,e4⟩:=f6 rp1 rv1 e1;exact .inl ⟨vs,.inl (.inl e3),by rw[e2,kK e4.length.symm]⟩
  cases x with
  |d x=>cases x with
   |non=>simp only[gH,Option.some.injEq] at e;simp only[RV,Dat] at rv1;subst rv1;exact e.symm
   |bl b=>simp only[gH,Option.some.injEq] at e;simp only[RV,Dat] at rv1;subst rv1;exact e.symm
   |int b=>simp only[gH,Option.some.injEq] at e;simp only[RV,Dat] at rv1;subst rv1;exact e.symm
   |str b=>simp[gH,c0] at e
   |dk b=>simp[gH,c0] at e
   |dt b=>simp[gH,c0] at e
   |tup ds=>
    simp only[gH,Option.some.injEq] at e;simp only[RV,Dat] at rv1;obtain⟨a,vs,rfl,e1,e2⟩:=rv1;exact .inr (.inl ⟨vs,.inl (.inl (aS _ _ e1)),by rw[←e,kK e2.length]⟩)
   |lst ds=>
    simp only[gH,Option.map_eq_some_iff] at e;obtain⟨xs,e1,e2⟩:=e;exact ls e1 e2.symm
  |r u=>
   simp only[gH,Option.map_eq_some_iff] at e;obtain⟨xs,e1,e2⟩:=e;exact ls e1 e2.symm
  |p u P=>simp[gH,c0] at e
theorem nL{K:W.Frag}(ha:a9 ta ta'):gE (fun σ H Q=>ta σ H fun x H'=>∃k,t6 K x H' k/\Q k H') (Hh ta'):=⟨fun F H Z σ ρ Q Q' rp rs h k=>
 ha.go rp rs h fun x Z1 v H1 rp1 fr1 rs1 rv1 ⟨c,e,q⟩=>⟨c,Av rp1 rv1 e,k c Z1 c H1 rp1 fr1 rfl q⟩⟩
end
noncomputable def aI0(f:Int->Int->D):A2:=fun x y Z Q=>∃i j,x=.d (.int i)/\y=.d (.int j)/\Q (.d (f i j)) Z
noncomputable def aI(C:Int->Int->Prop)(f:Int->Int->D):A2:=fun x y Z Q=>∃i j,x=.d (.int i)/\y=.d (.int j)/\C i j/\Q (.d (f i j)) Z
noncomputable def aU(f:Int->D):AV->Om->(AV->Om->Prop)->Prop:=fun x Z Q=>∃i,x=.d (.int i)/\Q (.d (f i)) Z
section
variable{F:Fs}{H:Hp}{Z:Om}{Q:VK}{Q':AV->Om->Prop}
theorem LP.int(k:LP RV F H Z Q' Q)(rp:Rep F H Z){i:Int}(q:Q' (.d (.int i)) Z):Q (.int i) H:=k (.d (.int i)) Z _ H rp .refl (by simp[RV,Dat]) q
theorem LP.bl(k:LP RV F H Z Q' Q)(rp:Rep F H Z){i:Bool}(q:Q' (.d (.bl i)) Z):Q (.bl i) H:=k (.d (.bl i)) Z _ H rp .refl (by simp[RV,Dat]) q
theorem LP.str(k:LP RV F H Z Q' Q)(rp:Rep F H Z){i:Str}(q:Q' (.d (.str i)) Z):Q (.str i) H:=k (.d (.str i)) Z _ H rp .refl (by simp[RV,Dat]) q
theorem bo{G:Hp}{i:Int}{v:V}(h:RV G (.d (.int i)) v):v=.int i:=by simpa[RV,Dat] using h
theorem cu{G:Hp}{i:Str}{v:V}(h:RV G (.d (.str i)) v):v=.str i:=by simpa[RV,Dat] using h
theorem tj{G:Hp}{v:V}(h:RV G (.d .non) v):v=.non:=by simpa[RV,Dat] using h
theorem LP.tup(k:LP RV F H Z Q' Q)(rp:Rep F H Z){ds:List D}{vs:List V}(hd:aE (cut F H Z) ds vs)(q:Q' (.d (.tup ds)) Z):∀p,H p=none->Q (.ref p) (upd H p (.tup vs)):=fun p hp=>by
 obtain⟨rp2,fr2,hc⟩:=rp.lay (o:=.tup vs) hp;refine k (.d (.tup ds)) Z _ _ rp2 fr2 ?_ q;simp only[RV,Dat];exact⟨p,vs,rfl,hc,hd.same fr2.same⟩
theorem LP.lst(k:LP RV F H Z Q' Q)(rp:Rep F H Z){ds:List D}{vs:List V}(hd:aE (cut F H Z) ds vs)(q:Q' (.d (.lst ds)) Z):∀p,H p=none->Q (.ref p) (upd H p (.lst vs)):=fun p hp=>by
 obtain⟨rp2,fr2,hc⟩:=rp.lay (o:=.lst vs) hp;refine k (.d (.lst ds)) Z _ _ rp2 fr2 ?_ q;simp only[RV,Dat];exact⟨p,vs,rfl,hc,hd.same fr2.same⟩
theorem LP.own(k:LP RV F H Z Q' Q)(rp:Rep F H Z){xs:List AV}{vs:List V}(hd:RVs (cut F H Z) xs vs)(q:∀p,Z p=none->Q' (.r (.ref p)) (Z.put p (.own xs))):∀p,H p=none->Q (.ref p) (upd H p (.lst vs)):=fun p hp=>by
 obtain⟨rp2,fr2⟩:=rp.mk' (vs:=vs) hp hd;exact k (.r (.ref p)) _ _ _ rp2 fr2 rfl (q p (rp.free hp).1)
end
theorem kJ{f:Int->Int->Int}:dv (rI0 fun i j=>.int (f i j)) (aI0 fun i j=>.int (f i j)):=⟨fun F H Z v u x y Q Q' rp h1 h2 ⟨i,j,e1,e2,q⟩ k=>by
 subst e1 e2;exact⟨i,j,bo h1,bo h2,k.int rp q⟩⟩
theorem l7{f:Int->Int->Bool}:dv (rI0 fun i j=>.bl (f i j)) (aI0 fun i j=>.bl (f i j)):=⟨fun F H Z v u x y Q Q' rp h1 h2 ⟨i,j,e1,e2,q⟩ k=>by
 subst e1 e2;exact⟨i,j,bo h1,bo h2,k.bl rp q⟩⟩
theorem kt{C:Int->Int->Prop}{f:Int->Int->Int}:dv (rI C fun i j=>.int (f i j)) (aI C fun i j=>.int (f i j)):=⟨fun F H Z v u x y Q Q' rp h1 h2 ⟨i,j,e1,e2,c,q⟩ k=>by
 subst e1 e2;exact⟨i,j,bo h1,bo h2,c,k.int rp q⟩⟩
theorem u_i{f:Int->Int}:GE (rU fun i=>.int (f i)) (aU fun i=>.int (f i)):=⟨fun F H Z v x Q Q' rp h1 ⟨i,e1,q⟩ k=>by
 subst e1;exact⟨i,bo h1,k.int rp q⟩⟩
noncomputable def Hd(neg:Bool):A2:=fun x y Z Q=>∃a b,bL Z x=some a/\bL Z y=some b/\dep a<=100/\Q (.d (.bl (if neg then !eqD a b else eqD a b))) Z
theorem cr{neg:Bool}:dv (Fu neg) (Hd neg):=⟨fun F H Z v u x y Q Q' rp h1 h2 ⟨a,b,e1,e2,s,q⟩ k=>⟨a,b,jk rp h1 e1,jk rp h2 e2,s,k.bl rp q⟩⟩
noncomputable def aIn(neg:Bool):A2:=fun x y Z Q=>∃a b ds,bL Z x=some a/\bL Z y=some b/\(b=.lst ds\/b=.tup ds)/\dR ds<=90/\Q (.d (.bl (if neg then !inD a ds else inD a ds))) Z
theorem FA{neg:Bool}:dv (EH neg) (aIn neg):=⟨fun F H Z v u x y Q Q' rp h1 h2 ⟨a,b,ds,e1,e2,e3,s,q⟩ k=>⟨a,ds,jk rp h1 e1,by
 have:=jk rp h2 e2;rcases e3 with rfl|rfl
 ·exact .inl this
 ·exact .inr this,s,k.bl rp q⟩⟩
noncomputable def FU:A2:=fun x y Z Q=>∃ds es,x=.d (.tup ds)/\y=.d (.tup es)/\ds.length+es.length<=sizeLine/\Q (.d (.tup (ds++es))) Z
noncomputable def nC:R2:=fun x y H Q=>∃a b xs ys,x=.ref a/\y=.ref b/\H a=some (.tup xs)/\H b=some (.tup ys)/\xs.length+ys.length<=sizeLine /\
 (xs=[]->Q (.ref b) H)/\(ys=[]->Q (.ref a) H)/\∀p,H p=none->Q (.ref p) (upd H p (.tup (xs++ys)))
theorem aR{X:Cx}:OpR X (binaryOp .Add) nC:=by
 intro pins s σ H x y v u Q I rx ry h;obtain⟨a,b,xs,ys,rfl,rfl,ha,hb,hz,g1,g2,g3⟩:=h;by_cases hn:xs=[]
 ·subst hn
  cases rx;cases ry;obtain⟨its,r1,ht⟩:=gq I ha;obtain⟨its2,r2,hb2⟩:=gq I hb;cases r1;obtain⟨⟨cls,dd,data,sl⟩,ho,hc,n,hd⟩:=id ht;obtain⟨⟨cls2,dd2,data2,sl2⟩,ho2,hc2,n2,hd2⟩:=id hb2;simp only at hc hd hc2 hd2;subst hc hd hc2 hd2
  exact concat_meets ⟨_,ho,rfl⟩ ⟨_,ho2,rfl⟩ noFill_tuple_add seq_tuple_add PySem.F.slot_tuple_add PySem.F.entry_tuple_add (PySem.F.args_tuple_add_2 _ _)
   (tuple_addW0 a b _ _ n n2 dd dd2 sl sl2 (by simp)) ⟨ho,ho2,⟨.ref b,H,I,rfl,g1 rfl⟩⟩
 ·exact BF pins s σ H (.ref a) (.ref b) v u Q I rx ry ⟨a,b,xs,ys,rfl,rfl,SqT.of ha,SqT.of hb,hn,hz,g2,fun _ p hp=>g3 p hp⟩
theorem yO:dv nC FU:=⟨fun F H Z v u x y Q Q' rp h1 h2 ⟨ds,es,e1,e2,z,q⟩ k=>by
 subst e1 e2;have h1':=h1;have h2':=h2;simp only[RV,Dat] at h1 h2;obtain⟨a,xs,rfl,ha,hxs⟩:=h1;obtain⟨b,ys,rfl,hb,hys⟩:=h2;refine⟨a,b,xs,ys,rfl,rfl,aS _ _ ha,aS _ _ hb,by rw[hxs.length,hys.length];exact z,fun e=>?_,fun e=>?_,k.tup rp (hxs.append hys) q⟩
 ·have:ds=[]:=List.length_eq_zero_iff.mp (by rw[←hxs.length,e];rfl)
  subst this;exact k _ Z _ H rp .refl h2' q
 ·have:es=[]:=List.length_eq_zero_iff.mp (by rw[←hys.length,e];rfl)
  subst this;rw[List.append_nil] at q
  exact k _ Z _ H rp .refl h1' q⟩
theorem Rep.later{F:Fs}{H H':Hp}{Z:Om}(rp:Rep F H Z)(s:c8 H H'):Rep F H' Z/\Fr F H Z H' Z:=by
 have fr:Fr F H Z H' Z:=⟨fun b o x f e=>⟨s _ _ e,x⟩,fun b f=>by
  obtain⟨_,o,q⟩:=rp.hid b f
  rw[q,s _ _ q]⟩
 refine⟨⟨fun l xs e=>?_,fun l ds e=>(rp.frz l ds e).same fr.same,fun b f=>?_,fun l ks e=>(by obtain⟨vs,e1,e2⟩:=rp.dic l ks e;exact⟨vs,s _ _ e1,e2.same fr.same⟩)⟩,fr⟩
 ·obtain⟨vs,e1,e2⟩:=rp.own l xs e
  exact⟨vs,s _ _ e1,e2.same fr.same⟩
 ·obtain⟨x,o,q⟩:=rp.hid b f
  exact⟨x,o,s _ _ q⟩
noncomputable def HX:A2:=fun x y Z Q=>∃xs i a,c0 Z x=some xs/\y=.d (.int i)/\atI xs i=some a/\Q a Z
noncomputable def HZ:A2:=fun x y Z Q=>∃xs i a,iI x=some xs/\y=.d (.int i)/\atI xs i=some a/\Q a Z
theorem RVs.atI{G:Hp}{xs:List AV}{vs:List V}{i:Int}{a:AV}(h:RVs G xs vs)(e:atI xs i=some a):∃v,L2.atI vs i=some v/\RV G a v:=by
 unfold L2.atI at e ⊢;rw[h.length]
 cases z:ixN xs.length i with
 |none=>rw[z] at e;cases e
 |some j=>
  rw[z] at e;exact h.get e
theorem F6{K:W.Frag}:dv (D9 K) HX:=⟨fun F H Z v u x y Q Q' rp h1 h2 ⟨xs,i,a,e1,e2,e3,q⟩ k=>by
 subst e2;obtain⟨l,vs,rfl,q1,q2⟩:=f6 rp h1 e1;obtain⟨w,z1,z2⟩:=q2.atI e3
 exact⟨l,vs,i,w,rfl,bo h2,.inl (.inl q1),z1,k a Z w H rp .refl z2 q⟩⟩
theorem HJ{K:W.Frag}:dv (ES K) HZ:=⟨fun F H Z v u x y Q Q' rp h1 h2 ⟨xs,i,a,e1,e2,e3,q⟩ k=>by
 subst e2;obtain⟨l,vs,rfl,q1,q2⟩:=xC h1 e1;obtain⟨w,z1,z2⟩:=q2.atI e3
 exact⟨l,vs,i,w,rfl,bo h2,.inl (.inl (aS _ _ q1)),z1,k a Z w H rp .refl z2 q⟩⟩
noncomputable def aIx:A2:=fun x y Z Q=>∃xs i a,(c0 Z x=some xs\/iI x=some xs)/\y=.d (.int i)/\atI xs i=some a/\Q a Z
theorem eB{K:W.Frag}:dv (rIx K) aIx:=⟨fun F H Z v u x y Q Q' rp h1 h2 ⟨xs,i,a,e1,e2,e3,q⟩ k=>by
 rcases e1 with e1|e1
 ·exact .inl (F6.run F H Z v u x y Q Q' rp h1 h2 ⟨xs,i,a,e1,e2,e3,q⟩ k)
 ·exact .inr (.inl (HJ.run F H Z v u x y Q Q' rp h1 h2 ⟨xs,i,a,e1,e2,e3,q⟩ k))⟩
noncomputable def Ic(neg:Bool):A2:=fun x y Z Q=>∃a,x=.d a/\y=.d .non/\Q (.d (.bl (if neg then !eqD a .non else eqD a .non))) Z
theorem Fg{G:Hp}{a:D}{v:V}(h:RV G (.d a) v):decide (v=.non)=eqD a .non:=by
 cases a<;>simp only[RV,Dat] at h
 all_goals first
  |(subst h;simp[eqD])
  |(obtain⟨_,_,rfl,_⟩:=h;simp[eqD])
theorem GP:dv (fun x y H Q=>y=.non/\Q (.bl (decide (x=.non))) H) (Ic false):=⟨fun F H Z v u x y Q Q' rp h1 h2 ⟨a,e1,e2,q⟩ k=>by
 subst e1 e2;exact⟨tj h2,by rw[Fg h1];exact k.bl rp q⟩⟩
noncomputable abbrev AC:=List AV->Om->(AV->Om->Prop)->Prop
theorem iK{G:Hp}{a:AV}{vs:List V}(h:RVs G [a] vs):∃v,vs=[v]/\RV G a v:=by
 obtain⟨v,r,rfl,h1,h2⟩:=h;cases h2;exact⟨v,rfl,h1⟩
theorem EJ{G:Hp}{a b:AV}{vs:List V}(h:RVs G [a,b] vs):∃v u,vs=[v,u]/\RV G a v/\RV G b u:=by
 obtain⟨v,r,rfl,h1,h2⟩:=h;obtain⟨u,rfl,h3⟩:=iK h2;exact⟨v,u,rfl,h1,h3⟩
noncomputable def pY(Z:Om)(x:AV):Option Nat:=match iI x with
 |some xs=>some xs.length
 |none=>(c0 Z x).map List.length
noncomputable def Ho:AC:=fun xs Z Q=>∃x n,xs=[x]/\pY Z x=some n/\Q (.d (.int n)) Z
theorem mf{K:W.Frag}:mj (fun xs H Q=>∃x n,xs=[x]/\Cm K x H n/\Q (.int n) H) Ho:=⟨fun F H Z vs xs Q Q' rp rv ⟨x,n,e1,e2,q⟩ k=>by
 subst e1;obtain⟨v,rfl,r⟩:=iK rv;refine⟨v,n,rfl,?_,k.int rp q⟩;unfold pY at e2
 cases z:iI x with
 |some xs=>
  rw[z] at e2;cases e2;obtain⟨a,us,rfl,q1,q2⟩:=xC r z;exact .inr ⟨us,.inl (.inl (aS _ _ q1)),q2.length.symm⟩
 |none=>
  rw[z] at e2;simp only[Option.map_eq_some_iff] at e2;obtain⟨ys,e3,rfl⟩:=e2;obtain⟨a,us,rfl,q1,q2⟩:=f6 rp r e3
  exact .inl ⟨us,.inl (.inl q1),q2.length.symm⟩⟩
noncomputable def aF1(f:Int->Int):AC:=fun xs Z Q=>∃i,xs=[.d (.int i)]/\Q (.d (.int (f i))) Z
theorem Fy{f:Int->Int}:mj (fun xs H Q=>∃i,xs=[.int i]/\Q (.int (f i)) H) (aF1 f):=⟨fun F H Z vs xs Q Q' rp rv ⟨i,e1,q⟩ k=>by
 subst e1;obtain⟨v,rfl,r1⟩:=iK rv
 exact⟨i,by rw[bo r1],k.int rp q⟩⟩
noncomputable def xw:D->Option Int
 |.int i=>some i
 |.bl k=>some (if k then 1 else 0)
 |_=>none
noncomputable def Gz:AC:=fun xs Z Q=>∃d i,xs=[.d d]/\xw d=some i/\Q (.d (.int i)) Z
theorem vO:mj (fun xs H Q=>(∃i,xs=[.int i]/\Q (.int i) H)\/∃k,xs=[.bl k]/\Q (.int (if k then 1 else 0)) H) Gz:=⟨fun F H Z vs xs Q Q' rp rv ⟨d,i,e1,e2,q⟩ k=>by
 subst e1;obtain⟨v,rfl,r1⟩:=iK rv
 cases d with
 |int j=>simp only[xw,Option.some.injEq] at e2;subst e2;exact .inl ⟨_,by rw[bo r1],k.int rp q⟩
 |bl j=>simp only[xw,Option.some.injEq] at e2;subst e2;exact .inr ⟨j,by rw[DJ r1],k.int rp q⟩
 |_=>cases e2⟩
noncomputable def AW:AC:=fun xs Z Q=>∃x ds,xs=[x]/\(bL Z x=some (.lst ds)\/x=.d (.tup ds))/\Q (.d (.tup ds)) Z
theorem wf{K:W.Frag}:mj (fun xs H Q=>∃p ys,xs=[.ref p]/\((SqL K H p ys/\∀l,H l=none->Q (.ref l) (upd H l (.tup ys)))\/(SqT K H p ys/\Q (.ref p) H))) AW:=⟨fun F H Z vs xs Q Q' rp rv ⟨x,ds,e1,e2,q⟩ k=>by
 subst e1;obtain⟨v,rfl,r1⟩:=iK rv;rcases e2 with e2|rfl
 ·obtain⟨a,us,rfl,q1,q2⟩:=gA rp r1 e2
  exact⟨a,us,rfl,.inl ⟨.inl (.inl q1),k.tup rp q2 q⟩⟩
 ·have r2:=r1
  simp only[RV,Dat] at r2;obtain⟨a,us,rfl,q1,q2⟩:=r2
  exact⟨a,us,rfl,.inr ⟨.inl (.inl (aS _ _ q1)),k _ Z _ H rp .refl r1 q⟩⟩⟩
noncomputable def iL(lo:Int)(n:Nat):List AV:=(List.range n).map fun i=>AV.d (.int (lo+(i:Nat)))
noncomputable def zB(ta:AA):AI:=fun ρ Z R=>ta ρ Z fun xs Z1=>∃j:Int,xs=[.d (.int j)]/\-(2^62)<=j/\j<2^62/\R (iL 0 j.toNat) Z1
noncomputable def yA(ta:AA):AI:=fun ρ Z R=>ta ρ Z fun xs Z1=>∃i j:Int,xs=[.d (.int i),.d (.int j)]/\(-(2^62)<=i/\i<2^62/\-(2^62)<=j/\j<2^62)/\R (iL i (j-i).toNat) Z1
section
variable{te:TE}{te':AE}{ta:TA}{ta':AA}{K:W.Frag}
theorem Cb{G:Hp}{ds:List D}{a:Addr}(h:Dat G (.lst ds) (.ref a)):xL G (ds.map AV.d) (Itl K a):=fun F H Z rp s=>by
 have h2:=h.same s;simp only[Dat] at h2;obtain⟨_,vs,e,ha,hd⟩:=h2;cases e;have hq:SqL K H a vs:=.inl (.inl (aS _ _ ha));have hl:=hd.length;refine⟨⟨vs,hq,by simp;omega⟩,fun i x hx=>?_⟩
 obtain⟨v,e1,e2⟩:=(RVs.dats.mpr hd).get hx;refine⟨⟨vs,v,hq,e1⟩,fun y H' hy=>?_⟩;obtain⟨rfl,hy⟩:=hy;have:=hy vs hq;rw[e1] at this;cases this;exact⟨rp,.refl,e2⟩
theorem EY{G:Hp}{ds:List D}{a:Addr}(h:Dat G (.tup ds) (.ref a)):xL G (ds.map AV.d) (Itt K a):=fun F H Z rp s=>by
 have h2:=h.same s;simp only[Dat] at h2;obtain⟨_,vs,e,ha,hd⟩:=h2;cases e;have hq:SqT K H a vs:=.inl (.inl (aS _ _ ha));have hl:=hd.length;refine⟨⟨vs,hq,by simp;omega⟩,fun i x hx=>?_⟩
 obtain⟨v,e1,e2⟩:=(RVs.dats.mpr hd).get hx;refine⟨⟨vs,v,hq,e1⟩,fun y H' hy=>?_⟩;obtain⟨rfl,hy⟩:=hy;have:=hy vs hq;rw[e1] at this;cases this;exact⟨rp,.refl,e2⟩
theorem kr{G:Hp}{ds:List D}{v:V}(h:Dat G (.lst ds) v):∃a vs,v=.ref a/\G a=some (.lst vs):=by
 simp only[Dat] at h;obtain⟨a,vs,e,h,_⟩:=h;exact⟨a,vs,e,h⟩
theorem kb{G:Hp}{ds:List D}{v:V}(h:Dat G (.tup ds) v):∃a vs,v=.ref a/\G a=some (.tup vs):=by
 simp only[Dat] at h;obtain⟨a,vs,e,h,_⟩:=h;exact⟨a,vs,e,h⟩
theorem Au{G:Hp}{lo:Int}{n:Nat}:xL G (iL lo n) (Itr lo n):=fun F H Z rp s=>by
 refine⟨by simp[iL,Itr],fun i x hx=>?_⟩
 unfold iL at hx;rw[List.getElem?_map] at hx;by_cases hi:i<n
 ·rw[List.getElem?_range hi] at hx
  simp only[Option.map_some,Option.some.injEq] at hx;subst hx;refine⟨hi,fun y H' hy=>?_⟩;obtain⟨rfl,rfl⟩:=hy;exact⟨rp,.refl,by simp[RV,Dat]⟩
 ·rw[List.getElem?_eq_none (by simp;omega)] at hx
  cases hx
theorem pZ(h:gM ta ta'):uf (Do ta) (zB ta'):=⟨fun F H Z σ ρ R R' rp rs w k=>h.go rp rs w fun xs Z1 vs H1 rp1 fr1 rs1 rv ⟨j,e,h1,h2,q⟩=>by
 subst e;obtain⟨v,rfl,r⟩:=iK rv
 exact⟨j,by rw[bo r],h1,h2,k _ Z1 _ H1 rp1 fr1 Au q⟩⟩
theorem El(h:gM ta ta'):uf (DL ta) (yA ta'):=⟨fun F H Z σ ρ R R' rp rs w k=>h.go rp rs w fun xs Z1 vs H1 rp1 fr1 rs1 rv ⟨i,j,e,h1,q⟩=>by
 subst e;obtain⟨v,u,rfl,r,r2⟩:=EJ rv
 exact⟨i,j,by rw[bo r,bo r2],h1,k _ Z1 _ H1 rp1 fr1 Au q⟩⟩
noncomputable def Cp:D->Option (List D)
 |.tup ds=>some ds
 |.lst ds=>some ds
 |_=>none
end
noncomputable def CQ(n:Nat)(t:AGs):AG:=fun v ρ Z Q=>∃ds,v=.d (.tup ds)/\ds.length=n/\t (ds.map AV.d) ρ Z Q
noncomputable def DI(n:Nat)(t:AGs):AG:=fun v ρ Z Q=>∃xs,c0 Z v=some xs/\xs.length=n/\t xs ρ Z Q
noncomputable def DE(to ti:AE):AG:=fun v ρ Z Q=>to ρ Z fun o Z1=>ti ρ Z1 fun i Z2=>∃l k xs j,o=.r (.ref l)/\i=.d (.int k)/\Z2 l=some (.own xs)/\ixN xs.length k=some j/\Q ρ (Z2.put l (.own (xs.set j v)))
section
variable{K:W.Frag}{n:Nat}{gs:TGs}{gs':AGs}{to ti:TE}{to' ti':AE}
theorem D2(h:re gs gs'):kU (Fe K n gs) (CQ n gs'):=⟨fun F H Z σ ρ v a Q Q' rp rs rv ⟨ds,e,hn,q⟩ k=>by
 subst e;simp only[RV,Dat] at rv;obtain⟨b,vs,rfl,h1,h2⟩:=rv
 exact⟨b,vs,rfl,.inl (.inl (aS _ _ h1)),by rw[h2.length];exact hn,h.run F H Z σ ρ vs _ Q Q' rp rs (RVs.dats.mpr h2) q k⟩⟩
theorem GG(h:re gs gs'):kU (Go K n gs) (DI n gs'):=⟨fun F H Z σ ρ v a Q Q' rp rs rv ⟨xs,e,hn,q⟩ k=>by
 obtain⟨b,vs,rfl,h1,h2⟩:=f6 rp rv e
 exact⟨b,vs,rfl,.inl (.inl h1),by rw[h2.length];exact hn,h.run F H Z σ ρ vs _ Q Q' rp rs h2 q k⟩⟩
theorem yZ(ho:a9 to to')(hi:a9 ti ti'):kU (GU to ti DR) (DE to' ti'):=⟨fun F H Z σ ρ v a Q Q' rp rs rv w k=>
 ho.go rp rs w fun x Z1 u H1 rp1 fr1 rs1 rv1 q1=>hi.go rp1 rs1 q1 fun y Z2 u2 H2 rp2 fr2 rs2 rv2 ⟨l,j,xs,i,e1,e2,e3,e4,q⟩=>by
  subst e1 e2;have e5:u=.ref l:=rv1;obtain⟨vs,z1,z2⟩:=rp2.own l xs e3;have rv':=rv.same (fr1.trans fr2).same;obtain⟨rp3,fr3⟩:=rp2.write e3 (z2.set i rv');have fr:=(fr1.trans fr2).trans fr3
  exact⟨l,vs,j,i,e5,bo rv2,z1,by rw[z2.length];exact e4,k ρ _ σ _ rp3 fr (rs.same fr.same) q⟩⟩
end
noncomputable def bC{α:Type}(xs:List α)(lo hi:Option Int):List α:=(xs.drop (HT.sIx xs.length 0 lo)).take (HT.sIx xs.length xs.length hi-HT.sIx xs.length 0 lo)
noncomputable abbrev AO:=SA->Om->(Option Int->Om->Prop)->Prop
noncomputable def yD:AO:=fun _ Z Q=>Q none Z
noncomputable def Ar(t:AE):AO:=fun ρ Z Q=>t ρ Z fun x Z1=>∃i,x=.d (.int i)/\Q (some i) Z1
theorem aE.cut{G:Hp}{ds:List D}{vs:List V}{lo hi:Option Int}(h:aE G ds vs):aE G (bC ds lo hi) (ka vs lo hi):=by
 unfold bC ka;rw[h.length];exact(h.drop _).take _
section
variable{K:W.Frag}{te ts:TE}{te' ts':AE}{tl th:TO}{tl' th':AO}
theorem bT:Ref REq wG yD:=⟨fun F H Z σ ρ Q Q' rp rs w k=>k none Z none H rp .refl rfl w⟩
theorem bA(h:a9 te te'):Ref REq (C6 te) (Ar te'):=⟨fun F H Z σ ρ Q Q' rp rs w k=>h.go rp rs w fun x Z1 v H1 rp1 fr1 rs1 rv ⟨i,e,q⟩=>by
 subst e;exact⟨i,bo rv,k _ Z1 _ H1 rp1 fr1 rfl q⟩⟩
noncomputable def Gc(te:AE):AE:=fun ρ Z Q=>te ρ Z fun x Z1=>∃ds,bL Z1 x=some (.lst ds)/\Q (.d (.lst ds.reverse)) Z1
theorem aE.rev{G:Hp}:∀ {ds:List D} {vs:List V},aE G ds vs->aE G ds.reverse vs.reverse
 | [],_,h=>by simp only[aE] at h;subst h;simp[aE]
 |d::ds,vs,h=>by
  simp only[aE] at h;obtain⟨x,r,rfl,h1,h2⟩:=h;simp only[List.reverse_cons];exact h2.rev.append (.one h1)
theorem Hs(he:a9 te te'):a9 (GD K te (tUn (rU fun i=>.int (-i)) (tC (.int 1)))) (Gc te'):=⟨fun F H Z σ ρ Q Q' rp rs w k=>
 he.go rp rs w fun x Z1 v H1 rp1 fr1 rs1 rv1 ⟨ds,e,q⟩=>⟨1,rfl,rfl,by
  obtain⟨a,vs,rfl,z1,z2⟩:=gA rp1 rv1 e
  exact⟨a,vs,rfl,.inl (.inl z1),(k.fr fr1).lst rp1 z2.rev q⟩⟩⟩
end
noncomputable def uE(to:AE)(t:AA):AE:=fun ρ Z Q=>to ρ Z fun x Z1=>∃l,x=.r (.ref l)/\(∃zs,Z1 l=some (.own zs))/\t ρ Z1 fun ys Z2=>∃xs y,ys=[y]/\Z2 l=some (.own xs)/\xs.length<sizeLine/\Q (.d .non) (Z2.put l (.own (xs++[y])))
noncomputable def AZ(to:AE):AE:=fun ρ Z Q=>to ρ Z fun x Z1=>∃l xs y,x=.r (.ref l)/\Z1 l=some (.own xs)/\xs[xs.length-1]?=some y/\Q y (Z1.put l (.own xs.dropLast))
section
variable{K:W.Frag}{to:TE}{to':AE}{t:TA}{t':AA}
theorem rR(ho:a9 to to')(ht:gM t t'):a9 (tBM K "list" oW to t) (uE to' t'):=⟨fun F H Z σ ρ Q Q' rp rs w k=>
 ho.go rp rs w fun x Z1 v H1 rp1 fr1 rs1 rv1 ⟨l,e,⟨zs,hz⟩,q1⟩=>by
  subst e;cases (show v=.ref l from rv1)
  obtain⟨us,z1,_⟩:=rp1.own l zs hz;refine⟨.inl ⟨rfl,us,.inl (.inl z1)⟩,ht.go rp1 rs1 q1 fun ys Z2 vs H2 rp2 fr2 rs2 rv2 ⟨xs,y,e1,e2,e3,q⟩=>?_⟩;subst e1;obtain⟨u,rfl,r⟩:=iK rv2;obtain⟨ws,z3,z4⟩:=rp2.own l xs e2;obtain⟨rp3,fr3⟩:=rp2.write e2 (z4.append (.one r))
  exact⟨l,ws,u,rfl,rfl,z3,by rw[z4.length];exact e3,k _ _ _ _ rp3 ((fr1.trans fr2).trans fr3) (by simp[RV,Dat]) q⟩⟩
theorem qA(ho:a9 to to'):a9 (Fh K "list" GF to) (AZ to'):=⟨fun F H Z σ ρ Q Q' rp rs w k=>
 ho.go rp rs w fun x Z1 v H1 rp1 fr1 rs1 rv1 ⟨l,xs,y,e,hz,hy,q⟩=>by
  subst e;cases (show v=.ref l from rv1)
  obtain⟨us,z1,z2⟩:=rp1.own l xs hz;obtain⟨u,z3,z4⟩:=z2.get hy;obtain⟨rp3,fr3⟩:=rp1.write hz z2.dropLast
  exact⟨.inl ⟨rfl,us,.inl (.inl z1)⟩,l,us,u,rfl,rfl,z1,by rw[z2.length];exact z3,k y _ u _ rp3 (fr1.trans fr3) (z4.same fr3.same) q⟩⟩
end
noncomputable def tyD:D->String
 |.non=>"NoneType"|.bl _=>"bool"|.int _=>"int"|.str _=>"str"|.tup _=>"tuple"|.lst _=>"list"|.dk _=>"dict"|.dt _=>"dict"
noncomputable def isD(T:String)(d:D):Bool:=tyD d == T || (tyD d == "bool" && T == "int")
noncomputable def Hf:AC:=fun xs Z Q=>∃x d T,xs=[x,.r (.ty T)]/\bL Z x=some d/\T∈kF/\Q (.d (.bl (isD T d))) Z
theorem GS{H:Hp}{d:D}{v:V}(h:Dat H d v):f9 H v=some (tyD d):=by
 cases d<;>simp only[Dat] at h
 all_goals first
  |(subst h;rfl)
  |(obtain⟨a,xs,rfl,h,_⟩:=h;simp[f9,h,tyD])
theorem CN:mj (fun xs H Q=>∃x T,xs=[x,.ty T]/\T∈kF/\(f9 H x).isSome=true/\Q (.bl (isA H x T)) H) Hf:=⟨fun F H Z vs xs Q Q' rp rv ⟨x,d,T,e1,e2,e3,q⟩ k=>by
 subst e1;obtain⟨v,u,rfl,r1,r2⟩:=EJ rv;cases (show u=.ty T from r2)
 have ht:=GS (jk rp r1 e2);refine⟨v,T,rfl,e3,by rw[ht];rfl,?_⟩
 have:isA H v T=isD T d:=by simp[isA,ht,isD]
 rw[this]
 exact k.bl rp q⟩
noncomputable def G0:A2:=fun x y Z Q=>∃ds es,bL Z x=some (.lst ds)/\bL Z y=some (.lst es)/\ds.length+es.length<=sizeLine/\Q (.d (.lst (ds++es))) Z
theorem EB:dv tU G0:=⟨fun F H Z v u x y Q Q' rp h1 h2 ⟨ds,es,e1,e2,z,q⟩ k=>by
 obtain⟨a,vs,rfl,z1,z2⟩:=gA rp h1 e1;obtain⟨b,us,rfl,z3,z4⟩:=gA rp h2 e2
 exact⟨a,b,vs,us,rfl,rfl,z1,z3,by rw[z2.length,z4.length];exact z,k.lst rp (z2.append z4) q⟩⟩
noncomputable def mU:A2:=fun x y Z Q=>∃xs ys,c0 Z x=some xs/\c0 Z y=some ys/\xs.length+ys.length<=sizeLine/\∀p,Z p=none->Q (.r (.ref p)) (Z.put p (.own (xs++ys)))
theorem Cn:dv tU mU:=⟨fun F H Z v u x y Q Q' rp h1 h2 ⟨ds,es,e1,e2,z,q⟩ k=>by
 obtain⟨a,vs,rfl,z1,z2⟩:=f6 rp h1 e1;obtain⟨b,us,rfl,z3,z4⟩:=f6 rp h2 e2
 exact⟨a,b,vs,us,rfl,rfl,z1,z3,by rw[z2.length,z4.length];exact z,k.own rp (z2.append z4) q⟩⟩
noncomputable def Ap:A2:=fun x y Z Q=>∃ds k,bL Z x=some (.lst ds)/\y=.d (.int k)/\-(2^63)<=k/\k<2^63/\ds.length*k.toNat<=sizeLine/\Q (.d (.lst (List.replicate k.toNat ds).flatten)) Z
theorem aE.rep{G:Hp}{ds:List D}{vs:List V}(h:aE G ds vs):∀n:Nat,aE G (List.replicate n ds).flatten (List.replicate n vs).flatten
 |0=>by simp[aE]
 |n+1=>by
  simp only[List.replicate_succ,List.flatten_cons];exact h.append (h.rep n)
theorem Fv:dv BB Ap:=⟨fun F H Z v u x y Q Q' rp h1 h2 ⟨ds,k',e1,e2,b1,b2,z,q⟩ k=>by
 subst e2;obtain⟨a,vs,rfl,z1,z2⟩:=gA rp h1 e1
 exact⟨a,k',vs,rfl,bo h2,z1,b1,b2,by rw[z2.length];exact z,k.lst rp (z2.rep _) q⟩⟩
section
variable{X:Cx}{tg:Expr}
noncomputable def sW:D->Bool
 |.str _=>false
 |_=>true
theorem jb(hg:X.A.guards=some [])(hu:X.A.units+100<cLine):eh X (.builtin "repr") (fun xs H Q=>∃(x:V)(d:D),xs=[x]/\Dat H d x/\sW d=true/\dep d<=90/\fit d=true/\wt d<=1000000/\Q (.str (jJ d)) H):=by
 intro pins s σ H xs us Q I r h;obtain⟨x,d,rfl,hd,hs,hdp,hf,hw,q⟩:=h;obtain⟨u,rfl,ru⟩:=iQ r
 cases d with
 |non=>
  simp only[Dat] at hd;subst hd;cases (show u=Value.none from ru)
  exact PySem.P.repr_of_none ⟨.str (jJ .non),H,I.tok _,⟨_,rfl⟩,q⟩
 |bl b=>
  simp only[Dat] at hd;subst hd;cases (show u=Value.bool b from ru)
  exact PySem.P.repr_of_bool ⟨.str (jJ (.bl b)),H,I.tok _,⟨_,by cases b<;>rfl⟩,q⟩
 |int i=>
  simp only[Dat] at hd;subst hd;obtain⟨t,rfl⟩:=ru;exact PySem.P.repr_of_int (by simpa[fit] using hf) ⟨.str (jJ (.int i)),H,I.tok _,⟨_,rfl⟩,q⟩
 |str b=>cases hs
 |dk b=>simp[dep] at hdp
 |dt b=>simp[dep] at hdp
 |tup ds=>
  obtain⟨a,_,rfl,_⟩:=kb hd;exact lX hg hu pins s σ H [.ref a] [u] Q I r ⟨a,_,rfl,hd,hdp,hf,hw,q⟩
 |lst ds=>
  obtain⟨a,_,rfl,_⟩:=kr hd;exact lX hg hu pins s σ H [.ref a] [u] Q I r ⟨a,_,rfl,hd,hdp,hf,hw,q⟩
noncomputable def rOr(r1 r2:R2):R2:=fun x y H Q=>r1 x y H Q\/r2 x y H Q
theorem ar{f:Value->Value->Sem Value}{r1 r2:R2}(h1:OpR X f r1)(h2:OpR X f r2):OpR X f (rOr r1 r2):=fun pins s σ H x y v u Q I rx ry h=>by
 rcases h with h|h
 ·exact h1 pins s σ H x y v u Q I rx ry h
 ·exact h2 pins s σ H x y v u Q I rx ry h
noncomputable def ke(K:W.Frag):V->Option Int->Option Int->Hp->VK->Prop:=fun x lo hi H Q=>Hu K x lo hi H Q\/vE K x lo hi H Q
theorem gT(K:W.Frag)(hK:X.K=K):SlR X (ke K):=by
 subst hK;intro pins s σ H x v vl vu lo hi sl Q I rx hs pl pu h;rcases h with h|h
 ·exact Bn pins s σ H x v vl vu lo hi sl Q I rx hs pl pu h
 ·exact wq pins s σ H x v vl vu lo hi sl Q I rx hs pl pu h
noncomputable def F8(K:W.Frag)(tl:TE):TI:=fun σ H R=>tl σ H fun x H1=>(∃a,x=.ref a/\(∃xs,SqL K H1 a xs)/\R (Itl K a) H1)\/∃a,x=.ref a/\(∃xs,SqT K H1 a xs)/\R (Itt K a) H1
theorem mI(K:W.Frag)(hK:X.K=K){l:Expr}{tl:TE}(hl:PE X l tl):PI X tg l (F8 K tl):=by
 subst hK;intro pins s σ H R I h;refine thn (hl pins s σ H _ I h) fun v s1 ⟨x,H1,I1,r1,q1⟩=>?_;rcases q1 with q1|q1
 ·obtain⟨a,e,⟨xs,hq⟩,q⟩:=q1
  subst e;cases r1;obtain⟨its,rv,p,hz⟩:=I1.list hq;refine wpAny_pyIter_list p.isList ?_;refine⟨s1.heap.objs.size,[s1.heap.objs.size],_,_,H1,rfl,I1.kept (t':=s1.toks) fun b o e=>Heap.get?_push_of_some _ e,wI a _,⟨_,Heap.get?_push_size _ rfl,rfl,rfl⟩,fun b hb=>?_,q⟩;have e:b=s1.heap.objs.size:=by simpa using hb
  subst e;exact I1.IS (Nat.le_refl _) (I1.hok.fresh (Nat.le_refl _))
 ·obtain⟨a,e,⟨xs,hq⟩,q⟩:=q1
  subst e;cases r1;obtain⟨its,rv,p,hz⟩:=I1.tuple hq;refine wpAny_pyIter_tuple (show s1.heap.IsTuple a its.toArray from p) ?_
  refine⟨s1.heap.objs.size,[s1.heap.objs.size],_,_,H1,rfl,I1.kept (t':=s1.toks) fun b o e=>Heap.get?_push_of_some _ e,um a _,⟨_,Heap.get?_push_size _ rfl,rfl,rfl⟩,fun b hb=>?_,q⟩;have e:b=s1.heap.objs.size:=by simpa using hb
  subst e;exact I1.IS (Nat.le_refl _) (I1.hok.fresh (Nat.le_refl _))
noncomputable def Dl(K:W.Frag)(ta tb:TE):TE:=fun σ H Q=>ta σ H fun x H1=>∃c,t6 K x H1 c/\if c=true then tb σ H1 Q else Q x H1
variable{a b:Expr}{bO:List Expr}{pos:Pos}{ta tb:TE}
theorem B3(K:W.Frag)(hK:X.K=K)(ha:PE X a ta)(hb:PE X (.BoolOp .And (b::bO) pos) tb):PE X (.BoolOp .And (a::b::bO) pos) (Dl K ta tb):=.mk <| by
 subst hK;intro pins s σ H Q I h;refine BoolOp_and (thn (ha pins s σ H _ I h) fun v s1 ⟨x,H1,I1,r1,q1⟩=>?_);refine thn (yi pins s1 σ H1 x v (fun c H2=>H2=H1/\if c=true then tb σ H1 Q else Q x H1) I1 r1 ?_) fun c s2 ⟨H2,I2,e,q2⟩=>?_
 ·obtain⟨c,hc,q⟩:=q1
  exact⟨c,hc,rfl,q⟩
 ·subst e
  cases c with
  |true=>rw[if_pos rfl] at q2;exact hb pins s2 σ H2 Q I2 q2
  |false=>rw[if_neg Bool.false_ne_true] at q2;exact⟨x,H2,I2,r1,q2⟩
end
noncomputable def CG(ta tb:AE):AE:=fun ρ Z Q=>ta ρ Z fun x Z1=>∃c,gH Z1 x=some c/\if c=true then tb ρ Z1 Q else Q x Z1
noncomputable def aSl(te:AE)(tl th:AO):AE:=fun ρ Z Q=>te ρ Z fun x Z1=>tl ρ Z1 fun lo Z2=>th ρ Z2 fun hi Z3=>match x with
 |.d (.tup ds)=>Q (.d (.tup (bC ds lo hi))) Z3
 |x=>∃ds,bL Z3 x=some (.lst ds)/\Q (.d (.lst (bC ds lo hi))) Z3
noncomputable def DA(te:AE):AI:=fun ρ Z R=>te ρ Z fun x Z1=>yT Z1 x fun d Z2=>∃ds,Cp d=some ds/\R (ds.map AV.d) Z2
noncomputable def sX:A2:=fun x y Z Q=>match x with
 |.d (.int i)=>∃j,y=.d (.int j)/\Q (.d (.int (i+j))) Z
 |.d (.tup ds)=>∃es,y=.d (.tup es)/\ds.length+es.length<=sizeLine/\Q (.d (.tup (ds++es))) Z
 |x=>∃ds es,bL Z x=some (.lst ds)/\bL Z y=some (.lst es)/\ds.length+es.length<=sizeLine/\Q (.d (.lst (ds++es))) Z
noncomputable def FQ:A2:=fun x y Z Q=>match x with
 |.d (.int i)=>∃j,y=.d (.int j)/\m8 i j/\Q (.d (.int (i*j))) Z
 |x=>Ap x y Z Q
section
variable{K:W.Frag}{te ta tb:TE}{te' ta' tb':AE}{tl th:TO}{tl' th':AO}{sa:TA}{sa':AA}
theorem Fn(ha:a9 ta ta')(hb:a9 tb tb'):a9 (Dl K ta tb) (CG ta' tb'):=⟨fun F H Z σ ρ Q Q' rp rs h k=>
 ha.go rp rs h fun x Z1 v H1 rp1 fr1 rs1 rv1 ⟨c,e,q⟩=>⟨c,Av rp1 rv1 e,by
  cases c with
  |false=>rw[if_neg Bool.false_ne_true] at q ⊢;exact k x Z1 v H1 rp1 fr1 rv1 q
  |true=>rw[if_pos rfl] at q ⊢;exact hb.run F H1 Z1 σ ρ Q Q' rp1 rs1 q (k.fr fr1)⟩⟩
theorem xA(he:a9 te te')(hl:Ref REq tl tl')(hh:Ref REq th th'):a9 (tSl (ke K) te tl th) (aSl te' tl' th'):=⟨fun F H Z σ ρ Q Q' rp rs w k=>
 he.go rp rs w fun x Z1 v H1 rp1 fr1 rs1 rv1 q1=>hl.go rp1 rs1 q1 fun lo Z2 lo' H2 rp2 fr2 rs2 e2 q2=>hh.go rp2 rs2 q2 fun hi Z3 hi' H3 rp3 fr3 rs3 e3 q=>by
  cases (show lo=lo' from e2)
  cases (show hi=hi' from e3)
  have r:=rv1.same (fr2.trans fr3).same;have k3:=k.fr ((fr1.trans fr2).trans fr3)
  have ls:(∃ds,bL Z3 x=some (.lst ds)/\Q' (.d (.lst (bC ds lo hi))) Z3)->ke K v lo hi H3 Q:=fun⟨ds,e,q⟩=>by
   obtain⟨a,vs,rfl,z1,z2⟩:=gA rp3 r e;exact .inl ⟨a,vs,rfl,.inl (.inl z1),k3.lst rp3 z2.cut q⟩
  cases x with
  |d x=>cases x with
   |tup ds=>
    refine .inr ?_;have r':=r;simp only[RV,Dat] at r;obtain⟨a,vs,rfl,z1,z2⟩:=r;refine⟨a,vs,rfl,.inl (.inl (aS _ _ z1)),?_⟩;by_cases hw:HT.sIx vs.length 0 lo=0/\HT.sIx vs.length vs.length hi=vs.length
    ·rw[if_pos hw]
     have:bC ds lo hi=ds:=by
      unfold bC;rw[←z2.length,hw.1,hw.2,List.drop_zero,Nat.sub_zero,z2.length,List.take_length]
     replace q:Q' (.d (.tup (bC ds lo hi))) Z3:=q
     rw[this] at q;exact k3 _ Z3 _ H3 rp3 .refl r' q
    ·rw[if_neg hw]
     exact k3.tup rp3 z2.cut q
   |_=>exact ls q
  |_=>exact ls q⟩
theorem rB(h:a9 te te'):uf (F8 K te) (DA te'):=⟨fun F H Z σ ρ R R' rp rs w k=>h.go rp rs w fun x Z1 v H1 rp1 fr1 rs1 rv q=>by
 obtain⟨d,Z2,rp2,fr2,hd,ds,hs,q2⟩:=Fp rp1 rv q
 cases d with
 |lst es=>
  cases hs;obtain⟨a,vs,rfl,ha⟩:=kr hd;exact .inl ⟨a,rfl,⟨vs,.inl (.inl (aS _ _ ha))⟩,k _ Z2 _ H1 rp2 (fr1.trans fr2) (Cb hd) q2⟩
 |tup es=>
  cases hs;obtain⟨a,vs,rfl,ha⟩:=kb hd;exact .inr ⟨a,rfl,⟨vs,.inl (.inl (aS _ _ ha))⟩,k _ Z2 _ H1 rp2 (fr1.trans fr2) (EY hd) q2⟩
 |_=>cases hs⟩
theorem bS:dv (rOr (rI0 fun i j=>.int (i+j)) (rOr nC tU)) sX:=⟨fun F H Z v u x y Q Q' rp h1 h2 q k=>by
 have ls:(∃ds es,bL Z x=some (.lst ds)/\bL Z y=some (.lst es)/\ds.length+es.length<=sizeLine/\Q' (.d (.lst (ds++es))) Z)->rOr (rI0 fun i j=>.int (i+j)) (rOr nC tU) v u H Q:=fun q=>
  .inr (.inr (EB.run F H Z v u x y Q Q' rp h1 h2 q k))
 cases x with
 |d x=>cases x with
  |int i=>
   obtain⟨j,rfl,q⟩:=q;exact .inl ⟨i,j,bo h1,bo h2,k.int rp q⟩
  |tup ds=>
   obtain⟨es,rfl,z,q⟩:=q;exact .inr (.inl (yO.run F H Z v u _ _ Q Q' rp h1 h2 ⟨ds,es,rfl,rfl,z,q⟩ k))
  |_=>exact ls q
 |_=>exact ls q⟩
theorem lD:dv (rOr (rI m8 fun i j=>.int (i*j)) BB) FQ:=⟨fun F H Z v u x y Q Q' rp h1 h2 q k=>by
 have ls:Ap x y Z Q'->rOr (rI m8 fun i j=>.int (i*j)) BB v u H Q:=fun q=>.inr (Fv.run F H Z v u x y Q Q' rp h1 h2 q k)
 cases x with
 |d x=>cases x with
  |int i=>
   obtain⟨j,rfl,c,q⟩:=q;exact .inl ⟨i,j,bo h1,bo h2,c,k.int rp q⟩
  |_=>exact ls q
 |_=>exact ls q⟩
end
noncomputable def Du:A2:=fun x y Z Q=>match x with
 |.d (.int i)=>∃j,y=.d (.int j)/\Q (.d (.int (i+j))) Z
 |.d (.tup ds)=>∃es,y=.d (.tup es)/\ds.length+es.length<=sizeLine/\Q (.d (.tup (ds++es))) Z
 |x=>mU x y Z Q
theorem EF:dv (rOr (rI0 fun i j=>.int (i+j)) (rOr nC tU)) Du:=⟨fun F H Z v u x y Q Q' rp h1 h2 q k=>by
 have ls:mU x y Z Q'->rOr (rI0 fun i j=>.int (i+j)) (rOr nC tU) v u H Q:=fun q=>.inr (.inr (Cn.run F H Z v u x y Q Q' rp h1 h2 q k))
 cases x with
 |d x=>cases x with
  |int i=>
   obtain⟨j,rfl,q⟩:=q;exact .inl ⟨i,j,bo h1,bo h2,k.int rp q⟩
  |tup ds=>
   obtain⟨es,rfl,z,q⟩:=q;exact .inr (.inl (yO.run F H Z v u _ _ Q Q' rp h1 h2 ⟨ds,es,rfl,rfl,z,q⟩ k))
  |_=>exact ls q
 |_=>exact ls q⟩
noncomputable def vD:V->Option D
 |.non=>some .non
 |.bl b=>some (.bl b)
 |.int i=>some (.int i)
 |.str x=>some (.str x)
 |_=>none
noncomputable def Dt(kvs:List (Str×V))(ty:AE):AE:=fun ρ Z Q=>ty ρ Z fun y Z1=>∃x v d,y=.d (.str x)/\gJ kvs x=some v/\vD v=some d/\Q (.d d) Z1
theorem Eb{kvs:List (Str×V)}{a:Addr}{ty:TE}{ty':AE}(h:a9 ty ty'):a9 (DB kvs (tC (.ref a)) ty) (Dt kvs ty'):=⟨fun F H Z σ ρ Q Q' rp rs w k=>h.go rp rs w fun y Z1 u H1 rp1 fr1 rs1 rv ⟨x,v,d,e1,e2,e3,q⟩=>by
 subst e1;refine⟨x,v,cu rv,e2,?_⟩;refine k (.d d) Z1 v H1 rp1 fr1 ?_ q;cases v<;>simp only[vD,Option.some.injEq,reduceCtorEq] at e3
 all_goals (subst e3;simp[RV,Dat])⟩
noncomputable def gk(N:List Str)(xs:List AV):SA:=xs.map some++List.replicate (N.length-xs.length) none
theorem RS.start{G:Hp}{N:List Str}{xs:List AV}{vs:List V}(h:RVs G xs vs):RS G (gk N xs) (start N vs):=by
 refine⟨by simp[gk,L2.start,h.length],fun i a e=>?_⟩
 unfold gk at e;unfold L2.start;by_cases hi:i<xs.length
 ·rw[List.getElem?_append_left (by simpa using hi),List.getElem?_map] at e
  rw[List.getElem?_append_left (by simpa[h.length] using hi),List.getElem?_map]
  cases z:xs[i]? with
  |none=>rw[z] at e;simp at e
  |some b=>
   rw[z] at e;simp at e;subst e;obtain⟨v,e1,e2⟩:=h.get z;exact⟨v,by rw[e1];rfl,e2⟩
 ·rw[List.getElem?_append_right (by simpa using hi)] at e
  have:=List.mem_of_getElem? e;rw[List.mem_replicate] at this;cases this.2
theorem Fun.okA{P:Program}{w:World}{K:W.Frag}{mg:Str->Option Value}{base:Heap}{x qual:Str}{st:Stmt}{f:Addr}{fd:FuncData}{N ps:List Str}{k:Nat}{sp:ASp}(F:Fun K x qual st f fd)(S:aN N ps (defScope st))(len:∀xs Z Q,sp xs Z Q->xs.length=ps.length)
  (hbody:∀(cdv:Value)(A:Around)(outer:List Env)(s:Shared)(H:Hp)(E:XK),du k (A.deeper (envOfC qual (defScope st) s.heap.objs.size f cdv)) ->
   ∃t t',PSs (fW CX0 P w K mg base N qual (defScope st) f cdv A outer s H E).nox (defBody st) t/\fD t t'/\∀xs Z Q',sp xs Z Q'->t' { nx:=fun _ Z'=>Q' (.d .non) Z',rt:=Q' } (gk N xs) Z):aV P w K mg base CX0 (k+1) f fd ps (e9 sp):=by
 refine F.ok S (fun vs H Q E h=>?_) (fun cdv A outer s H vs Q E hr h=>?_)
 ·obtain⟨F,xs,Z,Q',rp,rv,h,_⟩:=h
  rw[rv.length,len xs Z Q' h]
 ·obtain⟨t,t',h1,h2,h3⟩:=hbody cdv A outer s H E hr
  obtain⟨F,xs,Z,Q',rp,rv,h,kq⟩:=h;refine⟨t,h1,h2.run F H Z _ _ _ _ rp (RS.start rv) (h3 xs Z Q' h) ⟨?_,kq,fun _ _ _ _ _ _ _ z=>z.elim,fun _ _ _ _ _ _ _ z=>z.elim⟩⟩;exact fun ρ' Z' σ' H' e1 e2 e3 q=>kq (.d .non) Z' .non H' e1 e2 (by simp[RV,Dat]) q
theorem rE(D:ce)(ρ:SA)(Z:Om):DC D ρ Z=(D.nx ρ Z):=rfl
theorem wg(t u:AS)(D:ce)(ρ:SA)(Z:Om):Ci t u D ρ Z=(t { D with nx:=u D } ρ Z):=rfl
theorem qk(te:AE)(D:ce)(ρ:SA)(Z:Om):C4 te D ρ Z=(te ρ Z fun _ Z1=>D.nx ρ Z1):=rfl
theorem uZ(te:AE)(D:ce)(ρ:SA)(Z:Om):GR te D ρ Z=(te ρ Z D.rt):=rfl
theorem vo(c:AT)(t u:AS)(D:ce)(ρ:SA)(Z:Om):Hl c t u D ρ Z=(c ρ Z fun b Z1=>if b=true then t D ρ Z1 else u D ρ Z1):=rfl
theorem wj(te:AE)(g:AG)(D:ce)(ρ:SA)(Z:Om):Ck te g D ρ Z=(te ρ Z fun x Z1=>g x ρ Z1 D.nx):=rfl
theorem im(i:Nat)(v:AV)(ρ:SA)(Z:Om)(Q:SA->Om->Prop):jZ i v ρ Z Q=(Q (ρ.set i (some v)) Z):=rfl
theorem qc(vs:List AV)(ρ:SA)(Z:Om)(Q:SA->Om->Prop):DZ vs ρ Z Q=(vs=[]/\Q ρ Z):=rfl
theorem oR(t:AG)(u:AGs)(vs:List AV)(ρ:SA)(Z:Om)(Q:SA->Om->Prop):yu t u vs ρ Z Q=(∃v r,vs=v::r/\t v ρ Z fun ρ' Z'=>u r ρ' Z' Q):=rfl
theorem vN(wi:AI)(g:AG)(tb:AS)(D:ce)(ρ:SA)(Z:Om):G3 wi g tb D ρ Z=(wi ρ Z fun as Z1=>iO g tb D as ρ Z1):=rfl
theorem uy(z0:SA)(Z:Om)(Q:Bool->Om->Prop):k6 z0 Z Q=(Q true Z):=rfl
theorem qi(te:AE)(xs:List AV)(ρ:SA)(Z:Om)(K:List AV->SA->Om->Prop):qL te xs ρ Z K=(te ρ Z fun y Z1=>xs.length<sizeLine/\K (xs++[y]) ρ Z1):=rfl
theorem wC(i:Nat)(ρ:SA)(Z:Om)(Q:AV->Om->Prop):Ba i ρ Z Q=(∃a,ρ[i]?=some (some a)/\Q a Z):=rfl
theorem CL(d:D)(z0:SA)(Z:Om)(Q:AV->Om->Prop):aC d z0 Z Q=(Q (.d d) Z):=rfl
theorem zP(r:A2)(ta tb:AE)(ρ:SA)(Z:Om)(Q:AV->Om->Prop):aOp r ta tb ρ Z Q=(ta ρ Z fun x Z1=>tb ρ Z1 fun y Z2=>r x y Z2 Q):=rfl
theorem wz(z0:SA)(Z:Om)(Q:List AV->Om->Prop):GW z0 Z Q=(Q [] Z):=rfl
theorem sE(ta:AE)(tr:AA)(ρ:SA)(Z:Om)(Q:List AV->Om->Prop):C8 ta tr ρ Z Q=(ta ρ Z fun x Z1=>tr ρ Z1 fun xs Z2=>Q (x::xs) Z2):=rfl
theorem vW(t:AA)(ρ:SA)(Z:Om)(Q:AV->Om->Prop):GL t ρ Z Q=(t ρ Z fun xs Z1=>xs.length<=sizeLine/\∃ds,und xs=some ds/\Q (.d (.tup ds)) Z1):=rfl
theorem vB(t:AA)(ρ:SA)(Z:Om)(Q:AV->Om->Prop):HG t ρ Z Q=(t ρ Z fun xs Z1=>xs.length<=sizeLine/\∃ds,und xs=some ds/\Q (.d (.lst ds)) Z1):=rfl
theorem qd(t:AA)(ρ:SA)(Z:Om)(Q:AV->Om->Prop):C5 t ρ Z Q=(t ρ Z fun xs Z1=>xs.length<=sizeLine/\∀p,Z1 p=none->Q (.r (.ref p)) (Z1.put p (.own xs))):=rfl
theorem qH(sp:ASp)(t:AA)(ρ:SA)(Z:Om)(Q:AV->Om->Prop):Dp sp t ρ Z Q=(t ρ Z fun xs Z1=>sp xs Z1 Q):=rfl
theorem qZ(t:AE)(ρ:SA)(Z:Om)(Q:Bool->Om->Prop):Cz t ρ Z Q=(t ρ Z fun x Z1=>∃k,x=.d (.bl k)/\Q k Z1):=rfl
theorem uM(t u:AT)(ρ:SA)(Z:Om)(Q:Bool->Om->Prop):He t u ρ Z Q=(t ρ Z fun c Z1=>if c=true then u ρ Z1 Q else Q false Z1):=rfl
theorem At(t u:AT)(ρ:SA)(Z:Om)(Q:Bool->Om->Prop):aOr t u ρ Z Q=(t ρ Z fun c Z1=>if c=true then Q true Z1 else u ρ Z1 Q):=rfl
theorem wE(t:AT)(ρ:SA)(Z:Om)(Q:Bool->Om->Prop):Gp t ρ Z Q=(t ρ Z fun c Z1=>Q (!c) Z1):=rfl
theorem wx(v:V)(z0:SA)(Z:Om)(Q:AV->Om->Prop):Gr v z0 Z Q=(Q (.r v) Z):=rfl
theorem uU(ta:AE)(ρ:SA)(Z:Om)(Q:Bool->Om->Prop):Hh ta ρ Z Q=(ta ρ Z fun x Z1=>∃k,gH Z1 x=some k/\Q k Z1):=rfl
theorem yX(f:Int->Int->D)(x:AV)(y:AV)(Z:Om)(Q:AV->Om->Prop):aI0 f x y Z Q=(∃i j,x=.d (.int i)/\y=.d (.int j)/\Q (.d (f i j)) Z):=rfl
theorem C2(C:Int->Int->Prop)(f:Int->Int->D)(x:AV)(y:AV)(Z:Om)(Q:AV->Om->Prop):aI C f x y Z Q=(∃i j,x=.d (.int i)/\y=.d (.int j)/\C i j/\Q (.d (f i j)) Z):=rfl
theorem vK(neg:Bool)(x:AV)(y:AV)(Z:Om)(Q:AV->Om->Prop):Hd neg x y Z Q=(∃a b,bL Z x=some a/\bL Z y=some b/\dep a<=100/\Q (.d (.bl (if neg then !eqD a b else eqD a b))) Z):=rfl
theorem zQ(neg:Bool)(x:AV)(y:AV)(Z:Om)(Q:AV->Om->Prop):aIn neg x y Z Q=(∃a b ds,bL Z x=some a/\bL Z y=some b/\(b=.lst ds\/b=.tup ds)/\dR ds<=90/\Q (.d (.bl (if neg then !inD a ds else inD a ds))) Z):=rfl
theorem zy(x:AV)(y:AV)(Z:Om)(Q:AV->Om->Prop):aIx x y Z Q=(∃xs i a,(c0 Z x=some xs\/iI x=some xs)/\y=.d (.int i)/\atI xs i=some a/\Q a Z):=rfl
theorem uL(xs:List AV)(Z:Om)(Q:AV->Om->Prop):Ho xs Z Q=(∃x n,xs=[x]/\pY Z x=some n/\Q (.d (.int n)) Z):=rfl
theorem A8(f:Int->Int)(xs:List AV)(Z:Om)(Q:AV->Om->Prop):aF1 f xs Z Q=(∃i,xs=[.d (.int i)]/\Q (.d (.int (f i))) Z):=rfl
theorem vL(xs:List AV)(Z:Om)(Q:AV->Om->Prop):Gz xs Z Q=(∃d i,xs=[.d d]/\xw d=some i/\Q (.d (.int i)) Z):=rfl
theorem nE(xs:List AV)(Z:Om)(Q:AV->Om->Prop):AW xs Z Q=(∃x ds,xs=[x]/\(bL Z x=some (.lst ds)\/x=.d (.tup ds))/\Q (.d (.tup ds)) Z):=rfl
theorem oq(ta:AA)(ρ:SA)(Z:Om)(R:List AV->Om->Prop):zB ta ρ Z R=(ta ρ Z fun xs Z1=>∃j:Int,xs=[.d (.int j)]/\-(2^62)<=j/\j<2^62/\R (iL 0 j.toNat) Z1):=rfl
theorem oQ(ta:AA)(ρ:SA)(Z:Om)(R:List AV->Om->Prop):yA ta ρ Z R=(ta ρ Z fun xs Z1=>∃i j:Int,xs=[.d (.int i),.d (.int j)]/\(-(2^62)<=i/\i<2^62/\-(2^62)<=j/\j<2^62)/\R (iL i (j-i).toNat) Z1):=rfl
theorem se(n:Nat)(t:AGs)(v:AV)(ρ:SA)(Z:Om)(Q:SA->Om->Prop):CQ n t v ρ Z Q=(∃ds,v=.d (.tup ds)/\ds.length=n/\t (ds.map AV.d) ρ Z Q):=rfl
theorem rG(n:Nat)(t:AGs)(v:AV)(ρ:SA)(Z:Om)(Q:SA->Om->Prop):DI n t v ρ Z Q=(∃xs,c0 Z v=some xs/\xs.length=n/\t xs ρ Z Q):=rfl
theorem sy(to ti:AE)(v:AV)(ρ:SA)(Z:Om)(Q:SA->Om->Prop):DE to ti v ρ Z Q=(to ρ Z fun o Z1=>ti ρ Z1 fun i Z2=>∃l k xs j,o=.r (.ref l)/\i=.d (.int k)/\Z2 l=some (.own xs)/\ixN xs.length k=some j/\Q ρ (Z2.put l (.own (xs.set j v)))):=rfl
theorem oA(z0:SA)(Z:Om)(Q:Option Int->Om->Prop):yD z0 Z Q=(Q none Z):=rfl
theorem nF(t:AE)(ρ:SA)(Z:Om)(Q:Option Int->Om->Prop):Ar t ρ Z Q=(t ρ Z fun x Z1=>∃i,x=.d (.int i)/\Q (some i) Z1):=rfl
theorem vi(te:AE)(ρ:SA)(Z:Om)(Q:AV->Om->Prop):Gc te ρ Z Q=(te ρ Z fun x Z1=>∃ds,bL Z1 x=some (.lst ds)/\Q (.d (.lst ds.reverse)) Z1):=rfl
theorem lL(to:AE)(t:AA)(ρ:SA)(Z:Om)(Q:AV->Om->Prop):uE to t ρ Z Q=(to ρ Z fun x Z1=>∃l,x=.r (.ref l)/\(∃zs,Z1 l=some (.own zs))/\t ρ Z1 fun ys Z2=>∃xs y,ys=[y]/\Z2 l=some (.own xs)/\xs.length<sizeLine/\Q (.d .non) (Z2.put l (.own (xs++[y])))):=rfl
theorem vY(xs:List AV)(Z:Om)(Q:AV->Om->Prop):Hf xs Z Q=(∃x d T,xs=[x,.r (.ty T)]/\bL Z x=some d/\T∈kF/\Q (.d (.bl (isD T d))) Z):=rfl
theorem oE(x:AV)(y:AV)(Z:Om)(Q:AV->Om->Prop):mU x y Z Q=(∃xs ys,c0 Z x=some xs/\c0 Z y=some ys/\xs.length+ys.length<=sizeLine/\∀p,Z p=none->Q (.r (.ref p)) (Z.put p (.own (xs++ys)))):=rfl
theorem sA(ta tb:AE)(ρ:SA)(Z:Om)(Q:AV->Om->Prop):CG ta tb ρ Z Q=(ta ρ Z fun x Z1=>∃c,gH Z1 x=some c/\if c=true then tb ρ Z1 Q else Q x Z1):=rfl
theorem sj(te:AE)(ρ:SA)(Z:Om)(R:List AV->Om->Prop):DA te ρ Z R=(te ρ Z fun x Z1=>yT Z1 x fun d Z2=>∃ds,Cp d=some ds/\R (ds.map AV.d) Z2):=rfl
theorem qp(src:List (Option Nat))(wi:AI)(g:AG)(tc:AT)(l:AL)(ρ:SA)(Z:Om)(Q:AV->Om->Prop):Dc src wi g tc l ρ Z Q=(wi ρ Z fun as Z1=>fk g tc l as [] (rd src ρ) Z1 fun xs _ Z'=>∃ds,und xs=some ds/\Q (.d (.lst ds)) Z'):=rfl
theorem Aj(r:AV->Om->(AV->Om->Prop)->Prop)(ta:AE)(ρ:SA)(Z:Om)(Q:AV->Om->Prop):aUn r ta ρ Z Q=(ta ρ Z fun x Z1=>r x Z1 Q):=rfl
theorem zh(r:List AV->Om->(AV->Om->Prop)->Prop)(t:AA)(ρ:SA)(Z:Om)(Q:AV->Om->Prop):aCB r t ρ Z Q=(t ρ Z fun xs Z1=>r xs Z1 Q):=rfl
theorem Dz(f:Int->D)(x:AV)(Z:Om)(Q:AV->Om->Prop):aU f x Z Q=(∃i,x=.d (.int i)/\Q (.d (f i)) Z):=rfl
theorem qo(kvs:List (Str×V))(ty:AE)(ρ:SA)(Z:Om)(Q:AV->Om->Prop):Dt kvs ty ρ Z Q=(ty ρ Z fun y Z1=>∃x v d,y=.d (.str x)/\gJ kvs x=some v/\vD v=some d/\Q (.d d) Z1):=rfl
theorem sK(i:Int)(y:AV)(Z:Om)(Q:AV->Om->Prop):sX (.d (.int i)) y Z Q=(∃j,y=.d (.int j)/\Q (.d (.int (i+j))) Z):=rfl
theorem jr(ds:List D)(y:AV)(Z:Om)(Q:AV->Om->Prop):sX (.d (.tup ds)) y Z Q=(∃es,y=.d (.tup es)/\ds.length+es.length<=sizeLine/\Q (.d (.tup (ds++es))) Z):=rfl
theorem r8(ds:List D)(y:AV)(Z:Om)(Q:AV->Om->Prop):sX (.d (.lst ds)) y Z Q=(∃es,bL Z y=some (.lst es)/\ds.length+es.length<=sizeLine/\Q (.d (.lst (ds++es))) Z):=by
 show (∃ds' es,bL Z (.d (.lst ds))=some (.lst ds')/\bL Z y=some (.lst es)/\ds'.length+es.length<=sizeLine/\Q (.d (.lst (ds'++es))) Z)=_;simp only[bL,Option.some.injEq,D.lst.injEq,exists_eq_left',exists_and_left]
theorem nu(l:Addr)(y:AV)(Z:Om)(Q:AV->Om->Prop):Du (.r (.ref l)) y Z Q=(mU (.r (.ref l)) y Z Q):=rfl
theorem qz(i:Int)(y:AV)(Z:Om)(Q:AV->Om->Prop):FQ (.d (.int i)) y Z Q=(∃j,y=.d (.int j)/\m8 i j/\Q (.d (.int (i*j))) Z):=rfl
noncomputable def slA(x:AV)(lo hi:Option Int)(Z:Om)(Q:AV->Om->Prop):Prop:=match x with
 |.d (.tup ds)=>Q (.d (.tup (bC ds lo hi))) Z
 |x=>∃ds,bL Z x=some (.lst ds)/\Q (.d (.lst (bC ds lo hi))) Z
theorem u6(ds:List D)(lo hi:Option Int)(Z:Om)(Q:AV->Om->Prop):slA (.d (.lst ds)) lo hi Z Q=Q (.d (.lst (bC ds lo hi))) Z:=by
 show (∃ds',bL Z (.d (.lst ds))=some (.lst ds')/\Q (.d (.lst (bC ds' lo hi))) Z)=_;simp only[bL,Option.some.injEq,D.lst.injEq,exists_eq_left']
theorem zO(te:AE)(tl th:AO)(ρ:SA)(Z:Om)(Q:AV->Om->Prop):aSl te tl th ρ Z Q=(te ρ Z fun x Z1=>tl ρ Z1 fun lo Z2=>th ρ Z2 fun hi Z3=>slA x lo hi Z3 Q):=rfl
theorem zk(Z:Om)(x:D)(K:D->Om->Prop):yT Z (.d x) K=K x Z:=rfl
theorem zx(Z:Om)(x:D):bL Z (.d x)=some x:=rfl
theorem yV(Z:Om)(l:Addr):bL Z (.r (.ref l))=(match Z l with
  |some (.own xs)=>(und xs).map D.lst
  |some (.frz ds)=>some (.lst ds)
  |_=>none):=rfl
theorem xV(Z:Om)(ds:List D):c0 Z (.d (.lst ds))=some (ds.map AV.d):=rfl
theorem zL(Z:Om)(ds:List D):c0 Z (.d (.tup ds))=none:=rfl
theorem xM(Z:Om)(l:Addr):c0 Z (.r (.ref l))=(match Z l with
  |some (.own xs)=>some xs
  |some (.frz ds)=>some (ds.map AV.d)
  |_=>none):=rfl
theorem yn(ds:List D):iI (.d (.tup ds))=some (ds.map AV.d):=rfl
theorem ye(ds:List D):iI (.d (.lst ds))=none:=rfl
theorem yf(v:V):iI (.r v)=none:=rfl
theorem zw(Z:Om)(b:Bool):gH Z (.d (.bl b))=some b:=rfl
theorem zt(Z:Om)(l:Addr):gH Z (.r (.ref l))=(c0 Z (.r (.ref l))).map fun xs=>!xs.isEmpty:=rfl
theorem qw(x:D)(r:List AV):und (.d x::r)=(und r).map (x::·):=rfl
theorem vy:und []=some []:=rfl
theorem xU(Z:Om)(ds:List D):pY Z (.d (.tup ds))=some ds.length:=by simp[pY,iI]
theorem zd(Z:Om)(ds:List D):pY Z (.d (.lst ds))=some ds.length:=by simp[pY,iI,c0]
theorem AD(ds:List D):Cp (.tup ds)=some ds:=rfl
theorem yj(ds:List D):Cp (.lst ds)=some ds:=rfl
theorem zG{g:AG}{tb:AS}{D:ce}{as:List AV}{ρ:SA}{Z:Om}(I:Nat->SA->Om->Prop)(h0:I 0 ρ Z)(hs:∀(i:Nat)(a:AV)(ρ:SA)(Z:Om)(N:SA->Om->Prop),as[i]?=some a->I i ρ Z->(∀ρ' Z',I (i+1) ρ' Z'->N ρ' Z')->g a ρ Z fun ρ1 Z1=>tb { nx:=N,ct:=N,bk:=D.nx,rt:=D.rt } ρ1 Z1)(hd:∀ρ Z,I as.length ρ Z->D.nx ρ Z):iO g tb D as ρ Z:=by
 have key:∀(n i:Nat)(ρ:SA)(Z:Om),i+n=as.length->I i ρ Z->iO g tb D (as.drop i) ρ Z:=by
  intro n
  induction n with
  |zero=>intro i ρ Z hi h;rw[List.drop_eq_nil_of_le (by omega)];exact hd ρ Z (by rw[←hi];exact h)
  |succ n ih=>
   intro i ρ Z hi h;obtain⟨a,ha,hdr⟩:=eF (as:=as) (i:=i) (by omega)
   rw[hdr];exact hs i a ρ Z _ ha h fun ρ' Z' h'=>ih (i+1) ρ' Z' (by omega) h'
 simpa using key as.length 0 ρ Z (by omega) h0
theorem DS{g:AG}{tb:AS}{D:ce}{ds:List L2.D}{ρ:SA}{Z:Om}(I:Nat->SA->Om->Prop)(h0:I 0 ρ Z)(hs:∀(i:Nat)(d:L2.D)(ρ:SA)(Z:Om)(N:SA->Om->Prop),ds[i]?=some d->I i ρ Z->(∀ρ' Z',I (i+1) ρ' Z'->N ρ' Z')->g (.d d) ρ Z fun ρ1 Z1=>tb { nx:=N,ct:=N,bk:=D.nx,rt:=D.rt } ρ1 Z1)(hd:∀ρ Z,I ds.length ρ Z->D.nx ρ Z):iO g tb D (ds.map AV.d) ρ Z:=
 zG I h0 (fun i a ρ Z N ha h k=>by
  rw[List.getElem?_map,Option.map_eq_some_iff] at ha;obtain⟨d,h1,rfl⟩:=ha
  exact hs i d ρ Z N h1 h k) (fun ρ Z h=>hd ρ Z (by simpa using h))
theorem k8{g:AG}{tb:AS}{D:ce}{lo:Int}{n:Nat}{ρ:SA}{Z:Om}(I:Nat->SA->Om->Prop)(h0:I 0 ρ Z)(hs:∀(i:Nat)(ρ:SA)(Z:Om)(N:SA->Om->Prop),i<n->I i ρ Z->(∀ρ' Z',I (i+1) ρ' Z'->N ρ' Z')->g (.d (.int (lo+(i:Nat)))) ρ Z fun ρ1 Z1=>tb { nx:=N,ct:=N,bk:=D.nx,rt:=D.rt } ρ1 Z1)(hd:∀ρ Z,I n ρ Z->D.nx ρ Z):iO g tb D (iL lo n) ρ Z:=
 zG I h0 (fun i a ρ Z N ha h k=>by
  unfold iL at ha;rw[List.getElem?_map,Option.map_eq_some_iff] at ha;obtain⟨j,h1,rfl⟩:=ha;obtain⟨hj,rfl⟩:=List.getElem?_eq_some_iff.mp h1;simp only[List.getElem_range,List.length_range] at hj ⊢
  exact hs i ρ Z N hj h k) (fun ρ Z h=>hd ρ Z (by simpa[iL] using h))
theorem uY{g:AG}{tc:AT}{l:AL}{as xs:List AV}{ρ:SA}{Z:Om}{K:List AV->SA->Om->Prop}(I:Nat->List AV->SA->Om->Prop)(h0:I 0 xs ρ Z)(hs:∀(i:Nat)(a:AV)(xs:List AV)(ρ:SA)(Z:Om)(N:List AV->SA->Om->Prop),as[i]?=some a->I i xs ρ Z->(∀xs' ρ' Z',I (i+1) xs' ρ' Z'->N xs' ρ' Z')->g a ρ Z fun ρ1 Z1=>tc ρ1 Z1 fun b Z2=>if b=true then l xs ρ1 Z2 N else N xs ρ1 Z2)(hd:∀xs ρ Z,I as.length xs ρ Z->K xs ρ Z):fk g tc l as xs ρ Z K:=by
 have key:∀(n i:Nat)(xs:List AV)(ρ:SA)(Z:Om),i+n=as.length->I i xs ρ Z->fk g tc l (as.drop i) xs ρ Z K:=by
  intro n
  induction n with
  |zero=>intro i xs ρ Z hi h;rw[List.drop_eq_nil_of_le (by omega)];exact hd xs ρ Z (by rw[←hi];exact h)
  |succ n ih=>
   intro i xs ρ Z hi h;obtain⟨a,ha,hdr⟩:=eF (as:=as) (i:=i) (by omega)
   rw[hdr];exact hs i a xs ρ Z (fun xs' ρ' Z'=>fk g tc l (as.drop (i+1)) xs' ρ' Z' K) ha h fun xs' ρ' Z' h'=>ih (i+1) xs' ρ' Z' (by omega) h'
 simpa using key as.length 0 xs ρ Z (by omega) h0
theorem En{g:AG}{tc:AT}{l:AL}{ds:List D}{xs:List AV}{ρ:SA}{Z:Om}{K:List AV->SA->Om->Prop}(I:Nat->List AV->SA->Om->Prop)(h0:I 0 xs ρ Z)(hs:∀(i:Nat)(d:D)(xs:List AV)(ρ:SA)(Z:Om)(N:List AV->SA->Om->Prop),ds[i]?=some d->I i xs ρ Z->(∀xs' ρ' Z',I (i+1) xs' ρ' Z'->N xs' ρ' Z')->g (.d d) ρ Z fun ρ1 Z1=>tc ρ1 Z1 fun b Z2=>if b=true then l xs ρ1 Z2 N else N xs ρ1 Z2)(hd:∀xs ρ Z,I ds.length xs ρ Z->K xs ρ Z):fk g tc l (ds.map AV.d) xs ρ Z K:=
 uY I h0 (fun i a xs ρ Z N ha h k=>by
  rw[List.getElem?_map,Option.map_eq_some_iff] at ha;obtain⟨d,h1,rfl⟩:=ha
  exact hs i d xs ρ Z N h1 h k) (fun xs ρ Z h=>hd xs ρ Z (by simpa using h))
structure Pn where
 f:Int
 x:Int
 i:Int
 h:0<=f
section
variable{α:Type}(a b c e:α)(l:List α)
theorem l5{xs:List α}{x:α}(j:Nat){i:Int}(hi:i=(j:Int))(h:xs[j]?=some x):atI xs i=some x:=by
 subst hi;have hj:=(List.getElem?_eq_some_iff.mp h).1;unfold atI ixN;rw[if_pos (by omega),if_pos (by omega)]
 simpa using h
theorem CS:atI (a::l) 0=some a:=l5 0 rfl rfl
theorem Dg:atI (a::b::l) 1=some b:=l5 1 rfl rfl
theorem DV:atI (a::b::c::l) 2=some c:=l5 2 rfl rfl
theorem CY:atI (a::b::c::e::l) 3=some e:=l5 3 rfl rfl
end
theorem sz1:(1<=sizeLine)=True:=eq_true (by decide)
theorem sz2:(2<=sizeLine)=True:=eq_true (by decide)
theorem sz3:(3<=sizeLine)=True:=eq_true (by decide)
theorem sz4:(4<=sizeLine)=True:=eq_true (by decide)
theorem sz5:(5<=sizeLine)=True:=eq_true (by decide)
theorem sz7:(7<=sizeLine)=True:=eq_true (by decide)
theorem sz8:(8<=sizeLine)=True:=eq_true (by decide)
theorem sz9:(9<=sizeLine)=True:=eq_true (by decide)
theorem AR:ixN 3 1=some 1:=rfl
theorem yL:ixN 3 2=some 2:=rfl
theorem pQ(a b:Int):eqD (.int a) (.int b)=(a == b):=by simp[eqD]
theorem uR(a b:Str):eqD (.str a) (.str b)=(a == b):=by simp[eqD]
theorem AF:eqD .non .non=true:=by simp[eqD]
theorem yE(a:List D):eqD (.lst a) .non=false:=by simp[eqD]
theorem vj(a:Int):dep (.int a)=0:=by simp[dep]
theorem iE(a:Str):dep (.str a)=0:=by simp[dep]
theorem ww(a:Bool):xw (.bl a)=some (if a then 1 else 0):=rfl
theorem tS{n m:Nat}(h:n<=1000):n<=sizeLine:=Nat.le_trans h (by decide)
noncomputable def Om.only(Z' Z:Om):Om:=fun b=>if (Z b).isSome=true then Z' b else none
noncomputable def Ex(Z Z':Om):Prop:=∀b,(Z b).isSome=true->Z' b=Z b
theorem Ex.refl(Z:Om):Ex Z Z:=fun _ _=>rfl
theorem Ex.none{Z Z':Om}(h:Ex Z Z'){l:Addr}(e:Z' l=none):Z l=none:=by
 cases z:Z l with
 |none=>rfl
 |some c=>have:=h l (by rw[z];rfl);rw[e,z] at this;cases this
theorem Ex.new{Z Z':Om}(h:Ex Z Z'){l:Addr}{c:OC}(e:Z' l=Option.none):Ex Z (Z'.put l c):=fun b hb=>by
 have:b≠l:=fun z=>by subst z;rw[h.none e] at hb;cases hb
 rw[Om.ID this];exact h b hb
theorem Ex.over{Z Z':Om}(h:Ex Z Z'){l:Addr}{c:OC}(e:Z l=Option.none):Ex Z (Z'.put l c):=fun b hb=>by
 have:b≠l:=fun z=>by subst z;rw[e] at hb;cases hb
 rw[Om.ID this];exact h b hb
theorem aA(Z:Om):Z.only Z=Z:=by
 funext b;unfold Om.only
 cases e:Z b<;>simp
theorem iH{Z Z':Om}(h:Ex Z Z'):Z'.only Z=Z:=by
 funext b;unfold Om.only
 cases e:Z b with
 |none=>simp
 |some c=>simp only[Option.isSome_some,if_true];rw[h b (by rw[e];rfl),e]
theorem zl{Z Z':Om}{p:Addr}{c:OC}(h:Ex (Z.put p c) Z')(hp:(Z p).isSome=true):Z'.only Z=Z.put p c:=by
 funext b;unfold Om.only
 by_cases hb:b=p
 ·subst hb;rw[if_pos hp,h b (by rw[Om.IA];rfl)]
 ·rw[Om.ID hb]
  cases e:Z b with
  |none=>simp
  |some o=>simp only[Option.isSome_some,if_true];rw[h b (by rw[Om.ID hb,e];rfl),Om.ID hb,e]
theorem Rep.only{F:Fs}{H:Hp}{Z Z':Om}(rp:Rep F H Z'):Rep F H (Z'.only Z)/\c8 (cut F H Z') (cut F H (Z'.only Z)):=by
 have ho:∀b,ow (Z' b)=false->ow ((Z'.only Z) b)=false:=fun b h=>by
  unfold Om.only;split
  ·exact h
  ·rfl
 have sm:c8 (cut F H Z') (cut F H (Z'.only Z)):=fun b o e=>by
  obtain⟨h,f,e⟩:=bH.mp e;exact bH.mpr ⟨ho b h,f,e⟩
 have un:∀b c,(Z'.only Z) b=some c->Z' b=some c:=fun b c e=>by
  unfold Om.only at e;split at e
  ·exact e
  ·cases e
 refine⟨⟨fun l xs e=>?_,fun l ds e=>(rp.frz l ds (un _ _ e)).same sm,fun b f=>?_,fun l ks e=>(by obtain⟨vs,e1,e2⟩:=rp.dic l ks (un _ _ e);exact⟨vs,e1,e2.same sm⟩)⟩,sm⟩
 ·obtain⟨vs,e1,e2⟩:=rp.own l xs (un _ _ e)
  exact⟨vs,e1,e2.same sm⟩
 ·obtain⟨h1,h2⟩:=rp.hid b f
  refine⟨?_,h2⟩;unfold Om.only;rw[h1];simp
theorem Fr.only{F:Fs}{H H':Hp}{Z Z':Om}(fr:Fr F H Z H' Z'):Fr F H Z H' (Z'.only Z):=⟨fun b o h f e=>by
 obtain⟨x,y⟩:=fr.st b o h f e;refine⟨x,?_⟩;unfold Om.only;split
 ·exact y
 ·rfl,fr.hd⟩
theorem Fun.okD{P:Program}{w:World}{K:W.Frag}{mg:Str->Option Value}{base:Heap}{x qual:Str}{st:Stmt}{f:Addr}{fd:FuncData}{N ps:List Str}{k:Nat}{sp:ASp}(F:Fun K x qual st f fd)(S:aN N ps (defScope st))(len:∀xs Z Q,sp xs Z Q->xs.length=ps.length)
  (hbody:∀(cdv:Value)(A:Around)(outer:List Env)(s:Shared)(H:Hp)(E:XK),du k (A.deeper (envOfC qual (defScope st) s.heap.objs.size f cdv)) ->
   ∃t t',PSs (fW CX0 P w K mg base N qual (defScope st) f cdv A outer s H E).nox (defBody st) t/\fD t t'/\∀xs Z Q',sp xs Z Q'->t' { nx:=fun _ Z'=>Q' (.d .non) (Z'.only Z),rt:=fun a Z'=>∃d,a=.d d/\Q' (.d d) (Z'.only Z) } (gk N xs) Z):aV P w K mg base CX0 (k+1) f fd ps (e9 sp):=by
 refine F.ok S (fun vs H Q E h=>?_) (fun cdv A outer s H vs Q E hr h=>?_)
 ·obtain⟨F,xs,Z,Q',rp,rv,h,_⟩:=h
  rw[rv.length,len xs Z Q' h]
 ·obtain⟨t,t',h1,h2,h3⟩:=hbody cdv A outer s H E hr
  obtain⟨F,xs,Z,Q',rp,rv,h,kq⟩:=h;refine⟨t,h1,h2.run F H Z _ _ _ _ rp (RS.start rv) (h3 xs Z Q' h) ⟨?_,?_,fun _ _ _ _ _ _ _ z=>z.elim,fun _ _ _ _ _ _ _ z=>z.elim⟩⟩
  ·exact fun ρ' Z' σ' H' e1 e2 e3 q=>kq (.d .non) (Z'.only Z) .non H' e1.only.1 e2.only (by simp[RV,Dat]) q
  ·rintro a Z' v H' e1 e2 e3 ⟨d,rfl,q⟩
   exact kq (.d d) (Z'.only Z) v H' e1.only.1 e2.only (e3.same e1.only.2) q
noncomputable def wl:Nat->List (List Int)
 |0=>[[]]
 |n+1=>(wl n).flatMap fun w=>[w++[0],w++[1]]
theorem x9:∀n,(wl n).length=2^n
 |0=>rfl
 |n+1=>by
  have h:∀ws:List (List Int),(ws.flatMap fun w=>[w++[0],w++[1]]).length=2*ws.length:=fun ws=>by
   induction ws with
   |nil=>rfl
   |cons a r ih=>rw[List.flatMap_cons,List.length_append,ih];simp;omega
  rw[wl,h,x9 n,Nat.pow_succ];omega
theorem ez:∀ {n:Nat} {w:List Int},w∈wl n->w.length=n/\∀x∈w,x=0\/x=1
 |0,w,h=>by simp[wl] at h;rw[h];simp
 |n+1,w,h=>by
  simp only[wl,List.mem_flatMap] at h;obtain⟨v,hv,h⟩:=h;obtain⟨h1,h2⟩:=ez hv;simp only[List.mem_cons,List.not_mem_nil,or_false] at h;rcases h with rfl|rfl<;>refine⟨by simp[h1],fun x hx=>?_⟩<;>rcases List.mem_append.mp hx with hx|hx
  ·exact h2 x hx
  ·rw[List.mem_singleton.mp hx];exact .inl rfl
  ·exact h2 x hx
  ·rw[List.mem_singleton.mp hx];exact .inr rfl
theorem vv{n:Nat}(h:n<=5):(wl n).length<=32:=by
 rw[x9];exact Nat.pow_le_pow_right (by decide) h
theorem Ey:∀n:Fin 6,(wl n.val).Nodup:=by decide +kernel
theorem Hn{n:Nat}(h:n<=5):(wl n).Nodup:=Ey ⟨n,by omega⟩
noncomputable def Wds(n:Nat)(ws:List (List Int)):Prop:=ws.Nodup/\∀w∈ws,w∈wl n
theorem Wds.le{n:Nat}{ws:List (List Int)}(h:Wds n ws)(hn:n<=5):ws.length<=32:=by
 have:=h.1.length_le_of_subset (l₂:=wl n) (fun w hw=>h.2 w hw);have:=vv hn;omega
theorem Wds.sub{n:Nat}{ws:List (List Int)}(h:ws.Sublist (wl n))(hn:n<=5):Wds n ws:=⟨h.nodup (Hn hn),fun w hw=>h.mem hw⟩
theorem ED(w:List Int):dep (wdD w)=1:=by simp[wdD,dep,nV]
theorem yd(ws:List (List Int)):dR (ws.map wdD)<=1:=pe fun d hd=>by
 obtain⟨w,_,rfl⟩:=List.mem_map.mp hd;rw[ED];exact Nat.le_refl _
theorem Bt{α β:Type}{f:α->β}{xs:List α}{i:Nat}{y:β}(h:(xs.map f)[i]?=some y):∃x,xs[i]?=some x/\y=f x:=by
 rw[List.getElem?_map] at h
 cases e:xs[i]? with
 |none=>rw[e] at h;cases h
 |some x=>rw[e] at h;cases h;exact⟨x,rfl,rfl⟩
theorem BK{α:Type}{f:α->AV}{xs:List α}{i:Int}(h0:0<=i)(h1:i<xs.length):∃x,x∈xs/\xs[i.toNat]?=some x/\atI (xs.map f) i=some (f x):=by
 obtain⟨j,rfl⟩:=Int.eq_ofNat_of_zero_le h0;have hj:j<xs.length:=by omega
 exact⟨xs[j],List.getElem_mem hj,by simp[List.getElem?_eq_getElem hj],l5 j rfl (by rw[List.getElem?_map,List.getElem?_eq_getElem hj];rfl)⟩
theorem wm(x:List Int)(b:Int)(Z:Om)(Q:AV->Om->Prop):sX (.d (wdD x)) (.d (.tup [.int b])) Z Q=(x.length+1<=sizeLine/\Q (.d (wdD (x++[b]))) Z):=by
 unfold wdD;rw[jr];simp
theorem qg(x y:List Int)(Z:Om)(Q:AV->Om->Prop):sX (.d (wdD x)) (.d (wdD y)) Z Q=(x.length+y.length<=sizeLine/\Q (.d (wdD (x++y))) Z):=by
 unfold wdD;rw[jr];simp
theorem pK(x:List Int):iI (.d (wdD x))=some ((x.map D.int).map AV.d):=rfl
theorem vt(Z:Om)(x:List Int):pY Z (.d (wdD x))=some x.length:=by simp[pY,pK]
theorem jN{α β:Type}(f:α->β)(xs:List α)(lo hi:Option Int):bC (xs.map f) lo hi=(bC xs lo hi).map f:=by
 unfold bC;rw[List.length_map,List.map_take,List.map_drop]
inductive Sy where
 |is (i b:Int)
 |jn (an:Bool) (l r:Sy)
namespace Sy
noncomputable def d:Sy->D
 |.is i b=>.tup [.str "is",.int i,.int b]
 |.jn an l r=>.tup [.str (if an then "and" else "or"),l.d,r.d]
noncomputable def ok(n:Nat):Sy->Prop
 |.is i b=>0<=i/\i<n/\(b=0\/b=1)
 |.jn _ l r=>l.ok n/\r.ok n
noncomputable def dp:Sy->Nat
 |.is _ _=>0
 |.jn _ l r=>1+max l.dp r.dp
noncomputable def lvs:Sy->Nat
 |.is _ _=>1
 |.jn _ l r=>l.lvs+r.lvs
noncomputable def up:Sy->Prop
 |.is _ b=>b=1
 |.jn _ l r=>l.up/\r.up
noncomputable def val(w:List Int):Sy->Bool
 |.is i b=>decide (w.getD i.toNat 0=b)
 |.jn an l r=>if an then val w l && val w r else val w l || val w r
end Sy
inductive Ta where
 |en (i:Int)
 |nd (y:Bool) (ws:List (List Int)) (l r:Ta)
namespace Ta
noncomputable def d:Ta->D
 |.en i=>.tup [.str "end",.int i]
 |.nd y ws l r=>.tup [.str (if y then "yes" else "no"),.tup (ws.map wdD),l.d,r.d]
noncomputable def ok(n:Nat):Ta->Prop
 |.en i=>0<=i/\i<n
 |.nd _ ws l r=>Wds n ws/\l.ok n/\r.ok n
noncomputable def dp:Ta->Nat
 |.en _=>0
 |.nd _ _ l r=>1+max l.dp r.dp
noncomputable def lvs:Ta->Nat
 |.en _=>1
 |.nd _ _ l r=>l.lvs+r.lvs
noncomputable def size:Ta->Nat
 |.en _=>1
 |.nd _ _ l r=>l.size+r.size+1
noncomputable def bit(y n:List Int)(hy:Bool)(ws:List (List Int)):Bool:=decide ((if hy then y else n)∈ws)
noncomputable def fin(y n:List Int):Ta->Int
 |.en i=>i
 |.nd h ws a b=>if bit y n h ws then fin y n b else fin y n a
theorem fT:∀t:Ta,t.size+1=2*t.lvs
 |.en x=>rfl
 |.nd y ws l r=>by
  have:=fT l;have:=fT r;simp only[size,lvs];omega
end Ta
theorem B4{i:Int}(h0:0<=i)(h1:i<=64):i.natAbs.log2<=6:=by
 have h8:∀n:Fin 65,n.val.log2<=6:=by decide +kernel
 exact h8 ⟨i.natAbs,by omega⟩
theorem wF:∀ {w:List Int},(∀x∈w,x=0\/x=1)->wts (w.map D.int)<=6*w.length/\jh (w.map D.int)=true
 | [],_=>by simp[wts,jh]
 |a::w,h=>by
  obtain⟨i1,i2⟩:=wF fun x hx=>h x (List.mem_cons_of_mem _ hx);have e:a.natAbs.log2=0:=by rcases h a List.mem_cons_self with rfl|rfl<;>decide
  simp only[List.map_cons,wts,jh,wt,fit,i2,e,List.length_cons];exact⟨by omega,rfl⟩
theorem Hr{n:Nat}{w:List Int}(hn:n<=5)(h:w∈wl n):wt (wdD w)<=40/\fit (wdD w)=true:=by
 obtain⟨h1,h2⟩:=ez h;obtain⟨i1,i2⟩:=wF h2;simp only[wdD,wt,fit,i2];exact⟨by omega,trivial⟩
theorem CO{n:Nat}(hn:n<=5):∀ {ws:List (List Int)},(∀w∈ws,w∈wl n)->wts (ws.map wdD)<=50*ws.length/\jh (ws.map wdD)=true
 | [],_=>by simp[wts,jh]
 |a::ws,h=>by
  obtain⟨i1,i2⟩:=CO hn fun w hw=>h w (List.mem_cons_of_mem _ hw);obtain⟨b1,b2⟩:=Hr hn (h a List.mem_cons_self);simp only[List.map_cons,wts,jh,b1,b2,i2,List.length_cons];exact⟨by omega,rfl⟩
theorem wA:(reprText ("end":Str)).length=5/\(reprText ("yes":Str)).length=5/\(reprText ("no":Str)).length=4:=by decide +kernel
theorem Ta.rep{n:Nat}(hn:n<=5):∀ {u:Ta},u.ok n->wt u.d<=3000*u.size/\fit u.d=true/\dep u.d<=u.dp+3
 |.en i,⟨i0,i1⟩=>by
  have hl:=B4 i0 (by omega)
  simp only[Ta.d,wt,wts,fit,jh,dep,dR,Ta.size,Ta.dp,wA.1,Bool.and_true,Bool.true_and,decide_eq_true_eq];omega
 |.nd y ws a b,⟨hw,ha,hb⟩=>by
  obtain⟨a1,a2,a3⟩:=Ta.rep hn ha;obtain⟨b1,b2,b3⟩:=Ta.rep hn hb;obtain⟨w1,w2⟩:=CO (ws:=ws) hn hw.2;have w3:=yd ws;have wl':=hw.le hn;have hr:(reprText (if y then "yes" else "no":Str)).length<=5:=by cases y<;>simp[wA]
  simp only[Ta.d,wt,wts,fit,jh,dep,dR,Ta.size,Ta.dp,a2,b2,w2,Bool.and_true,true_and];refine⟨by omega,?_⟩
  omega
theorem vk:(("yes":Str)=("end":Str))=False:=eq_false (by decide +kernel)
theorem wa:(("no":Str)=("end":Str))=False:=eq_false (by decide +kernel)
theorem D6(F:Nat->SA->Om->Prop):∃Pv:Nat->SA->Om->Prop,∀i ρ Z,Pv i ρ Z↔F i ρ Z:=⟨F,fun _ _ _=>Iff.rfl⟩
noncomputable def om3(Z:Om)(p l1 l2:Addr)(c A B:OC):Om:=((Z.put p c).put l1 A).put l2 B
section
variable{Z:Om}{p l l1 l2:Addr}{c c' A A' B B':OC}
theorem lU(h1:p≠l1)(h2:p≠l2):om3 Z p l1 l2 c A B p=some c:=by unfold om3;rw[Om.ID h2,Om.ID h1,Om.IA]
theorem qj(h:l1≠l2):om3 Z p l1 l2 c A B l1=some A:=by unfold om3;rw[Om.ID h,Om.IA]
theorem kI:om3 Z p l1 l2 c A B l2=some B:=by unfold om3;rw[Om.IA]
theorem tX(h1:p≠l1)(h2:p≠l2):(om3 Z p l1 l2 c A B).put p c'=om3 Z p l1 l2 c' A B:=by unfold om3;rw[Om.IL h2,Om.IL h1,Om.IC]
theorem jd(h:l1≠l2):(om3 Z p l1 l2 c A B).put l1 A'=om3 Z p l1 l2 c A' B:=by unfold om3;rw[Om.IL h,Om.IC]
theorem pH:(om3 Z p l1 l2 c A B).put l2 B'=om3 Z p l1 l2 c A B':=by unfold om3;rw[Om.IC]
theorem mL{q:Addr}{o:OC}(h:Z.put p o q=none):q≠p/\Z q=none:=by
 have:q≠p:=fun z=>by subst z;rw[Om.IA] at h;cases h
 exact⟨this,by rwa [Om.ID this] at h⟩
end
structure Ne4(p l1 l2 l3:Addr):Prop where
 p1:p≠l1
 p2:p≠l2
 p3:p≠l3
 a:l1≠l2
 b:l1≠l3
 c:l2≠l3
section
variable{Z:Om}{p l1 l2 l3:Addr}{c c' A A' B B' C C':OC}(h:Ne4 p l1 l2 l3)
include h
end
section
variable{P:Program}{w:World}{K:W.Frag}{mg:Str->Option Value}{base:Heap}
structure Cs(n:Nat)(ys zs:List (List Int)):Prop where
 y:Wds n ys
 z:Wds n zs
 y1:ys≠[]
 z1:zs≠[]
theorem pq{t u:AS}{D:ce}{ρ:SA}{Z:Om}(I:SA->Om->Prop)(h1:∀N:SA->Om->Prop,(∀ρ' Z',I ρ' Z'->N ρ' Z')->t { D with nx:=N } ρ Z)(h2:∀ρ' Z',I ρ' Z'->u D ρ' Z'):Ci t u D ρ Z:=h1 (u D) h2
theorem gY{α:Type}(xs:List α)(lo hi:Option Int):(bC xs lo hi).Sublist xs:=(List.take_sublist _ _).trans (List.drop_sublist _ _)
noncomputable def Em:ASp:=fun _ _ _=>False
theorem CI{f:Addr}{fd:FuncData}{ps:List Str}{k:Nat}:aV P w K mg base CX0 k f fd ps (e9 Em):=
 ⟨fun _ _ _ _ h=>by obtain⟨_,_,_,_,_,_,h,_⟩:=h;exact h.elim,fun _ _ _ _ _ _ _ _ _ _ _ _ _ h=>by obtain⟨_,_,_,_,_,_,h,_⟩:=h;exact h.elim⟩
theorem rL(to:AE)(ρ:SA)(Z:Om)(Q:AV->Om->Prop):AZ to ρ Z Q=(to ρ Z fun x Z1=>∃l xs y,x=.r (.ref l)/\Z1 l=some (.own xs)/\xs.getLast?=some y/\Q y (Z1.put l (.own xs.dropLast))):=by
 unfold AZ;simp only[List.getLast?_eq_getElem?]
end
noncomputable def Hk(f:Addr)(caps:List V)(cA:List AV):AV:=.p (.ref f) (fun G=>RVs G cA caps)
theorem HN(b:Heap):nT b [] [] []:=⟨rfl,fun _ _ h=>(nomatch h),fun _ _ _ h=>(nomatch h),fun _ _ _ h=>(nomatch h)⟩
theorem Fx{b:Heap}{x:Str}{c:Addr}{v:V}{u:Value}(h:b.IsCell c (some u))(r:a6 v u):nT b [(x,c)] [x] [v]:=by
 have lk:∀y d,([(x,c)]:List (Str×Addr)).lookup y=some d->y=x/\d=c:=fun y d e=>by
  rw[List.lookup_cons] at e
  cases q:y == x with
  |true=>rw[q] at e;cases e;exact⟨eq_of_beq q,rfl⟩
  |false=>rw[q] at e;cases e
 refine⟨rfl,fun y d e=>?_,fun y z d e1 e2=>(lk y d e1).1.trans (lk z d e2).1.symm,fun j y w h1 h2=>?_⟩
 ·rw[(lk y d e).1];exact List.mem_singleton.mpr rfl
 ·cases j with
  |zero=>
   simp at h1 h2;subst h1 h2;exact⟨c,u,by simp[List.lookup],h,r⟩
  |succ j=>simp at h1
noncomputable def Ha(js:List Nat)(σ:St)(caps:List V):Prop:=caps.length=js.length/\∀(k j:Nat)(v:V),js[k]?=some j->caps[k]?=some v->σ[j]?=some (some v)
noncomputable def pW:List Nat->SA->Option (List AV)
 | [],_=>some []
 |j::js,ρ=>match ρ[j]?,pW js ρ with
  |some (some a),some r=>some (a::r)
  |_,_=>none
theorem zz{G:Hp}{ρ:SA}{σ:St}(rs:RS G ρ σ):∀ {js:List Nat} {cA:List AV},pW js ρ=some cA->∃caps,Ha js σ caps/\RVs G cA caps
 | [],cA,h=>by cases h;exact⟨[],⟨rfl,fun _ _ _ h=>by simp at h⟩,rfl⟩
 |j::js,cA,h=>by
  simp only[pW] at h
  cases e1:ρ[j]? with
  |none=>rw[e1] at h;simp at h
  |some o=>
   cases o with
   |none=>rw[e1] at h;simp at h
   |some a=>
    cases e2:pW js ρ with
    |none=>rw[e1,e2] at h;simp at h
    |some r=>
     rw[e1,e2] at h;simp at h;subst h;obtain⟨caps,⟨c1,c2⟩,c3⟩:=zz rs e2;obtain⟨v,v1,v2⟩:=rs.2 j a e1;refine⟨v::caps,⟨by simp[c1],fun k i u h1 h2=>?_⟩,v,caps,rfl,v2,c3⟩
     cases k with
     |zero=>simp at h1 h2;subst h1 h2;exact v1
     |succ k=>simp at h1 h2;exact c2 k i u h1 h2
theorem qG{ρ:SA}:∀ {js:List Nat} {cA:List AV},pW js ρ=some cA->cA.length=js.length
 | [],cA,h=>by cases h;rfl
 |j::js,cA,h=>by
  simp only[pW] at h
  cases e1:ρ[j]? with
  |none=>rw[e1] at h;simp at h
  |some o=>
   cases o with
   |none=>rw[e1] at h;simp at h
   |some a=>
    cases e2:pW js ρ with
    |none=>rw[e1,e2] at h;simp at h
    |some r=>
     rw[e1,e2] at h;simp at h;subst h;simp[qG e2]
theorem wL.okD{P:Program}{w:World}{K:W.Frag}{mg:Str->Option Value}{base:Heap}{x qual:Str}{st:Stmt}{f c p:Addr}{fd:FuncData}{N ps:List Str}{k:Nat}{sp:ASp}(F:wL K x qual st f fd c p)(S:aN N ps (defScope st))(len:∀xs Z Q,sp xs Z Q->xs.length=ps.length)
  (hbody:∀(A:Around)(outer:List Env)(s:Shared)(H:Hp)(E:XK),du k (A.deeper (envOfC qual (defScope st) s.heap.objs.size f (.ref c))) ->
   ∃t t',PSs (fW CX0 P w K mg base N qual (defScope st) f (.ref c) A outer s H E).nox (defBody st) t/\fD t t'/\∀xs Z Q',sp xs Z Q'->t' { nx:=fun _ Z'=>Q' (.d .non) (Z'.only Z),rt:=fun a Z'=>∃d,a=.d d/\Q' (.d d) (Z'.only Z) } (gk N xs) Z):aV P w K mg base CX0 (k+1) f fd ps (e9 sp):=by
 refine F.ok S (fun vs H Q E h=>?_) (fun A outer s H vs Q E hr h=>?_)
 ·obtain⟨F,xs,Z,Q',rp,rv,h,_⟩:=h
  rw[rv.length,len xs Z Q' h]
 ·obtain⟨t,t',h1,h2,h3⟩:=hbody A outer s H E hr
  obtain⟨F,xs,Z,Q',rp,rv,h,kq⟩:=h;refine⟨t,h1,h2.run F H Z _ _ _ _ rp (RS.start rv) (h3 xs Z Q' h) ⟨?_,?_,fun _ _ _ _ _ _ _ z=>z.elim,fun _ _ _ _ _ _ _ z=>z.elim⟩⟩
  ·exact fun ρ' Z' σ' H' e1 e2 e3 q=>kq (.d .non) (Z'.only Z) .non H' e1.only.1 e2.only (by simp[RV,Dat]) q
  ·rintro a Z' v H' e1 e2 e3 ⟨d,rfl,q⟩
   exact kq (.d d) (Z'.only Z) v H' e1.only.1 e2.only (e3.same e1.only.2) q
structure Iz(t2 t:TS)(t':AS):Prop where
 run:∀(F:Fs)(H:Hp)(Z:Om)(σ:St)(ρ:SA)(D:g9)(D':ce),Rep F H Z->RS (cut F H Z) ρ σ->t' D' ρ Z->LE F H Z D' { D with nx:=t2 D }->t D σ H
theorem Fk{b:Heap}{x y:Str}{c d:Addr}{v z:V}{u p:Value}(hne:x≠y)(hcd:c≠d)(h:b.IsCell c (some u))(r:a6 v u)(h':b.IsCell d (some p))(r':a6 z p):nT b [(x,c),(y,d)] [x,y] [v,z]:=by
 have lk:∀k e,([(x,c),(y,d)]:List (Str×Addr)).lookup k=some e->(k=x/\e=c)\/(k=y/\e=d):=fun k e q=>by
  rw[List.lookup_cons] at q
  cases z1:k == x with
  |true=>rw[z1] at q;cases q;exact .inl ⟨eq_of_beq z1,rfl⟩
  |false=>
   rw[z1] at q;simp only[List.lookup_cons] at q
   cases z2:k == y with
   |true=>rw[z2] at q;cases q;exact .inr ⟨eq_of_beq z2,rfl⟩
   |false=>rw[z2] at q;cases q
 refine⟨rfl,fun k e q=>?_,fun k1 k2 e q1 q2=>?_,fun j k w h1 h2=>?_⟩
 ·rcases lk k e q with⟨rfl,_⟩|⟨rfl,_⟩<;>simp
 ·rcases lk k1 e q1 with⟨rfl,rfl⟩|⟨rfl,rfl⟩<;>rcases lk k2 _ q2 with⟨rfl,e2⟩|⟨rfl,e2⟩
  ·rfl
  ·exact absurd e2 hcd
  ·exact absurd e2.symm hcd
  ·rfl
 ·cases j with
  |zero=>
   simp at h1 h2;subst h1 h2;exact⟨c,u,by simp[List.lookup],h,r⟩
  |succ j=>
   cases j with
   |zero=>
    simp at h1 h2;subst h1 h2
    have hb:(y == x)=false:=by
     cases q:y == x with
     |false=>rfl
     |true=>exact absurd (eq_of_beq q).symm hne
    exact⟨d,p,by simp[List.lookup,hb],h',r'⟩
   |succ j=>simp at h1
theorem Br{b:Heap}{x y:Str}{c d:Addr}{v z:V}{u p:Value}(hne:x≠y)(hcd:c≠d)(h:b.IsCell c (some u))(r:a6 v u)(h':b.IsCell d (some p))(r':a6 z p):nT b [(y,d),(x,c)] [x,y] [v,z]:=by
 have lk:∀k e,([(y,d),(x,c)]:List (Str×Addr)).lookup k=some e->(k=x/\e=c)\/(k=y/\e=d):=fun k e q=>by
  rw[List.lookup_cons] at q
  cases z1:k == y with
  |true=>rw[z1] at q;cases q;exact .inr ⟨eq_of_beq z1,rfl⟩
  |false=>
   rw[z1] at q;simp only[List.lookup_cons] at q
   cases z2:k == x with
   |true=>rw[z2] at q;cases q;exact .inl ⟨eq_of_beq z2,rfl⟩
   |false=>rw[z2] at q;cases q
 refine⟨rfl,fun k e q=>?_,fun k1 k2 e q1 q2=>?_,fun j k w h1 h2=>?_⟩
 ·rcases lk k e q with⟨rfl,_⟩|⟨rfl,_⟩<;>simp
 ·rcases lk k1 e q1 with⟨rfl,rfl⟩|⟨rfl,rfl⟩<;>rcases lk k2 _ q2 with⟨rfl,e2⟩|⟨rfl,e2⟩
  ·rfl
  ·exact absurd e2 hcd
  ·exact absurd e2.symm hcd
  ·rfl
 ·cases j with
  |zero=>
   simp at h1 h2;subst h1 h2
   have hb:(x == y)=false:=by
    cases q:x == y with
    |false=>rfl
    |true=>exact absurd (eq_of_beq q) hne
   exact⟨c,u,by simp[List.lookup,hb],h,r⟩
  |succ j=>
   cases j with
   |zero=>
    simp at h1 h2;subst h1 h2;exact⟨d,p,by simp[List.lookup],h',r'⟩
   |succ j=>simp at h1
theorem AN{g:AG}{te:AE}{as:List AV}{rs:List D}{ρ:SA}{Z:Om}{K:List AV->SA->Om->Prop}(R:SA->Prop)(h0:R ρ)(hl:rs.length=as.length)(hz:as.length<=sizeLine)(he:∀(i:Nat)(a:AV)(r:D)(ρ:SA)(N:SA->Om->Prop),as[i]?=some a->rs[i]?=some r->R ρ->(∀ρ1,R ρ1->(∀Q:AV->Om->Prop,Q (.d r) Z->te ρ1 Z Q)->N ρ1 Z)->g a ρ Z N)(hk:∀ρ,R ρ->K (rs.map AV.d) ρ Z):fk g k6 (qL te) as [] ρ Z K:=by
 refine uY (fun i xs ρ Z'=>Z'=Z/\R ρ/\xs=(rs.take i).map AV.d) ⟨rfl,h0,rfl⟩ ?_ ?_
 ·rintro i a xs ρ Z' N ha ⟨rfl,hR,rfl⟩ kN
  have hi:=(List.getElem?_eq_some_iff.mp ha).1;have hr:rs[i]?=some rs[i]:=List.getElem?_eq_getElem (by omega)
  refine he i a _ ρ _ ha hr hR fun ρ1 hR1 h=>?_;rw[uy,if_pos rfl,qi];refine h _ ⟨by rw[List.length_map,List.length_take];omega,kN _ _ _ ⟨rfl,hR1,?_⟩⟩
  rw[show rs.take (i+1)=rs.take i++[rs[i]] from by rw[List.take_succ,hr];rfl,List.map_append]
  rfl
 ·rintro xs ρ Z' ⟨rfl,hR,rfl⟩
  rw[←hl,List.take_length]
  exact hk ρ hR
theorem vx{te:AE}{as:List AV}{rs:List D}{v0:Option AV}{bO:SA}{Z:Om}{K:List AV->SA->Om->Prop}(hl:rs.length=as.length)(hz:as.length<=sizeLine)(he:∀(i:Nat)(a:AV)(r:D),as[i]?=some a->rs[i]?=some r->∀Q:AV->Om->Prop,Q (.d r) Z->te (some a::bO) Z Q)(hk:∀ρ,K (rs.map AV.d) ρ Z):fk (jZ 0) k6 (qL te) as [] (v0::bO) Z K:=
 AN (fun ρ=>∃v,ρ=v::bO) ⟨_,rfl⟩ hl hz (fun i a r ρ N ha hr ⟨v,e⟩ k=>by
  subst e;rw[im,List.set_cons_zero]
  exact k _ ⟨_,rfl⟩ (he i a r ha hr)) (fun ρ _=>hk ρ)
theorem tw{tc:AT}{te:AE}{ds:List D}{v0:Option AV}{bO:SA}{Z:Om}{K:List AV->SA->Om->Prop}(S:Om->Prop)(h0:S Z)(ht:∀d∈ds,∀Z,S Z->∀Q:Bool->Om->Prop,(∀b Z',S Z'->Q b Z')->tc (some (.d d)::bO) Z Q)(he:∀d∈ds,∀Z,S Z->∀Q:AV->Om->Prop,Q (.d d) Z->te (some (.d d)::bO) Z Q)(hz:ds.length<=sizeLine)(hk:∀(es:List D) ρ Z,es.Sublist ds->S Z->K (es.map AV.d) ρ Z):fk (jZ 0) tc (qL te) (ds.map AV.d) [] (v0::bO) Z K:=by
 refine En (fun i xs ρ Z'=>∃v es,S Z'/\ρ=v::bO/\xs=es.map AV.d/\es.Sublist (ds.take i)) ⟨_,[],h0,rfl,rfl,List.nil_sublist _⟩ ?_ ?_
 ·rintro i d xs ρ Z' N hd ⟨v,es,hS,rfl,rfl,hs⟩ kN
  have hi:=(List.getElem?_eq_some_iff.mp hd).1;have hm:=List.mem_of_getElem? hd;have et:ds.take (i+1)=ds.take i++[d]:=by rw[List.take_succ,hd];rfl
  have hle:=hs.length_le;rw[List.length_take] at hle;rw[im,List.set_cons_zero];refine ht d hm _ hS _ fun b Z2 hS2=>?_
  cases b with
  |true=>
   rw[if_pos rfl,qi];refine he d hm _ hS2 _ ⟨by rw[List.length_map];omega,kN _ _ _ ⟨_,es++[d],hS2,rfl,by simp,?_⟩⟩
   rw[et];exact hs.append (List.Sublist.refl _)
  |false=>
   rw[if_neg Bool.false_ne_true];refine kN _ _ _ ⟨_,es,hS2,rfl,rfl,?_⟩;rw[et];exact hs.trans (List.sublist_append_left _ _)
 ·rintro xs ρ Z' ⟨v,es,hS,rfl,rfl,hs⟩
  rw[List.take_length] at hs;exact hk es _ _ hs hS
structure Pq where
 a:Addr
 ns:List Int
 i:Int
 f:Int
 h0:0<=i
 hf:0<=f
 hn:ns.length<=63
noncomputable def DX:A2:=fun x y Z Q=>∃i j,x=.d (.str i)/\y=.d (.str j)/\i.length+j.length<=sizeLine/\Q (.d (.str (i++j))) Z
theorem qQ(x y:AV)(Z:Om)(Q:AV->Om->Prop):DX x y Z Q=(∃i j,x=.d (.str i)/\y=.d (.str j)/\i.length+j.length<=sizeLine/\Q (.d (.str (i++j))) Z):=rfl
theorem cj:dv (fun x y H Q=>∃i j,x=.str i/\y=.str j/\i.length+j.length<=sizeLine/\Q (.str (i++j)) H) DX:=⟨fun F H Z v u x y Q Q' rp h1 h2 ⟨i,j,e1,e2,z,q⟩ k=>by
 subst e1 e2
 exact⟨i,j,cu h1,cu h2,z,k.str rp q⟩⟩
theorem ou{X:Cx}:eh X (.type "int") (fun xs H Q=>∃(z:Str)(n:Int),xs=[.str z]/\PySem.intText? z=some n/\z.length<=640/\Q (.int n) H):=by
 intro pins s σ H xs us Q I r h;obtain⟨z,n,rfl,hn,hl,q⟩:=h;obtain⟨u,rfl,t,rfl⟩:=iQ r;exact W.KIN.call_text hn hl ⟨.int n,H,I.tok _,⟨_,rfl⟩,q⟩
noncomputable def D0:AC:=fun xs Z Q=>∃(z:Str)(n:Int),xs=[.d (.str z)]/\PySem.intText? z=some n/\z.length<=640/\Q (.d (.int n)) Z
theorem sx(xs:List AV)(Z:Om)(Q:AV->Om->Prop):D0 xs Z Q=(∃(z:Str)(n:Int),xs=[.d (.str z)]/\PySem.intText? z=some n/\z.length<=640/\Q (.d (.int n)) Z):=rfl
theorem z8:mj (fun xs H Q=>∃(z:Str)(n:Int),xs=[.str z]/\PySem.intText? z=some n/\z.length<=640/\Q (.int n) H) D0:=⟨fun F H Z vs xs Q Q' rp rv ⟨z,n,e,h1,h2,q⟩ k=>by
 subst e;obtain⟨v,rfl,r⟩:=iK rv
 exact⟨z,n,by rw[cu r],h1,h2,k.int rp q⟩⟩
inductive y6:List (TE×TE)->List Str->List AE->Prop
 |nil:y6 [] [] []
 |cons {k:Str} {tv:TE} {tv':AE} {r:List (TE×TE)} {ks:List Str} {ts:List AE}:a9 tv tv'->y6 r ks ts->y6 ((tC (.str k),tv)::r) (k::ks) (tv'::ts)
theorem Az{F:Fs}{H:Hp}{Z:Om}{y:AV}{u:V}(rp:Rep F H Z)(r:RV (cut F H Z) y u)(e:bL Z y=some (.lst [])):∃b,u=.ref b/\H b=some (.lst []):=by
 have hd:=jk rp r e;simp only[Dat] at hd;obtain⟨b,us,rfl,q1,q2⟩:=hd;have q2:us=[]:=q2;subst q2;exact⟨b,rfl,q1⟩
noncomputable def tx(l:List Nat):Str:=⟨l.toArray⟩
theorem dL(a b:List Nat):tx a++tx b=tx (a++b):=by
 show (⟨a.toArray++b.toArray⟩:Str)=⟨(a++b).toArray⟩;simp
theorem al(a:List Nat):(tx a).length=a.length:=by simp[tx,Str.length]
theorem cZ{a b:List Nat}:tx a=tx b↔a=b:=by
 constructor
 ·intro h
  have:=congrArg (fun z:Str=>z.cps.toList) h;simpa[tx] using this
 ·intro h;rw[h]
noncomputable def jn(s:List Nat):List (List Nat)->List Nat
 | []=>[]
 | [x]=>x
 |x::y::r=>x++s++jn s (y::r)
theorem iy(s:List Nat):∀ls:List (List Nat),Str.join (tx s) (ls.map tx)=tx (jn s ls)
 | []=>rfl
 | [x]=>rfl
 |x::y::r=>by
  have h:=iy s (y::r);simp only[List.map_cons] at h ⊢;rw[Str.join,h,dL,dL,jn]
  all_goals intro hh;cases hh
noncomputable def DF:AC:=fun xs Z Q=>∃i:Int,xs=[.d (.int i)]/\i.natAbs.log2<1920/\Q (.d (.str (Str.ofString (toString i)))) Z
theorem sB(xs:List AV)(Z:Om)(Q:AV->Om->Prop):DF xs Z Q=(∃i:Int,xs=[.d (.int i)]/\i.natAbs.log2<1920/\Q (.d (.str (Str.ofString (toString i)))) Z):=rfl
theorem Aq:mj (fun xs H Q=>∃i:Int,xs=[.int i]/\i.natAbs.log2<1920/\Q (.str (toString i)) H) DF:=⟨fun F H Z vs xs Q Q' rp rv ⟨i,e,h1,q⟩ k=>by
 subst e;obtain⟨v,rfl,r⟩:=iK rv
 exact⟨i,by rw[bo r],h1,k.str rp q⟩⟩
theorem nH:∀ {ss:List Str} {its:List Value},aH (ss.map V.str) its->∃l:List (Str×Tok),its=strValues l/\l.map (·.1)=ss
 | [],its,r=>by cases r;exact⟨[],rfl,rfl⟩
 |z::ss,its,r=>by
  cases r with
  |cons r rr=>
   obtain⟨t,rfl⟩:=r;obtain⟨l,e1,e2⟩:=nH rr;exact⟨(z,t)::l,by rw[e1];rfl,by simp[e2]⟩
noncomputable def C9(K:W.Frag):V->List V->Hp->VK->Prop:=fun x vs H Q=>∃(z:Str)(l:Addr)(ss:List Str),x=.str z/\vs=[.ref l]/\SqL K H l (ss.map V.str)/\JoinOk z ss=true/\Q (.str (Str.join z ss)) H
theorem gW{X:Cx}(K:W.Frag)(hK:X.K=K):MtR X "str.join" (C9 K):=by
 subst hK;intro pins s σ H x vs v us Q I rx rv h;obtain⟨z,l,ss,rfl,rfl,hq,hj,q⟩:=h;obtain⟨t,rfl⟩:=rx;obtain⟨u,rfl,ru⟩:=rv.one;cases ru;obtain⟨its,rv2,pl,hz⟩:=I.list hq;obtain⟨ps,rfl,e⟩:=nH rv2;refine SC.join (l:=ps) (texts:=ss) pl.isList e hj fun t' k=>⟨.str (Str.join z ss),H,I.tok k,⟨t',?_⟩,q⟩;show Value.str (Builtin.Str.glued z ss) t'=_;rw[StrLaws.glued_eq_join]
noncomputable def CK(to:AE)(t:AA):AE:=fun ρ Z Q=>to ρ Z fun x Z1=>∃z,x=.d (.str z)/\t ρ Z1 fun ys Z2=>∃y ss,ys=[y]/\bL Z2 y=some (.lst (ss.map D.str))/\JoinOk z ss=true/\Q (.d (.str (Str.join z ss))) Z2
theorem rD(to:AE)(t:AA)(ρ:SA)(Z:Om)(Q:AV->Om->Prop):CK to t ρ Z Q=(to ρ Z fun x Z1=>∃z,x=.d (.str z)/\t ρ Z1 fun ys Z2=>∃y ss,ys=[y]/\bL Z2 y=some (.lst (ss.map D.str))/\JoinOk z ss=true/\Q (.d (.str (Str.join z ss))) Z2):=rfl
theorem jK{G:Hp}:∀ {ss:List Str} {vs:List V},aE G (ss.map D.str) vs->vs=ss.map V.str
 | [],vs,h=>by cases vs with
  |nil=>rfl
  |cons v vs=>simp[aE] at h
 |z::ss,vs,h=>by cases vs with
  |nil=>simp[aE] at h
  |cons v vs=>
   simp only[List.map_cons,aE,Dat] at h;obtain⟨v',r,e,rfl,h2⟩:=h;cases e;rw[List.map_cons,jK h2]
theorem md{K:W.Frag}{to:TE}{to':AE}{t:TA}{t':AA}(ho:a9 to to')(ht:gM t t'):a9 (tBM K "str" (C9 K) to t) (CK to' t'):=⟨fun F H Z σ ρ Q Q' rp rs w k=>
 ho.go rp rs w fun x Z1 v H1 rp1 fr1 rs1 rv1 ⟨z,e,q1⟩=>by
  subst e;cases cu rv1;refine⟨rfl,ht.go rp1 rs1 q1 fun ys Z2 vs H2 rp2 fr2 rs2 rv2 ⟨y,ss,e1,e2,e3,q⟩=>?_⟩;subst e1;obtain⟨u,rfl,r⟩:=iK rv2;obtain⟨a,us,rfl,q1,q2⟩:=gA rp2 r e2;cases jK q2
  exact⟨z,a,ss,rfl,rfl,.inl (.inl q1),e3,(k.fr (fr1.trans fr2)).str rp2 q⟩⟩
noncomputable def Gx:A2:=fun x y Z Q=>∃z i c,x=.d (.str z)/\y=.d (.int i)/\z.length<=sizeLine/\atI z.cps.toList i=some c/\Q (.d (.str (tx [c]))) Z
theorem vz(x y:AV)(Z:Om)(Q:AV->Om->Prop):Gx x y Z Q=(∃z i c,x=.d (.str z)/\y=.d (.int i)/\z.length<=sizeLine/\atI z.cps.toList i=some c/\Q (.d (.str (tx [c]))) Z):=rfl
theorem uP{K:W.Frag}:dv (rIx K) Gx:=⟨fun F H Z v u x y Q Q' rp h1 h2 ⟨z,i,c,e1,e2,h3,h4,q⟩ k=>by
 subst e1 e2
 exact .inr (.inr ⟨z,i,c,cu h1,bo h2,h3,h4,k.str rp q⟩)⟩
noncomputable def Cf:V->Option Int->Option Int->Hp->VK->Prop:=fun x lo hi H Q=>∃z:Str,x=.str z/\z.length<=sizeLine/\Q (.str (Txt.slice z lo hi)) H
theorem c5{X:Cx}:SlR X Cf:=by
 intro pins s σ H x v vl vu lo hi sl Q I rx hs pl pu h;obtain⟨z,rfl,hz,q⟩:=h;obtain⟨t,rfl⟩:=rx
 obtain⟨l,e1,e2⟩:∃l:Option (Int×Tok),vl=partValue l/\l.map (·.1)=lo:=by
  cases pl with
  |none=>exact⟨none,rfl,rfl⟩
  |int i t=>exact⟨some (i,t),rfl,rfl⟩
 obtain⟨u,e3,e4⟩:∃l:Option (Int×Tok),vu=partValue l/\l.map (·.1)=hi:=by
  cases pu with
  |none=>exact⟨none,rfl,rfl⟩
  |int i t=>exact⟨some (i,t),rfl,rfl⟩
 subst e1 e3 e2 e4;refine⟨"str",_,F.slot_str_getitem.lookup,typeIs_str _ _ _,wpAny_getItem_str_slice (l:=l) (u:=u) (st:=none) hs rfl ?_⟩;exact post_val_or_str (y:=z) (z:=⟨((slicePicked z l u none).filterMap (z.cps[·]?)).toArray⟩) ⟨Nat.le_trans (Txt.slice_le z _ _) hz,fun t' k=>⟨.str (Txt.slice z (l.map (·.1)) (u.map (·.1))),H,I.tok k,⟨t',rfl⟩,q⟩⟩
noncomputable def Gh(te:AE)(tl th:AO):AE:=fun ρ Z Q=>te ρ Z fun x Z1=>tl ρ Z1 fun lo Z2=>th ρ Z2 fun hi Z3=>∃z:Str,x=.d (.str z)/\z.length<=sizeLine/\Q (.d (.str (Txt.slice z lo hi))) Z3
theorem vw(te:AE)(tl th:AO)(ρ:SA)(Z:Om)(Q:AV->Om->Prop):Gh te tl th ρ Z Q=(te ρ Z fun x Z1=>tl ρ Z1 fun lo Z2=>th ρ Z2 fun hi Z3=>∃z:Str,x=.d (.str z)/\z.length<=sizeLine/\Q (.d (.str (Txt.slice z lo hi))) Z3):=rfl
theorem eS{te:TE}{te':AE}{tl th:TO}{tl' th':AO}(he:a9 te te')(hl:Ref REq tl tl')(hh:Ref REq th th'):a9 (tSl Cf te tl th) (Gh te' tl' th'):=⟨fun F H Z σ ρ Q Q' rp rs w k=>
 he.go rp rs w fun x Z1 v H1 rp1 fr1 rs1 rv1 q1=>hl.go rp1 rs1 q1 fun lo Z2 lo' H2 rp2 fr2 rs2 e2 q2=>hh.go rp2 rs2 q2 fun hi Z3 hi' H3 rp3 fr3 rs3 e3 ⟨z,e,hz,q⟩=>by
  cases (show lo=lo' from e2)
  cases (show hi=hi' from e3)
  subst e
  exact⟨z,cu rv1,hz,(k.fr ((fr1.trans fr2).trans fr3)).str rp3 q⟩⟩
inductive PFs (X:Cx):List Expr->List TE->Prop
 |nil:PFs X [] []
 |cons {e:Expr} {t:TE} {es:List Expr} {ts:List TE}:PE X e t->PFs X es ts->PFs X (e::es) (t::ts)
inductive A7:List TE->List AE->Prop
 |nil:A7 [] []
 |cons {t:TE} {t':AE} {ts:List TE} {ts':List AE}:a9 t t'->A7 ts ts'->A7 (t::ts) (t'::ts')
theorem iV(z:Str):∀(ss:List Str)(a:Nat),ss.foldl (fun(n:Nat) (y:Str)=>n+y.length+z.length) a=a+(ss.map fun y=>y.length+z.length).sum
 | [],a=>by simp
 |x::ss,a=>by rw[List.foldl_cons,iV z ss,List.map_cons,List.sum_cons];omega
theorem Ay{B:Nat}(f:Str->Nat):∀ {ss:List Str},(∀y∈ss,f y<=B)->(ss.map f).sum<=ss.length*B
 | [],_=>by simp
 |x::ss,h=>by
  have h1:=h x (by simp)
  have h2:=Ay f (ss:=ss) fun y hy=>h y (List.mem_cons_of_mem _ hy);rw[List.map_cons,List.sum_cons,List.length_cons,Nat.add_mul];omega
theorem og{z:Str}{ss:List Str}(B:Nat)(h:∀y∈ss,y.length+z.length<=B)(h2:ss.length*B<=200000):JoinOk z ss=true:=by
 unfold JoinOk
 have e:ss.toArray.foldl (fun(n:Nat) (y:Str)=>n+y.length+z.length) 0=(ss.map fun y=>y.length+z.length).sum:=by
  rw[List.foldl_toArray,iV,Nat.zero_add]
 have h3:=Ay (fun y=>y.length+z.length) h;have h4:(200000:Nat)<=sizeLine:=by decide
 show (!Builtin.Str.tooLong (ss.toArray.foldl (fun(n:Nat) (y:Str)=>n+y.length+z.length) 0))=true;rw[e];unfold Builtin.Str.tooLong;simp only[Bool.not_eq_true',decide_eq_false_iff_not];omega
end L2
namespace L2
open PySem PySem.Spec PyProof.Rows PySem.W
noncomputable def CXx(P:Program)(w:World):CXT:=fun outer H s E e s'=>∃(a C t:Addr)(H':Hp)(B:Heap),e=.ref a/\s'.os=s.os/\AllBare s'.gens/\Un (frs outer) [] H H' s.heap s'.heap/\HOk P w H' B /\
 Heap.FlyingW B outer a (.ref C) (.ref t) s'.heap/\(∀b o,s.heap.get? b=some o->H b=none->b ∉ frs outer->B.get? b=some o)/\(∀b o,s.heap.get? b=some o->b ∉ frs outer->∃o',B.get? b=some o')/\E (.ref a) (some C) H'
theorem jx{P:Program}{w:World}{H:Hp}{h:Heap}{a:Addr}{o:HO}(x:cM P w H h a o):∃u,h.get? a=some u:=by
 cases o with
 |lst xs=>obtain⟨_,_,_,_,e⟩:=x;exact⟨_,e⟩
 |tup xs=>obtain⟨_,_,_,⟨_,e,_⟩,_⟩:=x;exact⟨_,e⟩
 |dK kvs=>obtain⟨_,_,_,_,o,_,_,e,_⟩:=x;exact⟨_,e⟩
 |dT kvs=>obtain⟨_,_,_,_,o,_,_,e,_⟩:=x;exact⟨_,e⟩
 |set S n=>obtain⟨o,_,_,_,e,_⟩:=x;exact⟨_,e⟩
 |ins C dx fs=>obtain⟨_,_,_,e,_⟩:=x;exact⟨_,e⟩
 |own y=>obtain⟨_,e⟩:=x;exact⟨_,e⟩
 |xd fs=>obtain⟨_,⟨_,_,_,e,_⟩,_⟩:=x;exact⟨_,e⟩
 |rng lo hi=>obtain⟨_,_,_,e⟩:=x;exact⟨_,e⟩
 |frz ob u=>obtain⟨e,_⟩:=x;exact⟨_,e⟩
 |tbl ps=>obtain⟨qs,e,_⟩:=x;exact⟨_,e⟩
 |met f y=>exact⟨_,show h.get? a=some _ from x⟩
 |ext φ=>obtain⟨_,⟨_,e⟩,_⟩:=x;exact⟨_,e⟩
noncomputable abbrev kj:List Value:=[.type "ValueError",.type "Exception",.type "BaseException",.type "object"]
end L2
namespace L2
open PySem PySem.Spec PySem.Calls PyProof.Rows PySem.W PySem.Builtin PySem.Builtin.ObjectAttr PySem.Builtin.Getset_descriptor
noncomputable def fN(K:W.Frag)(D:Addr):Bool:=(findIn K (.ref D) "__getattribute__" == some (some (.builtin "BaseException.__getattribute__")) && findIn K (.ref D) "__getattr__" == some none) && (clsIn K D).isSome && (findIn K (.ref D) "__class__" == some (some (.builtin "object.__class__"))) && (specialIn K (.builtin "object.__class__") "__get__" == some (some (.builtin "getset_descriptor.__get__"))) && (takesIn K (.builtin "object.__class__") == some true) && (mroIn K D (.type "object") == some true && mroIn K D (.type "BaseException") == some true)
noncomputable def nJ(x D:Addr)(h:Heap):Prop:=∃o,h.get? x=some o/\o.cls=.ref D
theorem nJ.ty{x D:Addr}{h:Heap}(e:nJ x D h)(M:Model):Looks M h (typeOf (.ref x)) (.ref D):=by
 obtain⟨o,h1,h2⟩:=e;exact h2 ▸ (Looks.ld h1).andThen .now
theorem tJ{K:W.Frag}{M:Model}{h:Heap}(X:K.In h){x C:Addr}{name:Str}{a g:Value}(ha:findIn K (.ref C) name=some (some a))(hg:specialIn K a "__get__"=some (some g))(ht:takesIn K a=some true):Looks M h (find (.ref x) (.ref C) name) (.bind g a):=by
 refine(looks_findIn (M:=M) X ha).andThen ((looks_specialIn (M:=M) X hg).andThen ?_);have dd:Looks M h (dataDescriptor? (some a) (some g)) (some (g,a)):=(looks_takesIn (M:=M) X ht).andThen .now;exact dd.andThen (Looks.tag .now)
section
variable{prog:Program}{w:World}{A:Around}{E:Value->Shared->Prop}{s:Shared}{K:W.Frag}{x D:Addr}
theorem xh{Q:Option Value->Shared->Prop}(X:K.In s.heap)(e:nJ x D s.heap)(ok:fN K D=true)(h:Q (some (.ref D)) { s with toks:=s.toks+1 }):wpAny (model prog w) A (getAttr? (.ref x) "__class__") Q E s:=by
 unfold fN at ok;simp only[Bool.and_eq_true,beq_iff_eq] at ok;obtain⟨⟨⟨⟨⟨⟨hga,hgn⟩,_⟩,ha⟩,hn⟩,htk⟩,hm,hmb⟩:=ok;obtain⟨hh,gs,dr,tt,os⟩:=s;have T0:=e.ty (model prog w);have T1:=looks_findIn (M:=model prog w) X hga;have T2:=tJ (M:=model prog w) (x:=x) X ha hn htk;have T3:=looks_findIn (M:=model prog w) X hgn;have T4:=looks_mroIn (M:=model prog w) X hm;unfold getAttr? getAttrBy? getAttrBy;refine wpAny_bind (wpAny_mkText (wpAny_bind (wpAny_attempt (wpAny_holding (wpAny_bind (T0.at (wpAny_bind (T1.at ?_))))))))
 dsimp only;rw[if_neg (by rw[show (Value.builtin "BaseException.__getattribute__" == Value.builtin "object.__getattribute__")=false from by decide +kernel,Bool.and_false];exact Bool.false_ne_true)]
 have T5:=looks_mroIn (M:=model prog w) X hmb;unfold getAttrByItsOwn hookBefore callGetattribute boundAndCalled;show wpAny _ _ (typeLookup (.ref D) "__getattr__" >>= _) _ _ _;refine wpAny_bind (T3.at (wpAny_bind (wpAny_attempt (wpAny_holding ?_))));show wpAny _ _ (bindSpecial (.builtin "BaseException.__getattribute__") (.ref x) >>= _) _ _ _;refine wpAny_bind (wpAny_of_eq (PySem.F.attrBase_ValueError.ga.bind _) (wpAny_call (codeAny_call_builtin PySem.F.attrBase_ValueError.ga.plain PySem.F.entry_bexc_ga ?_)))
 have ck:∀ {Q:Unit->Shared->Prop} {E:Value->Shared->Prop} {A:Around} {nv:Value},Q () ⟨hh,gs,dr,tt+1,os⟩->wpAny (model prog w) A (checkBuiltinCall "BaseException.__getattribute__" ⟨[.ref x,nv],[]⟩) Q E ⟨hh,gs,dr,tt+1,os⟩:=fun {Q E A nv} q=>by
  have b1:builtinKind "BaseException.__getattribute__"=some .slot:=by decide +kernel
  have b2:splitId "BaseException.__getattribute__"=some ("BaseException","__getattribute__"):=by decide +kernel
  have b3:=F.args_bexc_ga (.ref x) nv;simp only[checkBuiltinCall,b1,b2];refine wpAny_bind ?_;unfold isInstance;refine wpAny_bind (T0.at (T5.at ?_));rw[if_neg (by decide)]
  unfold argsOk at b3
  first|(rw[b3];exact wpAny_pure q)|(refine wpAny_of_eq b3 q)
 refine ck ?_
 repeat (first|with_reducible refine wpAny_bind (T0.at ?_)|with_reducible refine T0.at ?_|with_reducible refine wpAny_bind (T2.at ?_)|with_reducible refine T2.at ?_|wp_step)
 refine codeAny_call_builtin KF.slot_gs.plain KF.entry_gs (KF.slot_gs.check _ _ _ _ _ _ _ _ KF.type_class (KF.args_gs _ _ _) ?_);unfold Builtin.«getset_descriptor.__get__» descrGet;rw[dga_obj];refine wpAny_bind (wpAny_pure ?_);unfold descrGetter descrCheckInstance descrNameAndClass isInstance;simp only[KF.owner_class]
 repeat lk
 refine⟨Code.quiet_builtin _ (by decide +kernel),codeAny_builtin KF.entry_class ?_⟩
 unfold Builtin.«object.__class__» shownTypeOf
 repeat lk
 first|exact h|(repeat (first|assumption|wp_step))
theorem jQ(ok:fN K D=true):KitX K (.ref x) (.ref D) (nJ x D) where
 ty:=fun M h _ e=>e.ty M
 it:=fun M h X _=>by
  unfold fN at ok;simp only[Bool.and_eq_true,beq_iff_eq] at ok;obtain⟨⟨⟨⟨⟨_,hc⟩,_⟩,_⟩,_⟩,_⟩:=ok;unfold clsIn at hc;split at hc
  ·rename_i c' d' cd' sl' lk
   intro A' Q' E' s' k q;unfold isType loadHead;exact wpAny_bind (wpAny_loadPart (k _ _ (X _ _ lk)) (wpAny_pure q))
  ·cases hc
 ne:=fun h tp dd its n sl X htp=>by
  unfold fN at ok;simp only[Bool.and_eq_true,beq_iff_eq] at ok;obtain⟨⟨⟨⟨⟨_,hc⟩,_⟩,_⟩,_⟩,_⟩:=ok;refine Bool.eq_false_iff.mpr fun q=>?_;have e:D=tp:=Value.ref.inj (beq_iff_eq.mp q);subst e;unfold clsIn at hc;split at hc
  ·rename_i c' d' cd' sl' lk
   have z:=(X _ _ lk).symm.trans htp;cases z
  ·cases hc
 ca:=fun X e k=>xh X e ok k
end
noncomputable def clV:V->Option Value
 |.ref a=>some (.ref a)
 |.ty n=>some (.type n)
 |_=>none
theorem As{v:V}{u c:Value}(r:a6 v u)(h:clV v=some c):u=c:=by
 cases v<;>simp[clV] at h<;>subst h<;>exact r
noncomputable def xa:List V->Option (List Value)
 | []=>some []
 |v::r=>match clV v,xa r with
  |some c,some cs=>some (c::cs)
  |_,_=>none
theorem vI:∀ {vs:List V} {us cs:List Value},aH vs us->xa vs=some cs->us=cs
 | [],us,cs,r,h=>by cases r;cases h;rfl
 |v::vs,us,cs,r,h=>by
  cases r with
  |cons r1 rr=>
   simp only[xa] at h;split at h
   ·rename_i c cs' h1 h2
    cases h;rw[As r1 h1,vI rr h2]
   ·cases h
theorem Inv.track{X:Cx}{pins:List (Addr×Obj)}{σ:St}{H:Hp}{s:Shared}(J:Inv X pins σ H s){a:Addr}{o:HO}(hn:H a=none)(h0:X.s₀.heap.get? a=none)(hL:a≠X.env.locals)(hC:∀x c,X.env.cells.lookup x=some c->c≠a)(hp:∀p∈X.pn++pins,p.1≠a)(ho:cM X.prog X.w (upd H a o) s.heap a o):Inv X pins σ (upd H a o) s:=by
 have ne:∀b u,H b=some u->b≠a:=fun b u h z=>by subst z;rw[hn] at h;cases h
 refine⟨J.ok,J.os,J.bare,⟨J.base.keep,J.base.slot,fun b ob h1 h2 h3=>?_,J.base.there,fun b xs h=>?_,fun b ob u h=>?_,fun b ps h=>?_⟩,J.loc,J.cell,?_,fun x c h=>?_,fun p hm=>?_,fun b u h=>?_,J.len⟩
 ·rw[aw (fun z=>by subst z;rw[h0] at h1;cases h1)]
  exact J.base.free b ob h1 h2 h3
 ·have:=J.base.tups b xs h
  rw[aw (ne b _ this)];exact this
 ·have:=J.base.frzs b ob u h
  rw[aw (ne b _ this)];exact this
 ·obtain⟨more,this⟩:=J.base.tbls b ps h
  exact⟨more,by rw[aw (ne b _ this)];exact this⟩
 ·rw[aw (Ne.symm hL)];exact J.free
 ·rw[aw (hC x c h)];exact J.freeC x c h
 ·obtain⟨z1,z2,z3,z4,z5⟩:=J.pin p hm
  exact⟨z1,by rw[aw (hp p hm)];exact z2,z3,z4,z5⟩
 ·by_cases hb:b=a
  ·subst hb;rw[bR] at h;cases h;exact ho
  ·rw[aw hb] at h
   exact(J.hok b u h).stay (fun _ _ _ q=>q) (fun c q=>by rw[aw (ne c _ q)];exact q) (fun c xs q=>by rw[aw (ne c _ q)];exact q) fun c o' u' q=>by rw[aw (ne c _ q)];exact q
noncomputable def PEX(X:Cx)(CX:CXT)(e:Expr)(t:XK->TE):Prop:=∀(pins:List (Addr×Obj)) (s:Shared) (σ:St) (H:Hp) (Q:VK) (E:XK),Inv X pins σ H s->t E σ H Q ->
 wpAny (model X.prog X.w) X.A (eval e X.env) (EP X pins σ Q) (fun x s'=>∃H1 s1,Inv X pins σ H1 s1/\CX X.stack H1 s1 E x s') s
section
variable{X:Cx}{CX:CXT}{k:Nat}{f:Addr}{fd:FuncData}{ps:List Str}{sp:Sp}{x:Str}{p pos:Pos}{e:Expr}{es:List Expr}{t:TA}
theorem jM(F:aV X.prog X.w X.K X.mg X.base CX k f fd ps sp)(hr:du k X.A)(hg:Gl X x)(hm:X.mg x=some (.ref f))(hk:W.keepIn X.K (.ref f)=true)(hb:bx X.K fd ps [])(ha:PA X.nox (e::es) t)(hdb:(x == ("__debug__":Str))=false:=by decide)(he:starEach (e::es) X.env=(false,eval e X.env)::starEach es X.env:=by rfl)(hpl:(backTo pos (starEach es X.env)).any (·.1)=false:=by rfl):
  PEX X CX (.Call (.Name x p) (e::es) [] pos) (fun E=>sr sp [] E t):=by
 intro pins s σ H Q E I h;refine wpAny_Call_Name_kw (iu I hg hm ?_ hdb);refine W.callWith_K (h₀:=X.base) I.ok.mod.kin hk (wpAny_mono (ha pos pins s σ H _ (I.wish _) h) (fun us s1 ⟨vs,H1,I1,r,q⟩=>⟨I1.kIn,?_⟩) fun _ _ z=>False.elim z) he hpl;have I1:=I1.unwish;have q:sp (vs++[]) H1 Q E:=q;rw[List.append_nil] at q;have hl:(us++[]).length=ps.length:=by rw[List.append_nil,←r.length];exact F.len _ _ _ _ q
 have hbb:=hb s1 us I1.kIn hl;rw[List.append_nil] at hbb;refine wpAny_call (codeAny_mono (F.run X.A X.stack s1 H1 ⟨us,[]⟩ us vs Q E hr I1.env0 hbb r q) fun r s' hq=>?_)
 cases r with
 |error e=>exact⟨H1,s1,I1,hq⟩
 |ok fl=>
  cases fl with
  |ret u=>exact I1.after hq
  |next=>exact False.elim hq
  |brk=>exact False.elim hq
  |cont=>exact False.elim hq
end
end L2
namespace L2
open PySem PySem.Spec PySem.Calls PyProof.Rows PySem.W
section
variable{X:Cx}{pins:List (Addr×Obj)}{σ:St}{H:Hp}{s:Shared}
theorem wY{M:Model}{A:Around}{E:Value->Shared->Prop}{i:Nat}{n:Str}{pos:Pos}{Q:Unit->Shared->Prop}(J:Inv X pins σ H s)(hN:X.N.Nodup)(hi:X.N[i]?=some n)(hl:X.env.scope.names.lookup n=some .local)(h:∀s',Inv X pins (σ.set i none) H s'->Q () s'):wpAny M A (do bindName X.env n .none;unbindBehindTheSuite X.env n pos) Q E s:=by
 have hcls:(X.env.scope.kind == .class || (X.env.scope.kind == .module && X.env.locals != X.env.globals))=false:=by rw[J.ok.kind];rfl
 obtain⟨m,hn,hk⟩:=J.loc;refine wpAny_nameGoes_keeps hl hn hcls fun h' v hn' hs=>h _ ?_;have at':∀b o,b≠X.env.locals->s.heap.get? b=some o->h'.get? b=some o:=fun b o hb q=>(hs.2 b hb).trans q;have ne0:∀b o,X.s₀.heap.get? b=some o->b≠X.env.locals:=fun b o e=>Nat.ne_of_lt (Nat.lt_of_lt_of_le (Heap.lt_size e) J.ok.above);have cel:∀x c v,X.env.cells.lookup x=some c->s.heap.IsCell c v->h'.IsCell c v:=fun x c v e ⟨o,q1,q2⟩=>⟨o,at' c o (J.cne x c e) q1,q2⟩
 refine⟨J.ok,J.os,J.bare,⟨fun b o e1 e2 e3 e4=>at' b o (ne0 b o e1) (J.base.keep b o e1 e2 e3 e4),fun b o e1 e2 e3 e4=>?_,J.base.free,fun b o e1 e2=>?_,J.base.tups,J.base.frzs,J.base.tbls⟩,⟨_,hn',fun j x w h1 h2 h3=>?_⟩,fun x c e=>?_,J.free,J.freeC,fun p hp=>?_,fun b o e=>?_,?_⟩
 ·obtain⟨sl,q⟩:=J.base.slot b o e1 e2 e3 e4
  exact⟨sl,at' b _ (ne0 b o e1) q⟩
 ·obtain⟨o',q⟩:=J.base.there b o e1 e2
  exact⟨o',at' b _ (ne0 b o e1) q⟩
 ·have hji:j≠i:=fun z=>by
   subst z;rw[List.getElem?_set] at h2;simp only[if_true] at h2;split at h2<;>cases h2
  rw[List.getElem?_set_ne (Ne.symm hji)] at h2;obtain⟨u,r,l⟩:=hk j x w h1 h2 h3
  have hxn:x≠n:=fun z=>by
   subst z;have b1:=List.getElem?_eq_some_iff.mp h1;have b2:=List.getElem?_eq_some_iff.mp hi;exact hji ((List.getElem_inj hN).mp (b1.2.trans b2.2.symm))
  refine⟨u,r,?_⟩;rcases l with⟨l1,l2⟩|⟨l1,c,l2,l3⟩
  ·exact .inl ⟨l1,by show (if x=n then v else m x)=some u;rw[if_neg hxn];exact l2⟩
  ·exact .inr ⟨l1,c,l2,cel x c _ l2 l3⟩
 ·obtain⟨v,q⟩:=J.cell x c e
  exact⟨v,cel x c v e q⟩
 ·obtain⟨z1,z2,z3,z4,z5⟩:=J.pin p hp
  exact⟨at' _ _ z3 z1,z2,z3,z4,z5⟩
 ·have nl:∀b u,H b=some u->b≠X.env.locals:=fun b u q z=>by subst z;rw[J.free] at q;cases q
  refine(J.hok b o e).stay (fun c u hc q=>at' c u ?_ q) (fun _ q=>q) (fun _ _ q=>q) fun _ _ _ q=>q;rcases hc with rfl|hc
  ·exact nl _ _ e
  ·exact nl _ _ hc
 ·rw[List.length_set];exact J.len
end
noncomputable def PSX(X:Cx)(CX:CXT)(st:Stmt)(t:XK->TS):Prop:=∀(pins:List (Addr×Obj)) (s:Shared) (σ:St) (H:Hp) (D:g9) (E:XK),Inv X pins σ H s->t E D σ H ->
 wpAny (model X.prog X.w) X.A (exec st X.env) (SP X pins D) (fun x s'=>∃H1 s1,Inv X pins σ H1 s1/\CX X.stack H1 s1 E x s') s
section
variable{X:Cx}{CX:CXT}{e:Expr}{te:XK->TE}{pos:Pos}
theorem Bs{i:Nat}{x:Str}{pos':Pos}(hN:X.N.Nodup)(hi:X.N[i]?=some x)(hx:Loc X.env.scope x)(he:PEX X CX e te)(hs:swapsWith e (some (.Name x pos')) pos.line X.env=pure false:=by rfl)(hf:X.fn x=true\/X.env.scope.names.lookup x=some .local:=by first|exact .inl rfl|exact .inr rfl|assumption):
  PSX X CX (.Assign [.Name x pos'] e pos) (fun E=>sQ (te E) (nN i)):=by
 intro pins s σ H D E I h;refine wpAny_Assign_Name (thn (he pins s σ H _ E I h) fun v s1 ⟨y,H1,I1,r1,q1⟩=>?_) hs;exact g8 I1 hN hi hx r1 (fun s2 I2=>⟨_,H1,I2,q1⟩) hf
end
noncomputable def Cx.inX(X:Cx)(e:Value):Cx:={ X with A:=X.A.mark (some e),calm:=false,xe:=fun _ _=>False }
theorem Inv.inX{X:Cx}{pins:List (Addr×Obj)}{σ:St}{H:Hp}{s:Shared}(I:Inv X pins σ H s)(e:Value):Inv (X.inX e) pins σ H s:=
 ⟨⟨I.ok.mod,I.ok.kind,I.ok.glob,I.ok.blt,I.ok.above,I.ok.inj,I.ok.has,I.ok.cab,fun z=>(nomatch z),I.ok.frames,I.ok.stk,I.ok.exf,I.ok.bs,I.ok.bsz,I.ok.noex,I.ok.exfs,I.ok.funs,I.ok.frf,I.ok.tt⟩,I.os,I.bare,I.base,I.loc,I.cell,I.free,I.freeC,I.pin,I.hok,I.len⟩
theorem Inv.IV{X:Cx}{e:Value}{pins:List (Addr×Obj)}{σ:St}{H:Hp}{s:Shared}(ok:X.Ok)(I:Inv (X.inX e) pins σ H s):Inv X pins σ H s:=⟨ok,I.os,I.bare,I.base,I.loc,I.cell,I.free,I.freeC,I.pin,I.hok,I.len⟩
end L2
namespace L2
open PySem PySem.Spec PyProof.Rows
noncomputable abbrev dh:=List AV->Om->(AV->Om->Prop)->(Addr->Om->Prop)->Prop
noncomputable def LX(F:Fs)(H:Hp)(Z:Om)(Ex:Addr->Om->Prop)(E:XK):Prop:=∀C Z' a H',Rep F H' Z'->Fr F H Z H' Z'->Ex C Z'->E (.ref a) (some C) H'
theorem LX.fr{F:Fs}{H H1:Hp}{Z Z1:Om}{Ex:Addr->Om->Prop}{E:XK}(k:LX F H Z Ex E)(f:Fr F H Z H1 Z1):LX F H1 Z1 Ex E:=fun C Z' a H' rp fr q=>k C Z' a H' rp (f.trans fr) q
noncomputable def ft(sp:dh):Sp:=fun vs H Q E=>∃(F:Fs)(xs:List AV)(Z:Om)(Q':AV->Om->Prop)(Ex:Addr->Om->Prop),Rep F H Z/\RVs (cut F H Z) xs vs/\sp xs Z Q' Ex/\LP RV F H Z Q' Q/\LX F H Z Ex E
noncomputable abbrev AXS:=ce->(Addr->Om->Prop)->SA->Om->Prop
structure eA(E:XK)(t:TS)(t':AXS):Prop where
 run:∀(F:Fs)(H:Hp)(Z:Om)(σ:St)(ρ:SA)(D:g9)(D':ce)(Ex:Addr->Om->Prop),Rep F H Z->RS (cut F H Z) ρ σ->t' D' Ex ρ Z->LE F H Z D' D->LX F H Z Ex E->t D σ H
noncomputable def FN(t:AS):AXS:=fun D _ ρ Z=>t D ρ Z
noncomputable def u7(t u:AXS):AXS:=fun D Ex ρ Z=>t { D with nx:=u D Ex } Ex ρ Z
noncomputable def F4(c:AT)(t u:AXS):AXS:=fun D Ex ρ Z=>c ρ Z fun b Z1=>if b=true then t D Ex ρ Z1 else u D Ex ρ Z1
theorem we(t:AS)(D:ce)(Ex:Addr->Om->Prop)(ρ:SA)(Z:Om):FN t D Ex ρ Z=t D ρ Z:=rfl
theorem xI(t u:AXS)(D:ce)(Ex:Addr->Om->Prop)(ρ:SA)(Z:Om):u7 t u D Ex ρ Z=t { D with nx:=u D Ex } Ex ρ Z:=rfl
theorem uA(c:AT)(t u:AXS)(D:ce)(Ex:Addr->Om->Prop)(ρ:SA)(Z:Om):F4 c t u D Ex ρ Z=c ρ Z fun b Z1=>if b=true then t D Ex ρ Z1 else u D Ex ρ Z1:=rfl
section
variable{E:XK}{t u:TS}{t' u':AXS}{ta:TA}{ta':AA}{tc:TT}{tc':AT}{sp:dh}{C:Addr}
theorem dQ{a:AS}(h:fD t a):eA E t (FN a):=⟨fun F H Z σ ρ D D' Ex rp rs w k kx=>h.run F H Z σ ρ D D' rp rs w k⟩
theorem cf(h1:eA E t t')(h2:eA E u u'):eA E (Ej t u) (u7 t' u'):=⟨fun F H Z σ ρ D D' Ex rp rs h k kx=>
 h1.run F H Z σ ρ _ _ Ex rp rs h ⟨fun ρ1 Z1 σ1 H1 rp1 fr1 rs1 q=>h2.run F H1 Z1 σ1 ρ1 D D' Ex rp1 rs1 q (k.fr fr1) (kx.fr fr1),k.rt,k.bk,k.ct⟩ kx⟩
theorem pE(hc:gE tc tc')(h1:eA E t t')(h2:eA E u u'):eA E (Ei tc t u) (F4 tc' t' u'):=⟨fun F H Z σ ρ D D' Ex rp rs w k kx=>
 hc.go rp rs w fun a Z1 v H1 rp1 fr1 rs1 rv q=>by
  cases (show a=v from rv)
  cases a with
  |true=>rw[if_pos rfl] at q ⊢;exact h1.run F H1 Z1 σ ρ D D' Ex rp1 rs1 q (k.fr fr1) (kx.fr fr1)
  |false=>rw[if_neg Bool.false_ne_true] at q ⊢;exact h2.run F H1 Z1 σ ρ D D' Ex rp1 rs1 q (k.fr fr1) (kx.fr fr1)⟩
end
theorem PS.nox{X:Cx}{st:Stmt}{t:TS}(h:PS X.nox st t):PS X st t:=.mk <| fun pins s σ H D I hw=>
 wpAny_mono (h pins s σ H D (I.wish _) hw) (fun _ _ q=>q.unwish) fun _ _ z=>False.elim z
theorem RS.IW{G:Hp}{ρ:SA}{σ:St}{i:Nat}(h:RS G ρ σ):RS G (ρ.set i none) (σ.set i none):=by
 refine⟨by simp[h.1],fun j b e=>?_⟩
 by_cases hj:j=i
 ·subst hj
  rw[List.getElem?_set] at e;simp only[if_true] at e;split at e<;>cases e
 ·rw[List.getElem?_set_ne (Ne.symm hj)] at e
  rw[List.getElem?_set_ne (Ne.symm hj)];exact h.2 j b e
theorem wk{G:Hp}:∀ {vs us:List V},RVs G (vs.map AV.r) us->us=vs
 | [],us,h=>h
 |v::vs,us,h=>by
  obtain⟨u,r,rfl,h1,h2⟩:=h;cases (show u=v from h1)
  rw[wk h2]
noncomputable def B0:AV->Option Bool
 |.d a=>some (eqD a .non)
 |.p (.ref _) _=>some false
 |_=>none
noncomputable def Db(neg:Bool):A2:=fun x y Z Q=>∃b,B0 x=some b/\y=.d .non/\Q (.d (.bl (if neg then !b else b))) Z
theorem ra(neg:Bool)(x y:AV)(Z:Om)(Q:AV->Om->Prop):Db neg x y Z Q=∃b,B0 x=some b/\y=.d .non/\Q (.d (.bl (if neg then !b else b))) Z:=rfl
theorem xS(a:D):B0 (.d a)=some (eqD a .non):=rfl
theorem lS:dv (fun x y H Q=>y=.non/\Q (.bl (decide (x=.non))) H) (Db false):=⟨fun F H Z v u x y Q Q' rp h1 h2 ⟨b,e1,e2,q⟩ k=>by
 cases x with
 |d a=>
  cases e1;exact GP.run F H Z v u (.d a) y Q Q' rp h1 h2 ⟨a,rfl,e2,q⟩ k
 |r v'=>cases e1
 |p v' P=>
  cases v'<;>cases e1
  subst e2;obtain⟨rfl,_⟩:=h1
  exact⟨tj h2,k.bl rp q⟩⟩
end L2
namespace L2
open PySem PySem.Spec PySem.Calls PyProof.Rows PySem.W
structure Ix(P:Program)(w:World)(K:W.Frag)(mg:Str->Option Value)(base:Heap)(H₀:Hp)(k:Nat)(f:Addr)(n:Nat)(sp:Sp):Prop where
 fn:∃(oc:Value)(od:Option Addr)(fd:FuncData) (sl:Array (Option Value)) (u:HO),H₀ f=some (.frz ⟨oc,od,.func fd,sl⟩ u)
 len:∀vs H Q E,sp vs H Q E->vs.length=n
 run:∀(A:Around)(outer:List Env)(s:Shared)(H:Hp)(us:List Value)(vs:List V)(Q:VK)(E:XK),du k A->rP P w K mg base A outer s H->Frz H₀ H->aH vs us->sp vs H Q E ->
  codeAny (model P w) A (.call (.ref f) ⟨us,[]⟩) (CR (CXx P w) outer P w H s Q E) s
noncomputable def gS(caps:List V)(cA:List AV)(sp:dh):Sp:=fun vs H Q E=>∃(F:Fs)(xs:List AV)(Z:Om)(Q':AV->Om->Prop)(Ex:Addr->Om->Prop),Rep F H Z/\RVs (cut F H Z) xs vs/\RVs (cut F H Z) cA caps/\sp xs Z Q' Ex/\LP RV F H Z Q' Q/\LX F H Z Ex E
end L2
namespace L2
open PySem PySem.Spec PySem.Calls PyProof.Rows
structure Ap3(z u o i j l p q r:Addr):Prop where
 uz:u≠z
 oz:o≠z
 iz:i≠z
 jz:j≠z
 lz:l≠z
 uo:u≠o
 ui:u≠i
 uj:u≠j
 ul:u≠l
 oi:o≠i
 oj:o≠j
 ol:o≠l
 ij:i≠j
 il:i≠l
 jl:j≠l
 np:∀c∈[z,u,o,i,j,l],p≠c
 nq:∀c∈[z,u,o,i,j,l],q≠c
 nr:∀c∈[z,u,o,i,j,l],r≠c
end L2
namespace L2
open PySem PySem.Spec PyProof.Rows
inductive O where
 |d (x:D)|box (b:Bool)|tup (os:List O)
noncomputable def Om.del(Z:Om)(l:Addr):Om:=fun b=>if b=l then none else Z b
theorem vF(i:Int)(ns:List Int):inD (.int i) (ns.map D.int)=decide (i∈ns):=by
 unfold inD
 induction ns with
 |nil=>rfl
 |cons n ns ih=>
  rw[List.map_cons,List.any_cons,ih,pQ];simp only[List.mem_cons];by_cases h:i=n
  ·subst h;simp
  ·have h':¬ n=i:=fun e=>h e.symm
   simp[h,h']
end L2
namespace L2
open PySem PySem.Spec PyProof.Rows AutoSeq1
noncomputable def xT:V->List V->Hp->VK->Prop:=fun x vs H Q=>∃z:Str,x=.str z/\vs=[]/\z.length<=1000/\Q (.str (Txt.upper z)) H
theorem yW{X:Cx}:MtR X "str.upper" xT:=by
 intro pins s σ H x vs v us Q I rx rv h;obtain⟨z,rfl,rfl,hz,q⟩:=h;obtain⟨t,rfl⟩:=rx;cases rv;exact SCL.upper (by omega) fun _=>⟨.str _,H,I.tok _,⟨_,rfl⟩,q⟩
noncomputable def tD(to:AE):AE:=fun ρ Z Q=>to ρ Z fun x Z1=>∃z,x=.d (.str z)/\z.length<=1000/\Q (.d (.str (Txt.upper z))) Z1
theorem Cc{K:W.Frag}{to:TE}{to':AE}(ho:a9 to to'):a9 (Fh K "str" xT to) (tD to'):=⟨fun F H Z σ ρ Q Q' rp rs w k=>
 ho.go rp rs w fun x Z1 v H1 rp1 fr1 rs1 rv1 ⟨z,e,hz,q1⟩=>by
  subst e;cases cu rv1
  exact⟨rfl,z,rfl,rfl,hz,k _ Z1 _ H1 rp1 fr1 (by simp[RV,Dat]) q1⟩⟩
noncomputable def DT(neg:Bool):A2:=fun x y Z Q=>∃xs,c0 Z x=some xs/\bL Z y=some (.lst [])/\Q (.d (.bl (if neg then !xs.isEmpty else xs.isEmpty))) Z
theorem zW{K:W.Frag}:dv (fun x y H Q=>∃a b xs,x=.ref a/\y=.ref b/\SqL K H a xs/\SqL K H b []/\Q (.bl (!xs.isEmpty)) H) (DT true):=⟨fun F H Z v u x y Q Q' rp h1 h2 ⟨xs,e1,e2,q⟩ k=>by
 obtain⟨a,vs,rfl,z1,z2⟩:=f6 rp h1 e1;obtain⟨b,rfl,hb⟩:=Az rp h2 e2
 have:vs.isEmpty=xs.isEmpty:=by
  have:=z2.length;cases vs<;>cases xs<;>simp at this ⊢
 exact⟨a,b,vs,rfl,rfl,.inl (.inl z1),.inl (.inl hb),by rw[this];exact k.bl rp q⟩⟩
end L2
namespace L2
open PySem PySem.Spec PyProof PyProof.Rows PySem.SeqAt
open AutoSeq1 (wpAny_loadPart')
mutual
noncomputable def ltD:D->D->Bool
 |.int a,.int b=>decide (a<b)
 |.str a,.str b=>decide (a.cps.toList<b.cps.toList)
 |.tup xs,.tup ys=>FX xs ys
 |_,_=>false
noncomputable def FX:List D->List D->Bool
 | [],[]=>false
 | [],_::_=>true
 |_::_,[]=>false
 |x::xs,y::ys=>if eqD x y then FX xs ys else ltD x y
end
mutual
noncomputable def cmD:D->D->Bool
 |.int _,.int _=>true
 |.str _,.str _=>true
 |.tup xs,.tup ys=>F9 xs ys
 |_,_=>false
noncomputable def F9:List D->List D->Bool
 |x::xs,y::ys=>if eqD x y then F9 xs ys else cmD x y
 |_,_=>true
end
end L2
namespace L2
open PySem PySem.Spec PyProof PyProof.Rows PySem.SeqAt
end L2
namespace L2
open PySem PySem.Spec PySem.Calls PyProof PyProof.Rows PySem.SeqAt
section
variable{prog:Program}{w:World}{A:Around}{E:Value->Shared->Prop}{s:Shared}
noncomputable def DN(h0 h:Heap):Prop:=∀x o,h0.get? x=some o->h.get? x=some o
structure Iw(prog:Program)(w:World)(A:Around)(h0:Heap)(s:Shared)(vs:List Value)(c:Nat->Nat->Bool)(b:Bool):Prop where
 kind:∀h,DN h0 h->∃fs T,W.KatTups h vs fs/\fs.length=vs.length/\(∀v∈fs,W.Looks (model prog w) h (typeOf v) T)/\(T == T)=true/\(T != Value.type "tuple")=b
 ask:∀h,DN h0 h->∀i j,i<vs.length->j<vs.length->∀(C:Bool->Shared->Prop)(E:Value->Shared->Prop),C (c i j) { s with heap:=h }->wpAny (model prog w) A (keyLt' (tuples' b) (vs.getD i Value.none) (vs.getD j Value.none)) C E { s with heap:=h }
end
section
variable{X:Cx}{pins:List (Addr×Obj)}{σ:St}{H:Hp}{s:Shared}{A:Around}
noncomputable def Im(k:Bool)(d:D):Prop:=∃r,(k=true/\∃z,d=.tup (.str z::r))\/(k=false/\∃i,d=.tup (.int i::r))
end
structure Srt(W:List D)(key:D->List Int)(k:Bool):Prop where
 row:∀d∈W,Im k d
 cmp:∀d∈W,∀e∈W,cmD d e=true
 lt:∀d∈W,∀e∈W,ltD d e=GK (key d) (key e)
end L2
namespace L2
open PySem PySem.Spec PyProof PyProof.Rows PySem.SeqAt
section
variable{K:W.Frag}{x qual:Str}{st:Stmt}{f:Addr}{fd:FuncData}
theorem Fun.IH{p0:Str}(F:Fun K x qual st f fd)(h:∀(kV doc pm:Value)(an:Option Addr)(cdv ct:Value)(u0:Value),bindArgs (W.fnOf x qual (defArgs st) (defBody st) (defScope st) .none kV doc pm an cdv ct) ⟨[u0],[]⟩=pure ([p0].zip [u0])):bx K fd [p0] []:=
 F.binds fun a b c d e g us hl=>match us,hl with | [u0],_=>h a b c d e g u0
theorem Fun.IF{p0 p1:Str}(F:Fun K x qual st f fd)(h:∀(kV doc pm:Value)(an:Option Addr)(cdv ct:Value)(u0 u1:Value),bindArgs (W.fnOf x qual (defArgs st) (defBody st) (defScope st) .none kV doc pm an cdv ct) ⟨[u0,u1],[]⟩=pure ([p0,p1].zip [u0,u1])):bx K fd [p0,p1] []:=
 F.binds fun a b c d e g us hl=>match us,hl with | [u0,u1],_=>h a b c d e g u0 u1
theorem Fun.II{p0 p1 p2:Str}(F:Fun K x qual st f fd)(h:∀(kV doc pm:Value)(an:Option Addr)(cdv ct:Value)(u0 u1 u2:Value),bindArgs (W.fnOf x qual (defArgs st) (defBody st) (defScope st) .none kV doc pm an cdv ct) ⟨[u0,u1,u2],[]⟩=pure ([p0,p1,p2].zip [u0,u1,u2])):bx K fd [p0,p1,p2] []:=
 F.binds fun a b c d e g us hl=>match us,hl with | [u0,u1,u2],_=>h a b c d e g u0 u1 u2
theorem Fun.IR{p0 p1 p2 p3:Str}(F:Fun K x qual st f fd)(h:∀(kV doc pm:Value)(an:Option Addr)(cdv ct:Value)(u0 u1 u2 u3:Value),bindArgs (W.fnOf x qual (defArgs st) (defBody st) (defScope st) .none kV doc pm an cdv ct) ⟨[u0,u1,u2,u3],[]⟩=pure ([p0,p1,p2,p3].zip [u0,u1,u2,u3])):bx K fd [p0,p1,p2,p3] []:=
 F.binds fun a b c d e g us hl=>match us,hl with | [u0,u1,u2,u3],_=>h a b c d e g u0 u1 u2 u3
end
end L2
namespace L2
open PySem PySem.Spec PyProof.Rows
end L2
namespace L2
open PySem PySem.Spec PySem.Calls PyProof.Rows PySem.W
end L2
namespace L2
open PySem PySem.Spec PyProof.Rows
structure fi(K:W.Frag)(x:Str)(st:Stmt)(a:Addr)(fd:FuncData):Prop where
 g:W.nsIn K mainGlobals x=some (some (.ref a))
 f:Fun K x x st a fd
 e:W.keepIn K (.ref a)=true
theorem FY{K:W.Frag}{x:Str}{st:Stmt}{a:Addr}{oc:Value}{od an:Option Addr}{osl:Array (Option Value)}{kV doc pm cdv ct:Value}(g:W.nsIn K mainGlobals x=some (some (.ref a)))(l:K.lookup a=some ⟨oc,od,.func (W.fnOf x x (defArgs st) (defBody st) (defScope st) .none kV doc pm an cdv ct),osl⟩)(c:W.codeIn K cdv x=true)(e:W.keepIn K (.ref a)=true):fi K x st a (W.fnOf x x (defArgs st) (defBody st) (defScope st) .none kV doc pm an cdv ct):=⟨g,ud l c e,e⟩
theorem fsc{N P:List Str}{sc:Scope}(a:sc.kind=.function)(b:sc.isCoroutine=false)(c:sc.isGenerator=false)(h:N.Nodup/\N.take P.length=P/\(∀x∈P,sc.names.lookup x=some .local\/sc.names.lookup x=some .cell)/\∀y∈sc.names,y.2≠.free):aN N P sc:=⟨a,b,c,h.1,h.2.1,h.2.2.1,h.2.2.2⟩
section
variable{X:Cx}
theorem cQ(hg:X.A.guards=some [])(hu:X.A.units+100<cLine)(hs:(X.K.lookup sysModules).isSome=true):eh X (.builtin "repr") (fun xs H Q=>∃(x:V)(d:D),xs=[x]/\Dat H d x/\sW d=true/\(pyD d).depth<=90/\fit d=true/\wt d<=1000000/\Q (.str (jJ d)) H):=by
 intro pins s σ H xs us Q I r h;obtain⟨x,d,rfl,hd,hn,hdp,hf,hw,q⟩:=h
 cases d with
 |non=>exact jb hg hu pins s σ H [x] us Q I r ⟨x,_,rfl,hd,hn,by simp[dep],hf,hw,q⟩
 |bl b=>exact jb hg hu pins s σ H [x] us Q I r ⟨x,_,rfl,hd,hn,by simp[dep],hf,hw,q⟩
 |int i=>exact jb hg hu pins s σ H [x] us Q I r ⟨x,_,rfl,hd,hn,by simp[dep],hf,hw,q⟩
 |str b=>cases hn
 |tup ds=>
  obtain⟨a,_,rfl,_⟩:=kb hd;exact gv hg hu hs pins s σ H [.ref a] us Q I r ⟨a,_,rfl,hd,hdp,hf,hw,q⟩
 |lst ds=>
  obtain⟨a,_,rfl,_⟩:=kr hd;exact gv hg hu hs pins s σ H [.ref a] us Q I r ⟨a,_,rfl,hd,hdp,hf,hw,q⟩
 |dk ks=>
  have h0:=hd;simp only[Dat] at h0;obtain⟨a,_,rfl,_⟩:=h0;exact gv hg hu hs pins s σ H [.ref a] us Q I r ⟨a,_,rfl,hd,hdp,hf,hw,q⟩
 |dt ks=>
  have h0:=hd;simp only[Dat] at h0;obtain⟨a,_,rfl,_⟩:=h0;exact gv hg hu hs pins s σ H [.ref a] us Q I r ⟨a,_,rfl,hd,hdp,hf,hw,q⟩
end
noncomputable def AK:AC:=fun xs Z Q=>∃x d,xs=[x]/\bL Z x=some d/\sW d=true/\(pyD d).depth<=90/\fit d=true/\wt d<=1000000/\Q (.d (.str (jJ d))) Z
theorem nj(xs:List AV)(Z:Om)(Q:AV->Om->Prop):AK xs Z Q=(∃x d,xs=[x]/\bL Z x=some d/\sW d=true/\(pyD d).depth<=90/\fit d=true/\wt d<=1000000/\Q (.d (.str (jJ d))) Z):=rfl
theorem fj:mj (fun xs H Q=>∃(x:V)(d:D),xs=[x]/\Dat H d x/\sW d=true/\(pyD d).depth<=90/\fit d=true/\wt d<=1000000/\Q (.str (jJ d)) H) AK:=⟨fun F H Z vs xs Q Q' rp rv ⟨x,d,e1,e2,e3,h1,h2,h3,q⟩ k=>by
 subst e1;obtain⟨v,rfl,r⟩:=iK rv
 exact⟨v,d,rfl,jk rp r e2,e3,h1,h2,h3,k.str rp q⟩⟩
noncomputable def GV:AE:=fun _ Z Q=>Q (.d (.dk [])) Z
theorem wH(ρ:SA)(Z:Om)(Q:AV->Om->Prop):GV ρ Z Q=Q (.d (.dk [])) Z:=rfl
theorem GI:a9 yr GV:=⟨fun F H Z σ ρ Q Q' rp rs h k p hp=>by
 obtain⟨rp2,fr2,hc⟩:=rp.lay (o:=.dK []) hp;refine k _ Z _ _ rp2 fr2 ?_ h;simp only[RV,Dat]
 exact⟨p,[],rfl,hc,rfl⟩⟩
end L2
namespace L2
open PySem PySem.Spec PyProof.Rows
open AutoSeq1 (wpAny_loadPart')
theorem eT:fillsNumberSlot (.type "tuple") "mul"=pure false:=
 PySem.fillsNumberSlot_seq (id:="tuple.__mul__") (r:=some (.builtin "tuple.__rmul__")) F.slot_tuple_mul.lookup (by decide +kernel) F.slot_tuple_rmul.lookup (by decide +kernel)
theorem iR:seqRepeat? (.type "tuple")=pure (some (.builtin "tuple.__mul__")):=by
 unfold seqRepeat?;rw[PySem.seqSlot_of (T:="tuple") (name:="__mul__") (id:="tuple.__mul__") F.slot_tuple_mul.lookup (by decide +kernel),PySem.seqSlot_of (T:="tuple") (name:="__rmul__") (id:="tuple.__rmul__") F.slot_tuple_rmul.lookup (by decide +kernel)]
 rfl
theorem lu(a:Int)(t:Tok)(l:Addr)(items:Array Value)(n:Nat)(dd:Option Addr)(sl:Array (Option Value)):
  Meets (Builtin.«int.__rmul__» ⟨[.int a t,.ref l],[]⟩) (fun _ R s=>s.heap.get? l=some ⟨.type "tuple",dd,.seq items n,sl⟩/\R (.ok (.ret Value.notImplemented)) s):=
 .of_wp fun prog w A R s h=>by obtain⟨hp,g,d,tk,os⟩:=s;obtain⟨hl,h⟩:=h;wp_walk using wpAny_loadPart' hl;exact⟨_,rfl,h⟩
theorem yt(l:Addr)(items:Array Value)(n:Nat)(dd:Option Addr)(sl:Array (Option Value))(t:Tok):
  Meets (Builtin.«tuple.__mul__» ⟨[.ref l,.int 1 t],[]⟩) (fun _ R s=>s.heap.get? l=some ⟨.type "tuple",dd,.seq items n,sl⟩/\R (.ok (.ret (.ref l))) s):=
 .of_wp fun prog w A R s h=>by
  obtain⟨hp,g,d,tk,os⟩:=s;obtain⟨hl,h⟩:=h;have hc1:(items.isEmpty || (1:Int) == 1)=true:=by simp
  wp_walk using wpAny_loadPart' hl
  exact⟨_,rfl,h⟩
theorem qU(its:List Value):∀(m:Nat)(acc:List Value),List.foldl (fun x1 x2=>x1++x2) acc.toArray (List.replicate m its.toArray)=(acc++(List.replicate m its).flatten).toArray
 |0,acc=>by simp
 |m+1,acc=>by
  have:=qU its m (acc++its);rw[List.replicate_succ,List.foldl_cons,List.replicate_succ,List.flatten_cons,←List.append_assoc,←this]
  simp
theorem BS(l:Addr)(its:List Value)(n:Nat)(dd:Option Addr)(sl:Array (Option Value))(k:Int)(t:Tok)(h0:its≠[])(h2:2<=k)(hk:k<=1000)(hz:(its.length:Int)*k<=1000):
  Meets (Builtin.«tuple.__mul__» ⟨[.ref l,.int k t],[]⟩) (fun _ R s=>s.heap.get? l=some ⟨.type "tuple",dd,.seq its.toArray n,sl⟩/\R (.ok (.ret (.ref s.heap.objs.size))) { s with heap:=s.heap.push { cls:=.type "tuple",data:=.seq ((List.replicate k.toNat its).flatten).toArray } }):=
 .of_wp fun prog w A R s h=>by
  obtain⟨hp,g,d,tk,os⟩:=s;obtain⟨hl,h⟩:=h;have e:(its.toArray.size:Int)=its.length:=by simp
  have hc0:¬ (decide (k < -2^63) || decide (k ≥ 2^63))=true:=by simp;omega
  have hc1:¬ (its.toArray.isEmpty || k == 1)=true:=by simp[h0];omega
  have hc2:¬ (decide (k<=0) || its.toArray.isEmpty)=true:=by simp[h0];omega
  have hc3:¬ ((its.toArray.size:Int)*k>(2^63-1) / 8):=by rw[e];omega
  have hc4:¬ Builtin.Tuple.tupleTooMany ((its.toArray.size:Int)*k)=true:=by
   rw[e];have:(1000:Int)<=sizeLine:=by decide
   simp only[Builtin.Tuple.tupleTooMany,decide_eq_true_eq];omega
  have hf:List.foldl (fun x1 x2=>x1++x2) #[] (List.replicate k.toNat its.toArray)=(List.replicate k.toNat its).flatten.toArray:=by simpa using qU its k.toNat []
  have hsz:(List.foldl (fun x1 x2=>x1++x2) #[] (List.replicate k.toNat its.toArray)).size<=sizeLine:=by
   rw[hf,List.size_toArray,pO];have:((k.toNat*its.length:Nat):Int)<=1000:=by rw[Int.natCast_mul,Int.toNat_of_nonneg (by omega),Int.mul_comm];exact hz
   exact Nat.le_of_lt (dH (by omega))
  wp_walk using wpAny_loadPart' hl
  rw[if_neg hc0]
  wp_walk using wpAny_loadPart' hl
  simp only[if_neg hc1,if_neg hc2,if_neg hc3,if_neg hc4]
  wp_walk
  refine wpAny_ite_false (decide_eq_false (Nat.not_lt.mpr hsz)) ?_
  wp_walk
  rw[←hf] at h
  exact⟨_,rfl,h⟩
noncomputable def ve:R2:=fun x y H Q=>∃l k xs,x=.ref l/\y=.int k/\H l=some (.tup xs)/\xs≠[]/\1<=k/\k<=1000/\(xs.length:Int)*k<=1000/\(k=1->Q (.ref l) H)/\∀p,H p=none->Q (.ref p) (upd H p (.tup (List.replicate k.toNat xs).flatten))
theorem Cu{X:Cx}:OpR X (binaryOp .Mult) ve:=by
 intro pins s σ H x y v u Q I rx ry h;obtain⟨l,k,xs,rfl,rfl,hH,h0,h1,hk,hz,q1,q2⟩:=h;cases rx;obtain⟨t,rfl⟩:=ry;obtain⟨z,its,r,⟨ot,e1,e2,n,e3⟩,_⟩:=I.hok l _ hH;obtain⟨cls,dd,data,sl⟩:=ot;dsimp only at e2 e3;subst e2 e3;have hl:its.length=xs.length:=r.length.symm;by_cases hk1:k=1
 ·subst hk1
  exact wpAny_binaryOp_repeat_ref (T:="tuple") (U:="int") (by decide) ⟨_,e1,rfl⟩ (fun s'=>typeIs_int s' 1 t) eT F.fills_int_mul F.slot_int_rmul iR F.slot_int_index.lookup
   (call_meets F.slot_int_rmul (typeIs_int s 1 t) F.entry_int_rmul (F.args_int_rmul_2 _ _) (lu 1 t l its.toArray n dd sl)
    ⟨e1,rfl,⟨_,e1,rfl⟩,call_meets F.slot_tuple_mul ⟨_,e1,rfl⟩ F.entry_tuple_mul (F.args_tuple_mul_2 _ _) (yt l its.toArray n dd sl t) ⟨e1,.ref l,H,I,rfl,q1 rfl⟩⟩)
 ·have hn:its≠[]:=fun e=>h0 (List.length_eq_zero_iff.mp (by rw[←hl,e];rfl))
  refine wpAny_binaryOp_repeat_ref (T:="tuple") (U:="int") (by decide) ⟨_,e1,rfl⟩ (fun s'=>typeIs_int s' k t) eT F.fills_int_mul F.slot_int_rmul iR F.slot_int_index.lookup
   (call_meets F.slot_int_rmul (typeIs_int s k t) F.entry_int_rmul (F.args_int_rmul_2 _ _) (lu k t l its.toArray n dd sl)
    ⟨e1,rfl,⟨_,e1,rfl⟩,call_meets F.slot_tuple_mul ⟨_,e1,rfl⟩ F.entry_tuple_mul (F.args_tuple_mul_2 _ _) (BS l its n dd sl k t hn (by omega) hk (by rw[hl];exact hz)) ⟨e1,?_⟩⟩)
  have hz2:(List.replicate k.toNat xs).flatten.length<=sizeLine:=by
   rw[pO];have:((k.toNat*xs.length:Nat):Int)<=1000:=by rw[Int.natCast_mul,Int.toNat_of_nonneg (by omega),Int.mul_comm];exact hz
   exact Nat.le_of_lt (dH (by omega))
  refine⟨.ref s.heap.objs.size,upd H s.heap.objs.size (.tup (List.replicate k.toNat xs).flatten),I.laid (t':=s.toks) (fun b u e=>Heap.get?_push_of_some _ e) (Nat.le_refl _) ?_,rfl,q2 _ (I.hok.fresh (Nat.le_refl _))⟩;exact⟨hz2,_,r.rep k.toNat,⟨_,Heap.get?_push_size _ rfl,rfl,_,rfl⟩,_,Heap.get?_push_size _ rfl,rfl⟩
noncomputable def G7:A2:=fun x y Z Q=>∃(ds:List D)(k:Int),x=.d (.tup ds)/\y=.d (.int k)/\ds≠[]/\1<=k/\k<=1000/\(ds.length:Int)*k<=1000/\Q (.d (.tup (List.replicate k.toNat ds).flatten)) Z
theorem qS{G:Hp}{ds:List D}{vs:List V}(h:aE G ds vs):∀m:Nat,aE G (List.replicate m ds).flatten (List.replicate m vs).flatten
 |0=>by simp[aE]
 |m+1=>by
  rw[List.replicate_succ,List.replicate_succ,List.flatten_cons,List.flatten_cons];exact h.append (qS h m)
theorem Fw:dv ve G7:=⟨fun F H Z v u x y Q Q' rp h1 h2 ⟨ds,k',e1,e2,h0,b1,b2,z,q⟩ k=>by
 subst e1 e2;cases bo h2;have hd:=h1;simp only[RV,Dat] at hd;obtain⟨a,vs,rfl,q1,q2⟩:=hd;refine⟨a,k',vs,rfl,rfl,aS _ _ q1,fun e=>h0 (List.length_eq_zero_iff.mp (by rw[←q2.length,e];rfl)),b1,b2,by rw[q2.length];exact z,fun e=>?_,fun p hp=>?_⟩
 ·subst e
  have e3:(List.replicate (1:Int).toNat ds).flatten=ds:=by simp
  rw[e3] at q;exact k _ Z _ H rp .refl h1 q
 ·obtain⟨rp2,fr2,hc⟩:=rp.lay (o:=.tup (List.replicate k'.toNat vs).flatten) hp
  refine k _ Z _ _ rp2 fr2 ?_ q;simp only[RV,Dat]
  exact⟨p,_,rfl,hc,(qS q2 k'.toNat).same fr2.same⟩⟩
end L2
namespace L2
open PySem PySem.Spec PyProof.Rows
noncomputable def Hb(i:Nat)(t:AE)(o:A2):AS:=fun D ρ Z=>∃x,ρ[i]?=some (some x)/\t ρ Z fun y Z1=>o x y Z1 fun z Z2=>D.nx (ρ.set i (some z)) Z2
theorem vU(i:Nat)(t:AE)(o:A2)(D:ce)(ρ:SA)(Z:Om):Hb i t o D ρ Z=(∃x,ρ[i]?=some (some x)/\t ρ Z fun y Z1=>o x y Z1 fun z Z2=>D.nx (ρ.set i (some z)) Z2):=rfl
theorem A0{i:Nat}{te:TE}{te':AE}{r:R2}{r':A2}(h2:dv r r')(h:a9 te te'):fD (F7 i te r) (Hb i te' r'):=⟨fun F H Z σ ρ D D' rp rs w k=>by
 obtain⟨x,e,w⟩:=w;obtain⟨v,e1,e2⟩:=rs.2 i x e;refine⟨v,e1,h.go rp rs w fun y Z1 u H1 rp1 fr1 rs1 rv1 q1=>?_⟩;refine h2.run F H1 Z1 v u x y _ _ rp1 (e2.same fr1.same) rv1 q1 fun z Z2 v2 H2 rp2 fr2 rv2 q=>?_
 exact k.nx _ Z2 _ H2 rp2 (fr1.trans fr2) ((rs1.same fr2.same).set rv2) q⟩
noncomputable def StZ(K:W.Frag)(a:Addr)(ss:List Str):Prop:=∃(its:Array Value)(n:Nat),K.lookup a=some { cls:=.type "tuple",data:=.seq its n }/\its.size<=sizeLine/\aH (ss.map V.str) its.toList
noncomputable def GH(K:W.Frag)(neg:Bool):R2:=fun x y H Q=>∃(z:Str)(a:Addr)(ss:List Str),x=.str z/\y=.ref a/\SqT K H a (ss.map V.str)/\Q (.bl (neg != decide (z∈ss))) H
theorem iD(H:Hp):∀ss:List Str,aE H (ss.map D.str) (ss.map V.str)
 | []=>rfl
 |s::ss=>⟨_,_,rfl,rfl,iD H ss⟩
theorem BX(z:Str)(ss:List Str):inD (.str z) (ss.map D.str)=decide (z∈ss):=by
 unfold inD
 induction ss with
 |nil=>rfl
 |cons n ns ih=>
  rw[List.map_cons,List.any_cons,ih];simp only[List.mem_cons];by_cases h:z=n
  ·subst h;simp[eqD]
  ·have h':¬ n=z:=fun e=>h e.symm
   simp[h,h',eqD]
section
variable{X:Cx}
theorem Ht{pins:List (Addr×Obj)}{σ:St}{H:Hp}{s:Shared}(I:Inv X pins σ H s)(hu:X.A.units+100<cLine){z:Str}{v:Value}(rx:a6 (.str z) v){ss:List Str}{its:List Value}(r:aH (ss.map V.str) its):∀w,w∈its.toArray->SeqAt.EqAt X.A.in1 s w v (eqF H (.str z) w):=fun w hw=>by
 obtain⟨d,y,hm,rz,hz⟩:=jI (iD H ss) r w (by simpa using hw)
 rw[o4 rz hz];refine(lv I 90 d (.str z) y (.str z) w v X.A.in1 ?_ (by show X.A.units+1+90<cLine;omega) hz (by simp[Dat]) rz rx).2.1
 obtain⟨j,_,rfl⟩:=List.mem_map.mp hm;simp[dep]
theorem nz(K:W.Frag)(hK:X.K=K)(hu:X.A.units+100<cLine):OpR X (compareOp .NotIn) (GH K true):=by
 subst hK;intro pins s σ H x y v u Q I rx ry h;obtain⟨z,a,ss,rfl,rfl,hq,q⟩:=h;cases ry;obtain⟨its,r,pl,_⟩:=I.tuple hq;refine SeqAt.notIn_tupleAt (eqF H (.str z)) pl (Ht I hu rx r) ⟨.bl _,H,I,rfl,?_⟩;rw[show its.toArray.any (eqF H (.str z))=its.any (eqF H (.str z)) by simp,iw (iD H ss) r]
 have:=BX z ss;unfold inD at this;rw[this];simpa using q
end
noncomputable def zsA(K:W.Frag)(y:AV)(ss:List Str):Prop:=(∃a,y=.r (.ref a)/\StZ K a ss)\/∃a,y=.p (.ref a) fun G=>SqT K G a (ss.map V.str)
theorem SqT.same{K:W.Frag}{G H:Hp}{a:Addr}{xs:List V}(e:c8 G H)(h:SqT K G a xs):SqT K H a xs:=by
 rcases h with h|h
 ·rcases h with h|h
  ·exact .inl (.inl (e _ _ h))
  ·obtain⟨o,h⟩:=h
   exact .inl (.inr ⟨o,e _ _ h⟩)
 ·exact .inr h
theorem CV{K:W.Frag}{F:Fs}{H:Hp}{Z:Om}{y:AV}{ss:List Str}{v:V}(h:zsA K y ss)(rv:RV (cut F H Z) y v):∃a,v=.ref a/\SqT K (cut F H Z) a (ss.map V.str):=by
 rcases h with⟨a,rfl,h⟩|⟨a,rfl⟩
 ·obtain⟨its,n,hk,hz,r⟩:=h
  exact⟨a,rv,.inr ⟨_,its,n,hk,rfl,rfl,hz,r⟩⟩
 ·exact⟨a,rv.1,rv.2 _ (c8.refl _)⟩
noncomputable def GA(K:W.Frag)(neg:Bool):A2:=fun x y Z Q=>∃(z:Str)(ss:List Str),x=.d (.str z)/\zsA K y ss/\Q (.d (.bl (neg != decide (z∈ss)))) Z
theorem vq(K:W.Frag)(neg:Bool)(x y:AV)(Z:Om)(Q:AV->Om->Prop):GA K neg x y Z Q=(∃(z:Str)(ss:List Str),x=.d (.str z)/\zsA K y ss/\Q (.d (.bl (neg != decide (z∈ss)))) Z):=rfl
theorem Dr{K:W.Frag}{neg:Bool}:dv (GH K neg) (GA K neg):=⟨fun F H Z v u x y Q Q' rp h1 h2 ⟨z,ss,e1,e2,q⟩ k=>by
 subst e1;obtain⟨a,rfl,hq⟩:=CV e2 h2
 exact⟨z,a,ss,cu h1,rfl,hq.same aS,k.bl rp q⟩⟩
noncomputable def FW(K:W.Frag)(te:AE)(tl th:AO):AE:=fun ρ Z Q=>te ρ Z fun x Z1=>tl ρ Z1 fun lo Z2=>th ρ Z2 fun hi Z3=>∃ss,zsA K x ss/\∀a,Q (.p (.ref a) fun G=>SqT K G a ((bC ss lo hi).map V.str)) Z3
theorem vC(K:W.Frag)(te:AE)(tl th:AO)(ρ:SA)(Z:Om)(Q:AV->Om->Prop):FW K te tl th ρ Z Q=(te ρ Z fun x Z1=>tl ρ Z1 fun lo Z2=>th ρ Z2 fun hi Z3=>∃ss,zsA K x ss/\∀a,Q (.p (.ref a) fun G=>SqT K G a ((bC ss lo hi).map V.str)) Z3):=rfl
theorem rm(ss:List Str)(lo hi:Option Int):ka (ss.map V.str) lo hi=(bC ss lo hi).map V.str:=by
 unfold ka bC;simp
theorem G6{K:W.Frag}{te:TE}{te':AE}{tl th:TO}{tl' th':AO}(he:a9 te te')(hl:Ref REq tl tl')(hh:Ref REq th th'):a9 (tSl (vE K) te tl th) (FW K te' tl' th'):=⟨fun F H Z σ ρ Q Q' rp rs w k=>
 he.go rp rs w fun x Z1 v H1 rp1 fr1 rs1 rv1 q1=>hl.go rp1 rs1 q1 fun lo Z2 lo' H2 rp2 fr2 rs2 e2 q2=>by
  cases e2;refine hh.go rp2 rs2 q2 fun hi Z3 hi' H3 rp3 fr3 rs3 e3 q3=>?_;cases e3;obtain⟨ss,hz,q⟩:=q3;obtain⟨a,rfl,hq⟩:=CV hz ((rv1.same fr2.same).same fr3.same);have f:=(fr1.trans fr2).trans fr3;refine⟨a,_,rfl,hq.same aS,?_⟩;by_cases hw:HT.sIx (ss.map V.str).length 0 lo=0/\HT.sIx (ss.map V.str).length (ss.map V.str).length hi=(ss.map V.str).length
  ·rw[if_pos hw]
   refine k (.p (.ref a) fun G=>SqT K G a ((bC ss lo hi).map V.str)) Z3 _ H3 rp3 f ⟨rfl,fun G' s=>?_⟩ (q a);rw[←rm,tP hw]
   exact hq.same s
  ·rw[if_neg hw]
   intro p hp;rw[rm];obtain⟨rp4,fr4,hc⟩:=rp3.lay (o:=.tup ((bC ss lo hi).map V.str)) hp
   exact k (.p (.ref p) fun G=>SqT K G p ((bC ss lo hi).map V.str)) Z3 _ _ rp4 (f.trans fr4) ⟨rfl,fun G' s=>.inl (.inl (s _ _ hc))⟩ (q p)⟩
noncomputable def D3(K:W.Frag):V->List V->Hp->VK->Prop:=fun x vs H Q=>∃l b xs ss,x=.ref l/\vs=[.ref b]/\H l=some (.lst xs)/\StZ K b ss/\xs.length+ss.length<=sizeLine/\Q .non (upd H l (.lst (xs++ss.map V.str)))
theorem BR{X:Cx}(K:W.Frag)(hK:X.K=K):MtM X "list.extend" (D3 K):=by
 subst hK;intro pins s σ H x vs v us Q I rx rv h;obtain⟨l,b,xs,ss,rfl,rfl,hH,⟨its2,n2,hk,hz2,r2⟩,hz,q⟩:=h;cases rx;obtain⟨u,rfl,ru⟩:=rv.one;cases ru;obtain⟨z,its,n,r,hl,e⟩:=I.IP hH;have e2:=I.kIn b _ hk;have l2:its2.size=ss.length:=by have:=r2.length;simpa using this.symm
 have hsz:its.toArray.size+its2.size<=sizeLine:=by rw[List.size_toArray];omega
 have hlong:¬ (!its.toArray.isEmpty && Builtin.List.listTooLong (its.toArray.size+its2.size))=true:=by
  rw[rO hsz,Bool.and_false];exact Bool.false_ne_true
 refine call_meets F.slot_list_extend ⟨_,e,rfl⟩ F.entry_list_extend (F.args_list_extend_2 _ _)
  (AutoSeq1.list_extend_list_tuple_0 l its.toArray n b its2 n2 hlong (by rw[List.size_toArray];omega) (by omega)) ⟨e,e2,?_⟩
 refine⟨.non,_,I.lset (its':=its++its2.toList) hH e (by simp) (r.append r2) ?_,rfl,q⟩
 rw[List.length_append,List.length_map];omega
noncomputable def DG(K:W.Frag)(to:AE)(t:AA):AE:=fun ρ Z Q=>to ρ Z fun x Z1=>∃l,x=.r (.ref l)/\(∃zs,Z1 l=some (.own zs))/\t ρ Z1 fun ys Z2=>∃xs b ss,ys=[.r (.ref b)]/\StZ K b ss/\Z2 l=some (.own xs)/\xs.length+ss.length<=sizeLine/\Q (.d .non) (Z2.put l (.own (xs++(ss.map D.str).map AV.d)))
theorem rH(K:W.Frag)(to:AE)(t:AA)(ρ:SA)(Z:Om)(Q:AV->Om->Prop):DG K to t ρ Z Q=(to ρ Z fun x Z1=>∃l,x=.r (.ref l)/\(∃zs,Z1 l=some (.own zs))/\t ρ Z1 fun ys Z2=>∃xs b ss,ys=[.r (.ref b)]/\StZ K b ss/\Z2 l=some (.own xs)/\xs.length+ss.length<=sizeLine/\Q (.d .non) (Z2.put l (.own (xs++(ss.map D.str).map AV.d)))):=rfl
theorem sq(G:Hp):∀ss:List Str,RVs G ((ss.map D.str).map AV.d) (ss.map V.str)
 | []=>rfl
 |s::ss=>⟨_,_,rfl,by simp[RV,Dat],sq G ss⟩
theorem Fl{K:W.Frag}{to:TE}{to':AE}{t:TA}{t':AA}(ho:a9 to to')(ht:gM t t'):a9 (tBM K "list" (D3 K) to t) (DG K to' t'):=⟨fun F H Z σ ρ Q Q' rp rs w k=>
 ho.go rp rs w fun x Z1 v H1 rp1 fr1 rs1 rv1 ⟨l,e,⟨zs,hz⟩,q1⟩=>by
  subst e;cases (show v=.ref l from rv1)
  obtain⟨us,z1,_⟩:=rp1.own l zs hz;refine⟨.inl ⟨rfl,us,.inl (.inl z1)⟩,ht.go rp1 rs1 q1 fun ys Z2 vs H2 rp2 fr2 rs2 rv2 ⟨xs,b,ss,e1,hs,e2,e4,q⟩=>?_⟩;subst e1;obtain⟨u,rfl,r⟩:=iK rv2;cases (show u=.ref b from r)
  obtain⟨ws,z3,z4⟩:=rp2.own l xs e2;obtain⟨rp3,fr3⟩:=rp2.write e2 (z4.append (sq _ ss))
  exact⟨l,b,ws,ss,rfl,rfl,z3,hs,by rw[z4.length];exact e4,k _ _ _ _ rp3 ((fr1.trans fr2).trans fr3) (by simp[RV,Dat]) q⟩⟩
theorem StE.none{P:Program}{w:World}:∀ {es:List DictEntry} {kvs:List (Str×V)} {x:Str},Paired (StE w) es kvs->gJ kvs x=none->findBy (bn P w).is es.toArray (Sum.inr x)=none:=by
 intro es
 induction es with
 |nil=>intro kvs x h hv;rfl
 |cons e es ih=>
  intro kvs x h hv
  cases h with
  | @cons _ p _ kvs r t=>
   obtain⟨h1,⟨tk,h2⟩,h3⟩:=r
   have hf:findBy (bn P w).is (e::es).toArray (Sum.inr x)=if gC (Sum.inr x) e.key=true then some e.val else findBy (bn P w).is es.toArray (Sum.inr x):=by
    unfold findBy;simp only[List.find?_toArray,List.find?_cons,lN];cases gC (Sum.inr x) e.key<;>simp
   by_cases hx:p.1=x
   ·unfold gJ at hv
    rw[List.find?_cons_of_pos (by simp[hx])] at hv
    cases hv
   ·have hk:¬ gC (Sum.inr x) e.key=true:=by
     rw[h2];intro z;rcases bt z with⟨i,t',e1,e2⟩|⟨y,t',e1,e2⟩
     ·cases e2
     ·injection e2 with e2 _
      injection e1 with e1;exact hx (e2.trans e1.symm)
    rw[hf,if_neg hk];unfold gJ at hv;rw[List.find?_cons_of_neg (by simp[hx])] at hv
    exact ih t hv
noncomputable def HH(a:Addr)(kvs:List (Str×V)):R2:=fun x y H Q=>∃z:Str,x=.str z/\y=.ref a/\Q (.bl (gJ kvs z).isSome) H
theorem EX{X:Cx}{a:Addr}{kvs:List (Str×V)}(hd:StD X.w X.K a kvs)(ha:(a == sysModules)=false):OpR X (compareOp .In) (HH a kvs):=by
 intro pins s σ H x y v u Q I rx ry h;obtain⟨z,rfl,rfl,q⟩:=h;cases ry;obtain⟨t,rfl⟩:=rx;obtain⟨ob,es,ep,hk,hx,hdat,hp⟩:=hd;have hg:s.heap.get? a=some ob:=I.kIn a ob hk;have hm:s.heap.MapOf (bn X.prog X.w) a (findBy (bn X.prog X.w).is es.toArray):=⟨ob,es.toArray,ep,hg,hx,hdat,fun e he=>StE.keys hp e (by simpa using he),fun _=>rfl⟩
 refine wpAny_in_of (knd:=bn X.prog X.w) (k:=Sum.inr z) (gI _ _ _ _) ha hm ?_
 have e:(findBy (bn X.prog X.w).is es.toArray (Sum.inr z)).isSome=(gJ kvs z).isSome:=by
  cases hv:gJ kvs z with
  |none=>rw[StE.none hp hv];rfl
  |some v=>
   obtain⟨u',hf,_⟩:=StE.find (P:=X.prog) hp hv;rw[hf];rfl
 rw[e];exact⟨.bl _,H,I.tok _,rfl,q⟩
noncomputable def Hi(a:Addr)(kvs:List (Str×V)):A2:=fun x y Z Q=>∃z:Str,x=.d (.str z)/\y=.r (.ref a)/\Q (.d (.bl (gJ kvs z).isSome)) Z
theorem vM(a:Addr)(kvs:List (Str×V))(x y:AV)(Z:Om)(Q:AV->Om->Prop):Hi a kvs x y Z Q=(∃z:Str,x=.d (.str z)/\y=.r (.ref a)/\Q (.d (.bl (gJ kvs z).isSome)) Z):=rfl
theorem Gg{a:Addr}{kvs:List (Str×V)}:dv (HH a kvs) (Hi a kvs):=⟨fun F H Z v u x y Q Q' rp h1 h2 ⟨z,e1,e2,q⟩ k=>by
 subst e1 e2
 exact⟨z,cu h1,h2,k.bl rp q⟩⟩
noncomputable def bv:List Int->List Int->Bool
 | [],_=>true
 |_::_,[]=>false
 |x::xs,y::ys=>if x=y then bv xs ys else decide (x<=y)
theorem yN(A:Around)(s:Shared)(a:Int)(t:Tok)(c:Int)(u:Tok)(prog:Program)(w:World)(E:Value->Shared->Prop)(Q:Value->Shared->Prop)(h:Q (.bool (decide (a<=c))) s):
  wpAny (model prog w) A (richCompare .LtE (.int a t) (.int c u)) Q E s:=
 (PyProof.Rows.le_int h:wpAny (model prog w) A (compareOp .LtE (.int a t) (.int c u)) Q E s)
section
open PySem.SeqAt
open PySem.AutoSeq1 (wpAny_loadPart')
open PySem.MeetsSeq PySem.MeetsSeq2 PySem.MeetsSeq3
open HT
theorem nb(l b:Addr)(items items2:Array Value)(n n2:Nat)(dd dd2:Option Addr)(sl sl2:Array (Option Value))(ns ms:List Int)(hi:IntsAre items.toList ns)(hj:IntsAre items2.toList ms):
  Meets (Builtin.«tuple.__le__» ⟨[.ref l,.ref b],[]⟩)
   (fun _ R s=>s.heap.get? l=some { cls:=.type "tuple",dict:=dd,data:=.seq items n,slots:=sl }/\s.heap.get? b=some { cls:=.type "tuple",dict:=dd2,data:=.seq items2 n2,slots:=sl2 } /\
    R (.ok (.ret (.bool (bv ns ms)))) s):=
 .of_wp fun prog w A R s h=>by
  obtain⟨hp,g,d,tk,os⟩:=s;obtain⟨hl,hb,h⟩:=h;have f2:=AutoSeq1.sub_tuple_tuple;have z1:items.size=ns.length:=by rw[←hi.length];simp
  have z2:items2.size=ms.length:=by rw[←hj.length];simp
  wp_walk using wpAny_loadPart' hl,wpAny_loadPart' hb,wpAny_forIn_list _ (fun bO b s'=>b.1=none/\s'=⟨hp,g,d,tk,os⟩/\∃(vs ws:List Value)(ns' ms':List Int),bO=vs.zip ws /\
   IntsAre vs ns'/\IntsAre ws ms'/\ns'.length+items2.size=ms'.length+items.size/\R (.ok (.ret (.bool (bv ns' ms')))) ⟨hp,g,d,tk,os⟩) _
  case turn=>
   rintro⟨y,x⟩ bO b s' ⟨hb',rfl,vs,ws,ns',ms',hz,hvi,hwi,hlen,hR⟩
   cases hvi with
   |nil=>rw[List.zip_nil_left] at hz;cases hz
   |cons a t hvi'=>
    cases hwi with
    |nil=>rw[List.zip_nil_right] at hz;cases hz
    |cons c u hwi'=>
     rw[List.zip_cons_cons] at hz;injection hz with hyx hrest;injection hyx with hy hx;subst hy hx;simp only[bv] at hR;simp only[List.length_cons] at hlen;obtain⟨e,he,hiff⟩:=z6 A.in1 ⟨hp,g,d,tk,os⟩ a t c u;refine wpAny_bind (he prog w _ _ ?_)
     cases e with
     |true=>
      rw[if_pos (hiff.mp rfl)] at hR
      wp_walk
      exact⟨rfl,rfl,_,_,_,_,hrest,hvi',hwi',by omega,hR⟩
     |false=>
      rw[if_neg (fun q=>absurd (hiff.mpr q) Bool.false_ne_true)] at hR;have hri:=yN A.in1 ⟨hp,g,d,tk,os⟩ a t c u prog w
      wp_walk using hri
      exact⟨_,rfl,by simpa using hR⟩
  case fin=>
   rintro⟨b1,b2⟩ s' ⟨hb',rfl,vs,ws,ns',ms',hz,hvi,hwi,hlen,hR⟩;simp only at hb';subst hb'
   have hv:bv ns' ms'=decide (items.size<=items2.size):=by
    cases hvi with
    |nil=>
     simp only[List.length_nil] at hlen;rw[bv];exact(decide_eq_true (by omega)).symm
    |cons a t hv=>
     cases hwi with
     |nil=>
      simp only[List.length_nil,List.length_cons] at hlen;rw[bv];exact(decide_eq_false (by omega)).symm
     |cons c u hw=>
      rw[List.zip_cons_cons] at hz;cases hz
   rw[hv] at hR
   wp_walk
   exact⟨_,rfl,by simpa[Builtin.Tuple.tupleCompareSizes] using hR⟩
  case h=>
   exact⟨rfl,rfl,items.toList,items2.toList,ns,ms,rfl,hi,hj,by omega,h⟩
theorem ub{prog:Program}{w:World}{A:Around}{E:Value->Shared->Prop}{s:Shared}{l b:Addr}{items items2:Array Value}{ns ms:List Int}{Q:Value->Shared->Prop}(hl:IsTup s.heap l items)(hb:IsTup s.heap b items2)(hi:IntsAre items.toList ns)(hj:IntsAre items2.toList ms)(hu:A.units<cLine)(h:Q (.bool (bv ns ms)) s):wpAny (model prog w) A (compareOp .LtE (.ref l) (.ref b)) Q E s:=by
 obtain⟨⟨cls,dd,data,sl⟩,ho,hc,n,hd⟩:=id hl;obtain⟨⟨cls2,dd2,data2,sl2⟩,ho2,hc2,n2,hd2⟩:=id hb;simp only at hc hd hc2 hd2;subst hc hd hc2 hd2
 exact richCompare_meets_room (op:=.LtE) ⟨_,ho,rfl⟩ ⟨_,ho2,rfl⟩ PySem.F.slot_tuple_le PySem.F.entry_tuple_le (PySem.F.args_tuple_le_2 _ _) (nb l b items items2 n n2 dd dd2 sl sl2 ns ms hi hj)
  ⟨ho,ho2,show Value.bool (bv ns ms)≠Value.notImplemented/\Q (.bool (bv ns ms)) s from ⟨(fun x=>nomatch x),h⟩⟩ hu
end
noncomputable def FT:R2:=fun x y H Q=>∃a b ns ms,x=.ref a/\y=.ref b/\H a=some (.tup (ns.map V.int))/\H b=some (.tup (ms.map V.int))/\Q (.bl (bv ns ms)) H
theorem Fd{X:Cx}(hu:X.A.units+100<cLine):OpR X (compareOp .LtE) FT:=by
 intro pins s σ H x y v u Q I rx ry h;obtain⟨a,b,ns,ms,rfl,rfl,ha,hb,q⟩:=h;cases rx;cases ry;obtain⟨its,r1,p1,_⟩:=I.tuple (SqT.of ha);obtain⟨its2,r2,p2,_⟩:=I.tuple (SqT.of hb);have i1:IntsAre its.toArray.toList ns:=lG r1;have i2:IntsAre its2.toArray.toList ms:=lG r2;exact ub p1 p2 i1 i2 (by omega) ⟨.bl (bv ns ms),H,I,rfl,q⟩
noncomputable def HL:A2:=fun x y Z Q=>∃ns ms:List Int,x=.d (.tup (ns.map D.int))/\y=.d (.tup (ms.map D.int))/\Q (.d (.bl (bv ns ms))) Z
theorem u9(x y:AV)(Z:Om)(Q:AV->Om->Prop):HL x y Z Q=(∃ns ms:List Int,x=.d (.tup (ns.map D.int))/\y=.d (.tup (ms.map D.int))/\Q (.d (.bl (bv ns ms))) Z):=rfl
theorem FP:dv FT HL:=⟨fun F H Z v u x y Q Q' rp h1 h2 ⟨ns,ms,e1,e2,q⟩ k=>by
 subst e1 e2;simp only[RV,Dat] at h1 h2;obtain⟨a,vs,rfl,z1,z2⟩:=h1;obtain⟨b,us,rfl,z3,z4⟩:=h2;cases gh z2;cases gh z4
 exact⟨a,b,ns,ms,rfl,rfl,aS _ _ z1,aS _ _ z3,k.bl rp q⟩⟩
open AutoSeq1 (wpAny_loadPart') in
theorem zi(l:Addr)(its:List Value)(n:Nat)(dd:Option Addr)(sl:Array (Option Value))(t:Tok)(h0:its≠[]):
  Meets (Builtin.«tuple.__mul__» ⟨[.ref l,.int 0 t],[]⟩) (fun _ R s=>s.heap.get? l=some ⟨.type "tuple",dd,.seq its.toArray n,sl⟩/\R (.ok (.ret (.ref s.heap.objs.size))) { s with heap:=s.heap.push { cls:=.type "tuple",data:=.seq #[] } }):=
 .of_wp fun prog w A R s h=>by
  obtain⟨hp,g,d,tk,os⟩:=s;obtain⟨hl,h⟩:=h;have hc0:¬ (decide ((0:Int) < -2^63) || decide ((0:Int) ≥ 2^63))=true:=by simp
  have hc1:¬ (its.toArray.isEmpty || (0:Int) == 1)=true:=by simp[h0]
  have hc2:(decide ((0:Int)<=0) || its.toArray.isEmpty)=true:=by simp
  wp_walk using wpAny_loadPart' hl
  exact⟨_,rfl,h⟩
noncomputable def CJ:R2:=fun x y H Q=>(∃l xs,x=.ref l/\y=.int 0/\H l=some (.tup xs)/\xs≠[]/\∀p,H p=none->Q (.ref p) (upd H p (.tup [])))\/ve x y H Q
theorem BO{X:Cx}:OpR X (binaryOp .Mult) CJ:=by
 intro pins s σ H x y v u Q I rx ry h;by_cases hr:ve x y H Q
 ·exact Cu pins s σ H x y v u Q I rx ry hr
 obtain⟨l,xs,rfl,rfl,hH,h0,q⟩:=h.resolve_right hr;cases rx;obtain⟨t,rfl⟩:=ry;obtain⟨z,its,r,⟨ot,e1,e2,n,e3⟩,_⟩:=I.hok l _ hH;obtain⟨cls,dd,data,sl⟩:=ot;dsimp only at e2 e3;subst e2 e3;have hl:its.length=xs.length:=r.length.symm;have hn:its≠[]:=fun e=>h0 (List.length_eq_zero_iff.mp (by rw[←hl,e];rfl))
 refine wpAny_binaryOp_repeat_ref (T:="tuple") (U:="int") (by decide) ⟨_,e1,rfl⟩ (fun s'=>typeIs_int s' 0 t) eT F.fills_int_mul F.slot_int_rmul iR F.slot_int_index.lookup
  (call_meets F.slot_int_rmul (typeIs_int s 0 t) F.entry_int_rmul (F.args_int_rmul_2 _ _) (lu 0 t l its.toArray n dd sl)
   ⟨e1,rfl,⟨_,e1,rfl⟩,call_meets F.slot_tuple_mul ⟨_,e1,rfl⟩ F.entry_tuple_mul (F.args_tuple_mul_2 _ _) (zi l its n dd sl t hn) ⟨e1,?_⟩⟩)
 refine⟨.ref s.heap.objs.size,upd H s.heap.objs.size (.tup []),I.laid (t':=s.toks) (fun b u e=>Heap.get?_push_of_some _ e) (Nat.le_refl _) ?_,rfl,q _ (I.hok.fresh (Nat.le_refl _))⟩;exact⟨Nat.zero_le _,[],.nil,⟨_,Heap.get?_push_size _ rfl,rfl,_,rfl⟩,_,Heap.get?_push_size _ rfl,rfl⟩
noncomputable def De:A2:=fun x y Z Q=>∃(ds:List D)(k:Int),x=.d (.tup ds)/\y=.d (.int k)/\ds≠[]/\0<=k/\k<=1000/\(ds.length:Int)*k<=1000/\Q (.d (.tup (List.replicate k.toNat ds).flatten)) Z
theorem r9(x y:AV)(Z:Om)(Q:AV->Om->Prop):De x y Z Q=∃(ds:List D)(k:Int),x=.d (.tup ds)/\y=.d (.int k)/\ds≠[]/\0<=k/\k<=1000/\(ds.length:Int)*k<=1000/\Q (.d (.tup (List.replicate k.toNat ds).flatten)) Z:=rfl
theorem EC:dv CJ De:=⟨fun F H Z v u x y Q Q' rp h1 h2 ⟨ds,j,e1,e2,h0,h3,h4,h5,q⟩ k=>by
 by_cases hj:j=0
 ·subst e1 e2 hj
  cases bo h2;simp only[RV,Dat] at h1;obtain⟨a,vs,rfl,z1,z2⟩:=h1;refine .inl ⟨a,vs,rfl,rfl,aS _ _ z1,fun e=>h0 (List.length_eq_zero_iff.mp (by rw[←z2.length,e];rfl)),fun p hp=>?_⟩
  obtain⟨rp2,fr2,hc⟩:=rp.lay (o:=.tup []) hp;exact k _ Z _ _ rp2 fr2 (show RV _ (.d (.tup [])) _ from ⟨p,[],rfl,hc,rfl⟩) (by simpa using q)
 ·exact .inr (Fw.run F H Z v u x y Q Q' rp h1 h2 ⟨ds,j,e1,e2,h0,by omega,h4,h5,q⟩ k)⟩
end L2
namespace L2
open PySem PySem.Spec PyProof.Rows
open PySem.Builtin.Str
noncomputable def i6(c:Nat):Nat->List Nat->List Nat
 |_,[]=>[]
 |s,x::xs=>if x=c then s::i6 c (s+1) xs else i6 c (s+1) xs
theorem rA(c:Nat):∀(l:List Nat)(s:Nat),(i6 c s l).length<=l.length
 | [],_=>Nat.le_refl _
 |x::xs,s=>by
  have:=rA c xs (s+1);simp only[i6];split<;>simp only[List.length_cons]<;>omega
theorem pD(l:List Nat)(c i:Nat):subAt (tx l) (tx [c]) i=decide (l[i]?=some c):=by
 simp only[subAt,tx,Str.length];rw[Bool.eq_iff_iff,beq_iff_eq,decide_eq_true_eq];simp only[List.size_toArray,List.length_singleton,List.extract_toArray,Array.mk.injEq,List.extract_eq_drop_take];rw[show i+1-i=1 by omega]
 cases h:l.drop i with
 |nil=>
  have:l.length<=i:=List.drop_eq_nil_iff.mp h;simp[List.getElem?_eq_none this]
 |cons x xs=>
  have:l[i]?=some x:=by
   have:=congrArg (·[0]?) h
   simpa using this
  simp[this]
theorem tQ(l:List Nat)(c lim:Nat):∀(m s:Nat)(acc:Array Nat)(free:Nat),s+m=l.length+1->free<=s->acc.size+m<=lim+1->acc.size<=s ->
  ((List.range' s m).foldl (fun(b:Array Nat×Nat) i=>if (decide (b.1.size<lim) && decide (b.2<=i) && decide (i+(tx [c]).length<=l.length) && subAt (tx l) (tx [c]) i)=true then (b.1.push i,i+(tx [c]).length) else b) (acc,free)).1.toList=acc.toList++i6 c s (l.drop s)
 |0,s,acc,free,h,_,_,_=>by
  rw[List.drop_eq_nil_of_le (by omega)]
  simp[i6]
 |m+1,s,acc,free,h,hf,hl,ha=>by
  rw[List.range'_succ,List.foldl_cons];have e1:(tx [c]).length=1:=al [c];by_cases hs:s<l.length
  ·have ed:l.drop s=l[s]::l.drop (s+1):=List.drop_eq_getElem_cons hs
   have hlim:acc.size<lim:=by omega
   simp only[pD,e1,hlim,hf,decide_true,Bool.true_and,show s+1<=l.length by omega,List.getElem?_eq_getElem hs,Option.some.injEq,decide_eq_true_eq]
   rw[ed,i6];by_cases hc:l[s]=c
   ·rw[if_pos hc,if_pos hc]
    have:=tQ l c lim m (s+1) (acc.push s) (s+1) (by omega) (Nat.le_refl _) (by simp;omega) (by simp;omega)
    simp only[pD,e1] at this;rw[this];simp
   ·rw[if_neg hc,if_neg hc]
    have:=tQ l c lim m (s+1) acc free (by omega) (by omega) (by omega) (by omega)
    simp only[pD,e1] at this;exact this
  ·have hm:m=0:=by omega
   subst hm;have e2:decide (s+1<=l.length)=false:=decide_eq_false (by omega)
   simp only[e1,e2,Bool.and_false,Bool.false_and,Bool.false_eq_true,if_false];rw[List.drop_eq_nil_of_le (by omega)]
   simp[i6]
theorem jo{β:Type}{f:Nat->β->Id (ForInStep β)}{g:β->Nat->β}(h:∀i b,f i b=(pure (.yield (g b i)):Id _)):∀ {xs:List Nat} {b:β},(forIn xs b f:Id β)=xs.foldl g b
 | [],b=>rfl
 |x::xs,b=>by
  rw[List.forIn_cons,h];exact jo h
theorem tW(l:List Nat)(c:Nat):occurrences (tx l) (tx [c]) 0 (tx l).length ((tx l).length+1)=i6 c 0 l:=by
 have h:=tQ l c (l.length+1) (l.length+1) 0 #[] 0 (by omega) (Nat.le_refl _) (by simp) (by simp)
 simp only[List.drop_zero,List.nil_append] at h;rw[←h]
 unfold occurrences;simp only[Std.Legacy.Range.forIn_eq_forIn_range',Std.Legacy.Range.size,al];rw[jo (g:=fun(b:Array Nat×Nat) i=>if (decide (b.1.size<l.length+1) && decide (b.2<=i) && decide (i+(tx [c]).length<=l.length) && subAt (tx l) (tx [c]) i)=true then (b.1.push i,i+(tx [c]).length) else b) (h:=fun i b=>by simp only[al];split<;>rfl)]
 simp only[al];rw[show (l.length+1-0+1-1) / 1=l.length+1 by omega]
 rfl
noncomputable def pb(l:List Nat):Nat->List Nat->List (List Nat)
 |s,[]=>[l.drop s]
 |s,k::ks=>(l.drop s).take (k-s)::pb l (k+1) ks
theorem yp(l:List Nat)(i j:Nat):strSub (tx l) i j=tx ((l.drop i).take (j-i)):=by
 simp[strSub,tx,List.extract_eq_drop_take]
theorem Ds(l:List Nat):∀(ks:List Nat)(s:Nat),((s::ks.map (·+1)).zip (ks++[l.length])).map (fun p=>strSub (tx l) p.1 p.2)=(pb l s ks).map tx
 | [],s=>by
  simp only[List.map_nil,List.nil_append,List.zip_cons_cons,List.zip_nil_left,List.map_cons,pb,yp];rw[List.take_of_length_le (by simp)]
 |k::ks,s=>by
  have:=Ds l ks (k+1);simp only[List.map_cons,List.cons_append,List.zip_cons_cons,pb,yp] at this ⊢;rw[this]
theorem xJ(l:List Nat)(c:Nat):partsBetween (tx l) (i6 c 0 l) (tx [c]).length=(pb l 0 (i6 c 0 l)).map tx:=by
 rw[←Ds]
 simp only[partsBetween,al,List.length_singleton]
theorem Bp(z:Str):¬ Builtin.Str.strKind z<1:=by
 unfold Builtin.Str.strKind;split
 ·omega
 ·split<;>omega
theorem Aa{c:Nat}(h:c<256):Builtin.Str.strKind (tx [c])=1:=by
 unfold Builtin.Str.strKind tx;rw[if_pos (by simpa using h)]
noncomputable def bf(c:Nat)(l:List Nat):List (List Nat):=pb l 0 (i6 c 0 l)
theorem p9(l:List Nat):∀(ks:List Nat)(s:Nat),(pb l s ks).length=ks.length+1
 | [],s=>rfl
 |k::ks,s=>by simp[pb,p9 l ks]
theorem nO:∀(ss:List Str)(t:Nat),aH (ss.map V.str) (strsFrom t ss)
 | [],t=>.nil
 |s::ss,t=>.cons ⟨_,rfl⟩ (nO ss (t+1))
noncomputable def zo:V->List V->Hp->VK->Prop:=fun x vs H Q=>∃(l:List Nat)(c:Nat),x=.str (tx l)/\vs=[.str (tx [c])]/\c<256/\l.length<=20000/\∀p,H p=none->Q (.ref p) (upd H p (.lst ((bf c l).map fun w=>V.str (tx w))))
theorem lH{X:Cx}:MtR X "str.split" zo:=by
 intro pins s σ H x vs v us Q I rx rv h;obtain⟨l,c,rfl,rfl,hc,hl,q⟩:=h;obtain⟨t,rfl⟩:=rx;obtain⟨u,rfl,ru⟩:=rv.one;obtain⟨t2,rfl⟩:=ru;have e1:(tx [c]).length=1:=al [c];have en:(tx l).length=l.length:=al l;have hk:decide (Builtin.Str.strKind (tx l)<Builtin.Str.strKind (tx [c]))=false:=decide_eq_false (by rw[Aa hc];exact Bp _)
 have hy:((tx [c]).length == 0)=false:=by rw[e1];rfl
 have hsz:(40000:Nat)<=sizeLine:=by decide
 have hol:=rA c l 0
 have laid:∀(its:List Value)(tk:Nat),aH ((bf c l).map fun w=>V.str (tx w)) its->EP X pins σ Q (.ref s.heap.objs.size) { s with toks:=tk,heap:=s.heap.push { cls:=.type "list",data:=.seq its.toArray } }:=fun its tk r=>by
  have hz:((bf c l).map fun w=>V.str (tx w)).length<=sizeLine:=by rw[List.length_map,bf,p9];omega
  refine⟨.ref s.heap.objs.size,_,I.laid (t':=tk) (o:=.lst ((bf c l).map fun w=>V.str (tx w))) (fun b ob q=>Heap.get?_push_of_some _ q) (Nat.le_refl _) ?_,rfl,q _ (I.hok.fresh (Nat.le_refl _))⟩;exact⟨hz,its,_,r,Heap.get?_push_size _ rfl⟩
 have self:bf c l=[l]->EP X pins σ Q (.ref s.heap.objs.size) { s with heap:=s.heap.push { cls:=.type "list",data:=.seq [Value.str (tx l) t].toArray } }:=fun e=>by
  refine laid [.str (tx l) t] s.toks ?_;rw[e];exact .cons ⟨_,rfl⟩ .nil
 by_cases h0:l=[]
 ·exact call_meets F.slot_str_split (typeIs_str _ _ _) F.entry_str_split (F.args_str_split_2 _ _) (PySem.meets_str_split_cannot_occur (tx l) (tx [c]) t t2 (by rw[en,e1,h0];rfl)) (self (by rw[h0];rfl))
 have h1:(decide ((tx l).length<(tx [c]).length) || decide (Builtin.Str.strKind (tx l)<Builtin.Str.strKind (tx [c])))=false:=by
  have:=List.length_pos_iff.mpr h0;rw[hk,en,e1,Bool.or_false];exact decide_eq_false (by omega)
 by_cases hf:(i6 c 0 l).isEmpty=true
 ·exact call_meets F.slot_str_split (typeIs_str _ _ _) F.entry_str_split (F.args_str_split_2 _ _) (PySem.meets_str_split_not_found (tx l) (tx [c]) t t2 h1 hy (by rw[tW];exact hf)) (self (by unfold bf;rw[List.isEmpty_iff.mp hf];rfl))
 ·have hpl:partsBetween (tx l) (occurrences (tx l) (tx [c]) 0 (tx l).length ((tx l).length+1)) (tx [c]).length=(bf c l).map tx:=by rw[tW,xJ];rfl
  refine call_meets F.slot_str_split (typeIs_str _ _ _) F.entry_str_split (F.args_str_split_2 _ _) (PySem.meets_str_split_sep (tx l) (tx [c]) t t2 h1 hy (by rw[tW];simpa using hf) (by rw[en];omega) (by rw[hpl,List.length_map,bf,p9];omega)) ?_
  rw[hpl];refine laid _ _ ?_;have:=nO ((bf c l).map tx) s.toks
  rwa [List.map_map] at this
noncomputable def y7(to:AE)(t:AA):AE:=fun ρ Z Q=>to ρ Z fun x Z1=>∃l,x=.d (.str (tx l))/\t ρ Z1 fun ys Z2=>∃c,ys=[.d (.str (tx [c]))]/\c<256/\l.length<=20000/\Q (.d (.lst ((bf c l).map fun w=>D.str (tx w)))) Z2
theorem nk(to:AE)(t:AA)(ρ:SA)(Z:Om)(Q:AV->Om->Prop):y7 to t ρ Z Q=(to ρ Z fun x Z1=>∃l,x=.d (.str (tx l))/\t ρ Z1 fun ys Z2=>∃c,ys=[.d (.str (tx [c]))]/\c<256/\l.length<=20000/\Q (.d (.lst ((bf c l).map fun w=>D.str (tx w)))) Z2):=rfl
theorem p8{K:W.Frag}{to:TE}{to':AE}{t:TA}{t':AA}(ho:a9 to to')(ht:gM t t'):a9 (tBM K "str" zo to t) (y7 to' t'):=⟨fun F H Z σ ρ Q Q' rp rs w k=>
 ho.go rp rs w fun x Z1 v H1 rp1 fr1 rs1 rv1 ⟨l,e,q1⟩=>by
  subst e;cases cu rv1;refine⟨rfl,ht.go rp1 rs1 q1 fun ys Z2 vs H2 rp2 fr2 rs2 rv2 ⟨c,e1,hc,hl,q⟩=>?_⟩;subst e1;obtain⟨u,rfl,r⟩:=iK rv2;cases cu r;refine⟨l,c,rfl,rfl,hc,hl,(k.fr (fr1.trans fr2)).lst rp2 (ds:=(bf c l).map fun w=>D.str (tx w)) ?_ q⟩;have:=iD (cut F H2 Z2) ((bf c l).map tx)
  rwa [List.map_map,List.map_map] at this⟩
end L2
namespace L2
open PySem PySem.Spec PyProof.Rows
noncomputable def CU:AC:=fun xs Z Q=>∃z:Str,xs=[.d (.str z)]/\z.length<=sizeLine/\Q (.d (.int z.length)) Z
theorem rq(xs:List AV)(Z:Om)(Q:AV->Om->Prop):CU xs Z Q=(∃z:Str,xs=[.d (.str z)]/\z.length<=sizeLine/\Q (.d (.int z.length)) Z):=rfl
theorem fF{K:W.Frag}:mj (fun xs H Q=>∃x n,xs=[x]/\Cm K x H n/\Q (.int n) H) CU:=⟨fun F H Z vs xs Q Q' rp rv ⟨z,e1,e2,q⟩ k=>by
 subst e1;obtain⟨v,rfl,r⟩:=iK rv;cases cu r
 exact⟨_,z.length,rfl,⟨e2,rfl⟩,k.int rp q⟩⟩
noncomputable def Dk(h h':Heap):Prop:=∀(b:Nat) o,h.objs[b]?=some o->∃o',h'.objs[b]?=some o'/\o'.dict=o.dict
theorem Dk.refl(h:Heap):Dk h h:=fun b o e=>⟨o,e,rfl⟩
theorem Dk.trans{a b c:Heap}(x:Dk a b)(y:Dk b c):Dk a c:=fun i o e=>by
 obtain⟨o1,e1,d1⟩:=x i o e;obtain⟨o2,e2,d2⟩:=y i o1 e1;exact⟨o2,e2,d2.trans d1⟩
theorem Dk.push(h:Heap)(o:Obj):Dk h (h.push o):=fun i u e=>by
 obtain⟨os,l⟩:=h;have hi:i<os.size:=(Array.getElem?_eq_some_iff.mp e).1;exact⟨u,by show (os.push o)[i]?=some u;rw[Array.getElem?_push,if_neg (Nat.ne_of_lt hi)];exact e,rfl⟩
theorem Dk.upd(h:Heap)(a:Addr){f:Obj->Obj}(hf:∀o,(f o).dict=o.dict):Dk h (h.update a f):=fun i u e=>by
 obtain⟨os,l⟩:=h;show ∃o',(os.modify a f)[i]?=some o'/\_;rw[Array.getElem?_modify];have e:os[i]?=some u:=e;by_cases hi:a=i
 ·rw[if_pos hi,e];exact⟨_,rfl,hf u⟩
 ·rw[if_neg hi,e];exact⟨_,rfl,rfl⟩
theorem Dk.at{h h':Heap}(x:Dk h h'){b:Addr}{o o':Obj}(e:h.get? b=some o)(e':h'.get? b=some o'):o'.dict=o.dict:=by
 have f:∀(g:Heap) u,g.get? b=some u->g.objs[b]?=some u:=fun g u z=>by
  unfold Heap.get? at z;split at z
  ·cases z
  ·exact z
 obtain⟨u,z1,z2⟩:=x b o (f h o e);have z3:u=o':=Option.some.inj (z1.symm.trans (f h' o' e'));rw[←z3];exact z2
noncomputable def Kp{α:Type}(m:Sem α):Prop:=∀(M:Model)(Γ:PySem.Ctx)(Q:α->Pos->Shared->Prop)(E:Value->Pos->Shared->Prop)(p:Pos)(s:Shared),Sem.wp M Γ m Q E p s ->
 Sem.wp M Γ m (fun a p' s'=>Q a p' s'/\Dk s.heap s'.heap) (fun e p' s'=>E e p' s'/\Dk s.heap s'.heap) p s
section
variable{α β:Type}
theorem bJ(a:α):Kp (pure a:Sem α):=fun M Γ Q E p s h=>⟨h,Dk.refl _⟩
theorem iN(x:String):Kp (unsupported x:Sem α):=fun M Γ Q E p s h=>h
theorem bg{m:Sem α}{f:α->Sem β}(hm:Kp m)(hf:∀a,Kp (f a)):Kp (m >>= f):=fun M Γ Q E p s h=>by
 rw[Sem.wp_bind'] at h ⊢;refine Sem.wp_mono M Γ m (fun a p1 s1 ⟨h1,k1⟩=>?_) (fun e p1 s1 h1=>h1) p s (hm M Γ _ _ p s h);exact Sem.wp_mono M Γ _ (fun b p2 s2 ⟨h2,k2⟩=>⟨h2,k1.trans k2⟩) (fun e p2 s2 ⟨h2,k2⟩=>⟨h2,k1.trans k2⟩) p1 s1 (hf a M Γ Q E p1 s1 h1)
theorem gi{c:Prop}[Decidable c]{a b:Sem α}(ha:Kp a)(hb:Kp b):Kp (if c then a else b):=by split<;>assumption
theorem pU(a:Addr):Kp (load a):=fun M Γ Q E p s h=>by
 obtain⟨o,ho,h⟩:=h;exact⟨o,ho,h,Dk.refl _⟩
theorem nQ(a:Addr){f:Obj->Obj}(hf:∀o,(f o).dict=o.dict):Kp (update a f):=fun M Γ Q E p s h=>by
 obtain⟨ha,h⟩:=h;exact⟨ha,h,Dk.upd _ _ hf⟩
theorem Ao(o:Obj):Kp (alloc o):=fun M Γ Q E p s h=>⟨h,Dk.push _ _⟩
theorem mF:Kp stack:=fun M Γ Q E p s h=>⟨h,Dk.refl _⟩
end
theorem zF(f:Array Value->Array Value)(o:Obj):(Obj.mapFields f o).dict=o.dict:=by
 obtain⟨c,d,dt,sl⟩:=o;cases dt<;>rfl
theorem rg(v:Value):Kp (fieldsOf v):=by
 unfold fieldsOf;split
 ·refine bg (pU _) fun o=>?_
  split
  ·exact bJ _
  ·exact iN _
 ·exact iN _
theorem jA(v:Value)(i:Nat):Kp (field v i):=by
 unfold field;refine bg (rg v) fun o=>?_;split
 ·exact bJ _
 ·exact iN _
theorem gZ(v:Value)(i:Nat)(x:Value):Kp (setField v i x):=by
 unfold setField;split
 ·unfold updateField
  refine bg (pU _) fun o=>?_;split
  ·exact gi (nQ _ (zF _)) (iN _)
  ·exact iN _
 ·exact iN _
theorem f8(e:Value)(f:Option Addr):Kp (setFlight e f):=by
 unfold setFlight;exact bg (jA _ _) fun tb=>gi (gZ _ _ _) (bJ _)
theorem xj(env:Env)(outer:List Env):Kp (behindIsImport env outer):=by
 unfold behindIsImport;refine gi (bJ _) (gi (bJ _) ?_);exact bg (jA _ _) fun _=>bJ _
theorem Ae:Kp underTheClaimsCaller:=by
 unfold underTheClaimsCaller;exact bg mF fun _=>bJ _
theorem BE(env:Env)(i:Bool):∀l:List Env,Kp (keptBack env i l)
 | []=>by
  unfold keptBack;exact gi (bJ _) (bg Ae fun _=>bJ _)
 |c::l=>by unfold keptBack;exact bJ _
theorem qT:∀l:List Env,Kp (readyFrames l)
 | []=>by unfold readyFrames;exact bJ _
 |env::outer=>by
  unfold readyFrames;split
  ·refine bg (pU _) fun o=>gi (bJ _) ?_
   exact bg (xj _ _) fun _=>bg (BE _ _ _) fun _=>bg (nQ _ fun o=>rfl) fun _=>qT outer
  ·exact iN _
theorem tH(env:Env):Kp (PySem.frameOf env):=by
 unfold PySem.frameOf;refine bg (bg mF fun _=>bJ _) fun l=>bg ?_ fun o=>?_
 ·cases l.dropWhile (fun x=>x.frame != env.frame) with
  |nil=>unfold frameObject;exact bJ _
  |cons e r=>unfold frameObject;exact bg (qT _) fun _=>bJ _
 ·split
  ·exact bJ _
  ·exact iN _
theorem yG(f:Addr)(b:Bool):Kp (entryPlaceOf f b):=by
 unfold entryPlaceOf;refine bg mF fun l=>?_;split<;>exact bJ _
theorem vS(n:String)(d:Data):Kp (newObjAsIs (.type n) d):=by
 unfold newObjAsIs;exact bg (Ao _) fun _=>bJ _
theorem AX(a b c d e:Value)(l:List Value):Kp (EntryCells.newEntry a b c d e l):=by
 unfold EntryCells.newEntry newFields newObj;dsimp only;exact gi (bg (iN _) fun _=>vS _ _) (vS _ _)
theorem vA(e:Value)(env:Env):Kp (noteFrame e env):=by
 unfold noteFrame;split
 ·rename_i f hf
  refine bg (jA _ _) fun hd=>?_;have fin:Kp (do setField e 1 (← EntryCells.newEntry hd (← PySem.frameOf env) .none (rawInt f) .none (← entryPlaceOf f (hd != .none)))):=bg (tH _) fun _=>bg (yG _ _) fun _=>bg (AX _ _ _ _ _ _) fun _=>gZ _ _ _
  exact gi (bg (jA _ _) fun _=>gi (bJ _) (bg (gZ _ _ _) fun _=>fin)) fin
 ·exact iN _
theorem mq(env:Env)(e:Value):Kp (leaving env e):=by
 unfold leaving;exact bg (vA _ _) fun _=>f8 _ _
theorem qh{α:Type}{M:Model}{A:Around}{m:Sem α}{Q:α->Shared->Prop}{E:Value->Shared->Prop}{s:Shared}(k:Kp m)(h:wpAny M A m Q E s):wpAny M A m (fun a s'=>Q a s'/\Dk s.heap s'.heap) (fun e s'=>E e s'/\Dk s.heap s'.heap) s:=
 fun Γ p hΓ=>k M Γ _ _ p s (h Γ p hΓ)
noncomputable def kL(h:Heap)(C fI:Addr):Prop:=∃nm q N bs bm hd sn sub ab col dd k0 k1 k2 k3 k5 mN oI,h.get? C=some (excClassObj nm q C N bs bm hd sn sub ab col dd k0 k1 k2 k3 k5 "ValueError.__new__")/\h.Ns N mN/\mN "__init__"=some (.ref fI)/\OwnTail h kj bm/\h.get? fI=some oI/\oI.cls=.type "function"
theorem kL.keeps{h h':Heap}{C fI:Addr}(x:kL h C fI)(k:∀b o,h.get? b=some o->h'.get? b=some o):kL h' C fI:=by
 obtain⟨nm,q,N,bs,bm,hd,sn,sub,ab,col,dd,k0,k1,k2,k3,k5,mN,oI,x1,x2,x3,x4,x5,x6⟩:=x;exact⟨nm,q,N,bs,bm,hd,sn,sub,ab,col,dd,k0,k1,k2,k3,k5,mN,oI,k _ _ x1,x2.keeps k,x3,x4.keeps k,k _ _ x5,x6⟩
section
variable{prog:Program}{w:World}{A:Around}{E:Value->Shared->Prop}{h:Heap}{g:Array GenState}{d:Drawn}{t:Nat}{os:OsState}{C fI:Addr}{bO:List Value}
theorem tq{Q:Fin->Shared->Prop}(x:kL h C fI)(hrest:bO.length<=sizeLine)(hq:∀h' e,Heap.MadeExcOf h h' e (.ref C) bO->wpAny (model prog w) A (call (.ref fI) (.ref e::bO)) (fun r s'=>r=.none/\Q (.done (.ret (.ref e))) s') E ⟨h',g,d,t,os⟩):
  wpAny (model prog w) A (Builtin.«type.__call__» ⟨.ref C::bO,[]⟩) Q E ⟨h,g,d,t,os⟩:=by
 obtain⟨nm,q,N,bs,bm,hd,sn,sub,ab,col,dd,k0,k1,k2,k3,k5,mN,oI,hC,hn,hi,T,hfI,hfc⟩:=x;have F:=PySem.F.excBase_ValueError
 repeat (first|with_reducible refine wpAny_loadPart_at hC ?_|with_reducible refine wpAny_madeBy_exc hC ?_|wp_step)
 refine codeAny_call_builtin_code (Code.quiet_builtin _ F.quiet) (wpAny_check_new_subU F (by decide) T hC ?_)
 refine codeAny_exc_new_subU F (by decide) F T hC ?_ hrest
 show wpAny _ _ _ _ _ _;generalize hp:((h.push { cls:=.type "tuple",data:=.seq bO.toArray }).push { cls:=.ref C,data:=.fields #[.ref h.objs.size,.none,.none,.none,.bool false,.none] })=hh;have kp:∀b o,h.get? b=some o->hh.get? b=some o:=fun b o z=>by rw[←hp];exact Heap.get?_push_of_some _ (Heap.get?_push_of_some _ z)
 have ge:hh.get? (h.objs.size+1)=some { cls:=.ref C,data:=.fields #[.ref h.objs.size,.none,.none,.none,.bool false,.none] }:=by rw[←hp];heap_get
 have gt:hh.get? h.objs.size=some { cls:=.type "tuple",data:=.seq bO.toArray }:=by rw[←hp];exact Heap.get?_push_of_some _ (Heap.get?_push_at rfl rfl)
 have hC1:=kp _ _ hC;have hn1:=hn.keeps kp;have T1:=T.keeps kp;have own:(Value.ref C::bm).contains (.ref C)=true:=by simp
 unfold isInstance
 repeat (first|with_reducible refine wpAny_loadPart_at ge ?_|(with_reducible refine wpAny_isSubtype_exc hC1 ?_;rw[own])|wp_step)
 show wpAny _ _ (typeLookup (.ref C) _) _ _ _;refine wpAny_typeLookup_tail hC1 hn1 T1 F.mroIs F.init.lookup ?_;rw[hi];refine wpAny_holding (wpAny_bind ?_);unfold bindSpecial;refine wpAny_bind (wpAny_typeOf (T:="function") ⟨_,kp _ _ hfI,hfc⟩ ?_);rw[if_pos (by decide)]
 refine wpAny_pure (wpAny_bind (wpAny_mono (hq hh (h.objs.size+1) ⟨kp,Heap.get?_none_of_le (Nat.le_succ _),h.objs.size,ge,Heap.get?_none_of_le (Nat.le_refl _),gt⟩) (fun r s' hr=>?_) fun _ _ z=>z));obtain⟨rfl,z⟩:=hr
 wp_walk
 exact z
theorem sN{Q:Value->Shared->Prop}(x:kL h C fI)(hrest:bO.length<=sizeLine)(hq:∀h' e,Heap.MadeExcOf h h' e (.ref C) bO->wpAny (model prog w) (A.under (.builtin "type.__call__" ⟨.ref C::bO,[]⟩)) (call (.ref fI) (.ref e::bO)) (fun r s'=>r=.none/\Q (.ref e) s') E ⟨h',g,d,t,os⟩):
  wpAny (model prog w) A (call (.ref C) bO) Q E ⟨h,g,d,t,os⟩:=by
 obtain⟨nm,q,N,bs,bm,hd,sn,sub,ab,col,dd,k0,k1,k2,k3,k5,mN,oI,hC,_⟩:=id x;have f1:=tc_lookup;have f2:=tc_bind (.ref C);have hT:(⟨h,g,d,t,os⟩:Shared).TypeIs (.ref C) "type":=⟨_,hC,rfl⟩;refine wpAny_call (codeAny_of_tree ?_);show wpAny _ _ (callAny (.ref C) _) _ _ _
 repeat (any_goals (first|assumption|with_reducible refine wpAny_loadPart_at hC ?_|wp_step))
 refine⟨rfl,codeAny_call_builtin_at (Code.quiet_builtin _ (by decide +kernel)) entry_typeCall (wpAny_check_type_call_sub hC (tq x hrest hq))⟩
end
end L2
namespace L2
open PySem PySem.Spec PySem.Calls PyProof.Rows PySem.W PySem.Builtin PySem.Builtin.ObjectAttr
noncomputable def Aw:List Value->Bool
 |.ref _::r=>Aw r
 |l=>l == kj
theorem oO:∀ {l:List Value},Aw l=true->l.contains (.type "object")=true/\∀self:Value,refuseLoop self "__setattr__" l=pure ()
 |.ref c::r,e=>by
  obtain⟨a,b⟩:=oO (l:=r) e;exact⟨by rw[List.contains_cons,a,Bool.or_true],fun self=>by rw[refuseLoop_ref];exact b self⟩
 | [],e=>by cases e
 |.type n::r,e=>by
  have e:Value.type n::r=kj:=beq_iff_eq.mp e;rw[e];exact⟨by decide,PySem.F.store_ValueError.passes⟩
 |.none::r,e=>by cases beq_iff_eq.mp (show (Value.none::r == kj)=true from e)
 |.bool _::r,e=>by cases beq_iff_eq.mp (show (Value.bool _::r == kj)=true from e)
 |.int _ _::r,e=>by cases beq_iff_eq.mp (show (Value.int _ _::r == kj)=true from e)
 |.float _ _::r,e=>by cases beq_iff_eq.mp (show (Value.float _ _::r == kj)=true from e)
 |.str _ _::r,e=>by cases beq_iff_eq.mp (show (Value.str _ _::r == kj)=true from e)
 |.bytes _ _::r,e=>by cases beq_iff_eq.mp (show (Value.bytes _ _::r == kj)=true from e)
 |.ellipsis::r,e=>by cases beq_iff_eq.mp (show (Value.ellipsis::r == kj)=true from e)
 |.notImplemented::r,e=>by cases beq_iff_eq.mp (show (Value.notImplemented::r == kj)=true from e)
 |.builtin _::r,e=>by cases beq_iff_eq.mp (show (Value.builtin _::r == kj)=true from e)
noncomputable def qJ(K:Frag)(C:Addr)(name:Str):Bool:=(clsIn K C).any (fun cd=>Aw cd.mro && cd.hasDict) && findIn K (.ref C) "__setattr__" == some (some (.builtin "object.__setattr__")) && findIn K (.ref C) name == some none
section
variable{prog:Program}{w:World}{A:Around}{E:Value->Shared->Prop}{s:Shared}{K:Frag}{x C:Addr}{o:Obj}{name:Str}{v:Value}
theorem Bx{Q:Unit->Shared->Prop}(X:K.In s.heap)(hx:s.heap.get? x=some o)(hc:o.cls=.ref C)(hd:o.dict=none)(hf:∃vs,o.data=.fields vs)(ok:qJ K C name=true)(h:∀(h':Heap)(tk:Nat),h'.get? x=some { o with dict:=some s.heap.objs.size }->h'.Ns1 s.heap.objs.size (fun y=>if y=name then some v else none)->(∀b u,b≠x->s.heap.get? b=some u->h'.get? b=some u)->Q () { s with heap:=h',toks:=tk }):
  wpAny (model prog w) A (setAttr (.ref x) name v) Q E s:=by
 unfold qJ at ok;simp only[Bool.and_eq_true,beq_iff_eq] at ok;obtain⟨⟨hcd,hsa⟩,hna⟩:=ok;obtain⟨cd,hcd,hm⟩:=any_some hcd;simp only[Bool.and_eq_true] at hm;obtain⟨ho,hh⟩:=hm;obtain⟨has,pass⟩:=oO ho;obtain⟨vs,hf⟩:=hf;have I:InstAt s.heap x o C none:=⟨hx,hc,by unfold notCls;rw[hf],by rw[hd];trivial⟩
 refine set_plain X I hsa ?_;have SF:=PySem.F.store_object;have ne:cd.mro.isEmpty=false:=by cases q:cd.mro with|nil=>rw[q] at ho;cases ho|cons _ _=>rfl
 have sub:Looks (model prog w) s.heap (isInstance (.ref x) (.type "object")) true:=I.type.andThen (looks_mroIn X (by unfold mroIn;rw[hcd,Option.bind_some,if_neg (by rw[ne];decide),has]))
 refine codeAny_call_builtin SF.slot.plain SF.entry (@check_slot (model prog w) _ _ { s with toks:=s.toks+1 } "object.__setattr__" "object" "__setattr__" (.ref x) [.str name s.toks,v] [] _ SF.kind SF.split sub (SF.args (.ref x) (.str name s.toks) v) ?_);have hm:Looks (model prog w) s.heap (mroOf (.ref C)) cd.mro:=(looks_clsIn X hcd).andThen .now;rw[osa_eq,refuse_eq];refine wpAny_bind (wpAny_bind (Looks.here (s:={ s with toks:=s.toks+1 }) I.type (wpAny_bind (Looks.here (s:={ s with toks:=s.toks+1 }) hm ?_))))
 rw[pass];refine wpAny_pure (wpAny_bind (Looks.here (s:={ s with toks:=s.toks+1 }) I.type (wpAny_bind (Looks.here (s:={ s with toks:=s.toks+1 }) (looks_findIn X hna) (wpAny_bind (wpAny_pure ?_))))));show wpAny _ _ (storeInOwnDict (.ref x) (.ref C) (.str name s.toks) name v false) _ _ _;unfold storeInOwnDict ownDictForStores instanceDict;refine wpAny_bind (wpAny_pure ?_);rw[if_neg (show ¬ (Value.ref C == Value.type "module")=true from Bool.false_ne_true)]
 refine wpAny_bind (wpAny_bind (wpAny_loadPart hx ?_));rw[hc];refine wpAny_bind (Looks.here (s:={ s with toks:=s.toks+1 }) (looks_clsIn X hcd) ?_);rw[hh,if_neg (by decide)]
 dsimp only;rw[hd,hf];dsimp only;rw[if_neg (show ¬ (!true || !typeHasDict (.ref C))=true from Bool.false_ne_true)]
 have hxs:x≠s.heap.objs.size:=Nat.ne_of_lt (Heap.lt_size hx)
 have fr:(⟨o.cls,some s.heap.objs.size,o.data,o.slots⟩:Obj).isFreed=false:=by
  unfold Obj.isFreed;rw[hf]
 have x1:(s.heap.push { cls:=.type "dict",data:=.dict #[] }).get? x=some o:=Heap.get?_push_of_some _ hx;refine wpAny_bind (wpAny_alloc ?_);refine wpAny_bind (wpAny_update x1 (wpAny_pure ?_));generalize hg:((s.heap.push { cls:=.type "dict",data:=.dict #[] }).update x fun o=>{ cls:=o.cls,dict:=some s.heap.objs.size,data:=o.data,slots:=o.slots })=hp
 have gx:hp.get? x=some { o with dict:=some s.heap.objs.size }:=by
  rw[←hg]
  exact Heap.get?_update_self _ x1 fr
 have gd:hp.get? s.heap.objs.size=some { cls:=.type "dict",data:=.dict #[] }:=by
  rw[←hg]
  exact(Heap.get?_update_ne _ _ _ _ hxs.symm).trans (Heap.get?_push_at rfl rfl)
 have gb:∀b u,b≠x->s.heap.get? b=some u->hp.get? b=some u:=fun b u hb z=>by
  rw[←hg]
  exact(Heap.get?_update_ne _ _ _ _ hb).trans (Heap.get?_push_of_some _ z)
 have nd:hp.Ns s.heap.objs.size (fun _=>none):=⟨_,#[],_,gd,rfl,fun e he=>absurd he (by simp),fun _=>rfl⟩
 show wpAny _ _ (storeInDict s.heap.objs.size (.str name s.toks) name v) _ _ _;unfold storeInDict newKeyGuard;refine wpAny_bind (wpAny_pure (wpAny_bind (wpAny_nsSet1 (Heap.Ns1.of_empty nd) fun h' hn' hs=>?_)));obtain⟨oD,esD,epD,hoD,hdD,hcD⟩:=hn'.count (PySem.Within.cons name v PySem.Within.nil);refine wpAny_bind (wpAny_lookBehind hoD (by rw[hdD];exact pastItsLine_dict (Nat.le_trans hcD (by rw[List.length_cons,List.length_nil,sizeLine_eq];omega))) (wpAny_pure ?_))
 exact h h' _ ((hs.2 x hxs).trans gx) hn' fun b u hb z=>(hs.2 b (Nat.ne_of_lt (Heap.lt_size z))).trans (gb b u hb z)
structure Ez(h h':Heap)(e:Addr)(o:Obj)(v:Value):Prop where
 at_:∃dx,h'.get? e=some { o with dict:=some dx }/\h'.Ns1 dx (fun y=>if y=("at":Str) then some v else none)/\h.get? dx=none/\h.objs.size<=dx
 keep:∀b u,b≠e->h.get? b=some u->h'.get? b=some u
theorem z7{qual:Str}{st:Stmt}{f:Addr}{fd:FuncData}{Q:Value->Shared->Prop}(F:Fun K "__init__" qual st f fd)(S:aN ["self","at"] ["self","at"] (defScope st))(l1:(defScope st).names.lookup ("self":Str)=some .local)(l2:(defScope st).names.lookup ("at":Str)=some .local)(hb:bx K fd ["self","at"] [])(body:∃p1 p2 p3 p4,defBody st=[.Assign [.Attribute (.Name "self" p1) "at" p2] (.Name "at" p3) p4])(X:K.In s.heap)(lim:s.heap.NoLimit)(hr:A.depth<recursionLimit)(hx:s.heap.get? x=some o)(hc:o.cls=.ref C)(hd:o.dict=none)(hf:∃vs,o.data=.fields vs)(ok:qJ K C "at"=true)(h:∀(h':Heap)(tk:Nat),Ez s.heap h' x o v->Q .none { s with heap:=h',toks:=tk }):wpAny (model prog w) A (call (.ref f) [.ref x,v]) Q E s:=by
 obtain⟨oc,od,kV,doc,pm,an,cdv,ct,osl,rfl,lk,hcd⟩:=F.ex;obtain⟨p1,p2,p3,p4,hbd⟩:=body
 have hkind:∀y∈(["self","at"]:List Str).zip [Value.ref x,v],(defScope st).names.lookup y.1=some .local\/((defScope st).names.lookup y.1=some .cell/\((cellsFrom (s.heap.objs.size+1) (defScope st).names []).lookup y.1).isSome=true):=fun y hy=>by
  simp only[List.zip_cons_cons,List.zip_nil_right,List.mem_cons,List.not_mem_nil,or_false] at hy;rcases hy with rfl|rfl
  ·exact .inl l1
  ·exact .inl l2
 refine wpAny_call (codeAny_call_function hr (X _ _ lk) rfl S.co S.gen rfl (W.codeRec_of X hcd) (hb s [.ref x,v] X rfl _ _ _ _ ?_));refine wpAny_newFunctionEnv_cells S.kind hkind fun env he s1 y=>?_;have es:env.scope=defScope st:=by rw[he];rfl
 clear he;refine⟨lim.keeps y.toInCall.keep,codeAny_func ?_⟩;obtain⟨h1,tk,rfl,hk⟩:=y.done;have ns:=y.toInCall.ns;have k1:env.scope.names.lookup ("self":Str)=some .local:=by rw[es];exact l1
 have k2:env.scope.names.lookup ("at":Str)=some .local:=by rw[es];exact l2
 have kd:env.scope.kind=.function:=by rw[es];exact S.kind
 have m1:=ix (kindOf:=env.kindOf) (x:=("self":Str)) (P:=["self","at"]) (vs:=[Value.ref x,v]) (i:=0) (m:=fun _=>none) S.nd rfl rfl k1;have m2:=ix (kindOf:=env.kindOf) (x:=("at":Str)) (P:=["self","at"]) (vs:=[Value.ref x,v]) (i:=1) (m:=fun _=>none) S.nd rfl rfl k2;rw[hbd];refine wpAny_execs_cons (plainObj_wpAny_Assign_Attribute ?_);refine wpAny_Name (wpAny_loadName_local kd k2 ns m2 ?_) (by decide)
 refine wpAny_Name (wpAny_loadName_local kd k1 ns m1 ?_) (by decide)
 refine Bx (X.keeps hk) (hk _ _ hx) hc hd hf ok fun h' tk' g1 g2 g3=>wpAny_execs_nil ?_
 have big:s.heap.objs.size<=h1.objs.size:=by
  obtain⟨oL,_,_,gL,_⟩:=ns;exact Nat.le_of_lt (Nat.lt_of_le_of_lt y.toInCall.fresh (Heap.lt_size gL))
 exact h h' tk' ⟨⟨_,g1,g2,Heap.get?_none_of_le big,big⟩,fun b u hb z=>g3 b u hb (hk b u z)⟩
end
end L2
namespace L2
open PySem PySem.Spec PyProof.Rows PySem.W
noncomputable def enC(C n:Nat):Nat:=(C+n)*(C+n)+n
theorem zb{a b c d:Nat}(h:a+b<c+d):enC a b<enC c d:=by
 have h1:(a+b+1)*(a+b+1)<=(c+d)*(c+d):=Nat.mul_le_mul h h
 have h2:(a+b+1)*(a+b+1)=(a+b)*(a+b)+(a+b)+(a+b)+1:=by
  rw[Nat.add_mul,Nat.mul_add];omega
 unfold enC;omega
theorem BH{a b c d:Nat}(h:enC a b=enC c d):a=c/\b=d:=by
 rcases Nat.lt_trichotomy (a+b) (c+d) with z|z|z
 ·have:=zb z;omega
 ·unfold enC at h;rw[z] at h;omega
 ·have:=zb z;omega
noncomputable def atM(n:Nat)(tk:Tok):Str->Option Value:=fun y=>if y=("at":Str) then some (.int n tk) else none
structure rN(h:Heap)(e dx:Addr)(n:Nat):Prop where
 ob:∃o,h.get? e=some o/\o.dict=some dx
 ns:∃tk,h.Ns1 dx (atM n tk)
theorem wS{h h':Heap}{a:Addr}{m:Str->Option Value}(x:h.UpToSlots h')(hn:h.Ns1 a m):h'.Ns1 a m:=by
 obtain⟨o,es,ep,ho,hd,r⟩:=hn;obtain⟨sl,hs⟩:=x a o ho fun vs q=>by rw[hd] at q;cases q
 exact⟨_,es,ep,hs,hd,r⟩
theorem rN.on{h h':Heap}{e dx:Addr}{n:Nat}(x:rN h e dx n)(u:h.UpToSlots h')(k:Dk h h')(th:∃o,h'.get? e=some o):rN h' e dx n:=by
 obtain⟨o,e1,e2⟩:=x.ob;obtain⟨o',e3⟩:=th;obtain⟨tk,z⟩:=x.ns;exact⟨⟨o',e3,(k.at e1 e3).trans e2⟩,tk,wS u z⟩
noncomputable def CXn(P:Program)(w:World):CXT:=fun outer H s E e s'=>∃(a C t n dx:Addr)(H':Hp)(B:Heap),e=.ref a/\s'.os=s.os/\AllBare s'.gens/\Un (frs outer) [] H H' s.heap s'.heap/\HOk P w H' B /\
 Heap.FlyingW B outer a (.ref C) (.ref t) s'.heap/\(∀b o,s.heap.get? b=some o->H b=none->b ∉ frs outer->B.get? b=some o)/\(∀b o,s.heap.get? b=some o->b ∉ frs outer->∃o',B.get? b=some o')/\rN s'.heap a dx n/\B.get? dx=none/\dx ∉ frs outer/\E (.ref a) (some (enC C n)) H'
structure HA(h h':Heap)(e C t n dx:Addr):Prop where
 keeps:∀b o,h.get? b=some o->h'.get? b=some o
 new:h.get? e=none
 there:h'.get? e=some ⟨.ref C,some dx,.fields #[.ref t,.none,.none,.none,.bool false,.none],#[]⟩
 dnew:h.get? dx=none
 ns:∃tk,h'.Ns1 dx (atM n tk)
section
variable{P:Program}{w:World}{K:W.Frag}{mg:Str->Option Value}{base:Heap}{N:List Str}{qual:Str}{scope:Scope}{f:Addr}{cd:Value}{A:Around}{outer:List Env}{s₀:Shared}{H₀:Hp}{E:XK}
theorem m9{pins:List (Addr×Obj)}{σ:St}{H:Hp}{s1:Shared}{h':Heap}{tk:Nat}{e C t n dx:Addr}(I:Inv (fW (CXn P w) P w K mg base N qual scope f cd A outer s₀ H₀ E) pins σ H s1)(hx:HA s1.heap h' e C t n dx)(hE:E (.ref e) (some (enC C n)) H):
  (fW (CXn P w) P w K mg base N qual scope f cd A outer s₀ H₀ E).xe (.ref e) { s1 with heap:=h',toks:=tk }:=by
 have hfr:(A.deeper (envOfC qual scope s₀.heap.objs.size f cd)).frames=some (envOfC qual scope s₀.heap.objs.size f cd::outer):=I.ok.frames;have sf:∀b,b∈frs (envOfC qual scope s₀.heap.objs.size f cd::outer)->H b=none:=fun b hm=>I.IJ b hm;have hst:s1.heap.FunFrames base (envOfC qual scope s₀.heap.objs.size f cd::outer):=I.stack;show wpAny _ (A.deeper (envOfC qual scope s₀.heap.objs.size f cd)) (leaving (envOfC qual scope s₀.heap.objs.size f cd) (.ref e)) _ _ _
 have hF:(envOfC qual scope s₀.heap.objs.size f cd).frame=some s₀.heap.objs.size:=rfl;generalize envOfC qual scope s₀.heap.objs.size f cd=en at hfr sf hst hF ⊢;have hin:∀env∈(en::outer),∀b,env.frame=some b->b∈frs (en::outer):=fun env he b hb=>List.mem_filterMap.mpr ⟨env,he,hb⟩
 have hfs:∀b,b∈frs (en::outer)->b=s₀.heap.objs.size\/b∈frs outer:=fun b hb=>by
  obtain⟨env,he,hf⟩:=List.mem_filterMap.mp hb;rcases List.mem_cons.mp he with rfl|he
  ·rw[hF] at hf;exact .inl (Option.some.inj hf).symm
  ·exact .inr (List.mem_filterMap.mpr ⟨env,he,hf⟩)
 have hB:∀b o,s1.heap.get? b=some o->b≠s₀.heap.objs.size->b ∉ frs outer->(hideAll s1.heap (frs (en::outer))).get? b=some o:=fun b o hb h1 h2=>hideAll_get _ hb fun hm=>(hfs b hm).elim h1 h2;have lt0:∀b o,s₀.heap.get? b=some o->b≠s₀.heap.objs.size:=fun b o hb=>Nat.ne_of_lt (Heap.lt_size hb);have nex:∀b:Addr,b ∉ (fW (CXn P w) P w K mg base N qual scope f cd A outer s₀ H₀ E).ex:=fun b z=>absurd (show b∈([]:List Addr) from z) (by simp)
 have low:∀b o,(hideAll s1.heap (frs (en::outer))).get? b=some o->s1.heap.get? b=some o:=fun b o q=>of_hideAll _ q
 have fresh:∀b,s1.heap.get? b=none->(hideAll s1.heap (frs (en::outer))).get? b=none:=fun b hb=>by
  cases hq:(hideAll s1.heap (frs (en::outer))).get? b with
  |none=>rfl
  |some o'=>have:=low b o' hq;rw[hb] at this;cases this
 have inS:∀b,b∈frs (en::outer)->∃o,s1.heap.get? b=some o/\∀vs,o.data≠.fields vs:=fun b hb=>by
  obtain⟨_,o2,q2,nf⟩:=hst.mem (b:=b) hb;exact⟨o2,q2,nf⟩
 have FF:=funFrames_hide hst hin;have hB2:∀b o,s1.heap.get? b=some o->b ∉ frs (en::outer)->(hideAll s1.heap (frs (en::outer))).get? b=some o:=fun b o hb h1=>hideAll_get _ hb h1;generalize hideAll s1.heap (frs (en::outer))=B at hB low fresh FF hB2;refine wpAny_mono (qh (mq _ _) (wpAny_leaving_firstW (s:={ s1 with heap:=h',toks:=tk }) (E:=fun _ _=>False) (Q:=fun _ s''=>∃h'',Heap.LeftW B (en::outer) e (.ref C) (.ref t) h' h''/\s''={ s1 with heap:=h'',toks:=tk }) (base:=B) (a0:=.ref t) hfr (FF.of_keeps fun b o hb _=>⟨o,hx.keeps b o hb,rfl⟩) hF hx.there (fun b o hb=>hx.keeps b o (low b o hb)) (fresh e hx.new) rfl rfl rfl fun h'' hL=>⟨h'',hL,rfl⟩)) (fun _ s'' z=>?_) fun _ _ z=>z.1.elim
 obtain⟨⟨h'',⟨k1,⟨_,_,k2⟩,k3,k4⟩,rfl⟩,kd⟩:=z;have keep:∀b o,s₀.heap.get? b=some o->H₀ b=none->b ∉ frs outer->B.get? b=some o:=fun b o hb hn ho=>hB b o (I.base.keep b o hb hn ho (nex b)) (lt0 b o hb) ho
 have there:∀b o,s₀.heap.get? b=some o->b ∉ frs outer->∃o',B.get? b=some o':=fun b o hb ho=>by
  obtain⟨o',q⟩:=I.base.there b o hb (nex b);exact⟨o',hB b o' q (lt0 b o hb) ho⟩
 have up:∀b,b∈frs outer->b∈frs (en::outer):=fun b ho=>by
  obtain⟨env,he,hf⟩:=List.mem_filterMap.mp ho;exact List.mem_filterMap.mpr ⟨env,List.mem_cons_of_mem _ he,hf⟩
 have slot:∀b o,s₀.heap.get? b=some o->H₀ b=none->b∈frs outer->∃sl,h''.get? b=some { o with slots:=sl }:=fun b o hb hn ho=>by
  obtain⟨sl,q⟩:=I.base.slot b o hb hn ho (nex b);obtain⟨o2,q2,nf⟩:=inS b (up b ho);rw[q] at q2;cases q2;obtain⟨sl2,q3⟩:=k4 b _ (hx.keeps b _ q) nf;exact⟨sl2,q3⟩
 have be:rN h' e dx n:=⟨⟨_,hx.there,rfl⟩,hx.ns⟩
 have dnf:dx ∉ frs outer:=fun hm=>by
  obtain⟨o2,q2,_⟩:=inS dx (up dx hm);rw[hx.dnew] at q2;cases q2
 refine⟨e,C,t,n,dx,H,B,rfl,I.os,I.bare,⟨fun b o hb hn ho _=>k1 b o (keep b o hb hn ho),fun b o hb hn ho _=>slot b o hb hn ho,fun b o hb hn _=>I.base.free b o hb hn (nex b),fun b o hb _=>?_,I.base.tups,I.base.frzs,I.base.tbls⟩,?_,⟨k1,fresh e hx.new,k2,k3⟩,keep,there,be.on k4 kd ⟨_,(Heap.TracedAtW.there k3.at).choose_spec.1⟩,fresh dx hx.dnew,dnf,hE⟩
 ·by_cases ho:b∈frs outer
  ·by_cases hn:H₀ b=none
   ·obtain⟨sl,q⟩:=slot b o hb hn ho
    exact⟨_,q⟩
   ·exact absurd (I.ok.frf b ho) hn
  ·obtain⟨o',q⟩:=there b o hb ho
   exact⟨o',k1 b o' q⟩
 ·intro b o ha
  refine(I.hok b o ha).stay (fun c u hc q=>hB2 c u q fun hm=>?_) (fun _ q=>q) (fun _ _ q=>q) fun _ _ _ q=>q;have z:=sf c hm;rcases hc with rfl|hc
  ·rw[ha] at z;cases z
  ·rw[hc] at z;cases z
end
theorem oy{X:Cx}{en:Env}{E:XK}(hS:X.stack=en::X.outer)(hF:en.frame=some X.s₀.heap.objs.size)(hX:X.ex=[]){pins:List (Addr×Obj)}{σ:St}{H:Hp}{s1:Shared}{e:Value}{s2:Shared}(I:Inv X pins σ H s1)(hc:CXn X.prog X.w X.stack H s1 E e s2):
  wpAny (model X.prog X.w) X.A (leaving en e) (fun _ s''=>CXn X.prog X.w X.outer X.H₀ X.s₀ E e s'') (fun e' s''=>CXn X.prog X.w X.outer X.H₀ X.s₀ E e' s'') s2:=by
 obtain⟨a,C,t,n,dx,H',B,rfl,os,bare,un,hok,fl,keep,there,be,dB,dF,hE⟩:=hc;rw[hS] at un fl keep there dF;have hfr:X.A.frames=some (en::X.outer):=by rw[←hS];exact I.ok.frames
 have hst:s1.heap.FunFrames X.base (en::X.outer):=by rw[←hS];exact I.stack
 have nex:∀b:Addr,b ∉ X.ex:=fun b z=>absurd (show b∈([]:List Addr) from hX ▸ z) (by simp)
 have hfs:∀b,b∈frs (en::X.outer)->b=X.s₀.heap.objs.size\/b∈frs X.outer:=fun b hb=>by
  obtain⟨env,he,hf⟩:=List.mem_filterMap.mp hb;rcases List.mem_cons.mp he with rfl|he
  ·rw[hF] at hf;exact .inl (Option.some.inj hf).symm
  ·exact .inr (List.mem_filterMap.mpr ⟨env,he,hf⟩)
 have lt0:∀b o,X.s₀.heap.get? b=some o->b≠X.s₀.heap.objs.size:=fun b o hb=>Nat.ne_of_lt (Heap.lt_size hb);have nfs:∀b o,X.s₀.heap.get? b=some o->b ∉ frs X.outer->b ∉ frs (en::X.outer):=fun b o hb ho hm=>(hfs b hm).elim (lt0 b o hb) ho
 have up:∀b,b∈frs X.outer->b∈frs (en::X.outer):=fun b ho=>by
  obtain⟨env,he,hf⟩:=List.mem_filterMap.mp ho;exact List.mem_filterMap.mpr ⟨env,List.mem_cons_of_mem _ he,hf⟩
 refine wpAny_mono (qh (mq _ _) (wpAny_leaves_onW (E:=fun _ _=>False) (Q:=fun _ s''=>∃h',Heap.FlyingW B X.outer a (.ref C) (.ref t) h'/\s2.heap.UpToSlots h'/\s''={ s2 with heap:=h' }) hfr hF fl fun h' x1 x2=>⟨h',x1,x2,rfl⟩)) (fun _ s'' z=>?_) fun _ _ z=>z.1.elim;obtain⟨⟨h',x1,x2,rfl⟩,kd⟩:=z;have stay:=x1.1;have keep':∀b o,X.s₀.heap.get? b=some o->X.H₀ b=none->b ∉ frs X.outer->B.get? b=some o:=fun b o hb hn ho=>keep b o (I.base.keep b o hb hn ho (nex b)) (I.base.free b o hb hn (nex b)) (nfs b o hb ho)
 have there':∀b o,X.s₀.heap.get? b=some o->b ∉ frs X.outer->∃o',B.get? b=some o':=fun b o hb ho=>by
  obtain⟨o1,q⟩:=I.base.there b o hb (nex b);exact there b o1 q (nfs b o hb ho)
 have slot:∀b o,X.s₀.heap.get? b=some o->X.H₀ b=none->b∈frs X.outer->∃sl,h'.get? b=some { o with slots:=sl }:=fun b o hb hn ho=>by
  obtain⟨sl,q⟩:=I.base.slot b o hb hn ho (nex b);obtain⟨_,o2,q2,nf⟩:=hst.mem (b:=b) (up b ho);rw[q] at q2;cases q2;obtain⟨sl1,q1⟩:=un.slot b _ q (I.base.free b o hb hn (nex b)) (up b ho) (by simp)
  obtain⟨sl2,q3⟩:=x2 b _ q1 nf;exact⟨sl2,q3⟩
 refine⟨a,C,t,n,dx,H',B,rfl,os.trans I.os,bare,⟨fun b o hb hn ho _=>stay b o (keep' b o hb hn ho),fun b o hb hn ho _=>slot b o hb hn ho,fun b o hb hn _=>?_,fun b o hb _=>?_,fun b xs q=>un.tups b xs (I.base.tups b xs q),fun b o u q=>un.frzs b o u (I.base.frzs b o u q),fun b ps q=>?_⟩,hok,x1,keep',there',be.on x2 kd ⟨_,x1.there.choose_spec.1⟩,dB,fun q=>dF (up dx q),hE⟩
 ·obtain⟨o1,q⟩:=I.base.there b o hb (nex b)
  exact un.free b o1 q (I.base.free b o hb hn (nex b)) (by simp)
 ·by_cases ho:b∈frs X.outer
  ·obtain⟨sl,q⟩:=slot b o hb (I.ok.frf b ho) ho
   exact⟨_,q⟩
  ·obtain⟨o',q⟩:=there' b o hb ho
   exact⟨o',stay b o' q⟩
 ·obtain⟨m1,q1⟩:=I.base.tbls b ps q
  obtain⟨m2,q2⟩:=un.tbls b _ q1;exact⟨m1++m2,by rw[q2,Array.append_assoc]⟩
theorem Ff{K:Frag}{h:Heap}{N:Addr}{m:Str->Option Value}{n:Str}{v:Value}(X:K.In h)(G:h.Ns N m)(e:nsIn K N n=some (some v)):m n=some v:=by
 obtain⟨o,es,ep,ho,hd,_,hf⟩:=G;rw[←hf]
 cases lk:K.lookup N with
 |none=>simp only[nsIn,lk] at e;cases e
 |some u=>
  have z:=X _ _ lk;rw[ho] at z;cases z;obtain⟨oc,od,oda,osl⟩:=o;simp only at hd;subst hd;simp only[nsIn,lk] at e;unfold nsFind findBy;rw[←Array.find?_toList]
  cases q:es.toList.find? (fun x=>x.key.isStr n) with
  |none=>rw[q] at e;dsimp only at e;split at e<;>cases e
  |some en=>rw[q] at e;cases e;rfl
noncomputable def zm(K:Frag)(C fI:Addr):Bool:=match K.lookup C with
 |some ⟨.type cl,_,.cls cd,sl⟩=>(cl == "type") && (match cd.mro with|.ref C'::bm=>decide (C'=C) && tailIn K kj bm|_=>false) && (match sl.toList with | [_,_,_,_,some (.builtin q),_]=>q == "ValueError.__new__"|_=>false) &&
  !cd.hasDel && nsOkIn K cd.ns && (nsIn K cd.ns "__init__" == some (some (.ref fI))) && isFn K (.ref fI) && qJ K C "at"
 |_=>false
theorem Ge{K:Frag}{h:Heap}{C fI:Addr}(X:K.In h)(z:zm K C fI=true):kL h C fI/\qJ K C "at"=true:=by
 unfold zm at z;split at z
 case h_2=>cases z
 case h_1 cl dd cd sl lk=>
  simp only[Bool.and_eq_true,beq_iff_eq,Bool.not_eq_true'] at z;obtain⟨⟨⟨⟨⟨⟨⟨e0,e1⟩,e2⟩,e3⟩,e4⟩,e5⟩,e6⟩,e7⟩:=z;refine⟨?_,e7⟩;split at e1
  case h_2=>cases e1
  case h_1 C' bm em=>
   split at e2
   case h_2=>cases e2
   case h_1 k0 k1 k2 k3 q k5 es=>
    simp only[Bool.and_eq_true,decide_eq_true_eq] at e1;obtain⟨rfl,tl⟩:=e1;have e2:=beq_iff_eq.mp e2;subst e0 e2;obtain⟨nm,bs,mro,ns,qn,hd,sn,sub,ab,col,del⟩:=cd;dsimp only at em e3 e4 e5;subst em e3;obtain⟨l⟩:=sl;simp only at es;subst es;obtain⟨oI,lI,cI⟩:=Option.map_eq_some_iff.mp (show (K.lookup fI).map (·.cls)=some (.type "function") from beq_iff_eq.mp e6)
    exact⟨nm,qn,ns,bs,bm,hd,sn,sub,ab,col,dd,k0,k1,k2,k3,k5,_,oI,X _ _ lk,.of_isNs (isNs_of_in X e4),Ff X (.of_isNs (isNs_of_in X e4)) e5,tail_of_in X tl,X _ _ lI,cI⟩
section
variable{M:Model}{A:Around}{E:Value->Shared->Prop}{s:Shared}{env:Env}{C fI:Addr}
theorem zK{x:Sem Value}{Q:Flow->Shared->Prop}(hh:A.handled=none)(h:wpAny M A x (fun v s1=>∃e dx t,v=.ref e/\kL s1.heap C fI/\s1.heap.get? e=some ⟨.ref C,some dx,.fields #[.ref t,.none,.none,.none,.bool false,.none],#[]⟩/\E (.ref e) s1) E s):
  wpAny M A (raiseStmt env (some x) none) Q E s:=by
 unfold raiseStmt;refine wpAny_bind (wpAny_mono h (fun v s1 h1=>?_) fun _ _ x=>x);obtain⟨e,dx,t,rfl,⟨nm,q,N,bs,bm,hd,sn,sub,ab,col,dd,k0,k1,k2,k3,k5,mN,oI,hC,_,_,T,_⟩,he,hE⟩:=h1;have hcB:(Value.ref C::bm).contains (.type "BaseException")=true:=by rw[List.contains_cons,T.hasType PySem.F.excBase_ValueError.hasBase,Bool.or_true]
 obtain⟨hp,g,d,tk,os⟩:=s1
 repeat (first|with_reducible refine wpAny_loadPart_at he ?_|with_reducible refine wpAny_loadPart_at hC ?_|(with_reducible refine wpAny_isSubtype_exc hC ?_;rw[hcB])|wp_step)
 exact wpAny_raiseNew_none hh hE
end
noncomputable def wv(C:Addr)(E:XK)(t:TA):TS:=fun _ σ H=>t σ H fun vs H1=>∃n:Nat,vs=[.int n]/\∀e,E (.ref e) (some (enC C n)) H1
section
variable{P:Program}{w:World}{K:W.Frag}{mg:Str->Option Value}{base:Heap}{N:List Str}{qual:Str}{scope:Scope}{f:Addr}{cd:Value}{A:Around}{outer:List Env}{s₀:Shared}{H₀:Hp}{E:XK}
theorem de:o9 (CXn P w) (fW (CXn P w) P w K mg base N qual scope f cd A outer s₀ H₀ E) E:=fun pins σ H s e s' I hc=>
 oy (X:=fW (CXn P w) P w K mg base N qual scope f cd A outer s₀ H₀ E) rfl rfl rfl I hc
theorem eN{x:Str}{C fI:Addr}{q:Str}{st:Stmt}{fd:FuncData}{e0:Expr}{t:TA}{np cpos pos:Pos}(hr:du 1 (A.deeper (envOfC qual scope s₀.heap.objs.size f cd)))(hg:Gl (fW (CXn P w) P w K mg base N qual scope f cd A outer s₀ H₀ E) x)(hm:mg x=some (.ref C))(hC:zm K C fI=true)(F:Fun K "__init__" q st fI fd)(S:aN ["self","at"] ["self","at"] (defScope st))(l1:(defScope st).names.lookup ("self":Str)=some .local)(l2:(defScope st).names.lookup ("at":Str)=some .local)(hb:bx K fd ["self","at"] [])(body:∃p1 p2 p3 p4,defBody st=[.Assign [.Attribute (.Name "self" p1) "at" p2] (.Name "at" p3) p4])(ha:PA (fW (CXn P w) P w K mg base N qual scope f cd A outer s₀ H₀ E).nox [e0] t)(hdb:(x == ("__debug__":Str))=false:=by decide)(he:starEach [e0] (envOfC qual scope s₀.heap.objs.size f cd)=[(false,eval e0 (envOfC qual scope s₀.heap.objs.size f cd))]:=by rfl):
  PS (fW (CXn P w) P w K mg base N qual scope f cd A outer s₀ H₀ E) (.Raise (some (.Call (.Name x np) [e0] [] cpos)) none pos) (wv C E t):=.mk <| by
 intro pins s σ H D I h;obtain⟨xi,so⟩:=Ge I.ok.mod.kin hC;show wpAny (model P w) (A.deeper (envOfC qual scope s₀.heap.objs.size f cd)) (exec _ (envOfC qual scope s₀.heap.objs.size f cd)) _ _ _;rw[arm_exec_Raise];refine wpAny_bind (wpAny_standAt (zK (C:=C) (fI:=fI) hr.hd (wpAny_bind (wpAny_mono (wpAny_Call_ofName (iu I hg hm ?_ hdb)) (fun v s3 h3=>wpAny_bind (wpAny_standAt (wpAny_pure h3))) fun _ _ z=>z))))
 have ev:wpAny (model P w) (A.deeper (envOfC qual scope s₀.heap.objs.size f cd)) (spliced (backTo cpos (starEach [e0] (envOfC qual scope s₀.heap.objs.size f cd)))) _ _ s:=ha cpos pins s σ H _ (I.wish _) h;show wpAny _ _ (callWith cpos (.ref C) [] (backTo cpos (starEach [e0] (envOfC qual scope s₀.heap.objs.size f cd))) _) _ _ _;unfold callWith;rw[he] at ev ⊢;refine wpAny_bind (wpAny_holding (Calls.evalArgs_plain (wpAny_mono ev (fun us s2 hz=>wpAny_bind (wpAny_standAt ?_)) fun _ _ z=>False.elim z)))
 obtain⟨vs,H1,I1,rv,n,rfl,hE⟩:=hz;have I1:Inv (fW (CXn P w) P w K mg base N qual scope f cd A outer s₀ H₀ E) pins σ H1 s2:=I1.unwish;obtain⟨u,rfl,ru⟩:=aH.one rv;obtain⟨tk,rfl⟩:=ru;have xs:kL s2.heap C fI:=xi.keeps I1.bk;obtain⟨nm,qn,NN,bs,bm,hd,sn,sub,ab,col,dd,k0,k1,k2,k3,k5,mN,oI,hCo,_⟩:=id xs;obtain⟨hp,g,d,tt,os⟩:=s2;refine wpAny_bind (wpAny_keeperOf_exc hCo ?_);show wpAny _ _ (do let r ← call (.ref C) [.int n tk] [];holding [r] point;pure r) _ _ _
 refine wpAny_bind (sN xs (show 1<=sizeLine by decide) fun h' e hm=>?_)
 have K1:K.In h':=I1.kIn.keeps hm.keeps;have lim:h'.NoLimit:=(I1.ok.mod.nolimit.keeps I1.bk).keeps hm.keeps;obtain⟨ta,ht,_,_⟩:=hm.there;refine z7 (s:=⟨h',g,d,tt,os⟩) F S l1 l2 hb body K1 lim (by rw[tz];have:=hr.dp;omega) ht rfl rfl ⟨_,rfl⟩ so fun h'' tk' mk=>⟨rfl,wpAny_bind (wpAny_holding (wpAny_point (wpAny_pure ?_)))⟩
 obtain⟨dx,z1,z2,z3,z4⟩:=mk.at_;have keeps:∀b o,hp.get? b=some o->h''.get? b=some o:=fun b o q=>mk.keep b o (fun z=>by subst z;rw[hm.new] at q;cases q) (hm.keeps b o q)
 have dn:hp.get? dx=none:=by
  cases q:hp.get? dx with
  |none=>rfl
  |some o=>have:=hm.keeps dx o q;rw[z3] at this;cases this
 exact⟨e,dx,ta,rfl,xs.keeps keeps,z1,m9 (s1:=⟨hp,g,d,tt,os⟩) I1 ⟨keeps,hm.new,z1,dn,tk,z2⟩ (hE e)⟩
end
end L2
namespace L2
open PySem PySem.Spec PySem.Calls PyProof.Rows PySem.W
noncomputable def xB(a C dx:Addr)(h:Heap):Prop:=∃o,h.get? a=some o/\o.cls=.ref C/\o.dict=some dx/\W.notCls o=true
noncomputable def km(a C dx:Addr):HO:=.ext (xB a C dx)
theorem E5(m:Nat)(tk:Tok)(f:Str):B8 (([("at",.int m)]:List (Str×V)).lookup f) (atM m tk f):=by
 unfold atM;rw[List.lookup_cons];by_cases h:f=("at":Str)
 ·subst h
  rw[if_pos rfl,beq_self_eq_true];exact⟨tk,rfl⟩
 ·rw[if_neg h,beq_eq_false_iff_ne.mpr h]
  exact trivial
noncomputable def CF(K:W.Frag)(T:Addr)(i j:Nat)(tb:XK->TS):TS:=fun D σ H=>tb (fun x c H'=>∀a C m dx,x=.ref a->c=some (enC C m)->H' a=none->H' dx=none->dx≠a->exmOne K (.ref C) (.ref T)=some true/\D.nx ((σ.set i none).set j (some (.ref a))) (upd (upd H' a (km a C dx)) dx (.xd [("at",.int m)]))) D σ H
theorem Cr{X:Cx}{st:Stmt}{tb:XK->TS}{T:Addr}{tn n z:Str}{i j:Nat}{tp np zp ap hp pos:Pos}(hS:X.stack=X.env::X.outer)(hF:X.env.frame=some X.env.locals)(hX:X.ex=[])(hb:PSX X (CXn X.prog X.w) st tb)(hg:Gl X tn)(hm:X.mg tn=some (.ref T))(hN:X.N.Nodup)(hi:X.N[i]?=some n)(hj:X.N[j]?=some z)(hij:i≠j)(hn:X.env.scope.names.lookup n=some .local)(hz:X.env.scope.names.lookup z=some .local)(hdb:(tn == ("__debug__":Str))=false:=by decide)(hdn:(n == ("__debug__":Str))=false:=by decide)(hcn:(n == ("__classdict__":Str))=false:=by decide)(hs:∀v:Value,swapsWith (.Name n np) (some (.Name z zp)) ap.line X.env=pure false:=by intro _;rfl):
  PS X (.Try [st] [.ExceptHandler (some (.Name tn tp)) (some n) [.Assign [.Name z zp] (.Name n np) ap] hp] [] [] pos) (CF X.K T i j tb):=.mk <| by
 intro pins s σ H D I h;refine wpAny_Try_except (wpAny_execs_cons (wpAny_mono (hb pins s σ H D _ I h) (fun f s1 q=>?_) fun x s' hx=>?_))
 ·cases f with
  |next=>exact wpAny_execs_nil (wpAny_execs_nil q)
  |ret v=>exact q
  |brk=>exact q
  |cont=>exact q
 obtain⟨H1,s1,I1,a,C,t,m,dx,H',B,rfl,os,bare,un,hok,fl,keep,there,be,dB,dF,hE⟩:=hx;have hfr:X.A.frames=some (X.env::X.outer):=by rw[←hS];exact I1.ok.frames
 rw[hS] at un keep there fl dF;have hBa:B.get? a=none:=fl.2.1
 have hna:H' a=none:=by
  cases q:H' a with
  |none=>rfl
  |some u=>
   obtain⟨o,e⟩:=jx (hok a u q);rw[hBa] at e;cases e
 have hnd:H' dx=none:=by
  cases q:H' dx with
  |none=>rfl
  |some u=>
   obtain⟨o,e⟩:=jx (hok dx u q);rw[dB] at e;cases e
 have nda:dx≠a:=fun z=>by
  obtain⟨o1,q1,_⟩:=be.ob;obtain⟨tk,o2,es2,ep2,q2,q3,_⟩:=be.ns;obtain⟨oe,vs,q4,_,q5,_⟩:=fl.first;rw[z,q4] at q2;cases q2;rw[q5] at q3;cases q3
 obtain⟨hex,hnx⟩:=hE a C m dx rfl rfl hna hnd nda;have fst:=I1.stack;rw[hS] at fst
 have nonf:∀b o,s1.heap.get? b=some o->b∈frs (X.env::X.outer)->∀vs,o.data≠.fields vs:=fun b o hb ho=>by
  obtain⟨_,o2,q2,nf⟩:=fst.mem (b:=b) ho;rw[hb] at q2;cases q2;exact nf
 refine wpAny_mono (qh (vA _ _) (wpAny_looks_onW (E:=fun _ _=>False) (Q:=fun _ s''=>∃h2,Heap.HeldW B (X.env::X.outer) a (.ref C) (.ref t) X.env.locals h2/\s'.heap.UpToSlots h2/\s''={ s' with heap:=h2 }) hfr hF fl fun h2 held up2=>⟨h2,held,up2,rfl⟩)) (fun _ s'' z=>?_) fun _ _ z=>z.1.elim;obtain⟨⟨h2,held,up2,rfl⟩,kd2⟩:=z;refine wpAny_mono (qh (f8 _ _) (wpAny_landsW (s:={ s' with heap:=h2 }) (E:=fun _ _=>False) (Q:=fun _ s''=>∃h3,Heap.FlyingW B (X.env::X.outer) a (.ref C) (.ref t) h3/\h2.UpToSlots h3/\s''={ s' with heap:=h3 }) held fun h3 fl3 up3=>⟨h3,fl3,up3,rfl⟩)) (fun _ s'' z=>?_) fun _ _ z=>z.1.elim
 obtain⟨⟨h3,fl3,up3,rfl⟩,kd3⟩:=z
 have back:∀h4:Heap,Heap.FlyingW B (X.env::X.outer) a (.ref C) (.ref t) h4->s'.heap.UpToSlots h4->Dk s'.heap h4->Inv X pins σ (upd (upd H' a (km a C dx)) dx (.xd [("at",.int m)])) { s' with heap:=h4 }:=fun h4 fl4 up4 kd4=>by
  have stay:=fl4.1
  have un4:Un (frs X.stack) [] H1 H' s1.heap h4:=by
   rw[hS]
   have slot:∀b o,s1.heap.get? b=some o->H1 b=none->b∈frs (X.env::X.outer)->∃sl,h4.get? b=some { o with slots:=sl }:=fun b o hb hn ho=>by
    obtain⟨sl1,q1⟩:=un.slot b o hb hn ho (by simp)
    obtain⟨sl2,q2⟩:=up4 b _ q1 (nonf b o hb ho);exact⟨sl2,q2⟩
   refine⟨fun b o hb hn ho _=>stay b o (keep b o hb hn ho),fun b o hb hn ho _=>slot b o hb hn ho,un.free,fun b o hb _=>?_,un.tups,un.frzs,un.tbls⟩;by_cases ho:b∈frs (X.env::X.outer)
   ·obtain⟨sl,q⟩:=slot b o hb (I1.IJ b (by rw[hS];exact ho)) ho
    exact⟨_,q⟩
   ·obtain⟨o',q⟩:=there b o hb ho
    exact⟨o',stay b o' q⟩
  have J:Inv X pins σ H' { s' with heap:=h4 }:=I1.call' (s':={ s' with heap:=h4 }) os un4 (hok.kept stay) bare (fun b z=>absurd z (by simp))
  have be4:=be.on up4 kd4 ⟨_,fl4.there.choose_spec.1⟩
  have ex4:xB a C dx h4:=by
   obtain⟨o,q1,q2⟩:=be4.ob;obtain⟨oe,vs,q3,q4,q5,_⟩:=fl4.first;rw[q1] at q3;cases q3;exact⟨o,q1,q4,q2,by unfold W.notCls;rw[q5]⟩
  have inB:∀b o,s1.heap.get? b=some o->b ∉ frs (X.env::X.outer)->b≠a:=fun b o hb ho z=>by
   subst z;obtain⟨o',q⟩:=there b o hb ho;rw[hBa] at q;cases q
  have fields:∃oe vs,h4.get? a=some oe/\oe.data=.fields vs:=by
   obtain⟨oe,vs,q1,_,q2,_⟩:=fl4.first;exact⟨oe,vs,q1,q2⟩
  have nfr:a ∉ frs (X.env::X.outer):=fun hm=>by
   obtain⟨_,o2,q2,nf⟩:=fl4.2.2.1.mem (b:=a) hm;obtain⟨oe,vs,q3,q4⟩:=fields;rw[q3] at q2;cases q2;exact nf vs q4
  have hL : a≠X.env.locals:=fun z=>nfr (by
   unfold frs;rw[List.filterMap_cons,hF]
   exact z ▸ List.mem_cons_self)
  have inS:∀b o,s1.heap.get? b=some o->b≠a:=fun b o hb=>by
   by_cases ho:b∈frs (X.env::X.outer)
   ·exact fun z=>nfr (z ▸ ho)
   ·exact inB b o hb ho
  have inBd:∀b o,s1.heap.get? b=some o->b≠dx:=fun b o hb z=>by
   subst z;obtain⟨o',q⟩:=there b o hb dF;rw[dB] at q;cases q
  have ndf : dx≠X.env.locals:=fun z=>dF (by
   unfold frs;rw[List.filterMap_cons,hF]
   exact z ▸ List.mem_cons_self)
  have J2:Inv X pins σ (upd H' a (km a C dx)) { s' with heap:=h4 }:=?_
  ·refine J2.track (by rw[aw nda];exact hnd) ?_ ndf (fun x c hc=>?_) (fun p hp=>?_) ?_
   ·cases q:X.s₀.heap.get? dx with
    |none=>rfl
    |some o=>
     obtain⟨o',q'⟩:=I1.base.there dx o q (by rw[hX];simp)
     exact absurd rfl (inBd dx o' q')
   ·obtain⟨v,o,q,_⟩:=I1.cell x c hc
    exact inBd c o q
   ·exact inBd _ _ (I1.pin p hp).1
   ·obtain⟨tk,z⟩:=be4.ns
    exact⟨_,z,fun f=>E5 m tk f⟩
  refine J.track hna ?_ hL (fun x c hc=>?_) (fun p hp=>?_) ⟨ex4,?_,fun g1 g2 ⟨o,q1,q2⟩ k=>⟨o,k o q1,q2⟩⟩
  ·cases q:X.s₀.heap.get? a with
   |none=>rfl
   |some o=>
    obtain⟨o',q'⟩:=I1.base.there a o q (by rw[hX];simp)
    exact absurd rfl (inS a o' q')
  ·obtain⟨v,o,q,_⟩:=I1.cell x c hc
   exact inS c o q
  ·exact inS _ _ (I1.pin p hp).1
  ·obtain⟨o,q,_⟩:=ex4
   exact⟨o,q⟩
 have J3:=back h3 fl3 (up2.trans up3) (kd2.trans kd3);refine wpAny_handleBy_cons (codeAny_handlers_test ?_) (by intro q;cases q)
 refine iu (X:=X.inX (.ref a)) (J3.inX _) hg hm ?_ hdb;refine(exm_one J3.kIn (nJ.ty fl3.there _) hex).here ?_;show codeAny _ _ _ _ _;refine codeAny_handlers_suite_as ?_;refine wpAny_mono (qh (f8 _ _) (wpAny_setFlight_noneW (s:={ s' with heap:=h3 }) (E:=fun _ _=>False) (Q:=fun _ s''=>∃h5,B.StaysIn h5/\h5.FunFrames B (X.env::X.outer)/\h5.TracedW B a (.ref C) (.ref t)/\(∀b o,h3.get? b=some o->(∀vs,o.data≠.fields vs)->h5.get? b=some o)/\s''={ s' with heap:=h5 }) fl3.1 fl3.2.2.1 fl3.2.2.2 fun h5 k1 k2 k3 k4=>⟨h5,k1,k2,k3,k4,rfl⟩)) (fun _ s'' z=>?_) fun _ _ z=>z.1.elim
 obtain⟨⟨h5,k1,k2,k3,k4,rfl⟩,kd5⟩:=z;have fl5:Heap.FlyingW B (X.env::X.outer) a (.ref C) (.ref t) h5:=⟨k1,hBa,k2,k3⟩;have J5:=back h5 fl5 ((up2.trans up3).trans fun b o hb hn=>⟨o.slots,k4 b o hb hn⟩) ((kd2.trans kd3).trans kd5);refine g8 (X:=X.inX (.ref a)) (v:=.ref a) (J5.inX _) hN hi (.inl hn) rfl (fun s6 J6=>?_) (.inr hn);have ass:PS (X.inX (.ref a)) (.Assign [.Name z zp] (.Name n np) ap) (sQ (B2 i) (nN j)):=az (X:=X.inX (.ref a)) hN hj (.inl hz) (tm (X:=X.inX (.ref a)) hi (.inl hn) hdn hcn) (hs .none) (.inr hz)
 refine wpAny_execs_cons (wpAny_mono (ass pins s6 (σ.set i (some (.ref a))) (upd (upd H' a (km a C dx)) dx (.xd [("at",.int m)])) { nx:=fun σ' H2=>σ'=(σ.set i (some (.ref a))).set j (some (.ref a))/\H2=upd (upd H' a (km a C dx)) dx (.xd [("at",.int m)]),rt:=fun _ _=>False } J6 ?_) (fun f s7 q=>?_) fun _ _ z=>False.elim z)
 ·have hil:i<σ.length:=by rw[J5.len];exact(List.getElem?_eq_some_iff.mp hi).1
  exact⟨.ref a,by rw[List.getElem?_set];simp[hil],rfl,rfl⟩
 cases f with
 |ret v=>obtain⟨_,_,_,_,_,q⟩:=q;exact q.elim
 |brk=>obtain⟨_,_,_,q⟩:=q;exact q.elim
 |cont=>obtain⟨_,_,_,q⟩:=q;exact q.elim
 |next=>
  obtain⟨σ7,H7,J7,e7,e8⟩:=q;subst e7 e8;refine wpAny_execs_nil ?_;show wpAny _ _ _ _ _ _;refine wY (Inv.IV I1.ok J7) hN hi hn fun s8 J8=>?_;refine⟨_,_,J8,?_⟩;rw[List.set_comm _ _ (Ne.symm hij),List.set_set];exact hnx
end L2
namespace L2
open PySem PySem.Spec PySem.Calls PyProof.Rows PySem.W PySem.Builtin PySem.Builtin.ObjectAttr PySem.Builtin.Getset_descriptor
section
variable{prog:Program}{w:World}{A:Around}{E:Value->Shared->Prop}{s:Shared}{K:W.Frag}{x D dx:Addr}
theorem E3{Q:Value->Shared->Prop}{mA:Str->Option Value}{v:Value}{name:Str}(X:K.In s.heap)(e:xB x D dx s.heap)(hn:s.heap.Ns1 dx mA)(hv:mA name=some v)(hh:handedIn v=true)(hd:hasDictIn K D=true)(ha:findIn K (.ref D) name=some none)(ok:fN K D=true)(h:Q v { s with toks:=s.toks+1 }):wpAny (model prog w) A (getAttr (.ref x) name true) Q E s:=by
 unfold fN at ok;simp only[Bool.and_eq_true,beq_iff_eq] at ok;obtain⟨⟨⟨⟨⟨⟨hga,hgn⟩,_⟩,_⟩,_⟩,_⟩,hm,hmb⟩:=ok;obtain⟨o,e1,e2,e3,e4⟩:=e;obtain⟨od,g1,g2⟩:=nA hn;have I:InstAt s.heap x o D (some od):=⟨e1,e2,e4,by rw[e3];exact g1⟩
 obtain⟨hp,gs,dr,tt,os⟩:=s;have T0:=I.type (M:=model prog w);have T1:=looks_findIn (M:=model prog w) X hga;have T2:=looks_find (M:=model prog w) X I (findObj_own hd ha rfl (by rw[g2,hv]))
 have T3:=looks_findIn (M:=model prog w) X hgn;have T5:=looks_mroIn (M:=model prog w) X hmb;unfold getAttr getAttrBy;refine wpAny_bind (wpAny_mkText (wpAny_holding (wpAny_bind (T0.at (wpAny_bind (T1.at ?_))))));dsimp only at *;rw[if_neg (by rw[show (Value.builtin "BaseException.__getattribute__" == Value.builtin "object.__getattribute__")=false from by decide +kernel,Bool.and_false];exact Bool.false_ne_true)]
 unfold getAttrByItsOwn hookBefore callGetattribute boundAndCalled;show wpAny _ _ (typeLookup (.ref D) "__getattr__" >>= _) _ _ _;refine wpAny_bind (T3.at (wpAny_bind (wpAny_attempt (wpAny_holding ?_))));rw[if_neg (show ¬ (true && onTheHeap (Value.builtin "BaseException.__getattribute__"))=true from Bool.false_ne_true)]
 refine wpAny_bind (wpAny_of_eq (PySem.F.attrBase_ValueError.ga.bind _) (wpAny_call (codeAny_call_builtin PySem.F.attrBase_ValueError.ga.plain PySem.F.entry_bexc_ga ?_)))
 have ck:∀ {Q:Unit->Shared->Prop} {E:Value->Shared->Prop} {A:Around} {nv:Value},Q () ⟨hp,gs,dr,tt+1,os⟩->wpAny (model prog w) A (checkBuiltinCall "BaseException.__getattribute__" ⟨[.ref x,nv],[]⟩) Q E ⟨hp,gs,dr,tt+1,os⟩:=fun {Q E A nv} q=>by
  have b1:builtinKind "BaseException.__getattribute__"=some .slot:=by decide +kernel
  have b2:splitId "BaseException.__getattribute__"=some ("BaseException","__getattribute__"):=by decide +kernel
  have b3:=F.args_bexc_ga (.ref x) nv;simp only[checkBuiltinCall,b1,b2];refine wpAny_bind ?_;unfold isInstance;refine wpAny_bind (T0.at (T5.at ?_));rw[if_neg (by decide)]
  unfold argsOk at b3
  first|(rw[b3];exact wpAny_pure q)|(refine wpAny_of_eq b3 q)
 refine ck ?_
 repeat (first|with_reducible refine wpAny_bind (T0.at ?_)|with_reducible refine T0.at ?_|with_reducible refine wpAny_bind (T2.at ?_)|with_reducible refine T2.at ?_|wp_step)
 show wpAny _ _ (handedOut v) _ _ _;rw[handedOut_of hh];exact wpAny_pure h
end
end L2
namespace L2
open PySem PySem.Spec PyProof.Rows
structure gQ(E:XK){α β:Type}(R:Hp->α->β->Prop)(t:St->Hp->(β->Hp->Prop)->Prop)(t':SA->Om->(α->Om->Prop)->(Addr->Om->Prop)->Prop):Prop where
 run:∀(F:Fs)(H:Hp)(Z:Om)(σ:St)(ρ:SA)(Q:β->Hp->Prop)(Q':α->Om->Prop)(Ex:Addr->Om->Prop),Rep F H Z->RS (cut F H Z) ρ σ->t' ρ Z Q' Ex->LP R F H Z Q' Q->LX F H Z Ex E->t σ H Q
noncomputable abbrev AEX:=SA->Om->(AV->Om->Prop)->(Addr->Om->Prop)->Prop
noncomputable abbrev AAX:=SA->Om->(List AV->Om->Prop)->(Addr->Om->Prop)->Prop
theorem gQ.go{E:XK}{α β:Type}{R:Hp->α->β->Prop}{t:St->Hp->(β->Hp->Prop)->Prop}{t':SA->Om->(α->Om->Prop)->(Addr->Om->Prop)->Prop}(h:gQ E R t t'){F:Fs}{H:Hp}{Z:Om}{σ:St}{ρ:SA}{Q:β->Hp->Prop}{Q':α->Om->Prop}{Ex:Addr->Om->Prop}(rp:Rep F H Z)(rs:RS (cut F H Z) ρ σ)(w:t' ρ Z Q' Ex)(kx:LX F H Z Ex E)(k:∀a Z1 v H1,Rep F H1 Z1->Fr F H Z H1 Z1->RS (cut F H1 Z1) ρ σ->R (cut F H1 Z1) a v->LX F H1 Z1 Ex E->Q' a Z1->Q v H1):t σ H Q:=
 h.run F H Z σ ρ Q Q' Ex rp rs w (fun a Z1 v H1 rp1 fr1 rv q=>k a Z1 v H1 rp1 fr1 (rs.same fr1.same) rv (kx.fr fr1) q) kx
noncomputable def Hm{α:Type}(a:SA->Om->(α->Om->Prop)->Prop):SA->Om->(α->Om->Prop)->(Addr->Om->Prop)->Prop:=fun ρ Z Q _=>a ρ Z Q
noncomputable def yM(ta:AEX)(tr:AAX):AAX:=fun ρ Z Q Ex=>ta ρ Z (fun x Z1=>tr ρ Z1 (fun xs Z2=>Q (x::xs) Z2) Ex) Ex
noncomputable def x8(sp:dh)(t:AAX):AEX:=fun ρ Z Q Ex=>t ρ Z (fun xs Z1=>sp xs Z1 Q Ex) Ex
noncomputable def CW(t:AAX):AEX:=fun ρ Z Q Ex=>t ρ Z (fun xs Z1=>xs.length<=sizeLine/\∃ds,und xs=some ds/\Q (.d (.tup ds)) Z1) Ex
noncomputable def Ad(t:AAX):AEX:=fun ρ Z Q Ex=>t ρ Z (fun xs Z1=>xs.length<=sizeLine/\∀p,Z1 p=none->Q (.r (.ref p)) (Z1.put p (.own xs))) Ex
noncomputable def rZ(to:AE)(t:AAX):AEX:=fun ρ Z Q Ex=>to ρ Z fun x Z1=>∃l,x=.r (.ref l)/\(∃zs,Z1 l=some (.own zs))/\t ρ Z1 (fun ys Z2=>∃xs y,ys=[y]/\Z2 l=some (.own xs)/\xs.length<sizeLine/\Q (.d .non) (Z2.put l (.own (xs++[y])))) Ex
noncomputable def wn(te:AEX):AXS:=fun D Ex ρ Z=>te ρ Z (fun _ Z1=>D.nx ρ Z1) Ex
noncomputable def Ag(te:AEX)(g:AG):AXS:=fun D Ex ρ Z=>te ρ Z (fun a Z1=>g a ρ Z1 D.nx) Ex
noncomputable def yb(te:AEX):AXS:=fun D Ex ρ Z=>te ρ Z D.rt Ex
noncomputable def BD(c:AT)(tb:AXS):AXS:=fun D Ex ρ Z=>∃W:Nat->SA->Om->Prop,(∃m,W m ρ Z)/\∀m ρ Z,W m ρ Z ->
 c ρ Z fun b Z1=>if b=true then ∃N:SA->Om->Prop,(∀ρ' Z',N ρ' Z'->∃m',m'<m/\W m' ρ' Z')/\tb { D with nx:=N,ct:=N,bk:=D.nx } Ex ρ Z1 else D.nx ρ Z1
noncomputable def hZ(g:AG)(tb:AXS)(D:ce)(Ex:Addr->Om->Prop):List AV->SA->Om->Prop
 | [],ρ,Z=>D.nx ρ Z
 |a::as,ρ,Z=>g a ρ Z fun ρ1 Z1=>tb { nx:=hZ g tb D Ex as,ct:=hZ g tb D Ex as,bk:=D.nx,rt:=D.rt } Ex ρ1 Z1
noncomputable def Dy(wi:AI)(g:AG)(tb:AXS):AXS:=fun D Ex ρ Z=>wi ρ Z fun as Z1=>hZ g tb D Ex as ρ Z1
noncomputable def qW(C:Addr)(ta:AA):AXS:=fun _ Ex ρ Z=>ta ρ Z fun xs Z1=>∃n:Nat,xs=[.d (.int n)]/\Ex (enC C n) Z1
section
variable{α:Type}(a:SA->Om->(α->Om->Prop)->Prop)(ta:AEX)(tr:AAX)(sp:dh)(to:AE)(g:AG)(c:AT)(tb:AXS)(wi:AI)(C:Addr)(tn:AA)(D:ce)(ρ:SA)(Z:Om)(Q:AV->Om->Prop)(Ex:Addr->Om->Prop)
theorem va(Q:α->Om->Prop):Hm a ρ Z Q Ex=a ρ Z Q:=rfl
theorem n9(Q:List AV->Om->Prop):yM ta tr ρ Z Q Ex=ta ρ Z (fun x Z1=>tr ρ Z1 (fun xs Z2=>Q (x::xs) Z2) Ex) Ex:=rfl
theorem om:x8 sp tr ρ Z Q Ex=tr ρ Z (fun xs Z1=>sp xs Z1 Q Ex) Ex:=rfl
theorem qM:CW tr ρ Z Q Ex=tr ρ Z (fun xs Z1=>xs.length<=sizeLine/\∃ds,und xs=some ds/\Q (.d (.tup ds)) Z1) Ex:=rfl
theorem oa:Ad tr ρ Z Q Ex=tr ρ Z (fun xs Z1=>xs.length<=sizeLine/\∀p,Z1 p=none->Q (.r (.ref p)) (Z1.put p (.own xs))) Ex:=rfl
theorem kB:rZ to tr ρ Z Q Ex=to ρ Z fun x Z1=>∃l,x=.r (.ref l)/\(∃zs,Z1 l=some (.own zs))/\tr ρ Z1 (fun ys Z2=>∃xs y,ys=[y]/\Z2 l=some (.own xs)/\xs.length<sizeLine/\Q (.d .non) (Z2.put l (.own (xs++[y])))) Ex:=rfl
theorem mG:wn ta D Ex ρ Z=ta ρ Z (fun _ Z1=>D.nx ρ Z1) Ex:=rfl
theorem nM:Ag ta g D Ex ρ Z=ta ρ Z (fun a Z1=>g a ρ Z1 D.nx) Ex:=rfl
theorem n8:yb ta D Ex ρ Z=ta ρ Z D.rt Ex:=rfl
theorem rk:Dy wi g tb D Ex ρ Z=wi ρ Z fun as Z1=>hZ g tb D Ex as ρ Z1:=rfl
theorem kE:qW C tn D Ex ρ Z=tn ρ Z fun xs Z1=>∃n:Nat,xs=[.d (.int n)]/\Ex (enC C n) Z1:=rfl
end
section
variable{E:XK}{t u:TS}{t' u':AXS}{ta:TA}{ta':AAX}{tc:TT}{tc':AT}{sp:dh}{C:Addr}{te:TE}{te':AEX}{g:TG}{g':AG}
theorem aX{α β:Type}{R:Hp->α->β->Prop}{t:St->Hp->(β->Hp->Prop)->Prop}{a:SA->Om->(α->Om->Prop)->Prop}(h:Ref R t a):gQ E R t (Hm a):=⟨fun F H Z σ ρ Q Q' Ex rp rs w k kx=>h.run F H Z σ ρ Q Q' rp rs w k⟩
theorem aJ(h1:gQ E RV te te')(h2:gQ E RVs ta ta'):gQ E RVs (jP te ta) (yM te' ta'):=⟨fun F H Z σ ρ Q Q' Ex rp rs w k kx=>
 h1.go rp rs w kx fun x Z1 v H1 rp1 fr1 rs1 rv1 kx1 q1=>h2.go rp1 rs1 q1 kx1 fun y Z2 u H2 rp2 fr2 rs2 rv2 kx2 q2=>k (x::y) Z2 (v::u) H2 rp2 (fr1.trans fr2) ⟨v,u,rfl,rv1.same fr2.same,rv2⟩ q2⟩
theorem d8(h:gQ E RVs ta ta'):gQ E RV (sr (ft sp) [] E ta) (x8 sp ta'):=⟨fun F H Z σ ρ Q Q' Ex rp rs w k kx=>
 h.go rp rs w kx fun xs Z1 vs H1 rp1 fr1 rs1 rv kx1 q=>by
  rw[List.append_nil]
  exact⟨F,xs,Z1,Q',Ex,rp1,rv,q,k.fr fr1,kx1⟩⟩
theorem uc(h:gQ E RVs ta ta'):gQ E RV (BL ta) (CW ta'):=⟨fun F H Z σ ρ Q Q' Ex rp rs w k kx=>
 h.go rp rs w kx fun xs Z1 vs H1 rp1 fr1 rs1 rv1 _ ⟨z,ds,hu,q1⟩=>⟨by rw[rv1.length];exact z,fun p hp=>by
  cases er hu;obtain⟨rp2,fr2,hc⟩:=rp1.lay (o:=.tup vs) hp;refine k _ Z1 _ _ rp2 (fr1.trans fr2) ?_ q1;simp only[RV,Dat]
  exact⟨p,vs,rfl,hc,(RVs.dats.mp rv1).same fr2.same⟩⟩⟩
theorem BA(h:gQ E RVs ta ta'):gQ E RV (B6 ta) (Ad ta'):=⟨fun F H Z σ ρ Q Q' Ex rp rs w k kx=>
 h.go rp rs w kx fun xs Z1 vs H1 rp1 fr1 rs1 rv1 _ ⟨z,q1⟩=>⟨by rw[rv1.length];exact z,fun p hp=>by
  obtain⟨rp2,fr2⟩:=rp1.mk' (vs:=vs) hp rv1
  exact k (.r (.ref p)) _ _ _ rp2 (fr1.trans fr2) rfl (q1 p (rp1.free hp).1)⟩⟩
theorem nR{K:W.Frag}{to:TE}{to':AE}(ho:a9 to to')(ht:gQ E RVs ta ta'):gQ E RV (tBM K "list" oW to ta) (rZ to' ta'):=⟨fun F H Z σ ρ Q Q' Ex rp rs w k kx=>
 ho.go rp rs w fun x Z1 v H1 rp1 fr1 rs1 rv1 ⟨l,e,⟨zs,hz⟩,q1⟩=>by
  subst e;cases (show v=.ref l from rv1)
  obtain⟨us,z1,_⟩:=rp1.own l zs hz;refine⟨.inl ⟨rfl,us,.inl (.inl z1)⟩,ht.go rp1 rs1 q1 (kx.fr fr1) fun ys Z2 vs H2 rp2 fr2 rs2 rv2 _ ⟨xs,y,e1,e2,e3,q⟩=>?_⟩;subst e1;obtain⟨u,rfl,r⟩:=iK rv2;obtain⟨ws,z3,z4⟩:=rp2.own l xs e2;obtain⟨rp3,fr3⟩:=rp2.write e2 (z4.append (.one r))
  exact⟨l,ws,u,rfl,rfl,z3,by rw[z4.length];exact e3,k _ _ _ _ rp3 ((fr1.trans fr2).trans fr3) (by simp[RV,Dat]) q⟩⟩
theorem lg(h:gQ E RV te te'):eA E (yc te) (wn te'):=⟨fun F H Z σ ρ D D' Ex rp rs w k kx=>
 h.go rp rs w kx fun a Z1 v H1 rp1 fr1 rs1 _ _ q=>k.nx ρ Z1 σ H1 rp1 fr1 rs1 q⟩
theorem o8(h:gQ E RV te te')(hg:kU g g'):eA E (sQ te g) (Ag te' g'):=⟨fun F H Z σ ρ D D' Ex rp rs w k kx=>
 h.go rp rs w kx fun a Z1 v H1 rp1 fr1 rs1 rv _ q=>hg.run F H1 Z1 σ ρ v a _ _ rp1 rs1 rv q (k.nx.fr fr1)⟩
theorem zg(h:gQ E RV te te'):eA E (ER te) (yb te'):=⟨fun F H Z σ ρ D D' Ex rp rs w k kx=>h.run F H Z σ ρ _ _ Ex rp rs w k.rt kx⟩
theorem fL{tn:TA}{tn':AA}(ha:gM tn tn'):eA E (wv C E tn) (qW C tn'):=⟨fun F H Z σ ρ D D' Ex rp rs w k kx=>
 ha.go rp rs w fun xs Z1 vs H1 rp1 fr1 rs1 rv ⟨n,e,q⟩=>by
  subst e;obtain⟨v,rfl,r⟩:=iK rv;cases bo r
  exact⟨n,rfl,fun e=>kx _ Z1 e H1 rp1 fr1 q⟩⟩
theorem qt(hc:gE tc tc')(hb:eA E t t'):eA E (tZ tc t) (BD tc' t'):=⟨fun F H Z σ ρ D D' Ex rp rs w k kx=>by
 obtain⟨W,⟨m0,w0⟩,turn⟩:=w;refine⟨fun m σ1 H1=>∃ρ1 Z1,Rep F H1 Z1/\RS (cut F H1 Z1) ρ1 σ1/\Fr F H Z H1 Z1/\W m ρ1 Z1,⟨m0,ρ,Z,rp,rs,.refl,w0⟩,?_⟩;rintro m σ1 H1 ⟨ρ1,Z1,rp1,rs1,fr1,w1⟩;refine hc.go rp1 rs1 (turn m ρ1 Z1 w1) fun a Z2 v H2 rp2 fr2 rs2 rv q=>?_;cases (show a=v from rv)
 have k2:=k.fr (fr1.trans fr2)
 cases a with
 |true=>
  rw[if_pos rfl] at q ⊢;obtain⟨N,hN,q⟩:=q;refine⟨fun σ' H'=>∃ρ' Z',Rep F H' Z'/\RS (cut F H' Z') ρ' σ'/\Fr F H Z H' Z'/\N ρ' Z',?_,hb.run F H2 Z2 σ1 ρ1 _ _ Ex rp2 rs2 q ⟨?_,k2.rt,k2.nx,?_⟩ (kx.fr (fr1.trans fr2))⟩
  ·rintro σ' H' ⟨ρ',Z',e1,e2,e3,e4⟩
   obtain⟨m',hm,z⟩:=hN _ _ e4;exact⟨m',hm,ρ',Z',e1,e2,e3,z⟩
  ·exact fun ρ' Z' σ' H' e1 e2 e3 e4=>⟨ρ',Z',e1,e3,(fr1.trans fr2).trans e2,e4⟩
  ·exact fun ρ' Z' σ' H' e1 e2 e3 e4=>⟨ρ',Z',e1,e3,(fr1.trans fr2).trans e2,e4⟩
 |false=>
  rw[if_neg Bool.false_ne_true] at q ⊢
  exact k2.nx ρ1 Z2 σ1 H2 rp2 .refl rs2 q⟩
theorem FM{wi:TI}{wi':AI}(hi:uf wi wi')(hg:kU g g')(hb:eA E t t'):eA E (BV wi g t) (Dy wi' g' t'):=⟨fun F H Z σ ρ D D' Ex rp rs w k kx=>by
 rw[vg];refine hi.go rp rs w fun as Z1 J H1 rp1 fr1 rs1 it q=>?_;refine⟨fun i m σ2 H2=>m+i=as.length/\∃ρ2 Z2,Rep F H2 Z2/\RS (cut F H2 Z2) ρ2 σ2/\Fr F H1 Z1 H2 Z2/\hZ g' t' D' Ex (as.drop i) ρ2 Z2,⟨as.length,rfl,ρ,Z1,rp1,rs1,.refl,q⟩,?_⟩;rintro i m σ2 H2 ⟨hm,ρ2,Z2,rp2,rs2,fr2,q2⟩;obtain⟨stop,go⟩:=it F H2 Z2 rp2 fr2.same;by_cases hl:i<as.length
 ·obtain⟨a,ha,hd⟩:=eF hl
  rw[hd] at q2;obtain⟨g1,y1⟩:=go i a ha;refine .inr ⟨g1,fun σ' H'=>m-1+(i+1)=as.length/\∃ρ' Z',Rep F H' Z'/\RS (cut F H' Z') ρ' σ'/\Fr F H1 Z1 H' Z'/\hZ g' t' D' Ex (as.drop (i+1)) ρ' Z',fun σ' H' z=>⟨m-1,by omega,z⟩,fun x H' hy=>?_⟩
  obtain⟨rp3,fr3,rv3⟩:=y1 x H' hy;have fr13:=(fr2.trans fr3);refine hg.run F H' Z2 σ2 ρ2 x a _ _ rp3 (rs2.same fr3.same) rv3 q2 fun ρ4 Z4 σ4 H4 rp4 fr4 rs4 q4=>?_;have k4:=k.fr ((fr1.trans fr13).trans fr4);refine hb.run F H4 Z4 σ4 ρ4 _ _ Ex rp4 rs4 q4 ⟨?_,k4.rt,k4.nx,?_⟩ (kx.fr ((fr1.trans fr13).trans fr4))
  ·exact fun ρ' Z' σ' H'' e1 e2 e3 e4=>⟨by omega,ρ',Z',e1,e3,(fr13.trans fr4).trans e2,e4⟩
  ·exact fun ρ' Z' σ' H'' e1 e2 e3 e4=>⟨by omega,ρ',Z',e1,e3,(fr13.trans fr4).trans e2,e4⟩
 ·have hi:i=as.length:=by omega
  subst hi;rw[List.drop_length] at q2
  exact .inl ⟨stop,k.nx ρ2 Z2 σ2 H2 rp2 (fr1.trans fr2) rs2 q2⟩⟩
end
theorem Fun.okN{P:Program}{w:World}{K:W.Frag}{mg:Str->Option Value}{base:Heap}{x qual:Str}{st:Stmt}{f:Addr}{fd:FuncData}{N ps:List Str}{k:Nat}{sp:dh}(F:Fun K x qual st f fd)(S:aN N ps (defScope st))(len:∀xs Z Q Ex,sp xs Z Q Ex->xs.length=ps.length)
  (hbody:∀(cdv:Value)(A:Around)(outer:List Env)(s:Shared)(H:Hp)(E:XK),du k (A.deeper (envOfC qual (defScope st) s.heap.objs.size f cdv)) ->
   ∃t t',PSs (fW (CXn P w) P w K mg base N qual (defScope st) f cdv A outer s H E) (defBody st) t/\eA E t t'/\∀xs Z Q' Ex,sp xs Z Q' Ex->t' { nx:=fun _ Z'=>Q' (.d .non) (Z'.only Z),rt:=fun a Z'=>∃d,a=.d d/\Q' (.d d) (Z'.only Z) } (fun C Z'=>Ex C (Z'.only Z)) (gk N xs) Z):aV P w K mg base (CXn P w) (k+1) f fd ps (ft sp):=by
 obtain⟨oc,od,kV,doc,pm,an,cdv,ct,osl,rfl,lk,hcd⟩:=F.ex;refine zH lk hcd S (fun vs H Q E h=>?_) (fun A outer s H vs Q E hr h=>?_)
 ·obtain⟨F',xs,Z,Q',Ex,rp,rv,h,_⟩:=h
  rw[rv.length,len xs Z Q' Ex h]
 ·obtain⟨t,t',h1,h2,h3⟩:=hbody cdv A outer s H E hr
  obtain⟨F',xs,Z,Q',Ex,rp,rv,h,kq,kx⟩:=h;refine⟨t,h1,h2.run F' H Z _ _ _ _ _ rp (RS.start rv) (h3 xs Z Q' Ex h) ⟨?_,?_,fun _ _ _ _ _ _ _ z=>z.elim,fun _ _ _ _ _ _ _ z=>z.elim⟩ ?_⟩
  ·exact fun ρ' Z' σ' H' e1 e2 e3 q=>kq (.d .non) (Z'.only Z) .non H' e1.only.1 e2.only (by simp[RV,Dat]) q
  ·rintro a Z' v H' e1 e2 e3 ⟨d,rfl,q⟩
   exact kq (.d d) (Z'.only Z) v H' e1.only.1 e2.only (e3.same e1.only.2) q
  ·exact fun C Z' a H' e1 e2 q=>kx C (Z'.only Z) a H' e1.only.1 e2.only q
end L2
namespace L2
open PySem PySem.Spec PySem.Calls PyProof.Rows PySem.W
noncomputable def F5:Stmt->Stmt
 |.ClassDef _ _ _ (st::_) ..=>st
 |st=>st
structure rJ(P:Program)(w:World)(K:W.Frag)(mg:Str->Option Value)(base:Heap)(H₀:Hp)(k:Nat)(f:Addr)(n:Nat)(sp:Sp):Prop where
 fn:∃(oc:Value)(od:Option Addr)(fd:FuncData) (sl:Array (Option Value)) (u:HO),H₀ f=some (.frz ⟨oc,od,.func fd,sl⟩ u)
 len:∀vs H Q E,sp vs H Q E->vs.length=n
 run:∀(A:Around)(outer:List Env)(s:Shared)(H:Hp)(us:List Value)(vs:List V)(Q:VK)(E:XK),du k A->rP P w K mg base A outer s H->Frz H₀ H->aH vs us->sp vs H Q E ->
  codeAny (model P w) A (.call (.ref f) ⟨us,[]⟩) (CR (CXn P w) outer P w H s Q E) s
noncomputable def uG(X:Cx)(k i:Nat)(E:XK):TE:=fun σ H Q=>∃f sp,σ[i]?=some (some (.ref f))/\rJ X.prog X.w X.K X.mg X.base X.H₀ k f 0 sp/\sp [] H Q E
theorem rW{X:Cx}{k i:Nat}{x:Str}{p pos:Pos}(hr:du k X.A)(hN:X.N[i]?=some x)(hv:Vis X.env.scope x)(hd:(x == ("__debug__":Str))=false:=by decide)(hcd:(x == ("__classdict__":Str))=false:=by decide):
  PEX X (CXn X.prog X.w) (.Call (.Name x p) [] [] pos) (uG X k i):=by
 intro pins s σ H Q E I h;obtain⟨f,sp,ev,C,h⟩:=h
 have at':∀ {σ1:St} {H1:Hp} {s1:Shared},Inv X pins σ1 H1 s1->W.FnAt f s1.heap:=fun {σ1 H1 s1} J=>by
  obtain⟨oc,od,fd,sl,u,q⟩:=C.fn;exact⟨oc,od,fd,sl,(J.hok _ _ (J.base.frzs _ _ _ q)).1⟩
 refine wpAny_Call_Name_kw (wpAny_mono (tm (X:=X.nox) hN hv hd hcd pins s σ H (fun v H1=>v=.ref f/\H1=H) (I.wish _) ⟨_,ev,rfl,rfl⟩) (fun u s1 ⟨v,H1,I1,r,e1,e2⟩=>?_) fun _ _ z=>False.elim z);subst e1 e2;have I1:=I1.unwish;obtain rfl:u=Value.ref f:=r;refine W.callWith_F0 (at' I1) ?_;rw[List.append_nil];refine wpAny_call (codeAny_mono (C.run X.A X.stack s1 H1 [] [] Q E hr I1.env0 (fun b o u q=>I1.base.frzs b o u q) .nil h) fun r s' hq=>?_)
 cases r with
 |error e=>exact⟨H1,s1,I1,hq⟩
 |ok fl=>
  cases fl with
  |ret u=>exact I1.after hq
  |next=>exact False.elim hq
  |brk=>exact False.elim hq
  |cont=>exact False.elim hq
theorem Cd{P:Program}{w:World}{K:W.Frag}{mg:Str->Option Value}{base:Heap}{H₀:Hp}{k:Nat}{f:Addr}{q:Str}{params:Arguments}{body:Expr}{scope:Scope}{cl:List (Str×Addr)}{ps cs:List Str}{caps:List V}{sp:Sp}(L:uI H₀ f q params body scope cl)(S:rQ ps cs scope)(C:nT base cl cs caps)(hb:∀(pm:Value)(c:Addr)(ctv:Value)(us:List Value),us.length=ps.length->bindArgs (W.kla_fn "<lambda>" q params body scope cl pm (.ref c) ctv) ⟨us,[]⟩=pure (ps.zip us))(len:∀vs H Q E,sp vs H Q E->vs.length=ps.length)
  (hbody:∀(cd:Value)(A:Around)(outer:List Env)(s:Shared)(H:Hp)(vs:List V)(Q:VK)(E:XK),du k (A.deeper (W.envX q scope s.heap.objs.size f cd cl))->sp vs H Q E ->
   ∃t,PEX (qX P w K mg base (ps++cs) q scope f cd cl A outer s H) (CXn P w) body t/\t E ((vs++caps).map some) H Q):rJ P w K mg base H₀ (k+1) f ps.length sp:=by
 obtain⟨pm,c,ctv,oc,vc,tc,u1,u2,e1,e2,e3,e4⟩:=L;refine⟨⟨_,_,_,_,_,e1⟩,len,fun A outer s H us vs Q E hr e0 hF r hsp=>?_⟩;have hl:=len _ _ _ _ hsp;have hlu:us.length=ps.length:=r.length.symm.trans hl;have f1:=(e0.hok _ _ (hF _ _ _ e1)).1;have f2:=(e0.hok _ _ (hF _ _ _ e2)).1;have lim:s.heap.NoLimit:=e0.mod.nolimit.keeps fun b o e=>(e0.bs b o e).1;have nps:ps.Nodup:=S.nd.sublist (List.sublist_append_left _ _)
 refine W.kla_callFunE hr.depth f1 rfl S.co S.gen rfl ⟨c,oc,vc,tc,rfl,f2,e3,e4⟩ ?_;rw[hb pm c ctv us hlu];refine wpAny_pure (wpAny_newFunctionEnv (fun y hy=>(S.has y hy).1) (fun y hy=>S.par y.1 (List.of_mem_zip (a:=y.1) (b:=y.2) hy).1) (fun h₁ hns hsb=>⟨lim.fresh _ hsb,?_⟩) S.kind);show codeAny _ _ (.expr body (W.envX q scope s.heap.objs.size f (.ref c) cl)) _ _;have hk₁:∀b o,s.heap.get? b=some o->h₁.get? b=some o:=fun b o e=>hsb.extBut b o (Nat.ne_of_lt (Heap.lt_size e)) (Heap.get?_push_of_some _ e)
 obtain⟨c1,c2,c3,c4⟩:=C;obtain⟨t,ht,hq⟩:=hbody (.ref c) A outer s H vs Q E (hr.deeper _) hsp
 have capC:∀x c,cl.lookup x=some c->∃v,base.IsCell c v:=fun x c e=>by
  obtain⟨j,hj⟩:=List.getElem?_of_mem (c2 x c e);have hj2:j<caps.length:=by rw[c1];exact(List.getElem?_eq_some_iff.mp hj).1
  obtain⟨c',u,z1,z2,_⟩:=c4 j x caps[j] hj (List.getElem?_eq_getElem hj2);rw[e] at z1;cases z1;exact⟨_,z2⟩
 have noA:∀b:Addr,b ∉ (qX P w K mg base (ps++cs) q scope f (.ref c) cl A outer s H).ex:=fun b z=>absurd (show b∈([]:List Addr) from z) (by simp)
 have I:Inv (qX P w K mg base (ps++cs) q scope f (.ref c) cl A outer s H) [] ((vs++caps).map some) H { s with heap:=h₁,toks:=s.toks+(ps.zip us).length }:=by
  refine⟨⟨e0.mod,S.kind,rfl,rfl,Nat.le_refl _,c3,fun y hy=>?_,fun y c h=>(nomatch h),fun _=>hr.hd,Around.frames_deeper e0.frames,.inr ⟨rfl,rfl⟩,fun b z=>absurd z (noA b),e0.bs,e0.bsz,fun b _ _=>noA b,fun b z=>absurd z (noA b),e0.funs,e0.frf,e0.tt⟩,
   rfl,e0.bare,Un.kept hk₁,⟨_,hns,fun i y v h1 h2 h3=>?_⟩,fun y c h=>?_,e0.hok.fresh (Nat.le_refl _),fun y c h=>?_,fun p hp=>absurd (show p∈([]:List (Addr×Obj)) from hp) (by simp),e0.hok.kept hk₁,?_⟩
  ·have hy:scope.names.lookup y=some .cell\/scope.names.lookup y=some .free:=hy
   rcases hy with hy|hy
   ·exact absurd rfl (S.has _ (PySem.mem_of_lookup hy)).1
   ·have hm:=(S.has _ (PySem.mem_of_lookup hy)).2 rfl
    obtain⟨j,hj⟩:=List.getElem?_of_mem hm;have hj2:j<caps.length:=by rw[c1];exact(List.getElem?_eq_some_iff.mp hj).1
    obtain⟨c',u,z1,z2,_⟩:=c4 j y caps[j] hj (List.getElem?_eq_getElem hj2);exact⟨c',z1⟩
  ·have h1:(ps++cs)[i]?=some y:=h1
   rw[List.getElem?_map] at h2
   cases hv:(vs++caps)[i]? with
   |none=>rw[hv] at h2;cases h2
   |some v'=>
    rw[hv] at h2;cases h2;rcases Nat.lt_or_ge i ps.length with hi|hi
    ·rw[List.getElem?_append_left hi] at h1
     rw[List.getElem?_append_left (by rw[hl];exact hi)] at hv
     obtain⟨u,hu,ru⟩:=r.get hv;exact⟨u,ru,.inl ⟨S.par y (List.mem_of_getElem? h1),l8 nps h1 hu⟩⟩
    ·rw[List.getElem?_append_right hi] at h1
     rw[List.getElem?_append_right (by rw[hl];exact hi),hl] at hv
     obtain⟨c',u,z1,z2,z3⟩:=c4 _ y v h1 hv;refine⟨u,z3,.inr ⟨.inr (S.free y (List.mem_of_getElem? h1)),c',z1,?_⟩⟩;obtain⟨o,ho,hd⟩:=z2;exact⟨o,hk₁ _ _ (e0.bs _ _ ho).1,hd⟩
  ·obtain⟨v,o,ho,hd⟩:=capC y c h
   exact⟨v,o,hk₁ _ _ (e0.bs _ _ ho).1,hd⟩
  ·obtain⟨v,o,ho,hd⟩:=capC y c h
   exact(e0.bs _ _ ho).2
  ·show ((vs++caps).map some).length=(ps++cs).length
   rw[List.length_map,List.length_append,List.length_append,hl,c1]
 refine W.kla_codeExpr (wpAny_mono (ht [] _ _ H _ E I hq) (fun v s' ⟨v',H',J,rv,q'⟩=>?_) fun e s' ⟨H1,s1,J,hc⟩=>?_)
 ·exact⟨v',H',J.os,J.bare,J.base,J.hok,rv,q'⟩
 ·exact oy (X:=qX P w K mg base (ps++cs) q scope f (.ref c) cl A outer s H) rfl rfl rfl J hc
theorem jq{P:Program}{w:World}{K:W.Frag}{mg:Str->Option Value}{base:Heap}{H₀:Hp}{k:Nat}{f:Addr}{q:Str}{params:Arguments}{body:Expr}{scope:Scope}{cl:List (Str×Addr)}{ps cs:List Str}{caps:List V}{cA:List AV}{sp spf:dh}(L:uI H₀ f q params body scope cl)(S:rQ ps cs scope)(C:nT base cl cs caps)(hb:∀(pm:Value)(c:Addr)(ctv:Value)(us:List Value),us.length=ps.length->bindArgs (W.kla_fn "<lambda>" q params body scope cl pm (.ref c) ctv) ⟨us,[]⟩=pure (ps.zip us))(len:∀xs Z Q Ex,sp xs Z Q Ex->xs.length=ps.length)
  (hbody:∀(cd:Value)(A:Around)(outer:List Env)(s:Shared)(H:Hp),du k (A.deeper (W.envX q scope s.heap.objs.size f cd cl)) ->
   ∃t t',PEX (qX P w K mg base (ps++cs) q scope f cd cl A outer s H) (CXn P w) body (fun E=>sr (ft spf) [] E t)/\gM t t'/\∀xs Z Q Ex,sp xs Z Q Ex->t' ((xs++cA).map some) Z fun ys Z1=>spf ys Z1 Q Ex):rJ P w K mg base H₀ (k+1) f ps.length (gS caps cA sp):=by
 refine Cd L S C hb (fun vs H Q E h=>?_) (fun cd A outer s H vs Q E hr h=>?_)
 ·obtain⟨F,xs,Z,Q',Ex,rp,rv,_,h,_⟩:=h
  rw[rv.length,len xs Z Q' Ex h]
 ·obtain⟨t,t',h1,h2,h3⟩:=hbody cd A outer s H hr
  obtain⟨F,xs,Z,Q',Ex,rp,rv,rc,h,kq,kx⟩:=h
  have rs:RS (cut F H Z) ((xs++cA).map some) ((vs++caps).map some):=by
   have:=rv.append rc;refine⟨by simp[this.length,rv.length,rc.length],fun i a e=>?_⟩
   rw[List.getElem?_map,Option.map_eq_some_iff] at e;obtain⟨b,hb,e⟩:=e;cases e;obtain⟨v,e1,e2⟩:=this.get hb;exact⟨v,by rw[List.getElem?_map,e1];rfl,e2⟩
  refine⟨_,h1,h2.go rp rs (h3 xs Z Q' Ex h) fun ys Z1 us H1 rp1 fr1 rs1 rv1 q1=>?_⟩;rw[List.append_nil];exact⟨F,ys,Z1,Q',Ex,rp1,rv1,q1,kq.fr fr1,kx.fr fr1⟩
noncomputable def lF(a C m:Addr):AV:=.p (.ref a) (fun G=>∃dx,G a=some (km a C dx)/\G dx=some (.xd [("at",.int m)]))
noncomputable def EV(K:W.Frag)(T:Addr)(i j m y:Nat)(f:Addr)(caps:List V)(cA:List AV)(sp:dh):AS:=fun D ρ Z=>ρ[m]?=some (some (Hk f caps cA))/\sp [] Z (fun v Z2=>D.nx (ρ.set y (some v)) Z2)
 (fun c Z2=>∃C n,c=enC C n/\W.exmOne K (.ref C) (.ref T)=some true/\∀a,D.nx ((ρ.set i none).set j (some (lF a C n))) Z2)
theorem A4{F:Fs}{H:Hp}{Z:Om}(rp:Rep F H Z){a C m dx:Addr}(h1:H a=none)(h2:H dx=none)(h3:dx≠a):Rep F (upd (upd H a (km a C dx)) dx (.xd [("at",.int m)])) Z/\Fr F H Z (upd (upd H a (km a C dx)) dx (.xd [("at",.int m)])) Z/\RV (cut F (upd (upd H a (km a C dx)) dx (.xd [("at",.int m)])) Z) (lF a C m) (.ref a):=by
 obtain⟨rp1,fr1,hc1⟩:=rp.lay (o:=km a C dx) h1;obtain⟨rp2,fr2,hc2⟩:=rp1.lay (o:=.xd [("at",.int m)]) (show upd H a (km a C dx) dx=none by rw[aw h3];exact h2)
 exact⟨rp2,fr1.trans fr2,rfl,fun G' s=>⟨dx,s _ _ (fr2.same _ _ hc1),s _ _ hc2⟩⟩
theorem Cy{X:Cx}{k:Nat}{K:W.Frag}{T:Addr}{i j m y:Nat}{f:Addr}{caps:List V}{cA:List AV}{sp:dh}(C:rJ X.prog X.w X.K X.mg X.base X.H₀ k f 0 (gS caps cA sp)):fD (CF K T i j fun E=>sQ (uG X k m E) (nN y)) (EV K T i j m y f caps cA sp):=⟨fun F H Z σ ρ D D' rp rs w k=>by
 obtain⟨e,w⟩:=w;obtain⟨v,e1,e2⟩:=rs.2 m _ e;obtain⟨rfl,e3⟩:=e2;refine⟨f,_,e1,C,F,[],Z,_,_,rp,rfl,e3 _ (c8.refl _),w,fun a Z2 v H2 rp2 fr2 rv2 q2=>k.nx _ Z2 _ H2 rp2 fr2 ((rs.same fr2.same).set rv2) q2,?_⟩;rintro c Z2 a H2 rp2 fr2 ⟨C0,n0,ec,q1,q2⟩ a' C1 m1 dx z1 z2 z3 z4 z5;cases z1;rw[ec] at z2;obtain⟨rfl,rfl⟩:=BH (Option.some.inj z2);obtain⟨rp3,fr3,rx⟩:=A4 rp2 (C:=C0) (m:=n0) z3 z4 z5
 exact⟨q1,k.nx _ Z2 _ _ rp3 (fr2.trans fr3) (((rs.same fr2.same).same fr3.same).IW.set rx) (q2 a)⟩⟩
theorem rV{K:W.Frag}{x D dx:Addr}(ok:fN K D=true):KitX K (.ref x) (.ref D) (xB x D dx):=
 have up:∀h,xB x D dx h->nJ x D h:=fun h ⟨o,a,b,_⟩=>⟨o,a,b⟩
 { ty:=fun M h X e=>(jQ ok).ty M h X (up h e),it:=fun M h X e=>(jQ (x:=x) ok).it M h X (up h e),ne:=(jQ (x:=x) ok).ne,ca:=fun X e k=>(jQ ok).ca X (up _ e) k }
noncomputable def isB(K:W.Frag)(H:Hp)(f:Value->Option Bool)(x:V)(b:Bool):Prop:=(x=.non/\f (.type "NoneType")=some b)\/∃a C dx,x=.ref a/\H a=some (km a C dx)/\fN K C=true/\f (.ref C)=some b
noncomputable def Hj(K:W.Frag):List V->Hp->VK->Prop:=fun xs H Q=>∃x c cv b,xs=[x,c]/\clV c=some cv/\isB K H (fun t=>kitOne K t cv) x b/\Q (.bl b) H
theorem q0{X:Cx}(K:W.Frag)(hK:X.K=K):eh X (.builtin "isinstance") (Hj K):=by
 subst hK;intro pins s σ H xs us Q I r h;obtain⟨x,c,cv,b,rfl,hc,hx,q⟩:=h;obtain⟨u1,u2,rfl,r1,r2⟩:=aH.two r;have e2:=As r2 hc;subst e2;rcases hx with⟨rfl,hb⟩|⟨a,C,dx,rfl,ha,ok,hb⟩
 ·obtain rfl:u1=Value.none:=r1
  exact kia_one kitx_none I.kIn trivial hb (by intro z;cases z) fun tk=>⟨.bl b,H,I.tok tk,rfl,q⟩
 ·obtain rfl:u1=Value.ref a:=r1
  exact kia_one (rV ok) I.kIn (I.hok a _ ha).1 hb (by intro z;cases z) fun tk=>⟨.bl b,H,I.tok tk,rfl,q⟩
noncomputable def CZ(K:W.Frag):List V->Hp->VK->Prop:=fun xs H Q=>∃x tp cs cvs b,xs=[x,.ref tp]/\H tp=some (.tup cs)/\xa cs=some cvs/\isB K H (fun t=>kitAny K t cvs) x b/\Q (.bl b) H
theorem wK{X:Cx}(K:W.Frag)(hK:X.K=K):eh X (.builtin "isinstance") (CZ K):=by
 subst hK;intro pins s σ H xs us Q I r h;obtain⟨x,tp,cs,cvs,b,rfl,ht,hc,hx,q⟩:=h;obtain⟨u1,u2,rfl,r1,r2⟩:=aH.two r;obtain rfl:u2=Value.ref tp:=r2;obtain⟨_,its,rv,⟨ot,e1,e2,e3⟩,_⟩:=I.hok tp _ ht;have e4:=vI rv hc;subst e4;obtain⟨n,e3⟩:=e3;obtain⟨oc,od,oda,osl⟩:=ot;dsimp only at e2 e3;subst e2 e3;rcases hx with⟨rfl,hb⟩|⟨a,C,dx,rfl,ha,ok,hb⟩
 ·obtain rfl:u1=Value.none:=r1
  exact kia_tup kitx_none I.kIn trivial e1 hb (by intro z;cases z) fun tk=>⟨.bl b,H,I.tok tk,rfl,q⟩
 ·obtain rfl:u1=Value.ref a:=r1
  exact kia_tup (rV ok) I.kIn (I.hok a _ ha).1 e1 hb (by intro z;cases z) fun tk=>⟨.bl b,H,I.tok tk,rfl,q⟩
noncomputable def ua(K:W.Frag)(f:Value->Option Bool)(x:AV)(b:Bool):Prop:=(x=.d .non/\f (.type "NoneType")=some b)\/∃a C m,x=lF a C m/\fN K C=true/\f (.ref C)=some b
theorem ua.of{K:W.Frag}{f:Value->Option Bool}{x:AV}{b:Bool}{F:Fs}{H:Hp}{Z:Om}{v:V}(h:ua K f x b)(r:RV (cut F H Z) x v):isB K H f v b:=by
 rcases h with⟨rfl,hb⟩|⟨a,C,m,rfl,ok,hb⟩
 ·exact .inl ⟨tj r,hb⟩
 ·obtain⟨rfl,h2⟩:=r
  obtain⟨dx,z,_⟩:=h2 _ (c8.refl _);exact .inr ⟨a,C,dx,rfl,(bH.mp z).2.2,ok,hb⟩
noncomputable def CA(K:W.Frag):AC:=fun xs Z Q=>∃x c cv b,xs=[x,.r c]/\clV c=some cv/\ua K (fun t=>W.kitOne K t cv) x b/\Q (.d (.bl b)) Z
theorem sd(K:W.Frag)(xs:List AV)(Z:Om)(Q:AV->Om->Prop):CA K xs Z Q=∃x c cv b,xs=[x,.r c]/\clV c=some cv/\ua K (fun t=>W.kitOne K t cv) x b/\Q (.d (.bl b)) Z:=rfl
theorem CM{K:W.Frag}:mj (Hj K) (CA K):=⟨fun F H Z vs xs Q Q' rp rv ⟨x,c,cv,b,e,h1,h2,q⟩ k=>by
 subst e;obtain⟨v,u,rfl,r1,r2⟩:=EJ rv;have e2:u=c:=r2;rw[e2]
 exact⟨v,c,cv,b,rfl,h1,h2.of r1,k.bl rp q⟩⟩
noncomputable def CC(K:W.Frag)(tx:AE)(tcs:AA):AE:=fun ρ Z Q=>tx ρ Z fun x Z1=>tcs ρ Z1 fun cs Z2=>∃vs cvs b,cs=vs.map AV.r/\vs.length<=1000/\xa vs=some cvs/\ua K (fun t=>W.kitAny K t cvs) x b/\Q (.d (.bl b)) Z2
theorem sF(K:W.Frag)(tx:AE)(tcs:AA)(ρ:SA)(Z:Om)(Q:AV->Om->Prop):CC K tx tcs ρ Z Q=tx ρ Z fun x Z1=>tcs ρ Z1 fun cs Z2=>∃vs cvs b,cs=vs.map AV.r/\vs.length<=1000/\xa vs=some cvs/\ua K (fun t=>W.kitAny K t cvs) x b/\Q (.d (.bl b)) Z2:=rfl
theorem E4{K:W.Frag}{tx:TE}{tx':AE}{tcs:TA}{tcs':AA}(hx:a9 tx tx')(hc:gM tcs tcs'):a9 (tCB (CZ K) (jP tx (jP (BL tcs) Bl))) (CC K tx' tcs'):=⟨fun F H Z σ ρ Q Q' rp rs w k=>
 hx.go rp rs w fun x Z1 v H1 rp1 fr1 rs1 rv1 q1=>hc.go rp1 rs1 q1 fun cs Z2 us H2 rp2 fr2 rs2 rv2 ⟨vs,cvs,b,e,hl,h1,h2,q⟩=>by
  subst e;cases wk rv2;refine⟨Nat.le_of_lt (dH hl),fun p hp=>?_⟩;obtain⟨rp3,fr3,hc3⟩:=rp2.lay (o:=.tup us) hp
  exact⟨v,p,us,cvs,b,rfl,bR,h1,h2.of (rv1.same (fr2.trans fr3).same),(k.fr ((fr1.trans fr2).trans fr3)).bl rp3 q⟩⟩
theorem AY(a C m:Addr):B0 (lF a C m)=some false:=rfl
noncomputable def tB(K:W.Frag)(C:Addr):Bool:=fN K C && hasDictIn K C && findIn K (.ref C) "at" == some none
noncomputable def tAt(K:W.Frag)(te:TE):TE:=fun σ H Q=>te σ H fun x H1=>∃a C dx m,x=.ref a/\H1 a=some (km a C dx)/\H1 dx=some (.xd [("at",.int m)])/\tB K C=true/\Q (.int m) H1
noncomputable def aAt(K:W.Frag)(te:AE):AE:=fun ρ Z Q=>te ρ Z fun x Z1=>∃a C m,x=lF a C m/\tB K C=true/\Q (.d (.int m)) Z1
theorem yB(K:W.Frag)(te:AE)(ρ:SA)(Z:Om)(Q:AV->Om->Prop):aAt K te ρ Z Q=te ρ Z fun x Z1=>∃a C m,x=lF a C m/\tB K C=true/\Q (.d (.int m)) Z1:=rfl
theorem Ig{K:W.Frag}{te:TE}{te':AE}(h:a9 te te'):a9 (tAt K te) (aAt K te'):=⟨fun F H Z σ ρ Q Q' rp rs w k=>
 h.go rp rs w fun x Z1 v H1 rp1 fr1 rs1 rv1 ⟨a,C,m,e,ok,q⟩=>by
  subst e;obtain⟨rfl,h2⟩:=rv1;obtain⟨dx,z1,z2⟩:=h2 _ (c8.refl _)
  exact⟨a,C,dx,m,rfl,(bH.mp z1).2.2,(bH.mp z2).2.2,ok,(k.fr fr1).int rp1 q⟩⟩
theorem Gn{X:Cx}(K:W.Frag)(hK:X.K=K){e:Expr}{te:TE}{pos:Pos}(he:PE X e te)(hb:attributeBase e "at" X.env (eval e X.env)=eval e X.env:=by rfl):PE X (.Attribute e "at" pos) (tAt K te):=.mk <| by
 subst hK;intro pins s σ H Q I h;refine Bh hb (thn (he pins s σ H _ I h) fun u s1 ⟨x,H1,I1,rx,a,C,dx,m,ex,ea,ed,ok,q⟩=>?_);subst ex;obtain rfl:u=Value.ref a:=rx;obtain⟨mA,hn,hm⟩:=I1.hok dx _ ed;have hv:=hm "at";unfold tB at ok;simp only[Bool.and_eq_true,beq_iff_eq] at ok;obtain⟨⟨o1,o2⟩,o3⟩:=ok
 cases e:mA ("at":Str) with
 |none=>rw[e] at hv;exact hv.elim
 |some v=>
  rw[e] at hv;obtain⟨tk,rfl⟩:∃tk,v=Value.int m tk:=hv;exact E3 I1.kIn (I1.hok a _ ea).1 hn e rfl o2 o3 o1 ⟨.int m,H1,I1.tok _,⟨tk,rfl⟩,q⟩
noncomputable def ly(kc:Nat)(C:Addr)(P:Program)(w:World)(K:W.Frag)(mg:Str->Option Value)(base:Heap):Sp:=fun vs H Q _=>∃(F:Fs)(Z:Om)(Q':AV->Om->Prop)(f:Addr)(c:List V)(a:List AV)(s:dh),
 vs=[.ref f]/\Rep F H Z/\rJ P w K mg base H kc f 0 (gS c a s)/\RVs (cut F H Z) a c/\s [] Z (fun v Z1=>∃d,v=.d d/\Q' (.d (.tup [.str "told",d])) (Z1.only Z)) (fun c' Z1=>∃n:Nat,c'=enC C n/\Q' (.d (.tup [.str "text",.int n])) (Z1.only Z))/\LP RV F H Z Q' Q
noncomputable def Gs(X:Cx)(kc:Nat)(js:List Nat)(q:Str)(a:Arguments)(b:Expr)(sc:Scope)(cl:List (Str×Addr))(s:List AV->dh):Prop:=
 ∀(b':Heap)(H:Hp)(f:Addr)(σ:St)(caps:List V)(cA:List AV),uI H f q a b sc cl->A5 X σ b'->Ha js σ caps->cA.length=js.length->rJ X.prog X.w X.K X.mg b' H kc f 0 (gS caps cA (s cA))
noncomputable def yg(js:List Nat)(C:Addr)(s:List AV->dh):AE:=fun ρ Z Q=>∃a,pW js ρ=some a/\s a [] Z (fun v Z1=>∃d,v=.d d/\Q (.d (.tup [.str "told",d])) (Z1.only Z)) (fun c' Z1=>∃n:Nat,c'=enC C n/\Q (.d (.tup [.str "text",.int n])) (Z1.only Z))
theorem oo(js:List Nat)(C:Addr)(s:List AV->dh)(ρ:SA)(Z:Om)(Q:AV->Om->Prop):yg js C s ρ Z Q=∃a,pW js ρ=some a/\s a [] Z (fun v Z1=>∃d,v=.d d/\Q (.d (.tup [.str "told",d])) (Z1.only Z)) (fun c' Z1=>∃n:Nat,c'=enC C n/\Q (.d (.tup [.str "text",.int n])) (Z1.only Z)):=rfl
theorem lc{X:Cx}{kc:Nat}{C:Addr}{q:Str}{js:List Nat}{p:Arguments}{b:Expr}{sc:Scope}{l:List (Str×Addr)}{s:List AV->dh}(h:Gs X kc js q p b sc l s):
  a9 (Ac X (fun b'=>ly kc C X.prog X.w X.K X.mg b') (jP (Gu q p b sc l) Bl)) (yg js C s):=⟨fun F H Z σ ρ Q Q' rp rs w kq=>by
 obtain⟨a,e,w⟩:=w;intro f1 H2 m1 _ M1 b' sub cb;obtain⟨rp3,fr3⟩:=rp.later m1;obtain⟨c,v1,r1⟩:=zz (rs.same fr3.same) e
 exact⟨F,Z,Q',f1,c,a,s a,rfl,rp3,h b' H2 f1 σ c a M1 cb v1 (qG e),r1,w,kq.fr fr3⟩⟩
end L2
namespace L2
open PySem PySem.Spec PyProof.Rows
noncomputable def G8(neg:Bool):V->V->Hp->VK->Prop:=fun x y H Q=>∃a b,x=.str a/\y=.str b/\Q (.bl (if neg then !Txt.contains b a else Txt.contains b a)) H
theorem yH{X:Cx}:OpR X (compareOp .In) (G8 false):=by
 intro pins s σ H x y v u Q I rx ry h;obtain⟨a,b,rfl,rfl,q⟩:=h;obtain⟨t1,rfl⟩:=rx;obtain⟨t2,rfl⟩:=ry;exact SB.contains ⟨.bl _,H,I,rfl,q⟩
noncomputable def G5(neg:Bool):A2:=fun x y Z Q=>∃a b,x=.d (.str a)/\y=.d (.str b)/\Q (.d (.bl (if neg then !Txt.contains b a else Txt.contains b a))) Z
theorem uC(neg:Bool)(x y:AV)(Z:Om)(Q:AV->Om->Prop):G5 neg x y Z Q=∃a b,x=.d (.str a)/\y=.d (.str b)/\Q (.d (.bl (if neg then !Txt.contains b a else Txt.contains b a))) Z:=rfl
theorem Dd{neg:Bool}:dv (G8 neg) (G5 neg):=⟨fun F H Z v u x y Q Q' rp h1 h2 ⟨a,b,e1,e2,q⟩ k=>by
 subst e1 e2
 exact⟨a,b,cu h1,cu h2,k.bl rp q⟩⟩
open PySem.Builtin.Str
theorem u4(l:List Nat)(c:Nat):∀(m s:Nat)(acc:Array Nat)(free:Nat),s+m=l.length+1->(acc.size=0->free<=s) ->
  ((List.range' s m).foldl (fun(b:Array Nat×Nat) i=>if (decide (b.1.size<1) && decide (b.2<=i) && decide (i+(tx [c]).length<=l.length) && subAt (tx l) (tx [c]) i)=true then (b.1.push i,i+(tx [c]).length) else b) (acc,free)).1.isEmpty=(acc.isEmpty && !decide (c∈l.drop s))
 |0,s,acc,free,h,_=>by
  rw[List.drop_eq_nil_of_le (by omega)]
  simp
 |m+1,s,acc,free,h,hf=>by
  rw[List.range'_succ,List.foldl_cons];have e1:(tx [c]).length=1:=al [c];have ih:=fun a f hh=>u4 l c m (s+1) a f (by omega) hh
  by_cases h0:acc.size=0
  ·have hfs:=hf h0
   have ea:acc.isEmpty=true:=by simpa using h0
   by_cases hs:s<l.length
   ·have ed:l.drop s=l[s]::l.drop (s+1):=List.drop_eq_getElem_cons hs
    simp only[pD,e1,h0,hfs,decide_true,Bool.true_and,show s+1<=l.length by omega,List.getElem?_eq_getElem hs,Option.some.injEq,decide_eq_true_eq,Nat.lt_add_one] at ih ⊢
    by_cases hc:l[s]=c
    ·have hm:decide (c∈l.drop s)=true:=decide_eq_true (by rw[ed,hc];exact List.mem_cons_self)
     rw[if_pos (by simpa using hc),ih _ _ (by simp),hm]
     simp
    ·have hm:decide (c∈l.drop s)=decide (c∈l.drop (s+1)):=decide_eq_decide.mpr (by rw[ed,List.mem_cons];exact⟨fun z=>z.resolve_left (Ne.symm hc),.inr⟩)
     rw[if_neg (by simpa using hc),ih _ _ (fun _=>by omega),hm]
   ·have e2:decide (s+1<=l.length)=false:=decide_eq_false (by omega)
    simp only[e1,e2,Bool.and_false,Bool.false_and,Bool.false_eq_true,if_false] at ih ⊢;rw[ih _ _ (fun _=>by omega),List.drop_eq_nil_of_le (by omega),List.drop_eq_nil_of_le (by omega)]
  ·have ea:acc.isEmpty=false:=by simpa[Array.isEmpty] using h0
   have e3:decide (acc.size<1)=false:=decide_eq_false (by omega)
   simp only[e3,Bool.false_and,Bool.false_eq_true,if_false];rw[ih _ _ (fun z=>absurd z h0),ea];simp
theorem uK(l:List Nat)(c:Nat):Txt.contains (tx l) (tx [c])=decide (c∈l):=by
 have h:=u4 l c (l.length+1) 0 #[] 0 (by omega) (fun _=>Nat.le_refl _)
 simp only[List.drop_zero] at h;unfold Txt.contains occurrences;simp only[Std.Legacy.Range.forIn_eq_forIn_range',Std.Legacy.Range.size,al];rw[jo (g:=fun(b:Array Nat×Nat) i=>if (decide (b.1.size<1) && decide (b.2<=i) && decide (i+(tx [c]).length<=l.length) && subAt (tx l) (tx [c]) i)=true then (b.1.push i,i+(tx [c]).length) else b) (h:=fun i b=>by simp only[al];split<;>rfl)]
 simp only[al] at h ⊢;rw[show (l.length+1-0+1-1) / 1=l.length+1 by omega]
 have h2:=congrArg (!·) h
 simp only[Array.isEmpty_empty,Bool.true_and,Bool.not_not] at h2;rw[←h2]
 simp;rfl
end L2
namespace L2
open PySem PySem.Spec PyProof.Rows
noncomputable def Hw:R2:=fun x y H Q=>∃a b:Str,x=.str a/\y=.str b/\Q (.bl (!decide (b.cps.toList<a.cps.toList))) H
theorem Ev{X:Cx}:OpR X (compareOp .LtE) Hw:=by
 intro pins s σ H x y v u Q I rx ry h;obtain⟨a,b,rfl,rfl,q⟩:=h;obtain⟨t,rfl⟩:=rx;obtain⟨t',rfl⟩:=ry;exact P.le_str ⟨.bl _,H,I,rfl,q⟩
noncomputable def Hz:A2:=fun x y Z Q=>∃a b:Str,x=.d (.str a)/\y=.d (.str b)/\Q (.d (.bl (!decide (b.cps.toList<a.cps.toList)))) Z
theorem vG(x y:AV)(Z:Om)(Q:AV->Om->Prop):Hz x y Z Q=(∃a b:Str,x=.d (.str a)/\y=.d (.str b)/\Q (.d (.bl (!decide (b.cps.toList<a.cps.toList)))) Z):=rfl
theorem Gj:dv Hw Hz:=⟨fun F H Z v u x y Q Q' rp h1 h2 ⟨a,b,e1,e2,q⟩ k=>by
 subst e1 e2
 exact⟨a,b,cu h1,cu h2,k.bl rp q⟩⟩
theorem Dm:∀a b:List Int,(∀x∈a,0<=x)->(∀x∈b,0<=x)->(!decide ((b.map fun x=>48+x.toNat)<(a.map fun x=>48+x.toNat)))=bv a b
 | [],b,_,_=>by simp[bv]
 |x::a,[],_,_=>by simp[bv]
 |x::a,y::b,ha,hb=>by
  have hx:=ha x (List.mem_cons_self ..);have hy:=hb y (List.mem_cons_self ..);have ih:=Dm a b (fun z hz=>ha z (List.mem_cons_of_mem _ hz)) (fun z hz=>hb z (List.mem_cons_of_mem _ hz));rw[bv];by_cases e:x=y
  ·subst e
   rw[if_pos rfl,←ih]
   simp only[List.map_cons]
   congr 1
   exact decide_eq_decide.mpr (by rw[List.cons_lt_cons_iff];simp)
  ·rw[if_neg e]
   simp only[List.map_cons];rw[←decide_not]
   exact decide_eq_decide.mpr (by rw[List.cons_lt_cons_iff];omega)
noncomputable def Dv:R2:=fun x y H Q=>∃(l:List Nat)(i:Int),x=.str (tx l)/\y=.int i/\-1000<=i/\i<=1000/\l.length<=1000/\Q (.str (tx (List.replicate i.toNat l).flatten)) H
theorem qN(l:List Nat):∀(n:Nat)(a:List Nat),((List.replicate n (tx l).cps).foldl (· ++ ·) a.toArray)=(a++(List.replicate n l).flatten).toArray
 |0,a=>by simp
 |n+1,a=>by
  rw[List.replicate_succ,List.foldl_cons,show a.toArray++(tx l).cps=(a++l).toArray from by simp[tx],qN l n,List.replicate_succ,List.flatten_cons,List.append_assoc]
theorem B1{X:Cx}:OpR X (binaryOp .Mult) Dv:=by
 intro pins s σ H x y v u Q I rx ry h;obtain⟨l,i,rfl,rfl,h0,h1,hl,q⟩:=h;obtain⟨t,rfl⟩:=rx;obtain⟨t',rfl⟩:=ry;have hn:(tx l).length=l.length:=al l;refine P.mul_str (by rw[decide_eq_false (by omega),decide_eq_false (by omega)];rfl) (fun hi _=>?_) (fun hi _=>?_) ?_
 ·have:(1000:Int)<=(2^63-1) / i:=(Int.le_ediv_iff_mul_le (by omega)).mpr (by omega)
  omega
 ·have:l.length*i.toNat<=1000*1000:=Nat.mul_le_mul hl (by omega)
  have h2:(1000*1000:Nat)<=sizeLine:=by decide
  exact decide_eq_false (by rw[hn];omega)
 ·by_cases hi:i<1
  ·rw[if_pos hi]
   rw[show i.toNat=0 by omega] at q
   exact⟨by decide,.str (tx []),H,I.tok _,⟨_,rfl⟩,q⟩
  ·rw[if_neg hi]
   by_cases hc:(i == 1 || (tx l).length == 0)=true
   ·rw[if_pos hc]
    refine⟨.str (tx l),H,I,⟨t,rfl⟩,?_⟩
    have e:(List.replicate i.toNat l).flatten=l:=by
     rw[hn] at hc;simp only[Bool.or_eq_true,beq_iff_eq] at hc;rcases hc with rfl|hc
     ·simp
     ·rw[List.length_eq_zero_iff.mp hc];simp
    rwa [e] at q
   ·rw[if_neg hc]
    have e:(List.replicate i.toNat (tx l).cps).foldl (· ++ ·) #[]=(List.replicate i.toNat l).flatten.toArray:=by
     have:=qN l i.toNat [];simpa using this
    rw[e];have:l.length*i.toNat<=1000*1000:=Nat.mul_le_mul hl (by omega)
    have h2:(1000*1000:Nat)<=sizeLine:=by decide
    have h3:(List.replicate i.toNat l).flatten.length=l.length*i.toNat:=by simp[Nat.mul_comm]
    exact⟨by show (tx (List.replicate i.toNat l).flatten).length<=sizeLine;rw[al,h3];omega,.str (tx (List.replicate i.toNat l).flatten),H,I.tok _,⟨_,rfl⟩,q⟩
noncomputable def DQ:A2:=fun x y Z Q=>∃(l:List Nat)(i:Int),x=.d (.str (tx l))/\y=.d (.int i)/\-1000<=i/\i<=1000/\l.length<=1000/\Q (.d (.str (tx (List.replicate i.toNat l).flatten))) Z
theorem sH(x y:AV)(Z:Om)(Q:AV->Om->Prop):DQ x y Z Q=(∃(l:List Nat)(i:Int),x=.d (.str (tx l))/\y=.d (.int i)/\-1000<=i/\i<=1000/\l.length<=1000/\Q (.d (.str (tx (List.replicate i.toNat l).flatten))) Z):=rfl
theorem Es:dv Dv DQ:=⟨fun F H Z v u x y Q Q' rp h1 h2 ⟨l,i,e1,e2,h3,h4,h5,q⟩ k=>by
 subst e1 e2
 exact⟨l,i,cu h1,bo h2,h3,h4,h5,k.str rp q⟩⟩
theorem GT{X:Cx}(K:W.Frag)(hK:X.K=K):SlR X (fun x lo hi H Q=>ke K x lo hi H Q\/Cf x lo hi H Q):=(gT K hK).or c5
noncomputable def CT(te:AE)(tl th:AO):AE:=fun ρ Z Q=>te ρ Z fun x Z1=>tl ρ Z1 fun lo Z2=>th ρ Z2 fun hi Z3=>match x with
 |.d (.str z)=>z.length<=sizeLine/\Q (.d (.str (Txt.slice z lo hi))) Z3
 |.d (.tup ds)=>Q (.d (.tup (bC ds lo hi))) Z3
 |_=>False
noncomputable def DW(x:AV)(lo hi:Option Int)(Z:Om)(Q:AV->Om->Prop):Prop:=match x with
 |.d (.str z)=>z.length<=sizeLine/\Q (.d (.str (Txt.slice z lo hi))) Z
 |.d (.tup ds)=>Q (.d (.tup (bC ds lo hi))) Z
 |_=>False
theorem qI(te:AE)(tl th:AO)(ρ:SA)(Z:Om)(Q:AV->Om->Prop):CT te tl th ρ Z Q=(te ρ Z fun x Z1=>tl ρ Z1 fun lo Z2=>th ρ Z2 fun hi Z3=>DW x lo hi Z3 Q):=rfl
theorem E6{K:W.Frag}{te:TE}{te':AE}{tl th:TO}{tl' th':AO}(he:a9 te te')(hl:Ref REq tl tl')(hh:Ref REq th th'):a9 (tSl (fun x lo hi H Q=>ke K x lo hi H Q\/Cf x lo hi H Q) te tl th) (CT te' tl' th'):=⟨fun F H Z σ ρ Q Q' rp rs w k=>
 he.go rp rs w fun x Z1 v H1 rp1 fr1 rs1 rv1 q1=>hl.go rp1 rs1 q1 fun lo Z2 lo' H2 rp2 fr2 rs2 e2 q2=>hh.go rp2 rs2 q2 fun hi Z3 hi' H3 rp3 fr3 rs3 e3 q=>by
  cases (show lo=lo' from e2)
  cases (show hi=hi' from e3)
  have r:=rv1.same (fr2.trans fr3).same;have k3:=k.fr ((fr1.trans fr2).trans fr3)
  cases x with
  |d x=>cases x with
   |str z=>
    obtain⟨hz,q⟩:=q;exact .inr ⟨z,cu rv1,hz,k3.str rp3 q⟩
   |tup ds=>
    refine .inl (.inr ?_);have r':=r;simp only[RV,Dat] at r;obtain⟨a,vs,rfl,z1,z2⟩:=r;refine⟨a,vs,rfl,.inl (.inl (aS _ _ z1)),?_⟩;by_cases hw:HT.sIx vs.length 0 lo=0/\HT.sIx vs.length vs.length hi=vs.length
    ·rw[if_pos hw]
     have:bC ds lo hi=ds:=by
      unfold bC;rw[←z2.length,hw.1,hw.2,List.drop_zero,Nat.sub_zero,z2.length,List.take_length]
     replace q:Q' (.d (.tup (bC ds lo hi))) Z3:=q
     rw[this] at q;exact k3 _ Z3 _ H3 rp3 .refl r' q
    ·rw[if_neg hw]
     exact k3.tup rp3 z2.cut q
   |_=>exact q.elim
  |_=>exact q.elim⟩
end L2
namespace L2
open PySem
open PySem.SetTable (below insertAt has runEnd leap bits turns)
noncomputable def Ih(xs:Array Nat):Prop:=xs.toList.Pairwise (· < ·)
open PySem.SetTable in
noncomputable def Hv(m:Nat)(p:SetTable.Probe):SetTable.Probe:=
 if p.more>0 then { p with j:=p.j+1,more:=p.more-1 } else
 { p with j:=(leap m p.i p.perturb).1,more:=runEnd m (leap m p.i p.perturb).1-(leap m p.i p.perturb).1,i:=(leap m p.i p.perturb).1,perturb:=(leap m p.i p.perturb).2 }
noncomputable def Er(m:Nat)(h:Int):SetTable.Probe:={ j:=bits h%(m+1),more:=runEnd m (bits h%(m+1))-bits h%(m+1),i:=bits h%(m+1),perturb:=bits h,dummy:=none }
noncomputable def qv(m:Nat)(h:Int):Nat->SetTable.Probe
 |0=>Er m h
 |n+1=>Hv m (qv m h n)
noncomputable def f5(m i:Nat):Nat:=(i*5+1)%(m+1)
noncomputable def GJ:List Nat:=[7,31,127]
end L2
namespace L2
open PySem
open PySem.SetTable (below insertAt has runEnd leap bits turns)
structure Tb(t:SetTable)(hs:List Int):Prop where
 ris:Ih t.place
 dum:t.dummies=#[]
 siz:t.place.size=hs.length
 msk:t.mask∈GJ
 le:∀j∈t.place.toList,j<=t.mask
 few:hs.length*5<t.mask*3
 rch:∀(i j:Nat)(h:Int),t.place[i]?=some j->hs[i]?=some h->∃n,(qv t.mask h n).j=j/\∀q,q<n->(qv t.mask h q).j∈t.place.toList
end L2
namespace L2
open PySem
open PySem.SetTable (below insertAt has runEnd leap bits turns layClean)
noncomputable def FZ(o:Array (Option Nat))(j:Nat):Prop:=∃k,o[j]?=some (some k)
structure Own(m:Nat)(hs:List Int)(o:Array (Option Nat)):Prop where
 siz:o.size=m+1
 prm:(o.toList.filterMap id).Perm (List.range hs.length)
 rch:∀(j k:Nat)(h:Int),o[j]?=some (some k)->hs[k]?=some h->∃n,(qv m h n).j=j/\∀q,q<n->FZ o (qv m h q).j
end L2
set_option maxHeartbeats 4000000
namespace My
open PySem PySem.Spec L2
noncomputable def top(i:Nat):Stmt:=PySem.Challenge.pw_unlikeplace_k63_texts_of_no_talk.main.body.getD i (.Pass ⟨0,0,0,0⟩)
noncomputable abbrev fg:Stmt:=top 15
noncomputable abbrev ji:Stmt:=top 16
noncomputable abbrev kl:Stmt:=top 17
noncomputable abbrev sS:Stmt:=top 18
noncomputable abbrev iS:Stmt:=top 19
noncomputable abbrev g6:Stmt:=top 20
noncomputable abbrev hJ:Stmt:=top 21
noncomputable abbrev g5:Stmt:=top 22
noncomputable abbrev p7:Stmt:=top 24
noncomputable abbrev mH:Stmt:=top 25
noncomputable abbrev pS:Stmt:=top 26
noncomputable abbrev eD:Stmt:=top 27
noncomputable abbrev dM:Stmt:=top 28
noncomputable abbrev fA:Stmt:=top 29
noncomputable abbrev lV:Stmt:=top 30
noncomputable abbrev lQ:Stmt:=top 31
noncomputable abbrev kf:Stmt:=top 32
noncomputable abbrev iZ:Stmt:=top 33
noncomputable abbrev lR:Stmt:=top 34
noncomputable abbrev jX:Stmt:=top 35
noncomputable abbrev fz:Stmt:=top 36
noncomputable abbrev kS:Stmt:=top 37
theorem kT:aN ["thing"] ["thing"] (defScope fg):=fsc rfl rfl rfl (by decide +kernel)
theorem qC:aN ["text","at"] ["text","at"] (defScope ji):=fsc rfl rfl rfl (by decide +kernel)
theorem tE:aN ["text","at"] ["text","at"] (defScope kl):=fsc rfl rfl rfl (by decide +kernel)
theorem BU:aN ["text","at","sign"] ["text","at","sign"] (defScope sS):=fsc rfl rfl rfl (by decide +kernel)
theorem ky:aN ["places","text","at","sign"] ["places","text","at"] (defScope iS):=fsc rfl rfl rfl (by decide +kernel)
theorem aZ:aN ["places","text","at","waiting","begun","done","wanted","sign","says","second","first"] ["places","text"] (defScope g6):=fsc rfl rfl rfl (by decide +kernel)
theorem dI:aN ["places","text","at","says"] ["places","text","at"] (defScope hJ):=fsc rfl rfl rfl (by decide +kernel)
theorem cV:aN ["places","text","at","last","word","number","sign","greatest"] ["places","text","at","last"] (defScope g5):=fsc rfl rfl rfl (by decide +kernel)
theorem xH:aN ["_law_script"] ["_law_script"] (defScope p7):=fsc rfl rfl rfl (by decide +kernel)
theorem cY:aN ["_law_pen_here","_law_many","_law_cells","_law_place","_law_left","_law_cell","_law_number"] ["_law_pen_here","_law_many"] (defScope mH):=fsc rfl rfl rfl (by decide +kernel)
theorem fe:aN ["_law_places","_law_found","_law_k","_law_longer","_law_word"] ["_law_places"] (defScope pS):=fsc rfl rfl rfl (by decide +kernel)
theorem fw:aN ["_law_pen_here","_law_places","_law_most","_law_share","_law_says","_law_hand"] ["_law_pen_here","_law_places","_law_most","_law_share"] (defScope eD):=fsc rfl rfl rfl (by decide +kernel)
theorem kW:aN ["_law_words"] ["_law_words"] (defScope dM):=fsc rfl rfl rfl (by decide +kernel)
theorem hU:aN ["_law_talk","_law_both"] ["_law_talk"] (defScope fA):=fsc rfl rfl rfl (by decide +kernel)
theorem oH:aN ["_law_pen_here","_law_signs","_law_every"] ["_law_pen_here","_law_signs"] (defScope lV):=fsc rfl rfl rfl (by decide +kernel)
theorem fU:aN ["_law_pen_here","_law_text","_law_signs","_law_at","_law_sign_here","_law_some"] ["_law_pen_here","_law_text","_law_signs"] (defScope lQ):=fsc rfl rfl rfl (by decide +kernel)
theorem eQ:aN ["_law_asked","_law_caught","_law_found","error"] ["_law_asked"] (defScope kf):=fsc rfl rfl rfl (by decide +kernel)
theorem sC:aN ["_law_places","_law_last","_law_bits"] ["_law_places","_law_last","_law_bits"] (defScope iZ):=fsc rfl rfl rfl (by decide +kernel)
theorem jW:aN ["_law_places","_law_want","_law_sign_here","_law_last","_law_bits"] ["_law_places","_law_want","_law_sign_here"] (defScope lR):=fsc rfl rfl rfl (by decide +kernel)
theorem dj:aN ["_law_places","_law_text","_law_due","_law_at","_law_then_here","_law_want"] ["_law_places","_law_text"] (defScope jX):=fsc rfl rfl rfl (by decide +kernel)
theorem bN:aN ["_law_pen_here","_law_text","_law_pieces","_law_at","_law_words","_law_place","_law_other","_law_head"] ["_law_pen_here","_law_text"] (defScope fz):=fsc rfl rfl rfl (by decide +kernel)
theorem dN:aN ["_law_script","_law_pen_here","_law_turn","_law_places","_law_talk","_law_text","_law_bent","_law_k","_law_found","_law_first_here","_law_thing"] ["_law_script"] (defScope kS):=fsc rfl rfl rfl (by decide +kernel)
noncomputable abbrev cw:Stmt:=F5 (top 9)
theorem dz:aN ["self","at"] ["self","at"] (defScope cw):=fsc rfl rfl rfl (by decide +kernel)
theorem ba:(defScope cw).names.lookup ("self":Str)=some .local/\(defScope cw).names.lookup ("at":Str)=some .local:=by decide +kernel
theorem dD:∃p1 p2 p3 p4,defBody cw=[.Assign [.Attribute (.Name "self" p1) "at" p2] (.Name "at" p3) p4]:=⟨_,_,_,_,rfl⟩
set_option genInjectivity false in
structure Adr where
 bQ:Addr
 eY:FuncData
 di:Addr
 i3:FuncData
 dU:Addr
 j9:FuncData
 i9:Addr
 sR:FuncData
 dw:Addr
 jm:FuncData
 bB:Addr
 cS:FuncData
 cU:Addr
 gP:FuncData
 cR:Addr
 gU:FuncData
 f7:Addr
 pJ:FuncData
 eX:Addr
 mS:FuncData
 gm:Addr
 pR:FuncData
 bK:Addr
 dJ:FuncData
 bM:Addr
 eZ:FuncData
 bz:Addr
 dg:FuncData
 eR:Addr
 mD:FuncData
 ff:Addr
 lP:FuncData
 dy:Addr
 iF:FuncData
 dm:Addr
 i4:FuncData
 eU:Addr
 mi:FuncData
 dW:Addr
 ko:FuncData
 bZ:Addr
 fC:FuncData
 hV:Addr
 oh:FuncData
 wo:World
 cP:Addr
 b8:Addr
 b7:Addr
 d7:Addr
 nB:Addr
 C7:Addr
 dC:Addr
 db:Addr
 b9:Addr
 c7:Addr
 dc:Addr
 cJ:Addr
 d6:Addr
 da:Addr
 ao:Addr
 cT:Addr
 l6:FuncData
structure Txt(K:W.Frag)(mg:Str->Option Value)(t:Adr):Prop where
 lB:mg "must_be_text"=some (.ref t.bQ)
 mT:Fun K "must_be_text" "must_be_text" fg t.bQ t.eY
 lr:W.keepIn K (.ref t.bQ)=true
 lZ:bx K t.eY ["thing"] []
 t0:mg "must_end"=some (.ref t.di)
 sT:Fun K "must_end" "must_end" ji t.di t.i3
 ug:W.keepIn K (.ref t.di)=true
 sU:bx K t.i3 ["text","at"] []
 eG:mg "sign_at"=some (.ref t.dU)
 xu:Fun K "sign_at" "sign_at" kl t.dU t.j9
 eJ:W.keepIn K (.ref t.dU)=true
 eI:bx K t.j9 ["text","at"] []
 pd:mg "past"=some (.ref t.i9)
 D8:Fun K "past" "past" sS t.i9 t.sR
 o7:W.keepIn K (.ref t.i9)=true
 pz:bx K t.sR ["text","at","sign"] []
 sO:mg "place_at"=some (.ref t.dw)
 uk:Fun K "place_at" "place_at" iS t.dw t.jm
 uq:W.keepIn K (.ref t.dw)=true
 tN:bx K t.jm ["places","text","at"] []
 fv:mg "read_talk"=some (.ref t.bB)
 qx:Fun K "read_talk" "read_talk" g6 t.bB t.cS
 fq:W.keepIn K (.ref t.bB)=true
 fm:bx K t.cS ["places","text"] []
 rS:mg "says_from"=some (.ref t.cU)
 qb:Fun K "says_from" "says_from" hJ t.cU t.gP
 qK:W.keepIn K (.ref t.cU)=true
 qR:bx K t.gP ["places","text","at"] []
 kC:mg "word_from"=some (.ref t.cR)
 rF:Fun K "word_from" "word_from" g5 t.cR t.gU
 kA:W.keepIn K (.ref t.cR)=true
 ku:bx K t.gU ["places","text","at","last"] []
 Ca:mg "_law_pen"=some (.ref t.f7)
 Cj:Fun K "_law_pen" "_law_pen" p7 t.f7 t.pJ
 BC:W.keepIn K (.ref t.f7)=true
 BI:bx K t.pJ ["_law_script"] []
 bE:mg "_law_draw"=some (.ref t.eX)
 Ak:Fun K "_law_draw" "_law_draw" mH t.eX t.mS
 bF:W.keepIn K (.ref t.eX)=true
 bI:bx K t.mS ["_law_pen_here","_law_many"] []
 Bq:mg "_law_all"=some (.ref t.gm)
 Bc:Fun K "_law_all" "_law_all" pS t.gm t.pR
 By:W.keepIn K (.ref t.gm)=true
 Bb:bx K t.pR ["_law_places"] []
 gf:mg "_law_any_talk"=some (.ref t.bK)
 pp:Fun K "_law_any_talk" "_law_any_talk" eD t.bK t.dJ
 gg:W.keepIn K (.ref t.bK)=true
 gy:bx K t.dJ ["_law_pen_here","_law_places","_law_most","_law_share"] []
 mV:mg "_law_words_text"=some (.ref t.bM)
 mh:Fun K "_law_words_text" "_law_words_text" dM t.bM t.eZ
 me:W.keepIn K (.ref t.bM)=true
 mn:bx K t.eZ ["_law_words"] []
 eg:mg "_law_talk_text"=some (.ref t.bz)
 nc:Fun K "_law_talk_text" "_law_talk_text" fA t.bz t.dg
 ee:W.keepIn K (.ref t.bz)=true
 d9:bx K t.dg ["_law_talk"] []
 ze:mg "_law_sign"=some (.ref t.eR)
 zY:Fun K "_law_sign" "_law_sign" lV t.eR t.mD
 yk:W.keepIn K (.ref t.eR)=true
 zJ:bx K t.mD ["_law_pen_here","_law_signs"] []
 AU:mg "_law_bend"=some (.ref t.ff)
 A9:Fun K "_law_bend" "_law_bend" lQ t.ff t.lP
 yK:W.keepIn K (.ref t.ff)=true
 Ai:bx K t.lP ["_law_pen_here","_law_text","_law_signs"] []
 ie:mg "_law_heard"=some (.ref t.dy)
 wZ:Fun K "_law_heard" "_law_heard" kf t.dy t.iF
 ir:W.keepIn K (.ref t.dy)=true
 iC:bx K t.iF ["_law_asked"] []
 t9:mg "_law_behind"=some (.ref t.dm)
 uv:Fun K "_law_behind" "_law_behind" iZ t.dm t.i4
 t7:W.keepIn K (.ref t.dm)=true
 tY:bx K t.i4 ["_law_places","_law_last","_law_bits"] []
 ya:mg "_law_then"=some (.ref t.eU)
 AB:Fun K "_law_then" "_law_then" lR t.eU t.mi
 y9:W.keepIn K (.ref t.eU)=true
 AJ:bx K t.mi ["_law_places","_law_want","_law_sign_here"] []
 wX:mg "_law_first"=some (.ref t.dW)
 wV:Fun K "_law_first" "_law_first" jX t.dW t.ko
 wQ:W.keepIn K (.ref t.dW)=true
 w4:bx K t.ko ["_law_places","_law_text"] []
 ng:mg "_law_exchanged"=some (.ref t.bZ)
 mY:Fun K "_law_exchanged" "_law_exchanged" fz t.bZ t.fC
 m4:W.keepIn K (.ref t.bZ)=true
 m5:bx K t.fC ["_law_pen_here","_law_text"] []
 GO:mg "law"=some (.ref t.hV)
 Iv:Fun K "law" "law" kS t.hV t.oh
 Iu:W.keepIn K (.ref t.hV)=true
 C7:bx K t.oh ["_law_script"] []
 ET:∀(s:Shared)(v:Value),BindsTo s t.oh ⟨[v],[]⟩ [("_law_script",v)]
 pV:mg "ValueError"=none
 xQ:mg "abs"=none
 nZ:mg "int"=none
 dP:mg "isinstance"=none
 eu:mg "len"=none
 jw:mg "range"=none
 gR:mg "repr"=none
 vh:mg "str"=none
 uQ:mg "tuple"=none
 u5:mg "HANDS"=some (.ref t.d7)
 uV:StD t.wo K t.d7 [("Y",V.str "yes"),("N",V.str "no")]
 sJ:mg "BIT_SIGNS"=some (.ref t.cP)
 qu:StZ K t.cP ["0","1"]
 nh:mg "PLACE_SIGNS"=some (.ref t.b8)
 m7:StZ K t.b8 ["0","1","2","3","4"]
 m6:mg "BEHIND_SAYS"=some (.ref t.b7)
 iM:StZ K t.b7 [")","talk",";","talk","("]
 gB:wL K "law" "law" kS t.hV t.oh t.nB t.C7
 rK:mg "TalkError"=some (.ref t.dC)
 xW:mg "NoCase"=some (.ref t.db)
 sY:mg "NoSaying"=some (.ref t.b9)
 yw:mg "NoTalk"=some (.ref t.c7)
 zU:mg "NoRise"=some (.ref t.dc)
 xg:mg "TooMany"=some (.ref t.cJ)
 B5:mg "NoRow"=some (.ref t.d6)
 zS:mg "NoWord"=some (.ref t.da)
 eV:mg "NoText"=some (.ref t.ao)
 d0:Fun K "__init__" "NoText.__init__" cw t.cT t.l6
 dX:bx K t.l6 ["self","at"] []
 cF:zm K t.ao t.cT=true
 eH:tB K t.ao=true
 cC:W.kitOne K (.ref t.ao) (.ref t.db)=some false
 cB:W.kitOne K (.ref t.ao) (.ref t.dc)=some false
 cN:W.kitOne K (.ref t.ao) (.ref t.d6)=some false
 bW:W.kitOne K (.ref t.ao) (.ref t.b9)=some false
 cz:W.kitOne K (.ref t.ao) (.ref t.c7)=some false
 cy:W.kitOne K (.ref t.ao) (.ref t.da)=some false
 ci:W.kitOne K (.ref t.ao) (.ref t.cJ)=some false
 cD:W.kitOne K (.ref t.ao) (.ref t.ao)=some true
 bG:W.kitOne K (.ref t.ao) (.type "ValueError")=some true
 bP:W.exmOne K (.ref t.ao) (.ref t.dC)=some true
 jE:W.kitOne K (.type "NoneType") (.ref t.db)=some false
 jS:W.kitOne K (.type "NoneType") (.ref t.dc)=some false
 ll:W.kitOne K (.type "NoneType") (.ref t.d6)=some false
 gz:W.kitOne K (.type "NoneType") (.ref t.b9)=some false
 jL:W.kitOne K (.type "NoneType") (.ref t.c7)=some false
 jy:W.kitOne K (.type "NoneType") (.ref t.da)=some false
 ii:W.kitOne K (.type "NoneType") (.ref t.cJ)=some false
 jC:W.kitOne K (.type "NoneType") (.ref t.ao)=some false
 eE:W.kitOne K (.type "NoneType") (.type "ValueError")=some false
 sm:(K.lookup sysModules).isSome=true
 jt:(t.d7 == sysModules)=false
set_option hygiene false
local macro_rules | `(tactic| walk_at "ab")=>`(tactic| simp only[rE,wg,qk,uZ,vo,wj,im,qc,oR,vN,wC,CL,zP,wz,sE,vW,vB,qd,qH,sB,rD,vz,vw,qQ,sx,qZ,uM,At,wE,wx,uU,yX,C2,vK,zQ,zy,uL,A8,vL,nE,oq,oQ,se,rG,sy,oA,nF,vi,lL,rL,we,uA,ra,xS,vY,oE,sA,sj,vG,sH,qI,nj,wH,vU,vq,vC,rH,vM,u9,r9,nk,rq,va,n9,om,qM,oa,kB,mG,nM,n8,rk,kE,sd,sF,yB,oo,AY,uC,qp,Aj,zh,Dz,qo,sK,jr,vk,wa,wm,qg,pK,vt,r8,nu,qz,zO,u6,zk,zx,yV,xV,zL,xM,yn,ye,yf,zw,zt,qw,vy,xU,zd,AD,yj,gk,rd,Om.IA,Om.IC,sz1,sz2,sz3,sz4,sz5,sz7,sz8,sz9,Int.toNat_natCast,AR,yL,CS,Dg,DV,CY,pQ,uR,AF,yE,vj,iE,ww,Nat.zero_le,AV.d.injEq,AV.r.injEq,D.int.injEq,D.bl.injEq,D.str.injEq,D.tup.injEq,D.lst.injEq,OC.own.injEq,V.ref.injEq,V.ty.injEq,List.map_cons,List.map_nil,List.cons_append,List.nil_append,List.length_cons,List.length_nil,List.length_map,List.length_append,List.replicate,List.getElem?_cons_zero,List.getElem?_cons_succ,List.set_cons_zero,List.set_cons_succ,Option.some.injEq,Option.map_some,Option.join_some,exists_eq',exists_eq_left',List.cons.injEq,and_true,true_and,and_assoc,exists_and_left,Nat.sub_self,Nat.reduceAdd,Nat.reduceSub,Nat.reduceLeDiff,Int.reduceLT,Int.reduceLE,Int.reduceToNat,decide_eq_true_eq,Bool.not_true,Bool.not_false,if_true,if_false,Bool.false_eq_true,reduceCtorEq,false_and,and_false,or_false,false_or,exists_false,beq_iff_eq,bne_iff_ne,ne_eq,Bool.true_eq_false])
local macro_rules | `(tactic| walk_at "a1")=>`(tactic| simp only[rE,qk,uZ,vo,wj,im,qc,oR,vN,wC,CL,zP,wz,sE,vW,vB,qd,qH,sB,rD,vz,vw,qQ,sx,qZ,uM,At,wE,wx,uU,yX,C2,vK,zQ,zy,uL,A8,vL,nE,oq,oQ,se,rG,sy,oA,nF,vi,lL,rL,we,uA,ra,xS,vY,oE,sA,sj,vG,sH,qI,nj,wH,vU,vq,vC,rH,vM,u9,r9,nk,rq,va,n9,om,qM,oa,kB,mG,nM,n8,rk,kE,sd,sF,yB,oo,AY,uC,qp,Aj,zh,Dz,qo,sK,jr,vk,wa,wm,qg,pK,vt,r8,nu,qz,zO,u6,zk,zx,yV,xV,zL,xM,yn,ye,yf,zw,zt,qw,vy,xU,zd,AD,yj,gk,rd,Om.IA,Om.IC,sz1,sz2,sz3,sz4,sz5,sz7,sz8,sz9,Int.toNat_natCast,AR,yL,CS,Dg,DV,CY,pQ,uR,AF,yE,vj,iE,ww,Nat.zero_le,AV.d.injEq,AV.r.injEq,D.int.injEq,D.bl.injEq,D.str.injEq,D.tup.injEq,D.lst.injEq,OC.own.injEq,V.ref.injEq,V.ty.injEq,List.map_cons,List.map_nil,List.cons_append,List.nil_append,List.length_cons,List.length_nil,List.length_map,List.length_append,List.replicate,List.getElem?_cons_zero,List.getElem?_cons_succ,List.set_cons_zero,List.set_cons_succ,Option.some.injEq,Option.map_some,Option.join_some,exists_eq',exists_eq_left',List.cons.injEq,and_true,true_and,and_assoc,exists_and_left,Nat.sub_self,Nat.reduceAdd,Nat.reduceSub,Nat.reduceLeDiff,Int.reduceLT,Int.reduceLE,Int.reduceToNat,decide_eq_true_eq,Bool.not_true,Bool.not_false,if_true,if_false,Bool.false_eq_true,reduceCtorEq,false_and,and_false,or_false,false_or,exists_false,beq_iff_eq,bne_iff_ne,ne_eq,Bool.true_eq_false])
local macro_rules | `(tactic| walk_at "s1")=>`(tactic| (try walk_at "a1");(first|rw[wg]|rw[xI]);walk_at "a1")
set_option hygiene true
section
variable{P:Program}{w:World}{K:W.Frag}{mg:Str->Option Value}{base:Heap}{t:Adr}
noncomputable def scr(K:W.Frag)(a:Addr)(ns:List Int):AV:=.p (.ref a) (fun H=>SqL K H a (ns.map V.int))
noncomputable def HE(K:W.Frag)(te:AE)(tl th:AO):AE:=fun ρ Z Q=>te ρ Z fun x Z1=>tl ρ Z1 fun lo Z2=>th ρ Z2 fun hi Z3=>∃a ns,x=scr K a ns/\Q (.d (.lst (bC (ns.map D.int) lo hi))) Z3
theorem GQ{te:TE}{te':AE}{tl th:TO}{tl' th':AO}(he:a9 te te')(hl:Ref REq tl tl')(hh:Ref REq th th'):a9 (tSl (ke K) te tl th) (HE K te' tl' th'):=⟨fun F H Z σ ρ Q Q' rp rs w k=>
 he.go rp rs w fun x Z1 v H1 rp1 fr1 rs1 rv1 q1=>hl.go rp1 rs1 q1 fun lo Z2 lo' H2 rp2 fr2 rs2 e2 q2=>hh.go rp2 rs2 q2 fun hi Z3 hi' H3 rp3 fr3 rs3 e3 ⟨a,ns,e,q⟩=>by
  cases (show lo=lo' from e2)
  cases (show hi=hi' from e3)
  subst e;obtain⟨e4,e5⟩:=rv1.same (fr2.trans fr3).same
  exact .inl ⟨a,_,e4,e5 _ aS,(k.fr ((fr1.trans fr2).trans fr3)).lst rp3 (n6 _ ns).cut q⟩⟩
structure Pl where
 ns:List Int
 i:Int
 f:Int
 h0:0<=i
 hf:0<=f
 hn:ns.length<=63
noncomputable def plO(c:Pl):OC:=.own [.d (.lst (c.ns.map D.int)),.d (.int c.i),.d (.int c.f)]
noncomputable def lA(Z:Om)(p:Addr):Prop:=∃c,Z p=some (plO c)
theorem bY{Z:Om}{p:Addr}{c:Pl}:lA (Z.put p (plO c)) p:=⟨c,Om.IA⟩
noncomputable def Fj(K:W.Frag):ASp:=fun xs Z Q=>∃(a:Addr)(ns:List Int),xs=[scr K a ns]/\ns.length<=63/\∀p c,Z p=none->Q (.r (.ref p)) (Z.put p (plO c))
theorem EA(T:Txt K mg t):aV P w K mg base CX0 1 t.f7 t.pJ ["_law_script"] (e9 (Fj K)):=by
 refine T.Cj.okA xH (fun xs Z Q h=>by obtain⟨a,ns,rfl,_⟩:=h;rfl) (fun cdv A outer s H E hr=>⟨_,_,(ak (aL (bj (aa (aW (gT K rfl) (pv 0) bu (bb aj)) (ai aj (ai aj af)))))),(bh (lO (ac (GQ ae bT (bA av)) (ac av (ac av ah))))),fun xs Z Q h=>?_⟩)
 obtain⟨a,ns,rfl,hn,k⟩:=h;walk_at "ab";unfold HE;walk_at "ab";refine⟨a,ns,rfl,fun p hp=>?_⟩;have e:bC (ns.map D.int) none (some 63)=(bC ns none (some 63)).map D.int:=by simp[bC]
 rw[e];exact k p ⟨bC ns none (some 63),0,0,Int.le_refl _,Int.le_refl _,Nat.le_trans (by simp only[bC,List.length_take,List.length_drop];omega) hn⟩ hp
noncomputable def pF:ASp:=fun xs Z Q=>∃(p:Addr)(m:Int),xs=[.r (.ref p),.d (.int m)]/\lA Z p/\0<m/\m<1073741824/\∀(r:Int)(c:Pl),0<=r->r<m->Q (.d (.int r)) (Z.put p (plO c))
theorem jR(T:Txt K mg t):aV P w K mg base CX0 1 t.eX t.mS ["_law_pen_here","_law_many"] (e9 pF):=by
 refine T.Ak.okA cY (fun xs Z Q h=>by obtain⟨p,m,rfl,_⟩:=h;rfl) (fun cdv A outer s H E hr=>⟨_,_,(ag (j5 (pv 0) (Fb (n:=3) rfl (fc (bX (i:=2) cY.nd rfl (Or.inl rfl)) (fc (bX (i:=3) cY.nd rfl (Or.inl rfl)) (fc (bX (i:=4) cY.nd rfl (Or.inl rfl)) ph)))))
   (ag (bw (aB xP (pv 4) aj (aO _)) (ag (j5 (ay pX (pv 4) (pv 1)) (uw (pv 0) aj lp))
   (ak (aL (ay gj (pv 4) (pv 1))))) aP)
   (ag (j5 (ay (ar bd (ar aR bc)) (pv 3) aj) (uw (pv 0) aj lp))
   (ag (az (i:=5) cY.nd rfl (Or.inl rfl) aj)
   (ag (bw (aB xP (aG (bi K rfl) (by rfl) T.eu (by kernel_rfl) (aa (pv 2) af)) aj (aO _)) (ak (az (i:=5) cY.nd rfl (Or.inl rfl) (cc (aY K rfl) (pv 2) (ay gj (pv 3) (aG (bi K rfl) (by rfl) T.eu (by kernel_rfl) (aa (pv 2) af))) (fun _ _=>rfl)))) aP)
   (ag (bw (PW.pt (iU (aB yY (pv 3) (aG (bi K rfl) (by rfl) T.eu (by kernel_rfl) (aa (pv 2) af)) (aO _)) (ig (aB HI (aG my (by rfl) T.xQ (by kernel_rfl) (aa (pv 5) af)) (ay E9 aj aj) (aO _))))) (ag (j5 (ay pX (aG my (by rfl) T.xQ (by kernel_rfl) (aa (pv 5) af)) (pv 1)) (uw (pv 0) aj lp))
   (ak (aL (ay gj (aG my (by rfl) T.xQ (by kernel_rfl) (aa (pv 5) af)) (pv 1))))) aP)
   (ag (az (i:=6) cY.nd rfl (Or.inl rfl) (ay gj (ay (ar ja i8) (ay (ar bd (ar aR bc)) (ay (ar bd (ar aR bc)) (ay gj (pv 5) aj) (ay (ar ja i8) aj (pv 3))) aj) aj) aj))
   (ag (az (i:=6) cY.nd rfl (Or.inl rfl) (ay gj (ay (ar bd (ar aR bc)) (ay (ar bd (ar aR bc)) (ay (ar ja i8) (pv 6) (pv 6)) (ay (ar ja i8) aj (pv 6))) (pv 3)) aj))
   (ag (az (i:=6) cY.nd rfl (Or.inl rfl) (ay gj (ay (ar bd (ar aR bc)) (ay (ar ja i8) (pv 6) aj) (ay (ar ja i8) aj (pv 3))) aj))
   (ak (aL (ay gj (ay pX (ay gj (ay (ar ja i8) (pv 6) (pv 6)) aj) aj) (pv 1))))))))))))),(aD (aM ae (GG (jj aq (jj aq (jj aq za)))))
   (aD (dS (aK (am l7 ae av)) (aD (aM (am kt ae ae) (yZ ae av))
   (bh (am kt ae ae))) a7)
   (aD (aM (am bS ae av) (yZ ae av))
   (aD (aM av aq)
   (aD (dS (aK (am l7 (cg mf (ac ae ah)) av)) (aM (am eB ae (am kt ae (cg mf (ac ae ah)))) aq) a7)
   (aD (dS (lC (aK (am l7 ae (cg mf (ac ae ah)))) (aK (am l7 (cg Fy (ac ae ah)) (am kt av av)))) (aD (aM (am kt (cg Fy (ac ae ah)) ae) (yZ ae av))
   (bh (am kt (cg Fy (ac ae ah)) ae))) a7)
   (aD (aM (am kt (am lD (am bS (am bS (am kt ae av) (am lD av ae)) av) av) av) aq)
   (aD (aM (am kt (am bS (am bS (am lD ae ae) (am lD av ae)) ae) av) aq)
   (aD (aM (am kt (am bS (am lD ae av) (am lD av ae)) av) aq)
   (bh (am kt (am kt (am kt (am lD ae ae) av) av) ae))))))))))),fun xs Z Q h=>?_⟩)
 obtain⟨p,m,rfl,⟨c,hp⟩,hm,hm2,k⟩:=h;have fin:∀(r:Int)(c:Pl),Q (.d (.int (r%m))) (Z.put p (plO c)):=fun r c=>k _ c (Int.emod_nonneg _ (by omega)) (Int.emod_lt_of_pos _ hm)
 unfold plO at hp;walk_at "s1";rw[hp];refine⟨_,rfl,rfl,_,_,rfl,_,_,rfl,_,_,rfl,rfl,?_⟩;walk_at "s1";refine pP (fun h1=>?_) (fun h1=>?_)
 ·walk_at "ab"
  simp only[hp];walk_at "ab";exact⟨⟨hm,hm2⟩,hm,fin _ ⟨c.ns,c.i,c.f / m,c.h0,Int.ediv_nonneg c.hf (by omega),c.hn⟩⟩
 ·walk_at "s1"
  simp only[hp];walk_at "a1";walk_at "s1";refine pq (fun ρ' Z'=>Z'=Z.put p (OC.own [AV.d (D.lst (c.ns.map D.int)),AV.d (D.int (c.i+1)),AV.d (D.int c.f)])/\∃x:Int,ρ'=[some (AV.r (V.ref p)),some (AV.d (D.int m)),some (AV.d (D.lst (c.ns.map D.int))),some (AV.d (D.int c.i)),some (AV.d (D.int c.f)),some (AV.d (D.int x)),none]) (fun M kM=>?_) ?_
  ·walk_at "a1"
   refine pP (fun h2=>?_) (fun h2=>?_)
   ·have hx1:0<=c.i%(c.ns.length:Int):=Int.emod_nonneg _ (by omega)
    have hx2:c.i%(c.ns.length:Int)<(c.ns.length:Int):=Int.emod_lt_of_pos _ h2;obtain⟨y,_,_,ey⟩:=BK (f:=AV.d ∘ D.int) (xs:=c.ns) hx1 hx2;rw[←List.map_map] at ey
    exact⟨h2,_,ey,kM _ _ ⟨rfl,_,rfl⟩⟩
   ·exact kM _ _ ⟨rfl,_,rfl⟩
  rintro ρ Z' ⟨rfl,x,rfl⟩;have absn:∀z:Int,0<=(if z<0 then -z else z):=fun z=>by split<;>omega
  refine pq (fun ρ' Z'=>Z'=Z.put p (OC.own [AV.d (D.lst (c.ns.map D.int)),AV.d (D.int (c.i+1)),AV.d (D.int c.f)])/\ρ'=[some (AV.r (V.ref p)),some (AV.d (D.int m)),some (AV.d (D.lst (c.ns.map D.int))),some (AV.d (D.int c.i)),some (AV.d (D.int c.f)),some (AV.d (D.int x)),none]) (fun M kM=>?_) ?_
  ·walk_at "a1"
   refine pP (fun h2=>⟨⟨by decide,by decide,by decide⟩,pP (fun h3=>?_) (fun h3=>kM _ _ ⟨rfl,rfl⟩)⟩) (fun h2=>kM _ _ ⟨rfl,rfl⟩)
   walk_at "ab";exact⟨⟨hm,hm2⟩,hm,fin _ ⟨c.ns,c.i+1,(if x<0 then -x else x) / m,by have:=c.h0;omega,Int.ediv_nonneg (absn x) (by omega),c.hn⟩⟩
  rintro ρ Z' ⟨rfl,rfl⟩;walk_at "ab";exact⟨tK (by decide),yQ (by decide),rj (by decide) (by decide),tK (by decide),yQ (by decide),tK (by decide),rj (by decide) (by decide),⟨by decide,by decide⟩,hm,fin _ ⟨c.ns,c.i+1,c.f,by have:=c.h0;omega,c.hf,c.hn⟩⟩
theorem xb{H:Hp}{a:Addr}{ns:List Int}(h:SqL K H a (ns.map V.int)):RV (cut (fun _=>false) H (fun _=>none)) (scr K a ns) (.ref a):=by
 refine⟨rfl,fun G' s=>?_⟩;have s2:c8 H G':=fun b o e=>s b o (bH.mpr ⟨rfl,rfl,e⟩);rcases h with(h|⟨o,h⟩)|h
 ·exact .inl (.inl (s2 _ _ h))
 ·exact .inl (.inr ⟨o,s2 _ _ h⟩)
 ·exact .inr h
theorem Io{H:Hp}:Rep (fun _=>false) H (fun _=>none):=⟨fun _ _ h=>by simp at h,fun _ _ h=>by simp at h,fun _ h=>by simp at h,fun _ _ h=>by simp at h⟩
noncomputable def Bf(K:W.Frag):ASp:=fun xs Z Q=>∃(a:Addr)(ns:List Int),xs=[scr K a ns]/\ns.length<=63/\Z=(fun _=>none)/\∀Z',Q (.d (.bl true)) Z'
noncomputable def pG(K:W.Frag):Sp:=e9 (Bf K)
theorem xx{K:W.Frag}{H:Hp}{a:Addr}{ns:List Int}(hl:ns.length<=63)(hO:Gi H)(hS:SqL K H a (ns.map V.int)):pG K [.ref a] H (fun v _=>v=.bl true) fun _ _ _=>False:=
 ⟨fun _=>false,[scr K a ns],fun _=>none,fun a _=>a=.d (.bl true),Io,⟨_,_,rfl,xb hS,rfl⟩,⟨a,ns,rfl,hl,rfl,fun _=>rfl⟩,fun a Z' v H' _ _ rv q=>by subst q;exact DJ rv⟩
noncomputable def FL:ASp:=fun xs Z Q=>∃n:Nat,xs=[.d (.int n)]/\n<=5/\Q (.d (.lst ((wl n).map wdD))) Z
theorem EI(T:Txt K mg t):aV P w K mg base CX0 1 t.gm t.pR ["_law_places"] (e9 FL):=by
 refine T.Bc.okD fe (fun xs Z Q h=>by obtain⟨n,rfl,_⟩:=h;rfl) (fun cdv A outer s H E hr=>⟨_,_,(ag (az (i:=1) fe.nd rfl (Or.inl rfl) (bj (bD (a8 af) af)))
   (ag (je PassesOwn.never rfl (io rfl T.jw (aa (pv 0) af)) (bX (i:=2) fe.nd rfl (Or.inl rfl)) (ag (az (i:=3) fe.nd rfl (Or.inl rfl) (bj af))
   (ag (je PassesOwn.never rfl (mI K rfl (pv 1)) (bX (i:=4) fe.nd rfl (Or.inl rfl)) (ak (az (i:=3) fe.nd rfl (Or.inl rfl) (ay (ar bd (ar aR bc)) (pv 3) (bj (aa (ay (ar bd (ar aR bc)) (pv 4) (a8 (ai aj af))) (aa (ay (ar bd (ar aR bc)) (pv 4) (a8 (ai aj af))) af)))))))
   (ak (az (i:=1) fe.nd rfl (Or.inl rfl) (pv 3))))))
   (ak (aL (pv 1))))),(aD (aM (cL (ac (bV ah) ah)) aq)
   (aD (oK (pZ (ac ae ah)) aq (aD (aM (cL ah) aq)
   (aD (oK (rB ae) aq (aM (am bS ae (cL (ac (am bS ae (bV (ac av ah))) (ac (am bS ae (bV (ac av ah))) ah)))) aq))
   (aM ae aq))))
   (bh ae))),fun xs Z Q h=>?_⟩)
 obtain⟨n,rfl,hn,k⟩:=h;walk_at "ab";refine⟨by omega,by omega,?_⟩
 refine k8 (fun i ρ Z'=>Z'=Z/\∃v2 v3 v4,ρ=[some (.d (.int n)),some (.d (.lst ((wl i).map wdD))),v2,v3,v4]) ⟨rfl,_,_,_,rfl⟩ ?_ ?_
 ·rintro i ρ Z1 N hi ⟨rfl,v2,v3,v4,rfl⟩ kN
  have hw:=vv (n:=i) (by omega)
  walk_at "ab";refine DS (fun j ρ Z2=>Z2=Z1/\∃v4,ρ=[some (.d (.int n)),some (.d (.lst ((wl i).map wdD))),some (.d (.int (0+i))),some (.d (.lst (((((wl i).take j).flatMap fun w=>[w++[0],w++[1]]).map wdD)))),v4]) ⟨rfl,_,rfl⟩ ?_ ?_
  ·rintro j d ρ Z2 M hd ⟨rfl,v4,rfl⟩ kM
   obtain⟨x,hx,rfl⟩:=Bt hd;have hx1:=(ez (List.mem_of_getElem? hx)).1;have hj:=(List.getElem?_eq_some_iff.mp hx).1
   have hl2:((((wl i).take j).flatMap fun w=>[w++[0],w++[1]]).length)=2*j:=by
    have h:∀ws:List (List Int),(ws.flatMap fun w=>[w++[0],w++[1]]).length=2*ws.length:=fun ws=>by
     induction ws with
     |nil=>rfl
     |cons a r ih=>rw[List.flatMap_cons,List.length_append,ih];simp;omega
    rw[h,List.length_take];omega
   walk_at "ab"
   have et:(((wl i).take (j+1)).flatMap fun w=>[w++[0],w++[1]])=((wl i).take j).flatMap (fun w=>[w++[0],w++[1]])++[x++[0],x++[1]]:=by
    rw[List.take_succ,hx,List.flatMap_append];simp
   exact⟨tS (m:=0) (by omega),tS (m:=0) (by omega),tS (m:=0) (by rw[hl2];omega),kM _ _ ⟨rfl,some (.d (wdD x)),by rw[et];simp⟩⟩
  ·rintro ρ Z2 ⟨rfl,v4,rfl⟩
   rw[List.length_map,List.take_length];walk_at "ab";exact kN _ _ ⟨rfl,_,_,_,rfl⟩
 ·rintro ρ Z1 ⟨rfl,v2,v3,v4,rfl⟩
  walk_at "ab";rw[aA];exact k
theorem c6{n:Nat}(h:n<=10000):n<=sizeLine:=Nat.le_trans h (by decide)
theorem yz(l:List Nat){a b:Nat}(hab:a<=b)(hb:b<=l.length):Txt.slice (tx l) (some (a:Int)) (some (b:Int))=tx ((l.drop a).take (b-a)):=by
 unfold Txt.slice;have h1:=StrLaws.sliced_plain (tx l) (a:=a) (b:=b) hab (by rw[al];exact hb)
 have h2:=StrLaws.strSliceIndices_plain (a:=a) (b:=b) (len:=(tx l).length) hab (by rw[al];exact hb)
 rw[h1,h2,List.length_map,List.length_range,al];split
 ·rename_i h
  have hl:b-a=l.length:=by simpa using h
  have a0:a=0:=by omega
  subst a0;rw[List.drop_zero,List.take_of_length_le (by omega)]
 ·simp[tx]
theorem jV(a:Nat)(len:Nat):(if ((a:Int)<0) then (a:Int)+len else (a:Int))=a:=by rw[if_neg (by omega)]
theorem jO(l:List Nat){a b:Nat}(hab:a<=b):Txt.slice (tx l) (some (a:Int)) (some (b:Int))=tx ((l.drop a).take (b-a)):=by
 have e:Builtin.Str.strSliceIndices (some (a:Int)) (some (b:Int)) 1 (tx l).length=Builtin.Str.strSliceIndices (some ((min a l.length:Nat):Int)) (some ((min b l.length:Nat):Int)) 1 (tx l).length:=by
  unfold Builtin.Str.strSliceIndices;rw[al];simp only[show (1:Int)>0 by decide,if_true,jV]
  congr 1<;>omega
 have h:=yz l (a:=min a l.length) (b:=min b l.length) (by omega) (by omega)
 unfold Txt.slice at h ⊢;rw[e,h]
 congr 1
 by_cases ha:a<=l.length
 ·rw[show min a l.length=a by omega]
  by_cases hb:b<=l.length
  ·rw[show min b l.length=b by omega]
  ·rw[List.take_of_length_le (by simp;omega),List.take_of_length_le (by simp;omega)]
 ·rw[List.drop_eq_nil_of_le (by omega),List.drop_eq_nil_of_le (by omega)]
  simp
theorem jH(l:List Nat)(b:Nat):Txt.slice (tx l) none (some (b:Int))=tx (l.take b):=by
 have e:Builtin.Str.strSliceIndices none (some (b:Int)) 1 (tx l).length=Builtin.Str.strSliceIndices (some ((0:Nat):Int)) (some (b:Int)) 1 (tx l).length:=by
  unfold Builtin.Str.strSliceIndices;simp only[show (1:Int)>0 by decide,if_true]
  congr 1
 have h:=jO l (a:=0) (b:=b) (by omega)
 unfold Txt.slice at h ⊢;rw[e,h];simp
theorem AH(l:List Nat)(a:Nat):Txt.slice (tx l) (some (a:Int)) none=tx (l.drop a):=by
 have e:Builtin.Str.strSliceIndices (some (a:Int)) none 1 (tx l).length=Builtin.Str.strSliceIndices (some (a:Int)) (some ((a+l.length:Nat):Int)) 1 (tx l).length:=by
  unfold Builtin.Str.strSliceIndices;rw[al];simp only[show (1:Int)>0 by decide,if_true,jV]
  congr 1
  omega
 have h:=jO l (a:=a) (b:=a+l.length) (by omega)
 unfold Txt.slice at h ⊢;rw[e,h,List.take_of_length_le (by simp)]
noncomputable def sgT(l:List Nat)(i:Nat):List Nat:=(l[i]?).toList
noncomputable def Ee:ASp:=fun xs Z Q=>∃(l:List Nat)(i:Nat),xs=[.d (.str (tx l)),.d (.int i)]/\l.length<=10000/\Q (.d (.str (tx (sgT l i)))) Z
theorem mC(T:Txt K mg t):aV P w K mg base CX0 1 t.dU t.j9 ["text","at"] (e9 Ee):=by
 refine T.xu.okD tE (fun xs Z Q h=>by obtain⟨l,i,rfl,_⟩:=h;rfl) (fun cdv A outer s H E hr=>⟨_,_,(ak (aL (aW c5 (pv 0) (bb (pv 1)) (bb (ay (ar bd (ar aR bc)) (pv 1) aj))))),(bh (eS ae (bA ae) (bA (am bS ae av)))),fun xs Z Q h=>?_⟩)
 obtain⟨l,i,rfl,hl,k⟩:=h;walk_at "a1";refine⟨by rw[al];exact c6 hl,?_⟩
 have e:=jO l (a:=i) (b:=i+1) (by omega)
 have e2:(l.drop i).take (i+1-i)=sgT l i:=by
  unfold sgT;rw[show i+1-i=1 by omega]
  cases h:l[i]? with
  |none=>rw[List.drop_eq_nil_of_le (List.getElem?_eq_none_iff.mp h)];rfl
  |some c=>
   obtain⟨hi,e⟩:=List.getElem?_eq_some_iff.mp h;rw[List.drop_eq_getElem_cons hi,e];rfl
 rw[e2] at e;rw[show ((i:Int)+1)=((i+1:Nat):Int) by omega,e,aA]
 exact k
noncomputable def Eu(t:Adr):dh:=fun xs Z Q Ex=>∃d,xs=[.d d]/\(isD "str" d=true->Q (.d .non) Z)/\(isD "str" d=false->Ex (enC t.ao 0) Z)
theorem D5(T:Txt K mg t):aV P w K mg base (CXn P w) 3 t.bQ t.eY ["thing"] (ft (Eu t)):=by
 refine T.mT.okN kT (fun xs Z Q Ex h=>by obtain⟨d,rfl,_⟩:=h;rfl) (fun cdv A outer s H E hr=>⟨_,_,(ak (bw (PT.nox (tO (eM K rfl (aG qV (by rfl) T.dP (by kernel_rfl) (aa (pv 0) (aa (p5 (v:=.ty "str") (by rfl) T.vh (by kernel_rfl) (by rfl)) af))) (fun _=>rfl)))) (ak (eN (hr.mono (by omega)) (by rfl) T.eV T.cF T.d0 dz ba.1 ba.2 T.dX dD (ai aj af))) aP)),(pE (yJ (nL (cg CN (ac ae (ac fh ah))))) (fL (ac av ah)) (dQ a7)),fun xs Z Q Ex h=>?_⟩)
 obtain⟨d,rfl,k1,k2⟩:=h;walk_at "a1";refine⟨by decide,?_⟩
 rw[aA]
 cases h:isD "str" d with
 |true=>exact k1 h
 |false=>exact⟨0,rfl,k2 h⟩
noncomputable def BM(t:Adr):dh:=fun xs Z Q Ex=>∃(l:List Nat)(p:Nat),xs=[.d (.str (tx l)),.d (.int p)]/\l.length<=10000/\(p<l.length->Ex (enC t.ao p) Z)/\(¬ p<l.length->Q (.d .non) Z)
theorem Bw(T:Txt K mg t):aV P w K mg base (CXn P w) 3 t.di t.i3 ["text","at"] (ft (BM t)):=by
 refine T.sT.okN qC (fun xs Z Q Ex h=>by obtain⟨l,p,rfl,_⟩:=h;rfl) (fun cdv A outer s H E hr=>⟨_,_,(ak (bw (PT.nox (aB yY (pv 1) (aG (bi K rfl) (by rfl) T.eu (by kernel_rfl) (aa (pv 0) af)) (aO _))) (ak (eN (hr.mono (by omega)) (by rfl) T.eV T.cF T.d0 dz ba.1 ba.2 T.dX dD (aa (pv 1) af))) aP)),(pE (aK (am l7 ae (cg fF (ac ae ah)))) (fL (ac ae ah)) (dQ a7)),fun xs Z Q Ex h=>?_⟩)
 obtain⟨l,p,rfl,hl,k1,k2⟩:=h;walk_at "a1";refine⟨by rw[al];exact c6 hl,?_⟩
 rw[al,aA];refine pP (fun h=>⟨p,rfl,k1 (by omega)⟩) (fun h=>k2 (by omega))
theorem Bz:∀n:Fin 6,bC [Str.ofString "0",Str.ofString "1",Str.ofString "2",Str.ofString "3",Str.ofString "4"] none (some (n.val:Int))=(List.range n.val).map fun i=>tx [48+i]:=by decide +kernel
theorem vT:∀i:Fin 10,PySem.intText? (tx [48+i.val])=some (i.val:Int):=by decide +kernel
noncomputable def fig(n c:Nat):Bool:=decide (48<=c/\c<48+n)
theorem uT{n:Nat}(hn:n<=5)(s:List Nat):tx s∈bC [Str.ofString "0",Str.ofString "1",Str.ofString "2",Str.ofString "3",Str.ofString "4"] none (some (n:Int))↔∃c,s=[c]/\fig n c=true:=by
 have:=Bz ⟨n,by omega⟩
 simp only at this;rw[this,List.mem_map];constructor
 ·rintro⟨i,hi,e⟩
  have hi:=List.mem_range.mp hi;exact⟨48+i,(cZ.mp e).symm,by unfold fig;exact decide_eq_true ⟨by omega,by omega⟩⟩
 ·rintro⟨c,rfl,h⟩
  have h:48<=c/\c<48+n:=of_decide_eq_true h;exact⟨c-48,List.mem_range.mpr (by omega),by rw[show 48+(c-48)=c by omega]⟩
noncomputable def D4(t:Adr):dh:=fun xs Z Q Ex=>∃(n:Nat)(l:List Nat)(i:Nat),xs=[.d (.int n),.d (.str (tx l)),.d (.int i)]/\n<=5/\l.length<=10000/\(∀c,l[i]?=some c->fig n c=true->Q (.d (.int (c-48:Nat))) Z)/\((∀c,l[i]?=some c->fig n c=false)->Ex (enC t.ao i) Z)
theorem Ek(T:Txt K mg t):aV P w K mg base (CXn P w) 3 t.dw t.jm ["places","text","at"] (ft (D4 t)):=by
 have G_sign_at:aV P w K mg base _ _ _ _ _ _:=mC T
 refine T.uk.okN ky (fun xs Z Q Ex h=>by obtain ⟨n,l,i,rfl,_⟩:=h;rfl) (fun cdv A outer s H E hr=>⟨_,_,(ag (PS.nox (az (i:=3) ky.nd rfl (Or.inl rfl) (ax G_sign_at (hr.mono (by omega)) (by rfl) T.eG T.eJ T.eI .nil bq (aa (pv 1) (aa (pv 2) af)))))
   (ag (bw (PT.nox (aB (nz K rfl hr.IE) (pv 3) (aW (An K rfl) (cW (v:=.ref t.b8) rfl T.nh rfl) bu (bb (pv 0))) (by with_unfolding_all rfl))) (ak (eN (hr.mono (by omega)) (by rfl) T.eV T.cF T.d0 dz ba.1 ba.2 T.dX dD (aa (pv 2) af))) aP)
   (ak (PS.nox (aL (cE ou (by rfl) T.nZ (by kernel_rfl) (aa (pv 3) af))))))),(cf (dQ (aM (aT (ac ae (ac ae ah))) aq))
   (cf (pE (aK (am Dr ae (G6 fh bT (bA ae)))) (fL (ac ae ah)) (dQ a7))
   (dQ (bh (cg z8 (ac ae ah)))))),fun xs Z Q Ex h=>?_⟩)
 obtain⟨n,l,i,rfl,hn,hl,k1,k2⟩:=h;walk_at "s1";refine⟨l,i,rfl,hl,?_⟩;walk_at "s1";refine⟨_,.inl ⟨_,rfl,T.m7⟩,fun a=>⟨_,.inr ⟨a,rfl⟩,?_⟩⟩;by_cases h:tx (sgT l i)∈bC [Str.ofString "0",Str.ofString "1",Str.ofString "2",Str.ofString "3",Str.ofString "4"] none (some (n:Int))
 ·rw[if_neg (by rw[decide_eq_true h];simp)]
  obtain⟨c,ec,hf⟩:=(uT hn _).mp h
  have hc:l[i]?=some c:=by
   unfold sgT at ec
   cases e:l[i]? with
   |none=>rw[e] at ec;simp at ec
   |some d=>rw[e] at ec;simp at ec;rw[ec]
  have h2:48<=c/\c<48+n:=of_decide_eq_true hf;rw[ec];have e:=vT ⟨c-48,by omega⟩
  simp only[show 48+(c-48)=c by omega] at e
  refine⟨_,e,by rw[al];simp,?_⟩
  rw[aA];exact k1 c hc hf
 ·rw[if_pos (by rw[decide_eq_false h];simp)]
  refine⟨i,rfl,?_⟩;rw[aA];refine k2 fun c hc=>?_
  cases hf:fig n c with
  |false=>rfl
  |true=>exact absurd ((uT hn _).mpr ⟨c,by unfold sgT;rw[hc];rfl,hf⟩) h
theorem dr1{l:List Nat}{i c:Nat}{r:List Nat}(h:l.drop i=c::r):l[i]?=some c/\l.drop (i+1)=r/\i+1<=l.length:=by
 have hi:i<l.length:=by
  by_cases hi:i<l.length
  ·exact hi
  ·rw[List.drop_eq_nil_of_le (by omega)] at h;cases h
 rw[List.drop_eq_getElem_cons hi] at h;injection h with h1 h2;exact⟨by rw[List.getElem?_eq_getElem hi,h1],h2,hi⟩
noncomputable def btx(v:List Int):List Nat:=v.map fun b=>48+b.toNat
noncomputable def ltB:List Int->List Int->Bool
 |x::xs,y::ys=>if x=y then ltB xs ys else decide (x<y)
 |_,_=>false
theorem Dq:∀(v u:List Int)(k:Nat),(∀b∈v,b=0\/b=1)->(∀b∈u,b=0\/b=1)->v.length=u.length->ltB u v=true->bv (v.take k++List.replicate (v.length-k) 1) u=false
 | [],[],k,_,_,_,h=>by simp[ltB] at h
 | [],y::u,k,_,_,hl,_=>by simp at hl
 |x::v,[],k,_,_,hl,_=>by simp at hl
 |x::v,y::u,k,hv,hu,hl,h=>by
  have hx:=hv x (List.mem_cons_self ..);have hy:=hu y (List.mem_cons_self ..);have ih:=fun k=>Dq v u k (fun b hb=>hv b (List.mem_cons_of_mem _ hb)) (fun b hb=>hu b (List.mem_cons_of_mem _ hb)) (by simpa using hl)
  simp only[ltB] at h
  cases k with
  |zero=>
   have:=ih 0;simp only[List.take_zero,List.nil_append,Nat.sub_zero] at this ⊢;rw[List.length_cons,List.replicate_succ,bv];by_cases e:(1:Int)=y
   ·rw[if_pos e]
    by_cases e2:y=x
    ·rw[if_pos e2] at h;exact this h
    ·rw[if_neg e2,decide_eq_true_eq] at h;omega
   ·rw[if_neg e]
    exact decide_eq_false (by omega)
  |succ k=>
   rw[List.take_succ_cons,List.cons_append,List.length_cons,Nat.add_sub_add_right,bv];by_cases e:x=y
   ·rw[if_pos e]
    rw[if_pos e.symm] at h;exact ih k h
   ·rw[if_neg e]
    rw[if_neg (fun z=>e z.symm),decide_eq_true_eq] at h;exact decide_eq_false (by omega)
noncomputable def wtx(ws:List (List Int)):List Nat:=if ws=[] then [45] else jn [44] (ws.map btx)
noncomputable def tlT:List (List Int)->List Nat->List Nat
 | [],r=>93::r
 |v::vs,r=>44::(btx v++tlT vs r)
theorem AM:∀(v:List Int) (vs:List (List Int)) (r:List Nat),jn [44] ((v::vs).map btx)++93::r=btx v++tlT vs r
 |v,[],r=>rfl
 |v,u::vs,r=>by
  have:=AM u vs r;simp only[List.map_cons] at this ⊢;rw[jn,List.append_assoc,List.append_assoc,this];rfl
theorem vZ{α:Type}{xs:List α}{a:α}:atI (xs++[a]) (-1)=some a:=by
 unfold atI ixN;rw[if_neg (by decide),if_pos (by simp;omega)]
 show (xs++[a])[((-1:Int)+((xs++[a]).length:Nat)).toNat]?=some a;have:((-1:Int)+((xs++[a]).length:Nat)).toNat=xs.length:=by simp;omega
 rw[this];simp
theorem CP:∀n:Fin 6,(wl n.val).Pairwise fun a b=>ltB a b=true/\(0:Int)∈a:=by decide +kernel
noncomputable def ttx:Ta->List Nat
 |.en i=>[48+i.toNat]
 |.nd y ws a b=>(if y then 89 else 78)::91::(wtx ws++93::40::(ttx a++59::(ttx b++[41])))
noncomputable def sbT(n:Nat):Ta->Prop
 |.en i=>0<=i/\i<n
 |.nd _ ws l r=>ws.Sublist (wl n)/\sbT n l/\sbT n r
inductive Pt where
 |ta (u:Ta)
 |op
 |sm
 |cl
noncomputable def Pt.tx:Pt->List Nat
 |.ta u=>ttx u
 |.op=>[40]
 |.sm=>[59]
 |.cl=>[41]
noncomputable def Pt.wd:Pt->Str
 |.ta _=>"talk"
 |.op=>"("
 |.sm=>";"
 |.cl=>")"
noncomputable def ptT(p:List Pt):List Nat:=p.flatMap Pt.tx
noncomputable def Pt.ok(n:Nat):Pt->Prop
 |.ta u=>sbT n u
 |_=>True
noncomputable abbrev Bg:=Bool×List (List Int)
noncomputable def bgD(b:Bg):D:=.tup [.str (if b.1 then "yes" else "no"),.tup (b.2.map wdD)]
noncomputable def kY:List Pt->List Bg->List Ta->Option (List Ta)
 | [],_,d=>some d
 |.ta u::p,b,d=>kY p b (u::d)
 |.op::p,b,d=>kY p b d
 |.sm::p,b,d=>kY p b d
 |.cl::p,g::b,r::l::d=>kY p b (.nd g.1 g.2 l r::d)
 |.cl::_,_,_=>none
noncomputable def bgA(b:List Bg):List AV:=(b.reverse.map bgD).map AV.d
noncomputable def dtA(d:List Ta):List AV:=(d.reverse.map Ta.d).map AV.d
theorem rM(a:Bg)(j:List Bg):bgA (a::j)=bgA j++[.d (bgD a)]:=by simp[bgA]
theorem jU(x:Ta)(d:List Ta):dtA (x::d)=dtA d++[.d x.d]:=by simp[dtA]
theorem gG(e:Pt)(p:List Pt):ptT (e::p)=e.tx++ptT p:=by simp[ptT]
theorem zA{i j:Nat}{R:AS}{D:ce}{ρ:SA}{Z:Om}{l:Addr}{xs:List AV}{y:AV}(h1:ρ[i]?=some (some (.r (.ref l))))(h2:Z l=some (.own (xs++[y])))(q:R D (ρ.set j (some y)) (Z.put l (.own xs))):Ci (Ck (AZ (Ba i)) (jZ j)) R D ρ Z:=
 ⟨_,h1,l,xs++[y],y,rfl,h2,by simp,by rw[List.dropLast_concat];exact q⟩
noncomputable def wr(t:List Nat)(last:List Int):Nat->Nat->List Int->Except Nat (List Int)
 |0,_,w=>.ok w
 |k+1,i,w=>match t[i]? with
  |none=>.error i
  |some c=>if c=48\/c=49 then (if bv (w++[((c-48:Nat):Int)]++List.replicate k 1) last=true then .error i else wr t last k (i+1) (w++[((c-48:Nat):Int)])) else .error i
noncomputable def sl(n:Nat)(t:List Nat):Nat->Nat->List (List Int)->List Int->Except Nat (List (List Int)×Nat)
 |0,i,_,_=>.error i
 |f+1,i,ws,u=>
  if t[i]?=some 44/\(0:Int)∈u then
   match wr t u n (i+1) [] with
   |.error q=>.error q
   |.ok v=>sl n t f (i+1+n) (ws++[u]) v
  else if t[i]?=some 93 then .ok (ws++[u],i+1) else .error i
noncomputable def sf(n:Nat)(t:List Nat)(i:Nat):Except Nat (List (List Int)×Nat):=
 if t[i]?=some 91 then
  if t[i+1]?=some 45 then (if t[i+2]?=some 93 then .ok ([],i+3) else .error (i+2))
  else match wr t [] n (i+1) [] with
   |.error q=>.error q
   |.ok v=>sl n t (t.length+1) (i+1+n) [] v
 else .error i
inductive Wt where
 |ta
 |op
 |sm
 |cl
noncomputable def pt(n:Nat)(t:List Nat):Nat->Nat->List Wt->List Bg->List Ta->Except Nat (List Ta)
 |0,i,_,_,_=>.error i
 |_+1,i,[],_,d=>if i<t.length then .error i else .ok d
 |f+1,i,.ta::W,b,d=>match t[i]? with
  |none=>.error i
  |some c=>if c=89\/c=78 then
    match sf n t (i+1) with
    |.error q=>.error q
    |.ok r=>pt n t f r.2 (.op::.ta::.sm::.ta::.cl::W) ((decide (c=89),r.1)::b) d
   else if fig n c=true then pt n t f (i+1) W b (.en (c-48:Nat)::d) else .error i
 |f+1,i,.op::W,b,d=>if t[i]?=some 40 then pt n t f (i+1) W b d else .error i
 |f+1,i,.sm::W,b,d=>if t[i]?=some 59 then pt n t f (i+1) W b d else .error i
 |f+1,i,.cl::W,b,d=>if t[i]?=some 41 then match b,d with
   |g::b,r::l::d=>pt n t f (i+1) W b (.nd g.1 g.2 l r::d)
   |_,_=>.error i
  else .error i
inductive Fq where
 |ta
 |ch (c:Nat)
 |wd (last bits:List Int)
 |mo (bits:List Int)
noncomputable def th(n c:Nat):Fq->Option (List Fq)
 |.ta=>if c=89\/c=78 then some [.ch 91,.wd [] [],.ch 93,.ch 40,.ta,.ch 59,.ta,.ch 41] else if fig n c=true then some [] else none
 |.ch x=>if c=x then some [] else none
 |.mo b=>if c=44/\(0:Int)∈b then some [.wd b []] else none
 |.wd last b=>if last=[]/\b=[]/\c=45 then some [] else
  if c=48\/c=49 then
   (if bv (b++[((c-48:Nat):Int)]++List.replicate (n-(b.length+1)) 1) last=true then none
   else if b.length+1<n then some [.wd last (b++[((c-48:Nat):Int)])] else some [.mo (b++[((c-48:Nat):Int)])])
  else none
noncomputable def stp(n c:Nat):List Fq->Option (List Fq)
 | []=>none
 |x::W=>match th n c x with
  |some v=>some (v++W)
  |none=>match x with
   |.mo _=>stp n c W
   |_=>none
noncomputable def fa(n:Nat)(t:List Nat):Nat->Nat->List Fq->Option Nat
 |0,i,_=>some i
 |f+1,i,W=>match t[i]? with
  |none=>if W.isEmpty then none else some i
  |some c=>match stp n c W with
   |none=>some i
   |some W'=>fa n t f (i+1) W'
theorem vH(n:Nat)(t:List Nat):∀(f g i:Nat)(W:List Fq),t.length<f+i->t.length<g+i->i<=t.length->fa n t f i W=fa n t g i W
 |0,g,i,W,h1,_,h3=>by omega
 |f+1,0,i,W,_,h2,h3=>by omega
 |f+1,g+1,i,W,h1,h2,h3=>by
  unfold fa
  cases h:t[i]? with
  |none=>rfl
  |some c=>
   have:=(List.getElem?_eq_some_iff.mp h).1;dsimp only
   cases stp n c W with
   |none=>rfl
   |some W'=>exact vH n t f g (i+1) W' (by omega) (by omega) (by omega)
noncomputable def fb(n:Nat)(t:List Nat)(i:Nat)(W:List Fq):Option Nat:=fa n t (t.length+1) i W
theorem dO{n:Nat}{t:List Nat}{i:Nat}{W:List Fq}(hi:i<=t.length):fb n t i W=match t[i]? with
  |none=>if W.isEmpty then none else some i
  |some c=>match stp n c W with
   |none=>some i
   |some W'=>fb n t (i+1) W':=by
 unfold fb;rw[fa]
 cases h:t[i]? with
 |none=>rfl
 |some c=>
  have:=(List.getElem?_eq_some_iff.mp h).1;dsimp only
  cases stp n c W with
  |none=>rfl
  |some W'=>exact vH n t _ _ (i+1) W' (by omega) (by omega) (by omega)
theorem oY{n:Nat}{t:List Nat}{i:Nat}{x:Fq}{W:List Fq}(hi:i<=t.length)(h:t[i]?=none):fb n t i (x::W)=some i:=by
 rw[dO hi,h];rfl
theorem nU{n:Nat}{t:List Nat}{i c:Nat}{W:List Fq}(hi:i<=t.length):fb n t i (.ch c::W)=if t[i]?=some c then fb n t (i+1) W else some i:=by
 rw[dO hi]
 cases h:t[i]? with
 |none=>rw[if_neg (by simp)];rfl
 |some x=>
  by_cases e:x=c
  ·subst e
   rw[if_pos rfl];simp[stp,th]
  ·rw[if_neg (by simpa using e)]
   simp[stp,th,e]
theorem yh{n:Nat}{t:List Nat}{last:List Int}{W:List Fq}:∀(k i:Nat)(b:List Int),b.length+(k+1)=n->i<=t.length->¬ (last=[]/\b=[]/\t[i]?=some 45) ->
  (∃v,wr t last (k+1) i b=.ok v/\v.length=n/\i+(k+1)<=t.length/\fb n t i (.wd last b::W)=fb n t (i+(k+1)) (.mo v::W))\/(∃q,wr t last (k+1) i b=.error q/\fb n t i (.wd last b::W)=some q)
 |k,i,b,hb,hi,hd=>by
  cases h:t[i]? with
  |none=>exact .inr ⟨i,by simp only[wr,h],oY hi h⟩
  |some c=>
   have hi1:=(List.getElem?_eq_some_iff.mp h).1;have hd:¬ (last=[]/\b=[]/\c=45):=fun z=>hd ⟨z.1,z.2.1,by rw[h,z.2.2]⟩
   have e1:n-(b.length+1)=k:=by omega
   have st:fb n t i (.wd last b::W)=if c=48\/c=49 then (if bv (b++[((c-48:Nat):Int)]++List.replicate k 1) last=true then some i else if b.length+1<n then fb n t (i+1) (.wd last (b++[((c-48:Nat):Int)])::W) else fb n t (i+1) (.mo (b++[((c-48:Nat):Int)])::W)) else some i:=by
    rw[dO hi,h];simp only[stp,th,if_neg hd,e1];by_cases h1:c=48\/c=49
    ·simp only[if_pos h1]
     by_cases h2:bv (b++[((c-48:Nat):Int)]++List.replicate k 1) last=true
     ·simp only[if_pos h2]
     ·simp only[if_neg h2]
      by_cases h3:b.length+1<n
      ·simp only[if_pos h3];rfl
      ·simp only[if_neg h3];rfl
    ·simp only[if_neg h1]
   have sw:wr t last (k+1) i b=if c=48\/c=49 then (if bv (b++[((c-48:Nat):Int)]++List.replicate k 1) last=true then .error i else wr t last k (i+1) (b++[((c-48:Nat):Int)])) else .error i:=by
    simp only[wr,h]
   rw[st,sw];by_cases h1:c=48\/c=49
   ·rw[if_pos h1,if_pos h1]
    by_cases h2:bv (b++[((c-48:Nat):Int)]++List.replicate k 1) last=true
    ·rw[if_pos h2,if_pos h2]
     exact .inr ⟨i,rfl,rfl⟩
    ·rw[if_neg h2,if_neg h2]
     cases k with
     |zero=>
      rw[if_neg (by omega)]
      exact .inl ⟨_,rfl,by simp;omega,by omega,rfl⟩
     |succ k=>
      rw[if_pos (by omega)]
      rcases yh (n:=n) (t:=t) (W:=W) (last:=last) k (i+1) (b++[((c-48:Nat):Int)]) (by simp;omega) (by omega) (by simp) with⟨v,z1,z2,z3,z4⟩|⟨q,z1,z2⟩
      ·exact .inl ⟨v,z1,z2,by omega,by rw[z4];congr 1;omega⟩
      ·exact .inr ⟨q,z1,z2⟩
   ·rw[if_neg h1,if_neg h1]
    exact .inr ⟨i,rfl,rfl⟩
theorem Di{n:Nat}{t:List Nat}{W:List Fq}(hn:1<=n):∀(f i:Nat) (ws:List (List Int)) (u:List Int),t.length<f+i->i<=t.length->u.length=n ->
  (∃vs j,sl n t f i ws u=.ok (vs,j)/\i<j/\j<=t.length/\fb n t i (.mo u::.ch 93::W)=fb n t j W)\/(∃q,sl n t f i ws u=.error q/\fb n t i (.mo u::.ch 93::W)=some q)
 |0,i,ws,u,h,hi,hu=>by omega
 |f+1,i,ws,u,h,hi,hu=>by
  by_cases h1:t[i]?=some 44/\(0:Int)∈u
  ·have hi1:=(List.getElem?_eq_some_iff.mp h1.1).1
   have st:fb n t i (.mo u::.ch 93::W)=fb n t (i+1) (.wd u []::.ch 93::W):=by
    rw[dO hi,h1.1];simp only[stp,th,h1.2,and_true,if_true];rfl
   obtain⟨k,rfl⟩:∃k,n=k+1:=⟨n-1,by omega⟩
   have hu0:u≠[]:=fun z=>by rw[z] at hu;simp at hu
   rw[st];simp only[sl,if_pos h1];rcases yh (n:=k+1) (t:=t) (W:=.ch 93::W) (last:=u) k (i+1) [] (by simp) (by omega) (fun z=>hu0 z.1) with⟨v,z1,z2,z3,z4⟩|⟨q,z1,z2⟩
   ·simp only[z1]
    rw[z4];rcases Di (n:=k+1) (t:=t) (W:=W) hn f (i+1+(k+1)) (ws++[u]) v (by omega) z3 z2 with⟨vs,j,y1,y2,y3,y4⟩|⟨q,y1,y2⟩
    ·exact .inl ⟨vs,j,y1,by omega,y3,y4⟩
    ·exact .inr ⟨q,y1,y2⟩
   ·simp only[z1]
    exact .inr ⟨q,rfl,z2⟩
  ·have st:fb n t i (.mo u::.ch 93::W)=fb n t i (.ch 93::W):=by
    rw[dO hi,dO hi]
    cases h:t[i]? with
    |none=>rfl
    |some c=>
     have:¬ (c=44/\(0:Int)∈u):=fun z=>h1 ⟨by rw[h,z.1],z.2⟩
     simp only[stp,th,if_neg this]
   rw[st,nU hi];simp only[sl,if_neg h1];by_cases h2:t[i]?=some 93
   ·have hi1:=(List.getElem?_eq_some_iff.mp h2).1
    rw[if_pos h2,if_pos h2];exact .inl ⟨_,_,rfl,by omega,by omega,rfl⟩
   ·rw[if_neg h2,if_neg h2]
    exact .inr ⟨i,rfl,rfl⟩
theorem CD{n:Nat}{t:List Nat}{W:List Fq}(hn:1<=n){i:Nat}(hi:i<=t.length):
  (∃vs j,sf n t i=.ok (vs,j)/\i<j/\j<=t.length/\fb n t i (.ch 91::.wd [] []::.ch 93::W)=fb n t j W)\/(∃q,sf n t i=.error q/\fb n t i (.ch 91::.wd [] []::.ch 93::W)=some q):=by
 unfold sf;rw[nU hi];by_cases h1:t[i]?=some 91
 ·have hi1:=(List.getElem?_eq_some_iff.mp h1).1
  rw[if_pos h1,if_pos h1];by_cases h2:t[i+1]?=some 45
  ·have hi2:=(List.getElem?_eq_some_iff.mp h2).1
   rw[if_pos h2]
   have st:fb n t (i+1) (.wd [] []::.ch 93::W)=fb n t (i+2) (.ch 93::W):=by
    rw[dO (by omega),h2]
    simp[stp,th]
   rw[st,nU (by omega)]
   by_cases h3:t[i+2]?=some 93
   ·have hi3:=(List.getElem?_eq_some_iff.mp h3).1
    rw[if_pos h3,if_pos h3];exact .inl ⟨_,_,rfl,by omega,by omega,rfl⟩
   ·rw[if_neg h3,if_neg h3]
    exact .inr ⟨_,rfl,rfl⟩
  ·rw[if_neg h2]
   obtain⟨k,rfl⟩:∃k,n=k+1:=⟨n-1,by omega⟩
   rcases yh (n:=k+1) (t:=t) (W:=.ch 93::W) (last:=[]) k (i+1) [] (by simp) (by omega) (fun z=>h2 z.2.2) with⟨v,z1,z2,z3,z4⟩|⟨q,z1,z2⟩
   ·simp only[z1]
    rw[z4];rcases Di (n:=k+1) (t:=t) (W:=W) hn (t.length+1) (i+1+(k+1)) [] v (by omega) z3 z2 with⟨vs,j,y1,y2,y3,y4⟩|⟨q,y1,y2⟩
    ·exact .inl ⟨vs,j,y1,by omega,y3,y4⟩
    ·exact .inr ⟨q,y1,y2⟩
   ·simp only[z1]
    exact .inr ⟨q,rfl,z2⟩
 ·rw[if_neg h1,if_neg h1]
  exact .inr ⟨i,rfl,rfl⟩
theorem oV{n:Nat}{t:List Nat}(hn:1<=n){i:Nat}(hi:i<=t.length){r:List (List Int)×Nat}(h:sf n t i=.ok r):i<r.2/\r.2<=t.length:=by
 rcases CD (W:=[]) hn hi with⟨vs,j,e,h1,h2,_⟩|⟨q,e,_⟩
 ·rw[h] at e;cases e;exact⟨h1,h2⟩
 ·rw[h] at e;cases e
theorem pi{n:Nat}{t:List Nat}(hn:1<=n):∀(f g i:Nat)(W:List Wt)(b:List Bg)(d:List Ta),t.length<f+i->t.length<g+i->i<=t.length->pt n t f i W b d=pt n t g i W b d
 |0,g,i,W,b,d,h1,_,h3=>by omega
 |f+1,0,i,W,b,d,_,h2,h3=>by omega
 |f+1,g+1,i,W,b,d,h1,h2,h3=>by
  have lt:∀ {c:Nat},t[i]?=some c->i<t.length:=fun h=>(List.getElem?_eq_some_iff.mp h).1
  have ih:∀ {c:Nat},t[i]?=some c->∀W b d,pt n t f (i+1) W b d=pt n t g (i+1) W b d:=fun h W b d=>by
   have:=lt h;exact pi hn f g (i+1) W b d (by omega) (by omega) (by omega)
  rcases W with _|⟨e,W⟩
  ·rfl
  cases e with
  |ta=>
   simp only[pt]
   cases h:t[i]? with
   |none=>rfl
   |some c=>
    dsimp only;have hi1:=lt h;split
    ·cases hs:sf n t (i+1) with
     |error q=>rfl
     |ok r=>
      obtain⟨a1,a2⟩:=oV hn (by omega) hs
      exact pi hn f g r.2 _ _ _ (by omega) (by omega) a2
    ·split
     ·exact ih h _ _ _
     ·rfl
  |op=>
   simp only[pt];split
   ·rename_i h;exact ih h _ _ _
   ·rfl
  |sm=>
   simp only[pt];split
   ·rename_i h;exact ih h _ _ _
   ·rfl
  |cl=>
   simp only[pt];split
   ·rename_i h
    split
    ·exact ih h _ _ _
    ·rfl
   ·rfl
noncomputable def pu(n:Nat)(t:List Nat)(i:Nat)(W:List Wt)(b:List Bg)(d:List Ta):Except Nat (List Ta):=pt n t (t.length+1) i W b d
theorem sI{n:Nat}{t:List Nat}(hn:1<=n){i:Nat}(hi:i<=t.length){f:Nat}(hf:t.length<f+i)(W:List Wt)(b:List Bg)(d:List Ta):pt n t f i W b d=pu n t i W b d:=pi hn _ _ _ _ _ _ hf (by omega) hi
theorem ki{n:Nat}{t:List Nat}{i:Nat}{b:List Bg}{d:List Ta}:pu n t i [] b d=if i<t.length then .error i else .ok d:=rfl
theorem mx{n:Nat}{t:List Nat}(hn:1<=n){i:Nat}{W:List Wt}{b:List Bg}{d:List Ta}:pu n t i (.ta::W) b d=match t[i]? with
  |none=>.error i
  |some c=>if c=89\/c=78 then
    match sf n t (i+1) with
    |.error q=>.error q
    |.ok r=>pu n t r.2 (.op::.ta::.sm::.ta::.cl::W) ((decide (c=89),r.1)::b) d
   else if fig n c=true then pu n t (i+1) W b (.en (c-48:Nat)::d) else .error i:=by
 rw[pu,pt]
 cases h:t[i]? with
 |none=>rfl
 |some c=>
  dsimp only;have hi1:=(List.getElem?_eq_some_iff.mp h).1;split
  ·cases hs:sf n t (i+1) with
   |error q=>rfl
   |ok r=>
    obtain⟨a1,a2⟩:=oV hn (by omega) hs
    exact sI hn a2 (by omega) _ _ _
  ·split
   ·exact sI hn (by omega) (by omega) _ _ _
   ·rfl
noncomputable def Wt.sg:Wt->Nat
 |.ta=>0
 |.op=>40
 |.sm=>59
 |.cl=>41
theorem nK{n:Nat}{t:List Nat}(hn:1<=n){i:Nat}{W:List Wt}{b:List Bg}{d:List Ta}:pu n t i (.op::W) b d=if t[i]?=some 40 then pu n t (i+1) W b d else .error i:=by
 rw[pu,pt];split
 ·rename_i h
  have hi1:=(List.getElem?_eq_some_iff.mp h).1;exact sI hn (by omega) (by omega) _ _ _
 ·rfl
theorem oN{n:Nat}{t:List Nat}(hn:1<=n){i:Nat}{W:List Wt}{b:List Bg}{d:List Ta}:pu n t i (.sm::W) b d=if t[i]?=some 59 then pu n t (i+1) W b d else .error i:=by
 rw[pu,pt];split
 ·rename_i h
  have hi1:=(List.getElem?_eq_some_iff.mp h).1;exact sI hn (by omega) (by omega) _ _ _
 ·rfl
theorem oG{n:Nat}{t:List Nat}(hn:1<=n){i:Nat}{W:List Wt}{b:List Bg}{d:List Ta}{g:Bg}{l r:Ta}:pu n t i (.cl::W) (g::b) (r::l::d)=if t[i]?=some 41 then pu n t (i+1) W b (.nd g.1 g.2 l r::d) else .error i:=by
 rw[pu,pt];split
 ·rename_i h
  have hi1:=(List.getElem?_eq_some_iff.mp h).1;exact sI hn (by omega) (by omega) _ _ _
 ·rfl
noncomputable def eC:List Wt->Nat->Nat->Bool
 | [],b,d=>decide (b=0/\d=1)
 |.ta::W,b,d=>eC W b (d+1)
 |.op::W,b,d=>eC W b d
 |.sm::W,b,d=>eC W b d
 |.cl::W,b,d=>decide (1<=b/\2<=d) && eC W (b-1) (d-1)
theorem gN{b:List Bg}{d:List Ta}{W:List Wt}(h:eC (.cl::W) b.length d.length=true):∃g b' r l d',b=g::b'/\d=r::l::d'/\eC W b'.length (d'.length+1)=true:=by
 simp only[eC,Bool.and_eq_true,decide_eq_true_eq] at h;obtain⟨⟨c1,c2⟩,h⟩:=h;rcases b with _|⟨g,b⟩
 ·simp at c1
 rcases d with _|⟨r,_|⟨l,d⟩⟩
 ·simp at c2
 ·simp at c2
 exact⟨g,b,r,l,d,rfl,rfl,by simpa using h⟩
noncomputable def Wt.f:Wt->Fq
 |.ta=>.ta
 |.op=>.ch 40
 |.sm=>.ch 59
 |.cl=>.ch 41
theorem uu{n:Nat}{t:List Nat}{i:Nat}(hi:i<=t.length):fb n t i []=if i<t.length then some i else none:=by
 rw[dO hi];by_cases h:i<t.length
 ·rw[List.getElem?_eq_getElem h,if_pos h];rfl
 ·rw[List.getElem?_eq_none (by omega),if_neg h];rfl
theorem GZ{n:Nat}{t:List Nat}(hn:1<=n):∀(m i:Nat)(W:List Wt)(b:List Bg)(d:List Ta),t.length-i<=m->i<=t.length->eC W b.length d.length=true ->
  (∃R,pu n t i W b d=.ok R/\fb n t i (W.map Wt.f)=none)\/(∃q,pu n t i W b d=.error q/\fb n t i (W.map Wt.f)=some q):=by
 intro m
 induction m with
 |zero=>
  intro i W b d hm hi hc;have hno:t[i]?=none:=List.getElem?_eq_none (by omega)
  rcases W with _|⟨e,W⟩
  ·refine .inl ⟨d,?_,?_⟩
   ·rw[ki,if_neg (by omega)]
   ·rw[List.map_nil,uu hi,if_neg (by omega)]
  ·refine .inr ⟨i,?_,oY hi hno⟩
   cases e with
   |ta=>rw[mx hn,hno]
   |op=>rw[nK hn,hno,if_neg (by simp)]
   |sm=>rw[oN hn,hno,if_neg (by simp)]
   |cl=>
    obtain⟨g,b',r,l,d',rfl,rfl,_⟩:=gN hc;rw[oG hn,hno,if_neg (by simp)]
 |succ m ih=>
  intro i W b d hm hi hc;rcases W with _|⟨e,W⟩
  ·by_cases h:i<t.length
   ·exact .inr ⟨i,by rw[ki,if_pos h],by rw[List.map_nil,uu hi,if_pos h]⟩
   ·exact .inl ⟨d,by rw[ki,if_neg h],by rw[List.map_nil,uu hi,if_neg h]⟩
  cases e with
  |ta=>
   rw[mx hn];simp only[List.map_cons,Wt.f]
   cases h:t[i]? with
   |none=>exact .inr ⟨i,rfl,oY hi h⟩
   |some c=>
    have hi1:=(List.getElem?_eq_some_iff.mp h).1;dsimp only;rw[dO hi,h];simp only[stp,th];by_cases h1:c=89\/c=78
    ·simp only[if_pos h1]
     rcases CD (n:=n) (t:=t) (i:=i+1) (W:=([Wt.op,.ta,.sm,.ta,.cl]++W).map Wt.f) hn (by omega) with⟨vs,j,e1,e2,e3,e4⟩|⟨q,e1,e2⟩
     ·rw[e1]
      have e5:fb n t (i+1) ([Fq.ch 91,.wd [] [],.ch 93,.ch 40,.ta,.ch 59,.ta,.ch 41]++W.map Wt.f)=fb n t j (([Wt.op,.ta,.sm,.ta,.cl]++W).map Wt.f):=e4;rw[e5];exact ih j (.op::.ta::.sm::.ta::.cl::W) _ _ (by omega) e3 (by simp only[eC,List.length_cons,Bool.and_eq_true,decide_eq_true_eq] at hc ⊢;exact⟨by omega,by simpa using hc⟩)
     ·rw[e1]
      exact .inr ⟨q,rfl,e2⟩
    ·simp only[if_neg h1]
     by_cases h2:fig n c=true
     ·simp only[if_pos h2]
      exact ih (i+1) W b _ (by omega) (by omega) (by simpa[eC] using hc)
     ·simp only[if_neg h2]
      exact .inr ⟨i,rfl,rfl⟩
  |op=>
   rw[nK hn];simp only[List.map_cons,Wt.f];rw[nU hi];by_cases h:t[i]?=some 40
   ·have hi1:=(List.getElem?_eq_some_iff.mp h).1
    rw[if_pos h,if_pos h];exact ih (i+1) W b d (by omega) (by omega) (by simpa[eC] using hc)
   ·rw[if_neg h,if_neg h]
    exact .inr ⟨i,rfl,rfl⟩
  |sm=>
   rw[oN hn];simp only[List.map_cons,Wt.f];rw[nU hi];by_cases h:t[i]?=some 59
   ·have hi1:=(List.getElem?_eq_some_iff.mp h).1
    rw[if_pos h,if_pos h];exact ih (i+1) W b d (by omega) (by omega) (by simpa[eC] using hc)
   ·rw[if_neg h,if_neg h]
    exact .inr ⟨i,rfl,rfl⟩
  |cl=>
   obtain⟨g,b',r,l,d',rfl,rfl,hc'⟩:=gN hc;rw[oG hn];simp only[List.map_cons,Wt.f];rw[nU hi];by_cases h:t[i]?=some 41
   ·have hi1:=(List.getElem?_eq_some_iff.mp h).1
    rw[if_pos h,if_pos h];exact ih (i+1) W b' _ (by omega) (by omega) (by simpa using hc')
   ·rw[if_neg h,if_neg h]
    exact .inr ⟨i,rfl,rfl⟩
theorem mQ:∀ {n:Nat} {w:List Int},w.length=n->(∀x∈w,x=0\/x=1)->w∈wl n
 |0,w,h,_=>by rw[List.length_eq_zero_iff.mp h];simp[wl]
 |n+1,w,h,hb=>by
  have hw:w≠[]:=fun z=>by rw[z] at h;simp at h
  have e:=List.dropLast_concat_getLast hw;have ih:w.dropLast∈wl n:=mQ (by rw[List.length_dropLast];omega) fun x hx=>hb x ((List.dropLast_sublist w).mem hx)
  simp only[wl,List.mem_flatMap];refine⟨w.dropLast,ih,?_⟩;rcases hb _ (List.getLast_mem hw) with z|z<;>rw[z] at e<;>simp[e]
theorem iY{α:Type}{R:α->α->Prop}(irr:∀a,¬ R a a)(tr:∀a b,R a b->¬ R b a):∀ {ys xs:List α},xs.Pairwise R->ys.Pairwise R->(∀x∈xs,x∈ys)->xs.Sublist ys
 | [],xs,_,_,h=>by
  rcases xs with _|⟨x,xs⟩
  ·exact .slnil
  ·have:=h x (List.mem_cons_self ..);simp at this
 |y::ys,[],_,_,_=>List.nil_sublist _
 |y::ys,x::xs,hx,hy,h=>by
  obtain⟨hx1,hx2⟩:=List.pairwise_cons.mp hx;obtain⟨hy1,hy2⟩:=List.pairwise_cons.mp hy;rcases List.mem_cons.mp (h x (List.mem_cons_self ..)) with e|e
  ·subst e
   refine .cons_cons _ (iY irr tr hx2 hy2 fun z hz=>?_);rcases List.mem_cons.mp (h z (List.mem_cons_of_mem _ hz)) with e|e
   ·subst e;exact absurd (hx1 z hz) (irr z)
   ·exact e
  ·refine .cons _ (iY irr tr hx hy2 fun z hz=>?_)
   rcases List.mem_cons.mp (h z hz) with e2|e2
   ·subst e2
    rcases List.mem_cons.mp hz with e3|e3
    ·subst e3;exact e
    ·exact absurd (hx1 z e3) (tr _ _ (hy1 x e))
   ·exact e2
theorem uD:∀a:List Int,¬ ltB a a=true
 | []=>by simp[ltB]
 |x::a=>by simp only[ltB,if_true];exact uD a
theorem qf:∀a b:List Int,ltB a b=true->¬ ltB b a=true
 | [],b,h=>by simp[ltB] at h
 |x::a,[],h=>by simp[ltB] at h
 |x::a,y::b,h=>by
  simp only[ltB] at h ⊢;by_cases e:x=y
  ·rw[if_pos e] at h;rw[if_pos e.symm];exact qf a b h
  ·rw[if_neg e,decide_eq_true_eq] at h
   rw[if_neg (Ne.symm e),decide_eq_true_eq];omega
theorem nY:∀a b c:List Int,ltB a b=true->ltB b c=true->ltB a c=true
 | [],b,c,h,_=>by simp[ltB] at h
 |x::a,[],c,h,_=>by simp[ltB] at h
 |x::a,y::b,[],_,h=>by simp[ltB] at h
 |x::a,y::b,z::c,h1,h2=>by
  simp only[ltB] at h1 h2 ⊢;by_cases e:x=y
  ·subst e
   rw[if_pos rfl] at h1;by_cases e2:x=z
   ·rw[if_pos e2] at h2 ⊢;exact nY a b c h1 h2
   ·rw[if_neg e2] at h2 ⊢;exact h2
  ·rw[if_neg e,decide_eq_true_eq] at h1
   by_cases e2:y=z
   ·subst e2;rw[if_neg e,decide_eq_true_eq];exact h1
   ·rw[if_neg e2,decide_eq_true_eq] at h2
    rw[if_neg (by omega),decide_eq_true_eq];omega
theorem oP:∀v u:List Int,v.length=u.length->bv v u=false->ltB u v=true
 | [],u,_,h=>by simp[bv] at h
 |x::v,[],hl,_=>by simp at hl
 |x::v,y::u,hl,h=>by
  simp only[bv] at h;simp only[ltB];by_cases e:x=y
  ·rw[if_pos e] at h;rw[if_pos e.symm];exact oP v u (by simpa using hl) h
  ·rw[if_neg e,decide_eq_false_iff_not] at h
   rw[if_neg (Ne.symm e),decide_eq_true_eq];omega
theorem bU{t:List Nat}{i c:Nat}(h:t[i]?=some c):t.drop i=c::t.drop (i+1):=by
 obtain⟨hi,e⟩:=List.getElem?_eq_some_iff.mp h;rw[List.drop_eq_getElem_cons hi,e]
theorem rC{t:List Nat}{last:List Int}:∀(k i:Nat)(b v:List Int),wr t last k i b=.ok v->∃u,v=b++u/\u.length=k/\(∀x∈u,x=0\/x=1)/\t.drop i=btx u++t.drop (i+k)/\(1<=k->bv v last=false)
 |0,i,b,v,h=>by
  simp only[wr,Except.ok.injEq] at h;exact⟨[],by simp[h],rfl,by simp,by simp[btx],fun z=>by omega⟩
 |k+1,i,b,v,h=>by
  simp only[wr] at h
  cases hc:t[i]? with
  |none=>rw[hc] at h;cases h
  |some c=>
   rw[hc] at h;dsimp only at h;split at h
   ·rename_i h1
    split at h
    ·cases h
    ·rename_i h2
     obtain⟨u,e1,e2,e3,e4,e5⟩:=rC k (i+1) _ v h;have hb:((c-48:Nat):Int)=0\/((c-48:Nat):Int)=1:=by omega
     refine⟨((c-48:Nat):Int)::u,by rw[e1];simp,by simp[e2],fun x hx=>?_,?_,fun _=>?_⟩
     ·rcases List.mem_cons.mp hx with rfl|hx
      ·exact hb
      ·exact e3 x hx
     ·rw[bU hc,e4,show i+1+k=i+(k+1) from by omega]
      simp only[btx,List.map_cons,List.cons_append,Int.toNat_natCast];rw[show 48+(c-48)=c from by omega]
     ·by_cases hk:k=0
      ·subst hk
       have:=List.length_eq_zero_iff.mp e2;subst this;rw[e1];simpa using h2
      ·exact e5 (by omega)
   ·cases h
theorem CB{n:Nat}{t:List Nat}(hn:1<=n):∀(f i:Nat) (ws:List (List Int)) (u:List Int) (r:List (List Int)×Nat),u∈wl n->sl n t f i ws u=.ok r->∃xs,r.1=ws++u::xs/\(∀x∈xs,x∈wl n)/\(u::xs).Pairwise (fun a b=>ltB a b=true)/\t.drop i=tlT xs (t.drop r.2)
 |0,i,ws,u,r,_,h=>by simp[sl] at h
 |f+1,i,ws,u,r,hu,h=>by
  simp only[sl] at h;split at h
  ·rename_i h1
   cases hw:wr t u n (i+1) [] with
   |error q=>rw[hw] at h;cases h
   |ok v=>
    rw[hw] at h;dsimp only at h;obtain⟨u',e1,e2,e3,e4,e5⟩:=rC n (i+1) [] v hw;rw[List.nil_append] at e1;subst e1;have hv:v∈wl n:=mQ e2 e3;have hlt:ltB u v=true:=oP _ _ (by rw[e2,(ez hu).1]) (e5 hn)
    obtain⟨xs,y1,y2,y3,y4⟩:=CB hn f _ _ v r hv h;refine⟨v::xs,by rw[y1];simp,fun x hx=>?_,?_,?_⟩
    ·rcases List.mem_cons.mp hx with rfl|hx
     ·exact hv
     ·exact y2 x hx
    ·refine List.pairwise_cons.mpr ⟨fun x hx=>?_,y3⟩
     rcases List.mem_cons.mp hx with rfl|hx
     ·exact hlt
     ·exact nY u v x hlt ((List.pairwise_cons.mp y3).1 x hx)
    ·rw[bU h1.1,e4,y4];rfl
  ·split at h
   ·rename_i h2
    cases h;exact⟨[],rfl,by simp,by simp,by rw[bU h2];rfl⟩
   ·cases h
theorem Gw{n:Nat}{t:List Nat}(hn:1<=n)(hn5:n<=5){i:Nat}{r:List (List Int)×Nat}(h:sf n t i=.ok r):r.1.Sublist (wl n)/\t.drop i=91::(wtx r.1++93::t.drop r.2):=by
 unfold sf at h;split at h
 ·rename_i h1
  split at h
  ·rename_i h2
   split at h
   ·rename_i h3
    cases h;exact⟨List.nil_sublist _,by rw[bU h1,bU h2,bU h3];simp[wtx]⟩
   ·cases h
  ·cases hw:wr t [] n (i+1) [] with
   |error q=>rw[hw] at h;cases h
   |ok v=>
    rw[hw] at h;dsimp only at h;obtain⟨u',e1,e2,e3,e4,_⟩:=rC n (i+1) [] v hw;rw[List.nil_append] at e1;subst e1;have hv:v∈wl n:=mQ e2 e3;obtain⟨xs,y1,y2,y3,y4⟩:=CB hn _ _ _ v r hv h;rw[List.nil_append] at y1;rw[y1];refine⟨iY uD qf y3 ((CP ⟨n,by omega⟩).imp fun z=>z.1) fun x hx=>?_,?_⟩
    ·rcases List.mem_cons.mp hx with rfl|hx
     ·exact hv
     ·exact y2 x hx
    ·rw[bU h1,e4,y4]
     simp only[wtx,if_neg (List.cons_ne_nil v xs),AM]
 ·cases h
noncomputable def Pt.knd:Pt->Wt
 |.ta _=>.ta
 |.op=>.op
 |.sm=>.sm
 |.cl=>.cl
theorem Cv{n:Nat}{t:List Nat}(hn:1<=n)(hn5:n<=5):∀(m i:Nat)(W:List Wt)(b:List Bg)(d R:List Ta),t.length-i<=m->i<=t.length->eC W b.length d.length=true->pu n t i W b d=.ok R->∃pl:List Pt,pl.map Pt.knd=W/\t.drop i=ptT pl/\(∀e∈pl,e.ok n)/\kY pl b d=some R:=by
 have nil:∀(i:Nat)(b:List Bg)(d R:List Ta),i<=t.length->pu n t i [] b d=.ok R->∃pl:List Pt,pl.map Pt.knd=[]/\t.drop i=ptT pl/\(∀e∈pl,e.ok n)/\kY pl b d=some R:=fun i b d R hi h=>by
  rw[ki] at h;split at h
  ·cases h
  ·cases h
   exact⟨[],rfl,by rw[List.drop_eq_nil_of_le (by omega)];rfl,by simp,rfl⟩
 intro m
 induction m with
 |zero=>
  intro i W b d R hm hi hc h;have hno:t[i]?=none:=List.getElem?_eq_none (by omega)
  rcases W with _|⟨e,W⟩
  ·exact nil i b d R hi h
  ·exfalso
   cases e with
   |ta=>rw[mx hn,hno] at h;cases h
   |op=>rw[nK hn,hno,if_neg (by simp)] at h;cases h
   |sm=>rw[oN hn,hno,if_neg (by simp)] at h;cases h
   |cl=>
    obtain⟨g,b',r,l,d',rfl,rfl,_⟩:=gN hc;rw[oG hn,hno,if_neg (by simp)] at h;cases h
 |succ m ih=>
  intro i W b d R hm hi hc h;rcases W with _|⟨e,W⟩
  ·exact nil i b d R hi h
  cases e with
  |ta=>
   rw[mx hn] at h
   cases hg:t[i]? with
   |none=>rw[hg] at h;cases h
   |some c=>
    have hi1:=(List.getElem?_eq_some_iff.mp hg).1;rw[hg] at h;dsimp only at h;split at h
    ·rename_i h1
     cases hs:sf n t (i+1) with
     |error q=>rw[hs] at h;cases h
     |ok r=>
      rw[hs] at h;dsimp only at h;obtain⟨a1,a2⟩:=oV hn (by omega) hs
      obtain⟨c1,c2⟩:=Gw hn hn5 hs;obtain⟨pl,e1,e2,e3,e4⟩:=ih r.2 _ _ _ _ (by omega) a2 (by simp only[eC,List.length_cons,Bool.and_eq_true,decide_eq_true_eq] at hc ⊢;exact⟨by omega,by simpa using hc⟩) h
      match pl,e1 with
      |.op::.ta x::.sm::.ta y::.cl::pl,e1=>
       simp only[List.map_cons,List.cons.injEq,Pt.knd,true_and] at e1;refine⟨.ta (.nd (decide (c=89)) r.1 x y)::pl,by simp[Pt.knd,e1],?_,fun e he=>?_,?_⟩
       ·rw[bU hg,c2,e2]
        have hcc:c=if decide (c=89)=true then 89 else 78:=by
         rcases h1 with rfl|rfl<;>rfl
        simp only[gG,Pt.tx,ttx];rw[←hcc]
        simp
       ·rcases List.mem_cons.mp he with rfl|he
        ·exact⟨c1,e3 (.ta x) (by simp),e3 (.ta y) (by simp)⟩
        ·exact e3 e (by simp[he])
       ·simpa[kY] using e4
    ·split at h
     ·rename_i hf
      obtain⟨pl,e1,e2,e3,e4⟩:=ih (i+1) _ _ _ _ (by omega) (by omega) (by simpa[eC] using hc) h
      have hf:48<=c/\c<48+n:=of_decide_eq_true hf;refine⟨.ta (.en (c-48:Nat))::pl,by simp[Pt.knd,e1],?_,fun e he=>?_,by simpa[kY] using e4⟩
      ·rw[bU hg,e2,gG]
       simp only[Pt.tx,ttx,Int.toNat_natCast];rw[show 48+(c-48)=c from by omega]
       rfl
      ·rcases List.mem_cons.mp he with rfl|he
       ·exact⟨by omega,by omega⟩
       ·exact e3 e he
     ·cases h
  |op=>
   rw[nK hn] at h;split at h
   ·rename_i hg
    have hi1:=(List.getElem?_eq_some_iff.mp hg).1;obtain⟨pl,e1,e2,e3,e4⟩:=ih (i+1) _ _ _ _ (by omega) (by omega) (by simpa[eC] using hc) h
    exact⟨.op::pl,by simp[Pt.knd,e1],by rw[bU hg,e2,gG];rfl,fun e he=>by
     rcases List.mem_cons.mp he with rfl|he
     ·trivial
     ·exact e3 e he,by simpa[kY] using e4⟩
   ·cases h
  |sm=>
   rw[oN hn] at h;split at h
   ·rename_i hg
    have hi1:=(List.getElem?_eq_some_iff.mp hg).1;obtain⟨pl,e1,e2,e3,e4⟩:=ih (i+1) _ _ _ _ (by omega) (by omega) (by simpa[eC] using hc) h
    exact⟨.sm::pl,by simp[Pt.knd,e1],by rw[bU hg,e2,gG];rfl,fun e he=>by
     rcases List.mem_cons.mp he with rfl|he
     ·trivial
     ·exact e3 e he,by simpa[kY] using e4⟩
   ·cases h
  |cl=>
   obtain⟨g,b',r,l,d',rfl,rfl,hc'⟩:=gN hc;rw[oG hn] at h;split at h
   ·rename_i hg
    have hi1:=(List.getElem?_eq_some_iff.mp hg).1;obtain⟨pl,e1,e2,e3,e4⟩:=ih (i+1) _ _ _ _ (by omega) (by omega) (by simpa using hc') h
    exact⟨.cl::pl,by simp[Pt.knd,e1],by rw[bU hg,e2,gG];rfl,fun e he=>by
     rcases List.mem_cons.mp he with rfl|he
     ·trivial
     ·exact e3 e he,by simpa[kY] using e4⟩
   ·cases h
theorem z9{n:Nat}{t:List Nat}(hn:1<=n)(hn5:n<=5){R:List Ta}(h:pu n t 0 [.ta] [] []=.ok R):∃x:Ta,R=[x]/\sbT n x/\ttx x=t:=by
 obtain⟨pl,e1,e2,e3,e4⟩:=Cv hn hn5 _ 0 _ _ _ _ (Nat.le_refl _) (Nat.zero_le _) rfl h
 match pl,e1 with
 | [.ta x],_=>
  exact⟨x,by simpa[kY] using e4.symm,e3 (.ta x) (by simp),by simpa[ptT,Pt.tx] using e2.symm⟩
theorem br{t:List Nat}{i c:Nat}{r:List Nat}(h:t.drop i=c::r):t[i]?=some c/\t.drop (i+1)=r/\i+1<=t.length:=dr1 h
theorem Af{t:List Nat}{last:List Int}:∀(u b:List Int)(i:Nat)(r:List Nat),t.drop i=btx u++r->(∀x∈u,x=0\/x=1)->(∀m,1<=m->m<=u.length->bv (b++u.take m++List.replicate (u.length-m) 1) last=false)->wr t last u.length i b=.ok (b++u)/\t.drop (i+u.length)=r
 | [],b,i,r,h,_,_=>by simp[wr,btx] at h ⊢;exact h
 |x::u,b,i,r,h,hb,hl=>by
  obtain⟨h1,h2,_⟩:=br (show t.drop i=(48+x.toNat)::(btx u++r) from h)
  have hx:=hb x (List.mem_cons_self ..);have e:((48+x.toNat-48:Nat):Int)=x:=by omega
  have l1:=hl 1 (Nat.le_refl _) (by simp)
  simp only[List.take_succ_cons,List.take_zero,List.length_cons,Nat.add_sub_cancel] at l1
  obtain⟨a1,a2⟩:=Af u (b++[x]) (i+1) r h2 (fun y hy=>hb y (List.mem_cons_of_mem _ hy)) (fun m m1 m2=>by
   have:=hl (m+1) (by omega) (by simp;omega)
   simp only[List.take_succ_cons,List.length_cons,Nat.add_sub_add_right] at this
   simpa using this)
  simp only[List.length_cons,wr,h1];rw[if_pos (by omega),e,if_neg (by rw[l1];decide),a1]
  exact⟨by simp,by rw[←a2];congr 1;omega⟩
theorem uH{n:Nat}(hn:1<=n){t:List Nat}{last v:List Int}{i:Nat}{r:List Nat}(h:t.drop i=btx v++r)(hv:v∈wl n)(hl:last=[]\/(last∈wl n/\ltB last v=true)):wr t last n i []=.ok v/\t.drop (i+n)=r:=by
 obtain⟨v1,v2⟩:=ez hv
 have:=Af (t:=t) (last:=last) v [] i r h v2 (fun m m1 m2=>by
  rw[List.nil_append];rcases hl with rfl|⟨h1,h2⟩
  ·cases v with
   |nil=>simp at v1;omega
   |cons x v=>cases m with
    |zero=>omega
    |succ m=>rfl
  ·exact Dq v last m v2 (ez h1).2 (by rw[v1,(ez h1).1]) h2)
 rw[v1] at this;simpa using this
theorem zr{n:Nat}(hn:1<=n){t:List Nat}:∀(xs:List (List Int)) (f i:Nat) (ws:List (List Int)) (u:List Int) (r:List Nat),xs.length<f->u∈wl n->(∀x∈xs,x∈wl n)->(u::xs).Pairwise (fun a b=>ltB a b=true/\(0:Int)∈a)->t.drop i=tlT xs r->i<=t.length->∃j,sl n t f i ws u=.ok (ws++u::xs,j)/\t.drop j=r/\j<=t.length
 |xs,0,i,ws,u,r,hf,_,_,_,_,_=>by omega
 | [],f+1,i,ws,u,r,hf,hu,hx,hp,hd,hi=>by
  obtain⟨h1,h2,h3⟩:=br (show t.drop i=93::r from hd)
  refine⟨i+1,?_,h2,h3⟩;simp only[sl,h1];rw[if_neg (by simp),if_pos trivial]
 |x::xs,f+1,i,ws,u,r,hf,hu,hx,hp,hd,hi=>by
  obtain⟨h1,h2,h3⟩:=br (show t.drop i=44::(btx x++tlT xs r) from hd)
  have hxm:=hx x (List.mem_cons_self ..);obtain⟨p1,p2⟩:=List.pairwise_cons.mp hp;obtain⟨q1,q2⟩:=p1 x (List.mem_cons_self ..);obtain⟨a1,a2⟩:=uH hn h2 hxm (.inr ⟨hu,q1⟩)
  have hln:i+1+n<=t.length:=by
   have:=congrArg List.length h2;rw[List.length_drop,List.length_append] at this;simp only[btx,List.length_map,(ez hxm).1] at this;omega
  obtain⟨j,b1,b2,b3⟩:=zr hn xs f (i+1+n) (ws++[u]) x r (by simp at hf;omega) hxm (fun y hy=>hx y (List.mem_cons_of_mem _ hy)) p2 a2 hln
  refine⟨j,?_,b2,b3⟩;simp only[sl,h1];rw[if_pos ⟨trivial,q2⟩,a1];simpa using b1
theorem xO:∀(xs:List (List Int)) (r:List Nat),xs.length<=(tlT xs r).length
 | [],r=>by simp
 |x::xs,r=>by have:=xO xs r;simp[tlT];omega
theorem EL{n:Nat}(hn:1<=n)(hn5:n<=5){t:List Nat}{vs:List (List Int)}{i:Nat}{r:List Nat}(hs:vs.Sublist (wl n))(hd:t.drop i=91::(wtx vs++93::r)):∃j,sf n t i=.ok (vs,j)/\t.drop j=r/\j<=t.length:=by
 obtain⟨h1,h2,h3⟩:=br hd;unfold sf;rw[if_pos h1]
 cases vs with
 |nil=>
  obtain⟨g1,g2,g3⟩:=br (show t.drop (i+1)=45::(93::r) from h2)
  obtain⟨k1,k2,k3⟩:=br g2;refine⟨i+3,?_,k2,k3⟩;rw[if_pos g1,if_pos k1]
 |cons v xs=>
  have e:wtx (v::xs)++93::r=btx v++tlT xs r:=by simp only[wtx,if_neg (List.cons_ne_nil v xs),AM]
  rw[e] at h2;have hv:v∈wl n:=hs.mem (List.mem_cons_self ..);obtain⟨v1,v2⟩:=ez hv
  have h45:¬ t[i+1]?=some 45:=by
   cases v with
   |nil=>simp at v1;omega
   |cons x v=>
    obtain⟨z,_,_⟩:=br (show t.drop (i+1)=(48+x.toNat)::(btx v++tlT xs r) from h2)
    rw[z];simp;omega
  obtain⟨a1,a2⟩:=uH hn (last:=[]) h2 hv (.inl rfl)
  have hln:i+1+n<=t.length:=by
   have:=congrArg List.length h2;rw[List.length_drop,List.length_append] at this;simp only[btx,List.length_map,v1] at this;omega
  have hxl:xs.length<t.length+1:=by
   have:=congrArg List.length a2;have h4:=xO xs r;rw[List.length_drop] at this;omega
  rw[if_neg h45,a1];have pw:=(CP ⟨n,by omega⟩).sublist hs
  exact zr hn xs _ _ [] v r hxl hv (fun x hx=>hs.mem (List.mem_cons_of_mem _ hx)) pw a2 hln
theorem tV{n:Nat}(hn:1<=n)(hn5:n<=5){t:List Nat}:∀(u:Ta),sbT n u->∀(i:Nat)(W:List Wt)(b:List Bg)(d:List Ta)(r:List Nat),t.drop i=ttx u++r->∃j,t.drop j=r/\j<=t.length/\pu n t i (.ta::W) b d=pu n t j W b (u::d)
 |.en k,⟨k0,k1⟩,i,W,b,d,r,hd=>by
  obtain⟨k,rfl⟩:=Int.eq_ofNat_of_zero_le k0;obtain⟨h1,h2,h3⟩:=br (show t.drop i=(48+k)::r by rw[hd];simp[ttx])
  have hf:fig n (48+k)=true:=by unfold fig;rw[decide_eq_true_eq];omega
  refine⟨i+1,h2,h3,?_⟩;rw[mx hn,h1];dsimp only;rw[if_neg (by omega),if_pos hf,show 48+k-48=k from by omega]
 |.nd y ws l q,⟨hw,hl,hq⟩,i,W,b,d,r,hd=>by
  obtain⟨h1,h2,h3⟩:=br (show t.drop i=(if y then 89 else 78)::(91::(wtx ws++93::(40::(ttx l++59::(ttx q++41::r))))) by rw[hd];simp[ttx])
  obtain⟨j1,a1,a2,a3⟩:=EL hn hn5 hw h2;obtain⟨b1,b2,b3⟩:=br a2;obtain⟨j2,c1,c2,c3⟩:=tV hn hn5 l hl (j1+1) (.sm::.ta::.cl::W) ((y,ws)::b) d _ b2;obtain⟨d1,d2,d3⟩:=br c1;obtain⟨j3,e1,e2,e3⟩:=tV hn hn5 q hq (j2+1) (.cl::W) ((y,ws)::b) (l::d) _ d2;obtain⟨f1,f2,f3⟩:=br e1;refine⟨j3+1,f2,f3,?_⟩;rw[mx hn,h1];dsimp only;rw[if_pos (by cases y<;>simp),a1]
  dsimp only;rw[show decide ((if y=true then 89 else 78)=89)=y from by cases y<;>rfl,nK hn,if_pos b1,c3,oN hn,if_pos d1,e3,oG hn,if_pos f1]
theorem wb{n:Nat}(hn:1<=n)(hn5:n<=5){x:Ta}(h:sbT n x):pu n (ttx x) 0 [.ta] [] []=.ok [x]:=by
 obtain⟨j,h1,h2,h3⟩:=tV (t:=ttx x) hn hn5 x h 0 [] [] [] [] (by simp)
 have:=List.drop_eq_nil_iff.mp h1;rw[h3,ki,if_neg (by omega)]
theorem _root_.L2.PI.nox{X:Cx}{tg iter:Expr}{wi:TI}(h:PI X.nox tg iter wi):PI X tg iter wi:=fun pins s σ H R I hw=>
 wpAny_mono (h pins s σ H R (I.wish _) hw) (fun v s1 q=>wpAny_mono q (fun itv s2 ⟨it,fp,tn,J,H',e,I',T,s0,f0,r⟩=>⟨it,fp,tn,J,H',e,I'.unwish,T,s0,f0,r⟩) fun _ _ z=>False.elim z) fun _ _ z=>False.elim z
theorem zR{g:AG}{tb:AXS}{D:ce}{Ex:Addr->Om->Prop}{lo:Int}{n:Nat}{ρ:SA}{Z:Om}(I:Nat->SA->Om->Prop)(h0:I 0 ρ Z)(hs:∀(i:Nat)(ρ:SA)(Z:Om)(N:SA->Om->Prop),i<n->I i ρ Z->(∀ρ' Z',I (i+1) ρ' Z'->N ρ' Z')->g (.d (.int (lo+(i:Nat)))) ρ Z fun ρ1 Z1=>tb { nx:=N,ct:=N,bk:=D.nx,rt:=D.rt } Ex ρ1 Z1)(hd:∀ρ Z,I n ρ Z->D.nx ρ Z):hZ g tb D Ex (iL lo n) ρ Z:=by
 have hl:(iL lo n).length=n:=by simp[iL]
 have key:∀(k i:Nat)(ρ:SA)(Z:Om),i+k=n->I i ρ Z->hZ g tb D Ex ((iL lo n).drop i) ρ Z:=by
  intro k
  induction k with
  |zero=>intro i ρ Z hi h;rw[List.drop_eq_nil_of_le (by omega)];exact hd ρ Z (by rw[←hi];exact h)
  |succ k ih=>
   intro i ρ Z hi h;obtain⟨a,ha,hdr⟩:=eF (as:=iL lo n) (i:=i) (by omega)
   rw[hdr]
   obtain rfl:a=.d (.int (lo+(i:Nat))):=by
    unfold iL at ha;rw[List.getElem?_map,Option.map_eq_some_iff] at ha;obtain⟨j,h1,rfl⟩:=ha;obtain⟨hj,rfl⟩:=List.getElem?_eq_some_iff.mp h1;simp
   exact hs i ρ Z _ (by omega) h fun ρ' Z' h'=>ih (i+1) ρ' Z' (by omega) h'
 simpa using key n 0 ρ Z (by omega) h0
theorem gr(l:List Nat)(i c:Nat):sgT l i=[c]↔l[i]?=some c:=by
 unfold sgT
 cases l[i]? with
 |none=>simp
 |some d=>simp
theorem xK(l:List Nat)(i:Nat):tx (sgT l i)∈[Str.ofString "0",Str.ofString "1"]↔l[i]?=some 48\/l[i]?=some 49:=by
 rw[show Str.ofString "0"=tx [48] from by decide +kernel,show Str.ofString "1"=tx [49] from by decide +kernel]
 simp only[List.mem_cons,List.not_mem_nil,or_false,cZ,gr]
noncomputable def vJ(t:Adr):dh:=fun xs Z Q Ex=>∃(l:List Nat)(i c:Nat),xs=[.d (.str (tx l)),.d (.int i),.d (.str (tx [c]))]/\l.length<=10000/\(l[i]?=some c->Q (.d (.int (i+1:Nat))) Z)/\(¬ l[i]?=some c->Ex (enC t.ao i) Z)
theorem vV(T:Txt K mg t):aV P w K mg base (CXn P w) 3 t.i9 t.sR ["text","at","sign"] (ft (vJ t)):=by
 have G_sign_at:aV P w K mg base _ _ _ _ _ _:=mC T
 refine T.D8.okN BU (fun xs Z Q Ex h=>by obtain ⟨l,i,c,rfl,_⟩:=h;rfl) (fun cdv A outer s H E hr=>⟨_,_,(ag (bw (PT.nox (aB (gK hr.IE) (ax G_sign_at (hr.mono (by omega)) (by rfl) T.eG T.eJ T.eI .nil bq (aa (pv 0) (aa (pv 1) af))) (pv 2) (aO _))) (ak (eN (hr.mono (by omega)) (by rfl) T.eV T.cF T.d0 dz ba.1 ba.2 T.dX dD (aa (pv 1) af))) aP)
   (ak (PS.nox (aL (ay (ar bd (ar aR bc)) (pv 1) aj))))),(cf (pE (aK (am cr (aT (ac ae (ac ae ah))) ae)) (fL (ac ae ah)) (dQ a7))
   (dQ (bh (am bS ae av)))),fun xs Z Q Ex h=>?_⟩)
 obtain⟨l,i,c,rfl,hl,k1,k2⟩:=h;walk_at "s1";refine⟨l,i,rfl,hl,_,rfl,by rw[iE];decide,?_⟩
 rw[aA];by_cases h:l[i]?=some c
 ·rw[if_neg (by rw[(gr l i c).mpr h];simp[eqD])]
  exact k1 h
 ·rw [if_pos (by
   have:tx (sgT l i)≠tx [c]:=fun z=>h ((gr l i c).mp (cZ.mp z))
   simp[eqD,this])]
  exact⟨i,rfl,k2 h⟩
noncomputable def HK(t:Adr):dh:=fun xs Z Q Ex=>∃(n i:Nat)(l:List Nat)(u:List Int),xs=[.d (.int n),.d (.str (tx l)),.d (.int i),.d (wdD u)]/\1<=n/\n<=5/\l.length<=10000/\i<=20000/\(∀v,wr l u n i []=.ok v->Q (.d (wdD v)) Z)/\(∀q,wr l u n i []=.error q->Ex (enC t.ao q) Z)
theorem Hc(T:Txt K mg t):aV P w K mg base (CXn P w) 3 t.cR t.gU ["places","text","at","last"] (ft (HK t)):=by
 have G_sign_at:aV P w K mg base _ _ _ _ _ _:=mC T
 refine T.rF.okN cV (fun xs Z Q Ex h=>by obtain⟨n,i,l,u,rfl,_⟩:=h;rfl) (fun cdv A outer s H E hr=>⟨_,_,(ag (PS.nox (az (i:=4) cV.nd rfl (Or.inl rfl) (a8 af)))
   (ag (je PassesOwn.leaving rfl (PI.nox (wW rfl T.jw (aa (pv 2) (aa (ay (ar bd (ar aR bc)) (pv 2) (pv 0)) af)))) (bX (i:=5) cV.nd rfl (Or.inl rfl)) (ag (PS.nox (az (i:=6) cV.nd rfl (Or.inl rfl) (ax G_sign_at (hr.mono (by omega)) (by rfl) T.eG T.eJ T.eI .nil bq (aa (pv 1) (aa (pv 5) af)))))
   (ag (bw (PT.nox (aB (nz K rfl hr.IE) (pv 6) (cW (v:=.ref t.cP) rfl T.sJ rfl) (by with_unfolding_all rfl))) (ak (eN (hr.mono (by omega)) (by rfl) T.eV T.cF T.d0 dz ba.1 ba.2 T.dX dD (aa (pv 5) af))) aP)
   (ag (PS.nox (az (i:=4) cV.nd rfl (Or.inl rfl) (ay (ar bd (ar aR bc)) (pv 4) (a8 (aa (cE ou (by rfl) T.nZ (by kernel_rfl) (aa (pv 6) af)) af)))))
   (ag (PS.nox (az (i:=7) cV.nd rfl (Or.inl rfl) (ay (ar bd (ar aR bc)) (pv 4) (ay BO (a8 (ai aj af)) (ay lW (pv 0) (aG (bi K rfl) (by rfl) T.eu (by kernel_rfl) (aa (pv 4) af)))))))
   (ak (bw (PT.nox (aB (Fd hr.IE) (pv 7) (pv 3) (aO _))) (ak (eN (hr.mono (by omega)) (by rfl) T.eV T.cF T.d0 dz ba.1 ba.2 T.dX dD (aa (pv 5) af))) aP)))))))
   (ak (PS.nox (aL (pv 4)))))),(cf (dQ (aM (bV ah) aq))
   (cf (FM (El (ac ae (ac (am bS ae ae) ah))) aq (cf (dQ (aM (aT (ac ae (ac ae ah))) aq))
   (cf (pE (aK (am Dr ae fh)) (fL (ac ae ah)) (dQ a7))
   (cf (dQ (aM (am bS ae (bV (ac (cg z8 (ac ae ah)) ah))) aq))
   (cf (dQ (aM (am bS ae (am EC (bV (ac av ah)) (am kJ ae (cg mf (ac ae ah))))) aq))
   (pE (aK (am FP ae ae)) (fL (ac ae ah)) (dQ a7)))))))
   (dQ (bh ae)))),fun xs Z Q Ex h=>?_⟩)
 obtain⟨n,i,l,u,rfl,hn1,hn,hl,hi,k1,k2⟩:=h;walk_at "s1";walk_at "s1";refine⟨by omega,by omega,by omega,by omega,?_⟩
 rw[show ((i:Int)+n-i).toNat=n by omega]
 refine zR (fun m ρ Z'=>Z'=Z/\∃(v:List Int)(v5 v6 v7:Option AV),v.length=m/\wr l u (n-m) (i+m) v=wr l u n i []/\ρ=[some (AV.d (D.int n)),some (AV.d (D.str (tx l))),some (AV.d (D.int i)),some (AV.d (wdD u)),some (AV.d (wdD v)),v5,v6,v7]) ⟨rfl,[],_,_,_,rfl,rfl,rfl⟩ ?_ ?_
 ·rintro m ρ Z1 N hm ⟨rfl,v,v5,v6,v7,hv,hw,rfl⟩ kN
  walk_at "s1";rw[show ((i:Int)+(m:Int))=((i+m:Nat):Int) by omega]
  refine⟨l,i+m,rfl,hl,?_⟩;obtain⟨k,ek⟩:∃k,n-m=k+1:=⟨n-m-1,by omega⟩
  rw[ek,wr] at hw;walk_at "s1";refine⟨_,.inl ⟨_,rfl,T.qu⟩,?_⟩;by_cases hb:l[i+m]?=some 48\/l[i+m]?=some 49
  ·obtain⟨b,hc,hb2⟩:∃b:Nat,l[i+m]?=some (48+b)/\b<2:=by
    rcases hb with h|h
    ·exact⟨0,h,by decide⟩
    ·exact⟨1,h,by decide⟩
   rw[if_neg (by rw[decide_eq_true ((xK l (i+m)).mpr hb)];simp)]
   rw[hc] at hw;dsimp only at hw;rw[if_pos (by omega),show 48+b-48=b from by omega] at hw
   rw[(gr l (i+m) _).mpr hc];walk_at "s1";refine⟨_,vT ⟨b,by omega⟩,by rw[al];simp,Nat.le_of_lt (dH (by rw[hv];omega)),?_⟩
   show u7 _ _ _ _ [_,_,_,_,some (.d (wdD (v++[(b:Int)]))),_,_,_] _;have hlt:(v++[(b:Int)]).length=m+1:=by simp[hv]
   walk_at "s1";have ek2:((n:Int)-((v.length+1:Nat):Int)).toNat=k:=by omega
   rw[ek2,List.flatten_replicate_singleton,show List.replicate k (D.int 1)=(List.replicate k (1:Int)).map D.int from by rw[List.map_replicate]]
   refine⟨fun h=>h,by omega,by omega,by omega,?_⟩
   show sX (.d (wdD _)) (.d (wdD (List.replicate k 1))) _ _;walk_at "a1";refine⟨Nat.le_of_lt (dH (by simp;omega)),_,rfl,_,rfl,?_⟩
   by_cases hle:bv (v++[(b:Int)]++List.replicate k 1) u=true
   ·rw[if_pos hle] at hw ⊢
    rw[aA];exact⟨i+m,rfl,k2 _ hw.symm⟩
   ·rw[if_neg hle] at hw ⊢
    exact kN _ _ ⟨rfl,_,_,_,_,hlt,by rw[←hw];congr 1<;>omega,rfl⟩
  ·rw[if_pos (by rw[decide_eq_false fun z=>hb ((xK l (i+m)).mp z)];simp),aA]
   refine⟨i+m,rfl,k2 _ ?_⟩;rw[←hw]
   cases hc:l[i+m]? with
   |none=>rfl
   |some c=>
    dsimp only;rw[if_neg (by rw[hc] at hb;simpa using hb)]
 ·rintro ρ Z1 ⟨rfl,v,v5,v6,v7,hv,hw,rfl⟩
  dsimp only;rw[Nat.sub_self,wr] at hw;walk_at "a1";rw[aA];exact k1 v hw.symm
noncomputable def GN(t:Adr):dh:=fun xs Z Q Ex=>∃(n i:Nat)(l:List Nat),xs=[.d (.int n),.d (.str (tx l)),.d (.int i)]/\1<=n/\n<=5/\l.length<=10000/\i<=10000/\(∀r,sf n l i=.ok r->Q (.d (.tup [.tup (r.1.map wdD),.int r.2])) Z)/\(∀q,sf n l i=.error q->Ex (enC t.ao q) Z)
theorem HB(T:Txt K mg t):aV P w K mg base (CXn P w) 4 t.cU t.gP ["places","text","at"] (ft (GN t)):=by
 have G_sign_at:aV P w K mg base _ _ _ _ _ _:=mC T;have GX_past:aV P w K mg base _ _ _ _ _ _:=vV T;have GX_word_from:aV P w K mg base _ _ _ _ _ _:=Hc T
 refine T.qb.okN dI (fun xs Z Q Ex h=>by obtain ⟨n,i,l,rfl,_⟩:=h;rfl) (fun cdv A outer s H E hr=>⟨_,_,(ag (az (i:=2) dI.nd rfl (Or.inl rfl) (ax GX_past (hr.mono (by omega)) (by rfl) T.pd T.o7 T.pz .nil de (aa (PE.nox (pv 1)) (aa (PE.nox (pv 2)) (ai (PE.nox au) af)))))
   (ag (bw (PT.nox (aB (cK hr.IE) (ax G_sign_at (hr.mono (by omega)) (by rfl) T.eG T.eJ T.eI .nil bq (aa (pv 1) (aa (pv 2) af))) au (aO _))) (ak (aL (a8 (bD (PE.nox (a8 af)) (aa (ax GX_past (hr.mono (by omega)) (by rfl) T.pd T.o7 T.pz .nil de (aa (PE.nox (pv 1)) (aa (PE.nox (ay (ar bd (ar aR bc)) (pv 2) aj)) (ai (PE.nox au) af)))) af))))) aP)
   (ag (az (i:=3) dI.nd rfl (Or.inl rfl) (bj (aa (ax GX_word_from (hr.mono (by omega)) (by rfl) T.kC T.kA T.ku .nil de (aa (PE.nox (pv 0)) (aa (PE.nox (pv 1)) (aa (PE.nox (pv 2)) (bD (PE.nox (a8 af)) af))))) af)))
   (ag (PS.nox (sL (i:=2) dI.nd rfl (Or.inl rfl) (pv 0) oZ))
   (ag (mz PassesOwn.leaving (PT.nox (PW.pt (iU (aB (cK hr.IE) (ax G_sign_at (hr.mono (by omega)) (by rfl) T.eG T.eJ T.eI .nil bq (aa (pv 1) (aa (pv 2) af))) au (aO _)) (ig (aB (A3 hr.IE) aj (cc (aY K rfl) (pv 3) (sD ma aj) (fun _ _=>rfl)) (by with_unfolding_all rfl)))))) (ag (gw (fZ PySem.F.plainAttrs_list PySem.F.slot_list_append PySem.F.type_list_append fV (PE.nox (pv 3)) (aa (ax GX_word_from (hr.mono (by omega)) (by rfl) T.kC T.kA T.ku .nil de (aa (PE.nox (pv 0)) (aa (PE.nox (pv 1)) (aa (PE.nox (ay (ar bd (ar aR bc)) (pv 2) aj)) (aa (PE.nox (cc (aY K rfl) (pv 3) (sD ma aj) (fun _ _=>rfl))) af))))) af)))
   (ak (PS.nox (sL (i:=2) dI.nd rfl (Or.inl rfl) (ay (ar bd (ar aR bc)) aj (pv 0)) oZ)))))
   (ak (aL (a8 (aa (PE.nox (cE (gX K rfl) (by rfl) T.uQ (by kernel_rfl) (aa (pv 3) af))) (aa (ax GX_past (hr.mono (by omega)) (by rfl) T.pd T.o7 T.pz .nil de (aa (PE.nox (pv 1)) (aa (PE.nox (pv 2)) (ai (PE.nox au) af)))) af)))))))))),(cf (o8 (d8 (aJ (aX ae) (aJ (aX ae) (aJ (aX aF) (aX ah))))) aq)
   (cf (pE (aK (am cr (aT (ac ae (ac ae ah))) aF)) (zg (uc (aJ (aX (bV ah)) (aJ (d8 (aJ (aX ae) (aJ (aX (am bS ae av)) (aJ (aX aF) (aX ah))))) (aX ah))))) (dQ a7))
   (cf (o8 (BA (aJ (d8 (aJ (aX ae) (aJ (aX ae) (aJ (aX ae) (aJ (aX (bV ah)) (aX ah)))))) (aX ah))) aq)
   (cf (dQ (A0 kJ ae))
   (cf (qt (lC (aK (am cr (aT (ac ae (ac ae ah))) aF)) (aK (am FA av (am eB ae (Ce u_i av))))) (cf (lg (nR ae (aJ (d8 (aJ (aX ae) (aJ (aX ae) (aJ (aX (am bS ae av)) (aJ (aX (am eB ae (Ce u_i av))) (aX ah)))))) (aX ah))))
   (dQ (A0 kJ (am bS av ae)))))
   (zg (uc (aJ (aX (cg wf (ac ae ah))) (aJ (d8 (aJ (aX ae) (aJ (aX ae) (aJ (aX aF) (aX ah))))) (aX ah)))))))))),fun xs Z Q Ex h=>?_⟩)
 obtain⟨n,i,l,rfl,hn1,hn,hl,hi,k1,k2⟩:=h;have e91:Str.ofString "["=tx [91]:=by decide +kernel
 have e93:Str.ofString "]"=tx [93]:=by decide +kernel
 have e45:Str.ofString "-"=tx [45]:=by decide +kernel
 have e44:Str.ofString ","=tx [44]:=by decide +kernel
 walk_at "s1";refine⟨l,i,91,by rw[e91],hl,fun h1=>?_,fun h1=>?_⟩
 rotate_left
 ·dsimp only
  rw[aA];exact k2 i (by unfold sf;rw[if_neg h1])
 walk_at "s1";refine⟨l,i+1,rfl,hl,_,rfl,by rw[iE];decide,?_⟩
 have hi1:=(List.getElem?_eq_some_iff.mp h1).1
 have esf:sf n l i=if l[i+1]?=some 45 then (if l[i+2]?=some 93 then .ok ([],i+3) else .error (i+2)) else match wr l [] n (i+1) [] with
   |.error q=>.error q
   |.ok v=>sl n l (l.length+1) (i+1+n) [] v:=by
  unfold sf;rw[if_pos h1]
  all_goals rfl
 by_cases h2:l[i+1]?=some 45
 ·rw[if_pos (by rw[(gr l (i+1) 45).mpr h2,e45];simp[eqD]),show (((i+1:Nat):Int)+1)=((i+2:Nat):Int) from by omega]
  rw[if_pos h2] at esf;refine⟨l,i+2,93,by rw[e93],hl,fun h3=>?_,fun h3=>?_⟩
  ·refine⟨_,rfl,?_⟩
   rw[aA];exact k1 ([],i+3) (by rw[esf,if_pos h3])
  ·dsimp only
   rw[aA];exact k2 _ (by rw[esf,if_neg h3])
 rw [if_neg (by
  have:tx (sgT l (i+1))≠Str.ofString "-":=fun z=>h2 ((gr l (i+1) 45).mp (cZ.mp (by rw[z,e45])))
  simp[eqD,this])]
 rw[if_neg h2] at esf;walk_at "s1";refine⟨n,i+1,l,[],rfl,hn1,hn,hl,by omega,fun v hv=>?_,fun q hq=>?_⟩
 rotate_left
 ·dsimp only
  rw[aA];exact k2 _ (by rw[esf,hq])
 intro lo hlo;rw[hv] at esf;dsimp only at esf;obtain⟨u',e1,e2,e3,e4,_⟩:=rC n (i+1) [] v hv;rw[List.nil_append] at e1;subst e1;have hvm:v∈wl n:=mQ e2 e3
 have hal:i+1+n<=l.length:=by
  have:=congrArg List.length e4;rw[List.length_drop,List.length_append,List.length_drop] at this;simp only[btx,List.length_map,e2] at this;omega
 walk_at "s1";walk_at "s1";obtain⟨Pv,iP⟩:=D6 fun m ρ Z'=>∃(ws:List (List Int)) (u:List Int) (a f:Nat),sl n l f a ws u=sf n l i/\l.length<f+a/\a<=l.length/\u∈wl n/\ws.length<=a/\m=l.length-a/\Z'=Z.put lo (.own (((ws++[u]).map wdD).map AV.d))/\ρ=[some (AV.d (D.int n)),some (AV.d (D.str (tx l))),some (AV.d (D.int a)),some (AV.r (V.ref lo))];refine⟨Pv,⟨_,(iP _ _ _).mpr ⟨[],v,i+1+n,l.length+1,esf.symm,by omega,hal,hvm,Nat.zero_le _,rfl,rfl,by rw[show ((i+1:Nat):Int)+(n:Int)=((i+1+n:Nat):Int) from by omega]⟩⟩,fun m ρ Z1 h=>?_⟩
 obtain⟨ws,u,a,f,hs,hf,ha,hu,hwl,rfl,rfl,rfl⟩:=(iP _ _ _).mp h;clear h;obtain⟨g,rfl⟩:∃g,f=g+1:=⟨f-1,by omega⟩
 rw[sl] at hs;have last:atI (((ws++[u]).map wdD).map AV.d) (-1)=some (.d (wdD u)):=by rw[List.map_append,List.map_append];exact vZ
 have fin:¬ (l[a]?=some 44/\(0:Int)∈u)->vJ t [AV.d (D.str (tx l)),AV.d (D.int (a:Int)),AV.d (D.str (Str.ofString "]"))] (Z.put lo (.own (((ws++[u]).map wdD).map AV.d))) (fun x Z1=>∃ds,Option.map (fun y=>D.tup ((ws++[u]).map wdD)::y) (und [x])=some ds/\Q (AV.d (D.tup ds)) (Z1.only Z)) fun C Z'=>Ex C (Z'.only Z):=fun hc=>by
  rw[if_neg hc] at hs;refine⟨l,a,93,by rw[e93],hl,fun h3=>⟨_,rfl,?_⟩,fun h3=>?_⟩
  ·rw[iH ((L2.Ex.refl Z).new hlo)]
   exact k1 (ws++[u],a+1) (by rw[←hs,if_pos h3])
  ·dsimp only
   rw[iH ((L2.Ex.refl Z).new hlo)];exact k2 a (by rw[←hs,if_neg h3])
 walk_at "a1";refine⟨l,a,rfl,hl,_,rfl,by rw[iE];decide,?_⟩
 by_cases h44:l[a]?=some 44
 ·rw[if_pos (by rw[(gr l a 44).mpr h44,e44];simp[eqD]),Om.IA]
  refine⟨_,rfl,_,last,_,rfl,_,.inr rfl,by rw[nV];decide,?_⟩
  by_cases h0:(0:Int)∈u
  ·rw[show inD (D.int 0) (u.map D.int)=true from by rw[vF];exact decide_eq_true h0,if_pos rfl]
   refine⟨fun ρ' Z'=>∃m',m'<l.length-a/\Pv m' ρ' Z',fun _ _ h=>h,?_⟩;have ha1:=(List.getElem?_eq_some_iff.mp h44).1;rw[if_pos ⟨h44,h0⟩] at hs;walk_at "s1";rw[show ((a:Int)+1)=((a+1:Nat):Int) from by omega]
   refine⟨_,last,n,a+1,l,u,rfl,hn1,hn,hl,by omega,fun y hy=>?_,fun q hq=>?_⟩
   ·rw[hy] at hs
    dsimp only at hs;obtain⟨y',z1,z2,z3,z4,_⟩:=rC n (a+1) [] y hy;rw[List.nil_append] at z1;subst z1
    have hal2:a+1+n<=l.length:=by
     have:=congrArg List.length z4;rw[List.length_drop,List.length_append,List.length_drop] at this;simp only[btx,List.length_map,z2] at this;omega
    exact⟨_,Om.IA,Nat.lt_of_le_of_lt (by simp;omega) (show 20000<sizeLine by decide),l.length-(a+1+n),by omega,(iP _ _ _).mpr ⟨ws++[u],y,a+1+n,g,hs,by omega,hal2,mQ z2 z3,by simp;omega,rfl,by rw[Om.IC];simp,by rw[show ((a:Int)+(1+(n:Int)))=((a+1+n:Nat):Int) from by omega]⟩⟩
   ·dsimp only
    rw[iH ((L2.Ex.refl Z).new hlo)];exact k2 q (by rw[←hs,hq])
  ·rw[show inD (D.int 0) (u.map D.int)=false from by rw[vF];exact decide_eq_false h0,if_neg (by decide)]
   exact⟨(ws++[u]).map wdD,by show Option.map D.lst (und (((ws++[u]).map wdD).map AV.d))=_;rw[ik];rfl,fin fun z=>h0 z.2⟩
 ·rw [if_neg (by
   have:tx (sgT l a)≠Str.ofString ",":=fun z=>h44 ((gr l a 44).mp (cZ.mp (by rw[z,e44])))
   simp[eqD,this])]
  exact⟨(ws++[u]).map wdD,by rw[Om.IA];show Option.map D.lst (und (((ws++[u]).map wdD).map AV.d))=_;rw[ik];rfl,fin fun z=>h44 z.1⟩
noncomputable def Wt.wd:Wt->Str
 |.ta=>"talk"
 |.op=>"("
 |.sm=>";"
 |.cl=>")"
noncomputable def wtA(W:List Wt):List AV:=((W.map Wt.wd).reverse.map D.str).map AV.d
theorem fK(e:Wt)(W:List Wt):wtA (e::W)=wtA W++[.d (.str e.wd)]:=by simp[wtA]
theorem Ft{i j:Nat}{R:AXS}{D:ce}{X:Addr->Om->Prop}{ρ:SA}{Z:Om}{l:Addr}{xs:List AV}{y:AV}(h1:ρ[i]?=some (some (.r (.ref l))))(h2:Z l=some (.own (xs++[y])))(q:R D X (ρ.set j (some y)) (Z.put l (.own xs))):u7 (FN (Ck (AZ (Ba i)) (jZ j))) R D X ρ Z:=
 ⟨_,h1,l,xs++[y],y,rfl,h2,by simp,by rw[List.dropLast_concat];exact q⟩
noncomputable def cn(t:Adr):dh:=fun xs Z Q Ex=>∃(n:Nat)(d:D),xs=[.d (.int n),.d d]/\1<=n/\n<=5/\((isD "str" d=false/\Ex (enC t.ao 0) Z)\/∃l:List Nat,d=.str (tx l)/\l.length<=9000/\(∀x,pu n l 0 [.ta] [] []=.ok [x]->Q (.d x.d) Z)/\(∀p,pu n l 0 [.ta] [] []=.error p->Ex (enC t.ao p) Z))
theorem jp(T:Txt K mg t):aV P t.wo K mg base (CXn P t.wo) 6 t.bB t.cS ["places","text"] (ft (cn t)):=by
 have GX_must_be_text:aV P t.wo K mg base _ _ _ _ _ _:=D5 T;have GX_must_end:aV P t.wo K mg base _ _ _ _ _ _:=Bw T;have G_sign_at:aV P t.wo K mg base _ _ _ _ _ _:=mC T;have GX_place_at:aV P t.wo K mg base _ _ _ _ _ _:=Ek T;have GX_past:aV P t.wo K mg base _ _ _ _ _ _:=vV T;have GX_says_from:aV P t.wo K mg base _ _ _ _ _ _:=HB T
 refine T.qx.okN aZ (fun xs Z Q Ex h=>by obtain ⟨n,d,rfl,_⟩:=h;rfl) (fun cdv A outer s H E hr=>⟨_,_,(ag (gw (ax GX_must_be_text (hr.mono (by omega)) (by rfl) T.lB T.lr T.lZ .nil de (aa (PE.nox (pv 1)) af)))
   (ag (PS.nox (az (i:=2) aZ.nd rfl (Or.inl rfl) aj))
   (ag (PS.nox (az (i:=3) aZ.nd rfl (Or.inl rfl) (bj (ai au af))))
   (ag (PS.nox (az (i:=4) aZ.nd rfl (Or.inl rfl) (bj af)))
   (ag (PS.nox (az (i:=5) aZ.nd rfl (Or.inl rfl) (bj af)))
   (ag (mz PassesOwn.leaving (PT.nox (eM K rfl (pv 3) (fun _=>rfl))) (ag (PS.nox (az (i:=6) aZ.nd rfl (Or.inl rfl) (j6 PySem.F.plainAttrs_list PySem.F.slot_list_pop PySem.F.type_list_pop ln (pv 3))))
   (ag (PS.nox (az (i:=7) aZ.nd rfl (Or.inl rfl) (ax G_sign_at (hr.mono (by omega)) (by rfl) T.eG T.eJ T.eI .nil bq (aa (pv 1) (aa (pv 2) af)))))
   (ak (bw (PT.nox (PW.pt (iU (aB (cK hr.IE) (pv 6) au (aO _)) (ig (aB (EX T.uV T.jt) (pv 7) (cW (v:=.ref t.d7) rfl T.u5 rfl) (by with_unfolding_all rfl)))))) (ag (j5 (ax GX_says_from (hr.mono (by omega)) (by rfl) T.rS T.qK T.qR .nil de (aa (PE.nox (pv 0)) (aa (PE.nox (pv 1)) (aa (PE.nox (ay (ar bd (ar aR bc)) (pv 2) aj)) af)))) (wD K rfl (n:=2) rfl (fc (bX (i:=8) aZ.nd rfl (Or.inl rfl)) (fc (bX (i:=2) aZ.nd rfl (Or.inl rfl)) ph))))
   (ag (PS.nox (gw (fZ PySem.F.plainAttrs_list PySem.F.slot_list_append PySem.F.type_list_append fV (pv 4) (bD (a8 (aa (BJ T.uV (cW (v:=.ref t.d7) rfl T.u5 rfl) (pv 7) (fun _ _=>rfl)) (aa (pv 8) af))) af))))
   (ak (PS.nox (gw (fZ PySem.F.plainAttrs_list PySem.F.slot_list_extend PySem.F.type_list_extend (BR K rfl) (pv 3) (aa (cW (v:=.ref t.b7) rfl T.m6 rfl) af))))))) (ak (bw (PT.nox (aB (cK hr.IE) (pv 6) au (aO _))) (ag (gw (fZ PySem.F.plainAttrs_list PySem.F.slot_list_append PySem.F.type_list_append fV (PE.nox (pv 5)) (bD (a8 (ai (PE.nox au) (aa (ax GX_place_at (hr.mono (by omega)) (by rfl) T.sO T.uq T.tN .nil de (aa (PE.nox (pv 0)) (aa (PE.nox (pv 1)) (aa (PE.nox (pv 2)) af)))) af))) af)))
   (ak (PS.nox (sL (i:=2) aZ.nd rfl (Or.inl rfl) aj oZ)))) (ag (az (i:=2) aZ.nd rfl (Or.inl rfl) (ax GX_past (hr.mono (by omega)) (by rfl) T.pd T.o7 T.pz .nil de (aa (PE.nox (pv 1)) (aa (PE.nox (pv 2)) (aa (PE.nox (pv 6)) af)))))
   (ak (PS.nox (bw (aB (cK hr.IE) (pv 6) au (aO _)) (ag (az (i:=9) aZ.nd rfl (Or.inl rfl) (j6 PySem.F.plainAttrs_list PySem.F.slot_list_pop PySem.F.type_list_pop ln (pv 5)))
   (ag (az (i:=10) aZ.nd rfl (Or.inl rfl) (j6 PySem.F.plainAttrs_list PySem.F.slot_list_pop PySem.F.type_list_pop ln (pv 5)))
   (ak (gw (fZ PySem.F.plainAttrs_list PySem.F.slot_list_append PySem.F.type_list_append fV (pv 5) (aa (ay (ar bd (ar aR bc)) (j6 PySem.F.plainAttrs_list PySem.F.slot_list_pop PySem.F.type_list_pop ln (pv 4)) (a8 (aa (pv 10) (aa (pv 9) af)))) af)))))) aP)))))))))))
   (ag (gw (ax GX_must_end (hr.mono (by omega)) (by rfl) T.t0 T.ug T.sU .nil de (aa (PE.nox (pv 1)) (aa (PE.nox (pv 2)) af))))
   (ak (PS.nox (aL (cc (aY K rfl) (pv 5) aj (fun _ _=>rfl)))))))))))),(cf (lg (d8 (aJ (aX ae) (aX ah))))
   (cf (dQ (aM av aq))
   (cf (dQ (aM (lO (ac aF ah)) aq))
   (cf (dQ (aM (lO ah) aq))
   (cf (dQ (aM (lO ah) aq))
   (cf (qt (nL ae) (cf (dQ (aM (qA ae) aq))
   (cf (dQ (aM (aT (ac ae (ac ae ah))) aq))
   (pE (lC (aK (am cr ae aF)) (aK (am Gg ae fh))) (cf (o8 (d8 (aJ (aX ae) (aJ (aX ae) (aJ (aX (am bS ae av)) (aX ah))))) (D2 (jj aq (jj aq za))))
   (cf (dQ (sP (rR ae (ac (bV (ac (Eb ae) (ac ae ah))) ah))))
   (dQ (sP (Fl ae (ac fh ah)))))) (pE (aK (am cr ae aF)) (cf (lg (nR ae (aJ (uc (aJ (aX aF) (aJ (d8 (aJ (aX ae) (aJ (aX ae) (aJ (aX ae) (aX ah))))) (aX ah)))) (aX ah))))
   (dQ (A0 kJ av))) (cf (o8 (d8 (aJ (aX ae) (aJ (aX ae) (aJ (aX ae) (aX ah))))) aq)
   (dQ (dS (aK (am cr ae aF)) (aD (aM (qA ae) aq)
   (aD (aM (qA ae) aq)
   (sP (rR ae (ac (am bS (qA ae) (bV (ac ae (ac ae ah)))) ah))))) a7))))))))
   (cf (lg (d8 (aJ (aX ae) (aJ (aX ae) (aX ah)))))
   (dQ (bh (am eB ae av)))))))))),fun xs Z Q Ex h=>?_⟩)
 obtain⟨n,d,rfl,hn1,hn,h⟩:=h;walk_at "s1";rcases h with⟨hd,hx⟩|⟨l,rfl,hl,k1,k2⟩
 ·exact⟨d,rfl,fun z=>(by rw[hd] at z;cases z),fun _=>(by dsimp only;rw[aA];exact hx)⟩
 refine⟨_,rfl,fun _=>?_,fun z=>(by simp[isD,tyD] at z)⟩
 walk_at "s1";walk_at "s1";intro lw hw;walk_at "s1";intro lj hj;walk_at "s1";intro ld hd;obtain⟨nd,hd0⟩:=mL hd;obtain⟨nw,hdw⟩:=mL hd0;obtain⟨njw,hj0⟩:=mL hj;rw[show ((Z.put lw (OC.own [AV.d (D.str (Str.ofString "talk"))])).put lj (OC.own [])).put ld (OC.own [])=om3 Z lw lj ld (.own (wtA [.ta])) (.own (bgA [])) (.own (dtA [])) from rfl]
 have nwj:lw≠lj:=Ne.symm njw;have nwd:lw≠ld:=Ne.symm nw;have njd:lj≠ld:=Ne.symm nd
 have eo:∀(A B C:OC),(om3 Z lw lj ld A B C).only Z=Z:=fun A B C=>by
  rw[om3,iH ((((L2.Ex.refl Z).new hw).new (by rw[Om.ID njw];exact hj0)).new (by rw[Om.ID nd,Om.ID nw];exact hdw))]
 have ldn:∀d:List Ta,(dtA d).length=d.length:=fun d=>by simp[dtA]
 have ljs:∀j:List Bg,(bgA j).length=j.length:=fun j=>by simp[bgA]
 have lwk:∀W:List Wt,(wtA W).length=W.length:=fun W=>by simp[wtA]
 have small:∀ {m:Nat},m<=50000->m<sizeLine:=fun h=>Nat.lt_of_le_of_lt h (by decide)
 walk_at "s1";obtain⟨Pv,iP⟩:=D6 fun m ρ Z'=>∃(W:List Wt)(j:List Bg)(d:List Ta)(i:Nat)(v6 v7 v8 v9 v10:Option AV),Z'=om3 Z lw lj ld (.own (wtA W)) (.own (bgA j)) (.own (dtA d))/\i<=l.length/\pu n l i W j d=pu n l 0 [.ta] [] []/\eC W j.length d.length=true/\j.length<=i/\d.length<=i/\W.length<=4*i+1/\m=l.length-i/\ρ=[some (AV.d (D.int n)),some (AV.d (D.str (tx l))),some (AV.d (D.int i)),some (AV.r (V.ref lw)),some (AV.r (V.ref lj)),some (AV.r (V.ref ld)),v6,v7,v8,v9,v10]
 refine⟨Pv,⟨_,(iP _ _ _).mpr ⟨[.ta],[],[],0,_,_,_,_,_,rfl,Nat.zero_le _,rfl,rfl,Nat.le_refl _,Nat.le_refl _,by simp,rfl,rfl⟩⟩,fun m ρ Z1 h=>?_⟩
 obtain⟨W,j,d,i,v6,v7,v8,v9,v10,rfl,hi,hpr,hct,hjl,hdl,hwl,rfl,rfl⟩:=(iP _ _ _).mp h;clear h
 cases W with
 |nil=>
  walk_at "a1";refine⟨false,by rw[lU nwj nwd];rfl,?_⟩
  rw[if_neg (by decide)]
  rw[ki] at hpr;walk_at "s1";refine⟨l,i,rfl,by omega,fun hlt=>?_,fun hge=>?_⟩
  ·dsimp only
   rw[eo];exact k2 i (by rw[←hpr,if_pos hlt])
  ·walk_at "a1"
   simp only[eC,decide_eq_true_eq] at hct;obtain⟨x,rfl⟩:=List.length_eq_one_iff.mp hct.2;rw[kI];refine⟨_,rfl,_,rfl,_,rfl,?_⟩;rw[eo];exact k1 x (by rw[←hpr,if_neg hge])
 |cons e W=>
  rw[fK];walk_at "a1";refine⟨true,by rw[lU nwj nwd];simp,?_⟩
  rw[if_pos rfl];refine⟨fun ρ' Z'=>∃m',m'<l.length-i/\Pv m' ρ' Z',fun _ _ h=>h,?_⟩;simp only[List.length_cons] at hwl
  have go:∀(W:List Wt)(j:List Bg)(d:List Ta)(i':Nat)(z:Int)(v6 v7 v8 v9 v10:Option AV),z=(i':Int)->i<i'->i'<=l.length->pu n l i' W j d=pu n l 0 [.ta] [] []->eC W j.length d.length=true->j.length<=i'->d.length<=i'->W.length<=4*i'+1->∃m',m'<l.length-i/\Pv m' [some (AV.d (D.int n)),some (AV.d (D.str (tx l))),some (AV.d (D.int z)),some (AV.r (V.ref lw)),some (AV.r (V.ref lj)),some (AV.r (V.ref ld)),v6,v7,v8,v9,v10] (om3 Z lw lj ld (.own (wtA W)) (.own (bgA j)) (.own (dtA d))):=fun W j d i' z v6 v7 v8 v9 v10 hz h1 h2 h3 h4 h5 h6 h7=>by
   subst hz;exact⟨_,by omega,(iP _ _ _).mpr ⟨W,j,d,i',v6,v7,v8,v9,v10,rfl,h2,h3,h4,h5,h6,h7,rfl,rfl⟩⟩
  refine Ft rfl (lU nwj nwd) ?_;rw[tX nwj nwd];walk_at "s1";refine⟨l,i,rfl,by omega,?_⟩
  walk_at "a1"
  have eRa:∀p,pu n l i (e::W) j d=.error p->∀A B C,Ex (enC t.ao p) ((om3 Z lw lj ld A B C).only Z):=fun p h A B C=>by
   rw[eo];exact k2 p (hpr ▸ h)
  have vals:∀s,gJ [(Str.ofString "Y",V.str (Str.ofString "yes")),(Str.ofString "N",V.str (Str.ofString "no"))] (tx s)=if s=[89] then some (V.str (Str.ofString "yes")) else if s=[78] then some (V.str (Str.ofString "no")) else none:=fun s=>by
   have h38:decide (Str.ofString "Y"=tx s)=decide (s=[89]):=by rw[decide_eq_decide,show Str.ofString "Y"=tx [89] from by decide +kernel,cZ];exact eq_comm
   have h24:decide (Str.ofString "N"=tx s)=decide (s=[78]):=by rw[decide_eq_decide,show Str.ofString "N"=tx [78] from by decide +kernel,cZ];exact eq_comm
   unfold gJ;rw[List.find?_cons,List.find?_cons,h38,h24];by_cases a1:s=[89]
   ·subst a1;rfl
   ·rw[if_neg a1,decide_eq_false a1]
    by_cases a2:s=[78]
    ·subst a2;rfl
    ·rw[if_neg a2,decide_eq_false a2];rfl
  cases e with
  |ta=>
   simp only[show Wt.ta.wd=Str.ofString "talk" from rfl,if_true,vals]
   rw[mx hn1] at hpr eRa
   cases hc:l[i]? with
   |none=>
    rw[hc] at hpr eRa;have hs:sgT l i=[]:=by unfold sgT;rw[hc];rfl
    rw[hs,if_neg (by decide)]
    walk_at "s1";refine⟨⟨_,kI⟩,n,l,i,rfl,hn,by omega,fun c2 h2 hf=>?_,fun hf=>?_⟩
    ·rw[hc] at h2;cases h2
    ·exact eRa _ rfl _ _ _
   |some c=>
    have hi1:=(List.getElem?_eq_some_iff.mp hc).1;rw[hc] at hpr eRa;dsimp only at hpr eRa;have hs:sgT l i=[c]:=(gr l i c).mpr hc;rw[hs];by_cases hh:c=89\/c=78
    ·rw[if_pos hh] at hpr
     simp only[if_pos hh] at eRa;rw[if_pos (by rcases hh with rfl|rfl<;>decide)]
     walk_at "s1";rw[show ((i:Int)+1)=((i+1:Nat):Int) from by omega]
     refine⟨n,i+1,l,rfl,hn1,hn,by omega,by omega,fun r hr=>?_,fun q hq=>?_⟩
     ·obtain⟨a1,a2⟩:=oV hn1 (by omega) hr
      rw[hr] at hpr;refine⟨_,rfl,rfl,_,_,rfl,_,_,rfl,rfl,?_⟩;walk_at "s1";dsimp only at hpr;have fin:=fun v6 v7 v8=>go (.op::.ta::.sm::.ta::.cl::W) ((decide (c=89),r.1)::j) d r.2 (r.2:Int) v6 v7 v8 v9 v10 rfl (by omega) a2 hpr (by simp only[eC,List.length_cons,Bool.and_eq_true,decide_eq_true_eq] at hct ⊢;exact⟨by omega,by simpa using hct⟩) (by simp only[List.length_cons];omega) (by omega) (by simp only[List.length_cons];omega)
      rw[rM,fK,fK,fK,fK,fK] at fin;have eW:wtA W++[AV.d (D.str Wt.cl.wd)]++[AV.d (D.str Wt.ta.wd)]++[AV.d (D.str Wt.sm.wd)]++[AV.d (D.str Wt.ta.wd)]++[AV.d (D.str Wt.op.wd)]=wtA W++List.map AV.d (List.map D.str [Str.ofString ")",Str.ofString "talk",Str.ofString ";",Str.ofString "talk",Str.ofString "("]):=by simp[Wt.wd]
      rw[eW] at fin;rcases hh with rfl|rfl
      ·exact⟨⟨_,qj njd⟩,.str (Str.ofString "yes"),by rw[vals,if_pos rfl],.str (Str.ofString "yes"),rfl,_,qj njd,by rw[ljs];exact small (by omega),by rw[jd njd];exact⟨_,lU nwj nwd⟩,_,_,T.iM,by rw[jd njd];exact lU nwj nwd,by rw[lwk];exact Nat.le_of_lt (small (by simp only[List.length_cons,List.length_nil];omega)),by rw[jd njd,tX nwj nwd];exact fin _ _ _⟩
      ·exact⟨⟨_,qj njd⟩,.str (Str.ofString "no"),by rw[vals,if_neg (by decide),if_pos rfl],.str (Str.ofString "no"),rfl,_,qj njd,by rw[ljs];exact small (by omega),by rw[jd njd];exact⟨_,lU nwj nwd⟩,_,_,T.iM,by rw[jd njd];exact lU nwj nwd,by rw[lwk];exact Nat.le_of_lt (small (by simp only[List.length_cons,List.length_nil];omega)),by rw[jd njd,tX nwj nwd];exact fin _ _ _⟩
     ·exact eRa _ (by rw[hq]) _ _ _
    ·rw[if_neg hh] at hpr
     simp only[if_neg hh] at eRa
     rw [if_neg (by
      have a1:¬ [c]=[89]:=by simp;omega
      have a2:¬ [c]=[78]:=by simp;omega
      rw[if_neg a1,if_neg a2];decide)]
     walk_at "s1";refine⟨⟨_,kI⟩,n,l,i,rfl,hn,by omega,fun c2 h2 hf=>?_,fun hf=>?_⟩
     ·obtain rfl:c=c2:=by rw[hc] at h2;exact Option.some.inj h2
      rw[if_pos hf] at hpr;refine⟨_,rfl,_,kI,by rw[ldn];exact small (by omega),?_⟩
      rw[pH];have:=fun v6 v7=>go W j (.en (c-48:Nat)::d) (i+1) ((i:Int)+1) v6 v7 v8 v9 v10 (by omega) (by omega) (by omega) hpr (by simpa[eC] using hct) (by omega) (by simp only[List.length_cons];omega) (by omega)
      rw[jU] at this;exact this _ _
     ·exact eRa _ (by rw[if_neg (by rw[hf c hc];decide)]) _ _ _
  |op=>
   simp only[show ¬ Wt.op.wd=Str.ofString "talk" from by decide +kernel,if_false]
   rw[nK hn1] at hpr eRa;walk_at "s1";refine⟨l,i,40,by rw[show Wt.op.wd=tx [40] from by decide +kernel],by omega,fun hc=>?_,fun hc=>?_⟩
   ·have hi1:=(List.getElem?_eq_some_iff.mp hc).1
    rw[if_pos hc] at hpr;dsimp only;rw[if_neg (by decide +kernel)]
    exact go W j d (i+1) ((i+1:Nat):Int) _ _ _ _ _ rfl (by omega) (by omega) hpr (by simpa[eC] using hct) (by omega) (by omega) (by omega)
   ·exact eRa _ (by rw[if_neg hc]) _ _ _
  |sm=>
   simp only[show ¬ Wt.sm.wd=Str.ofString "talk" from by decide +kernel,if_false]
   rw[oN hn1] at hpr eRa;walk_at "s1";refine⟨l,i,59,by rw[show Wt.sm.wd=tx [59] from by decide +kernel],by omega,fun hc=>?_,fun hc=>?_⟩
   ·have hi1:=(List.getElem?_eq_some_iff.mp hc).1
    rw[if_pos hc] at hpr;dsimp only;rw[if_neg (by decide +kernel)]
    exact go W j d (i+1) ((i+1:Nat):Int) _ _ _ _ _ rfl (by omega) (by omega) hpr (by simpa[eC] using hct) (by omega) (by omega) (by omega)
   ·exact eRa _ (by rw[if_neg hc]) _ _ _
  |cl=>
   obtain⟨g,b',r,x,d',rfl,rfl,hct'⟩:=gN hct;simp only[show ¬ Wt.cl.wd=Str.ofString "talk" from by decide +kernel,if_false]
   rw[oG hn1] at hpr eRa;walk_at "s1";refine⟨l,i,41,by rw[show Wt.cl.wd=tx [41] from by decide +kernel],by omega,fun hc=>?_,fun hc=>?_⟩
   ·have hi1:=(List.getElem?_eq_some_iff.mp hc).1
    rw[if_pos hc] at hpr;simp only[List.length_cons] at hjl hdl;dsimp only;rw[if_pos (by decide +kernel),rM,jU,jU]
    refine zA rfl kI ?_;rw[pH];refine zA rfl kI ?_;rw[pH];walk_at "a1";refine⟨⟨_,kI⟩,_,qj njd,.d (bgD g),by simp,?_⟩
    rw[List.dropLast_concat,jd njd];have:=fun v6 v7=>go W b' (.nd g.1 g.2 x r::d') (i+1) ((i+1:Nat):Int) v6 v7 v8 (some (.d r.d)) (some (.d x.d)) rfl (by omega) (by omega) hpr (by simpa using hct') (by omega) (by simp only[List.length_cons];omega) (by omega)
    rw[jU] at this;simp only[bgD];walk_at "a1";exact⟨_,kI,by rw[ldn];exact small (by omega),by rw[pH];exact this _ _⟩
   ·exact eRa _ (by rw[if_neg hc]) _ _ _
theorem xm{Z:Om}{p:Addr}(h:lA Z p):(Z p).isSome=true:=by obtain⟨c,e⟩:=h;rw[e];rfl
theorem gO{Z:Om}{p:Addr}{c:Pl}(h:lA Z p):(Z.put p (plO c)).only Z=Z.put p (plO c):=zl (Ex.refl _) (xm h)
theorem Cq{v:Int}(h0:0<=v)(h1:v<2):∃y:Bool,atI [AV.d (D.str (Str.ofString "yes")),AV.d (D.str (Str.ofString "no"))] v=some (.d (.str (if y then ("yes":Str) else ("no":Str)))):=by
 rcases(by omega:v=0\/v=1) with rfl|rfl
 ·exact⟨true,rfl⟩
 ·exact⟨false,rfl⟩
theorem uS:∀i:Fin 10,Str.ofString (toString (i.val:Int))=tx [48+i.val]:=by decide +kernel
theorem zT:∀v:List Int,jn [] (v.map fun b=>[48+b.toNat])=btx v
 | []=>rfl
 | [a]=>rfl
 |a::b::v=>by
  have:=zT (b::v);simp only[List.map_cons] at this ⊢;rw[jn,this];simp[btx]
noncomputable def Eh:ASp:=fun xs Z Q=>∃(n:Nat) (ws:List (List Int)),xs=[.d (.tup (ws.map wdD))]/\n<=5/\Wds n ws/\Q (.d (.str (tx (wtx ws)))) Z
theorem Et(T:Txt K mg t):aV P w K mg base CX0 1 t.bM t.eZ ["_law_words"] (e9 Eh):=by
 refine T.mh.okD kW (fun xs Z Q h=>by obtain ⟨n,ws,rfl,_⟩:=h;rfl) (fun cdv A outer s H E hr=>⟨_,_,(ag (bw (aB (cK hr.IE) (aG (bi K rfl) (by rfl) T.eu (by kernel_rfl) (aa (pv 0) af)) aj (aO _)) (ak (aL au)) aP)
   (ak (aL (fZ PySem.F.plainAttrs_str PySem.F.slot_str_join PySem.F.type_str_join (gW K rfl) au (aa (oX (N:=(["_law_word"]:List Str)) (src:=[none]) rfl (by show mW _ (defScope dM) _ _ (["_law_words"]:List Str)=true;decide +kernel) (by intro g' h;cases h) (mI K rfl (pv 0)) (fun _ _ _ _ _ _=>(bX (i:=0) (show (["_law_word"]:List Str).Nodup by decide +kernel) rfl (Or.inl rfl))) (fun _ _ _ _ _ _=>uO) (fun _ _ _ _ _ _=>(pB rfl rfl (by refine fZ PySem.F.plainAttrs_str PySem.F.slot_str_join PySem.F.type_str_join (gW K rfl) au ?_;exact(aa (oX (N:=(["_law_bit"]:List Str)) (src:=[none]) rfl (by with_unfolding_all rfl) (by intro g' h;cases h) (mI K rfl (pv 0)) (fun _ _ _ _ _ _=>(bX (i:=0) (show (["_law_bit"]:List Str).Nodup by decide +kernel) rfl (Or.inl rfl))) (fun _ _ _ _ _ _=>uO) (fun _ _ _ _ _ _=>(pB rfl rfl (cE jv (by rfl) T.vh (by kernel_rfl) (aa (pv 0) af))))) af))))) af))))),(aD (dS (aK (am cr (cg mf (ac ae ah)) av)) (bh aF) a7)
   (bh (md aF (ac (ur (rB ae) aq Gv (tM (md aF (ac (ur (rB ae) aq Gv (tM (cg Aq (ac ae ah)))) ah)))) ah)))),fun xs Z Q h=>?_⟩)
 obtain⟨n,ws,rfl,hn,hw,k⟩:=h;have hwl:=hw.le hn;walk_at "s1";by_cases h0:ws=[]
 ·subst h0
  rw[if_pos (by simp),aA,show Str.ofString "-"=tx (wtx []) from by decide +kernel]
  exact k
 rw[if_neg (by have:=List.length_pos_iff.mpr h0;omega)]
 refine vx (rs:=(ws.map fun v=>tx (btx v)).map D.str) (by simp) (Nat.le_of_lt (dH (by simp;omega))) (fun j a r h1 h2 Q q=>?_) (fun ρ=>⟨_,ik _,_,rfl,?_,?_⟩)
 ·simp only[List.getElem?_map,Option.map_eq_some_iff] at h1 h2
  obtain⟨_,⟨v,hj,rfl⟩,rfl⟩:=h1;obtain⟨_,⟨v',hj',rfl⟩,rfl⟩:=h2;rw[hj] at hj';cases hj';obtain⟨vl,vb⟩:=ez (hw.2 v (List.mem_of_getElem? hj));simp only[wdD];walk_at "a1";refine vx (rs:=((v.map fun b=>[48+b.toNat]).map tx).map D.str) (by simp) (Nat.le_of_lt (dH (by simp;omega))) (fun j a r h1 h2 Q q=>?_) (fun ρ=>⟨_,ik _,_,rfl,?_,?_⟩)
  ·simp only[List.getElem?_map,Option.map_eq_some_iff] at h1 h2
   obtain⟨_,⟨b,hj,rfl⟩,rfl⟩:=h1;obtain⟨_,⟨_,⟨b',hj',rfl⟩,rfl⟩,rfl⟩:=h2;rw[hj] at hj';cases hj';have hb:=vb b (List.mem_of_getElem? hj);have e1:=uS ⟨b.toNat,by omega⟩
   simp only at e1;rw[show ((b.toNat:Nat):Int)=b from by omega] at e1
   walk_at "a1";rw[e1];exact⟨Nat.lt_of_le_of_lt (Nat.log2_le_self _) (by omega),q⟩
  ·exact og 10 (fun y hy=>by
    obtain⟨z,hz,rfl⟩:=List.mem_map.mp hy;obtain⟨b,_,rfl⟩:=List.mem_map.mp hz;rw[al,show (Str.ofString "").length=0 from by decide +kernel]
    simp) (by simp;omega)
  ·rw[show Str.ofString ""=tx [] from by decide +kernel,iy,zT]
   exact q
 ·exact og 10 (fun y hy=>by
   obtain⟨v,hv,rfl⟩:=List.mem_map.mp hy;have:=(ez (hw.2 v hv)).1;rw[al,show (Str.ofString ",").length=1 from by decide +kernel]
   simp[btx]
   omega) (by simp;omega)
 ·rw[show Str.ofString ","=tx [44] from by decide +kernel,show (ws.map fun v=>tx (btx v))=(ws.map btx).map tx from by simp,iy,aA]
  simp only[wtx,if_neg h0] at k;exact k
noncomputable def ut(r:Nat):ASp:=fun xs Z Q=>∃(n:Nat)(x:Ta),xs=[.d x.d]/\n<=5/\sbT n x/\x.dp<=r/\r<=150/\(ttx x).length<=10000/\Q (.d (.str (tx (ttx x)))) Z
theorem qq(T:Txt K mg t)(r:Nat)(kk:Nat)(sp:ASp)(hk:1<=kk)(G_l_talk_text:aV P w K mg base CX0 kk t.bz t.dg ["_law_talk"] (e9 sp))(hs:∀r',r=r'+1->sp=ut r'):aV P w K mg base CX0 (kk+1) t.bz t.dg ["_law_talk"] (e9 (ut r)):=by
 have G_l_words_text:aV P w K mg base _ _ _ _ _ _:=Et T
 refine T.nc.okD hU (fun xs Z Q h=>by obtain ⟨n,x,rfl,_⟩:=h;rfl) (fun cdv A outer s H E hr=>⟨_,_,(ag (bw (aB (cK hr.IE) (cc (aY K rfl) (pv 0) aj (fun _ _=>rfl)) au (aO _)) (ak (aL (cE jv (by rfl) T.vh (by kernel_rfl) (aa (cc (aY K rfl) (pv 0) aj (fun _ _=>rfl)) af)))) aP)
   (ag (az (i:=1) hU.nd rfl (Or.inl rfl) (ay aQ (ay aQ (ax G_l_talk_text (hr.mono (by omega)) (by rfl) T.eg T.ee T.d9 .nil bq (aa (cc (aY K rfl) (pv 0) aj (fun _ _=>rfl)) af)) au) (ax G_l_talk_text (hr.mono (by omega)) (by rfl) T.eg T.ee T.d9 .nil bq (aa (cc (aY K rfl) (pv 0) aj (fun _ _=>rfl)) af))))
   (ak (aL (ay aQ (ay aQ (ay aQ (ay aQ (ay aQ (j6 PySem.F.plainAttrs_str PySem.F.slot_str_upper PySem.F.type_str_upper yW (cc (aY K rfl) (cc (aY K rfl) (pv 0) aj (fun _ _=>rfl)) aj (fun _ _=>rfl))) au) (ax G_l_words_text (hr.mono (by omega)) (by rfl) T.mV T.me T.mn .nil bq (aa (cc (aY K rfl) (pv 0) aj (fun _ _=>rfl)) af))) au) (pv 1)) au))))),(aD (dS (aK (am cr (am eB ae av) aF)) (bh (cg Aq (ac (am eB ae av) ah))) a7)
   (aD (aM (am cj (am cj (aT (ac (am eB ae av) ah)) aF) (aT (ac (am eB ae av) ah))) aq)
   (bh (am cj (am cj (am cj (am cj (am cj (Cc (am uP (am eB ae av) av)) aF) (aT (ac (am eB ae av) ah))) aF) ae) aF)))),fun xs Z Q h=>?_⟩)
 obtain⟨n,x,rfl,hn,hx,hd,hr150,hl,k⟩:=h
 cases x with
 |en i=>
  obtain⟨i0,i1⟩:=hx;obtain⟨i,rfl⟩:=Int.eq_ofNat_of_zero_le i0;have e1:=uS ⟨i,by omega⟩
  simp only at e1;simp only[Ta.d];walk_at "s1";rw[e1,aA];exact⟨Nat.lt_of_le_of_lt (Nat.log2_le_self _) (by omega),k⟩
 |nd y ws a b=>
  simp only[Ta.dp] at hd;obtain⟨r',rfl⟩:∃r',r=r'+1:=⟨r-1,by omega⟩
  cases hs r' rfl;obtain⟨hws,ha,hb⟩:=hx;have hwd:=Wds.sub hws hn;simp only[ttx,List.length_append,List.length_cons,List.length_nil] at hl;have e59:Str.ofString ";"=tx [59]:=by decide +kernel
  have e91:Str.ofString "["=tx [91]:=by decide +kernel
  have e93:Str.ofString "]("=tx [93,40]:=by decide +kernel
  have e41:Str.ofString ")"=tx [41]:=by decide +kernel
  cases y
  ·simp only[Ta.d,if_false,Bool.false_eq_true]
   walk_at "s1";walk_at "s1";refine⟨n,a,rfl,hn,ha,by omega,by omega,by omega,_,rfl,by rw[e59,al,al];exact c6 (by simp;omega),?_⟩
   rw[e59,dL];refine⟨n,b,rfl,hn,hb,by omega,by omega,by omega,_,rfl,by rw[al,al];exact c6 (by simp;omega),?_⟩
   rw[dL];simp only[tD];walk_at "a1";refine⟨by decide +kernel,110,by decide +kernel,by rw[al];decide,?_⟩
   rw[show Txt.upper (tx [110])=tx [78] from by decide +kernel,e91,e93,e41,dL]
   refine⟨by rw[al,al];exact c6 (by simp),n,ws,rfl,hn,hwd,_,rfl,?_⟩
   simp only[dL];refine⟨by rw[al,al];exact c6 (by simp;omega),by rw[al,al];exact c6 (by simp;omega),by rw[al,al];exact c6 (by simp;omega),by rw[al,al];exact c6 (by simp;omega),?_⟩
   rw[aA];simpa[ttx] using k
  ·simp only[Ta.d,if_true]
   walk_at "s1";walk_at "s1";refine⟨n,a,rfl,hn,ha,by omega,by omega,by omega,_,rfl,by rw[e59,al,al];exact c6 (by simp;omega),?_⟩
   rw[e59,dL];refine⟨n,b,rfl,hn,hb,by omega,by omega,by omega,_,rfl,by rw[al,al];exact c6 (by simp;omega),?_⟩
   rw[dL];simp only[tD];walk_at "a1";refine⟨by decide +kernel,121,by decide +kernel,by rw[al];decide,?_⟩
   rw[show Txt.upper (tx [121])=tx [89] from by decide +kernel,e91,e93,e41,dL]
   refine⟨by rw[al,al];exact c6 (by simp),n,ws,rfl,hn,hwd,_,rfl,?_⟩
   simp only[dL];refine⟨by rw[al,al];exact c6 (by simp;omega),by rw[al,al];exact c6 (by simp;omega),by rw[al,al];exact c6 (by simp;omega),by rw[al,al];exact c6 (by simp;omega),?_⟩
   rw[aA];simpa[ttx] using k
theorem zZ(T:Txt K mg t):∀r,aV P w K mg base CX0 (r+2) t.bz t.dg ["_law_talk"] (e9 (ut r))
 |0=>qq T 0 1 Em (Nat.le_refl _) CI (fun r' h=>by omega)
 |r+1=>qq T (r+1) (r+2) _ (by omega) (zZ T r) (fun r' h=>by cases h;rfl)
noncomputable def pf(r:Nat):ASp:=fun xs Z Q=>∃(p:Addr)(n sh:Nat),xs=[.r (.ref p),.d (.int n),.d (.int r),.d (.int sh)]/\lA Z p/\1<=n/\n<=5/\1<=sh/\sh<=9/\r<=5/\∀(u:Ta)(c:Pl),sbT n u->u.dp<=r->u.lvs<=2^r->Q (.d u.d) (Z.put p (plO c))
theorem oM(T:Txt K mg t)(r:Nat)(kk:Nat)(sp:ASp)(hk:1<=kk)(G_l_any_talk:aV P w K mg base CX0 kk t.bK t.dJ ["_law_pen_here","_law_places","_law_most","_law_share"] (e9 sp))(hs:∀r',r=r'+1->sp=pf r'):aV P w K mg base CX0 (kk+1) t.bK t.dJ ["_law_pen_here","_law_places","_law_most","_law_share"] (e9 (pf r)):=by
 have G_l_draw:aV P w K mg base _ _ _ _ _ _:=jR T;have G_l_all:aV P w K mg base _ _ _ _ _ _:=EI T
 refine T.pp.okD fw (fun xs Z Q h=>by obtain ⟨p,n,sh,rfl,_⟩:=h;rfl) (fun cdv A outer s H E hr=>⟨_,_,(ag (bw (PW.pt (A1 (aB (cK hr.IE) (pv 2) aj (aO _)) (tG (aB (cK hr.IE) (ax G_l_draw (hr.mono (by omega)) (by rfl) T.bE T.bF T.bI .nil bq (aa (pv 0) (ai aj af))) aj (aO _))))) (ak (aL (a8 (ai au (aa (ax G_l_draw (hr.mono (by omega)) (by rfl) T.bE T.bF T.bI .nil bq (aa (pv 0) (aa (pv 1) af))) af))))) aP)
   (ag (az (i:=4) fw.nd rfl (Or.inl rfl) (cE (gX K rfl) (by rfl) T.uQ (by kernel_rfl) (aa (oX (N:=(["_law_word","_law_pen_here","_law_share"] : List Str)) (src:=[none,some 0,some 3]) rfl (by show mW _ (defScope eD) _ _ (["_law_pen_here","_law_places","_law_most","_law_share","_law_says","_law_hand"] : List Str) = true;decide +kernel) (by intro g' h;cases h) (mI K rfl (ax G_l_all (hr.mono (by omega)) (by rfl) T.Bq T.By T.Bb .nil bq (aa (pv 1) af))) (fun _ _ _ _ _ _=>(bX (i:=0) (show (["_law_word","_law_pen_here","_law_share"] : List Str).Nodup by decide +kernel) rfl (Or.inl rfl))) (fun _ _ _ _ _ _=>(BY (aB (cK hr.IE) (ax G_l_draw (hr.mono (by omega)) (by rfl) T.bE T.bF T.bI .nil bq (aa (pv 1) (aa (pv 2) af))) aj (aO _)))) (fun _ _ _ _ _ _=>(pB rfl rfl (pv 0)))) af)))
   (ag (az (i:=5) fw.nd rfl (Or.inl rfl) (cc (aY K rfl) (bj (ai au (ai au af))) (ax G_l_draw (hr.mono (by omega)) (by rfl) T.bE T.bF T.bI .nil bq (aa (pv 0) (ai aj af))) (fun _ _=>rfl)))
   (ak (aL (a8 (aa (pv 5) (aa (pv 4) (aa (ax G_l_any_talk (hr.mono (by omega)) (by rfl) T.gf T.gg T.gy .nil bq (aa (pv 0) (aa (pv 1) (aa (ay lW (pv 2) aj) (aa (pv 3) af))))) (aa (ax G_l_any_talk (hr.mono (by omega)) (by rfl) T.gf T.gg T.gy .nil bq (aa (pv 0) (aa (pv 1) (aa (ay lW (pv 2) aj) (aa (pv 3) af))))) af)))))))))),(aD (dS (Ew (aK (am cr ae av)) (aK (am cr (aT (ac ae (ac av ah))) av))) (bh (bV (ac aF (ac (aT (ac ae (ac ae ah))) ah)))) a7)
   (aD (aM (cg wf (ac (ur (rB (aT (ac ae ah))) aq (aK (am cr (aT (ac ae (ac ae ah))) av)) (tM ae)) ah)) aq)
   (aD (aM (am eB (cL (ac aF (ac aF ah))) (aT (ac ae (ac av ah)))) aq)
   (bh (bV (ac ae (ac ae (ac (aT (ac ae (ac ae (ac (am kJ ae av) (ac ae ah))))) (ac (aT (ac ae (ac ae (ac (am kJ ae av) (ac ae ah))))) ah))))))))),fun xs Z Q h=>?_⟩)
 obtain⟨p,n,sh,rfl,hp,hn1,hn,hs1,hs9,hr5,k⟩:=h;have p1:1<=2^r:=Nat.pos_of_ne_zero (by simp)
 have leaf:∀c:Pl,pF [.r (.ref p),.d (.int n)] (Z.put p (plO c)) fun x Z1=>∃ds,Option.map (fun x=>D.str (Str.ofString "end")::x) (und [x])=some ds/\Q (AV.d (D.tup ds)) (Z1.only Z):=fun c=>
  ⟨p,n,rfl,⟨c,Om.IA⟩,by omega,by omega,fun v c v0 v1=>⟨_,rfl,by
   rw[Om.IC,gO hp]
   exact k (.en v) c ⟨v0,v1⟩ (Nat.zero_le _) (by simp only[Ta.lvs];omega)⟩⟩
 have self:∃c,Z.put p (plO c)=Z:=by
  obtain⟨c,e⟩:=hp;exact⟨c,by funext b;by_cases hb:b=p<;>simp[Om.put,hb,e]⟩
 walk_at "s1";refine pP (fun _=>?_) (fun h=>?_)
 ·obtain⟨c,e⟩:=self
  have:=leaf c
  rwa [e] at this
 refine⟨p,5,rfl,hp,by decide,by decide,fun v c v0 v1=>⟨_,rfl,by simp[dep],pP (fun _=>leaf c) (fun _=>?_)⟩⟩
 obtain⟨r',rfl⟩:∃r',r=r'+1:=⟨r-1,by omega⟩
 cases hs r' rfl;walk_at "s1";refine⟨n,rfl,hn,?_⟩;walk_at "a1";have hwl:=vv hn;refine tw (fun Z'=>∃c,Z'=Z.put p (plO c)) ⟨c,rfl⟩ (fun d hd Z' hS Q' q=>?_) (fun d hd Z' hS Q' q=>?_) (Nat.le_of_lt (dH (by simp;omega))) (fun es ρ Z' hs hS=>⟨es,ik _,?_⟩)
 ·obtain⟨c',rfl⟩:=hS
  walk_at "a1";refine⟨p,sh,rfl,⟨c',Om.IA⟩,by omega,by omega,fun v2 c2 v20 v21=>⟨_,rfl,by simp[dep],?_⟩⟩
  rw[Om.IC];exact q _ _ ⟨c2,rfl⟩
 ·walk_at "a1"
  exact q
 obtain⟨c',rfl⟩:=hS;obtain⟨ws,hws,rfl⟩:=List.sublist_map_iff.mp hs;walk_at "s1";refine⟨p,2,rfl,⟨c',Om.IA⟩,by decide,by decide,fun v c v0 v1=>?_⟩
 obtain⟨y,ey⟩:=Cq v0 v1;refine⟨_,rfl,_,ey,?_⟩;rw[Om.IC,show ((r'+1:Nat):Int)-1=(r':Int) from by omega]
 refine⟨p,n,sh,rfl,⟨c,Om.IA⟩,hn1,hn,hs1,hs9,by omega,fun u1 c1 s1 d1 l1=>⟨p,n,sh,rfl,⟨c1,by rw[Om.IC];exact Om.IA⟩,hn1,hn,hs1,hs9,by omega,fun u2 c2 s2 d2 l2=>⟨_,rfl,?_⟩⟩⟩
 rw[Om.IC,Om.IC,gO hp];exact k (.nd y ws u1 u2) c2 ⟨hws,s1,s2⟩ (by simp only[Ta.dp];omega) (by simp only[Ta.lvs,Nat.pow_succ];omega)
theorem vX(T:Txt K mg t):∀r,aV P w K mg base CX0 (r+2) t.bK t.dJ ["_law_pen_here","_law_places","_law_most","_law_share"] (e9 (pf r))
 |0=>oM T 0 1 Em (Nat.le_refl _) CI (fun r' h=>by omega)
 |r+1=>oM T (r+1) (r+2) _ (by omega) (vX T r) (fun r' h=>by cases h;rfl)
noncomputable def Be:ASp:=fun xs Z Q=>∃(p:Addr)(s:List Nat),xs=[.r (.ref p),.d (.str (tx s))]/\lA Z p/\1<=s.length/\s.length<=100/\∀(c:Nat)(o:Pl),Q (.d (.str (tx [c]))) (Z.put p (plO o))
theorem Bm(T:Txt K mg t):aV P w K mg base CX0 2 t.eR t.mD ["_law_pen_here","_law_signs"] (e9 Be):=by
 have G_l_draw:aV P w K mg base _ _ _ _ _ _:=jR T
 refine T.zY.okD oH (fun xs Z Q h=>by obtain ⟨p,s,rfl,_⟩:=h;rfl) (fun cdv A outer s H E hr=>⟨_,_,(ag (bw (aB xP (ax G_l_draw (hr.mono (by omega)) (by rfl) T.bE T.bF T.bI .nil bq (aa (pv 0) (ai aj af))) aj (aO _)) (ak (aL (cc (aY K rfl) (pv 1) (ax G_l_draw (hr.mono (by omega)) (by rfl) T.bE T.bF T.bI .nil bq (aa (pv 0) (aa (aG (bi K rfl) (by rfl) T.eu (by kernel_rfl) (aa (pv 1) af)) af))) (fun _ _=>rfl)))) aP)
   (ag (az (i:=2) oH.nd rfl (Or.inl rfl) au)
   (ak (aL (cc (aY K rfl) (pv 2) (ax G_l_draw (hr.mono (by omega)) (by rfl) T.bE T.bF T.bI .nil bq (aa (pv 0) (aa (aG (bi K rfl) (by rfl) T.eu (by kernel_rfl) (aa (pv 2) af)) af))) (fun _ _=>rfl)))))),(aD (dS (aK (am l7 (aT (ac ae (ac av ah))) av)) (bh (am uP ae (aT (ac ae (ac (cg fF (ac ae ah)) ah))))) a7)
   (aD (aM aF aq)
   (bh (am uP ae (aT (ac ae (ac (cg fF (ac ae ah)) ah))))))),fun xs Z Q h=>?_⟩)
 obtain⟨p,s,rfl,hp,hs1,hs2,k⟩:=h;walk_at "ab";refine⟨p,4,rfl,hp,by decide,by decide,fun x c h0 h1=>?_⟩
 walk_at "ab"
 have at1:∀(l:List Nat)(y:Int),0<=y->y<l.length->∃c,atI l y=some c:=fun l y y0 y1=>by
  obtain⟨q,rfl⟩:=Int.eq_ofNat_of_zero_le y0;exact⟨l[q]'(by omega),by show (ixN l.length (q:Int)).bind _=_;unfold ixN;rw[if_pos (by omega),if_pos (by omega)];simp⟩
 have go:∀(s:List Nat),1<=s.length->s.length<=100->(tx s).length<=sizeLine /\
   pF [AV.r (V.ref p),AV.d (D.int ((tx s).length:Nat))] (Z.put p (plO c)) fun y Z2=>∃x,y=AV.d (D.int x)/\(tx s).length<=sizeLine/\∃x_1,atI (tx s).cps.toList x=some x_1/\Q (AV.d (D.str (tx [x_1]))) (Z2.only Z):=fun s hs1 hs2=>by
  have hsz:(tx s).length<=sizeLine:=by rw[al];exact Nat.le_trans hs2 (by decide)
  refine⟨hsz,p,_,rfl,bY,by rw[al];omega,by rw[al];omega,fun y c2 g0 g1=>⟨y,rfl,hsz,?_⟩⟩
  rw[al] at g1;obtain⟨c3,h3⟩:=at1 s y g0 g1;refine⟨c3,h3,?_⟩;rw[Om.IC,gO hp];exact k c3 c2
 refine pP (fun h=>go s hs1 hs2) (fun h=>?_);have he:∃e:List Nat,Str.ofString " !\"#$&'()*+,-./0123456789:;<=>?@ABCDEFGHIJKLMNOPQRSTUVWXYZ[\\]^_`abcdefghijklmnopqrstuvwxyz{|}~"=tx e/\1<=e.length/\e.length<=100:=⟨[32,33,34,35,36]++(List.range 89).map (·+38),by decide +kernel,by decide +kernel,by decide +kernel⟩
 obtain⟨e,he,e1,e2⟩:=he;rw[he];exact go e e1 e2
noncomputable def Bu:ASp:=fun xs Z Q=>∃(p:Addr)(l s:List Nat),xs=[.r (.ref p),.d (.str (tx l)),.d (.str (tx s))]/\lA Z p/\1<=s.length/\s.length<=100/\l.length<=20000/\∀(l':List Nat)(o:Pl),l'.length<=2*l.length+1->l'.count 40<=2*l.count 40+1->Q (.d (.str (tx l'))) (Z.put p (plO o))
theorem BT(T:Txt K mg t):aV P w K mg base CX0 3 t.ff t.lP ["_law_pen_here","_law_text","_law_signs"] (e9 Bu):=by
 have G_l_draw:aV P w K mg base _ _ _ _ _ _:=jR T;have G_l_sign:aV P w K mg base _ _ _ _ _ _:=Bm T
 refine T.A9.okD fU (fun xs Z Q h=>by obtain ⟨p,l,s,rfl,_⟩:=h;rfl) (fun cdv A outer s H E hr=>⟨_,_,(ag (az (i:=3) fU.nd rfl (Or.inl rfl) (ax G_l_draw (hr.mono (by omega)) (by rfl) T.bE T.bF T.bI .nil bq (aa (pv 0) (aa (ay (ar bd (ar aR bc)) (aG (bi K rfl) (by rfl) T.eu (by kernel_rfl) (aa (pv 1) af)) aj) af))))
   (ag (az (i:=4) fU.nd rfl (Or.inl rfl) (ax G_l_sign (hr.mono (by omega)) (by rfl) T.ze T.yk T.zJ .nil bq (aa (pv 0) (aa (pv 2) af))))
   (ag (az (i:=5) fU.nd rfl (Or.inl rfl) (bj (aa (ay aQ (ay aQ (aW c5 (pv 1) bu (bb (pv 3))) (pv 4)) (aW c5 (pv 1) (bb (pv 3)) bu)) (aa (ay aQ (ay aQ (aW c5 (pv 1) bu (bb (pv 3))) (pv 4)) (aW c5 (pv 1) (bb (ay (ar bd (ar aR bc)) (pv 3) aj)) bu)) (aa (ay aQ (aW c5 (pv 1) bu (bb (pv 3))) (aW c5 (pv 1) (bb (ay (ar bd (ar aR bc)) (pv 3) aj)) bu)) (aa (aW c5 (pv 1) bu (bb (pv 3))) af))))))
   (ag (az (i:=5) fU.nd rfl (Or.inl rfl) (ay (ar bd (ar aR bc)) (pv 5) (bj (aa (ay aQ (pv 1) (pv 4)) (aa (ay aQ (pv 4) (pv 1)) (aa (aW c5 (pv 1) (bb (pv 3)) bu) (aa (ay aQ (ay aQ (aW c5 (pv 1) bu (bb (pv 3))) (aW c5 (pv 1) (bb (pv 3)) (bb (ay (ar bd (ar aR bc)) (pv 3) aj)))) (aW c5 (pv 1) (bb (pv 3)) bu)) (aa (ay aQ (pv 1) (pv 1)) af))))))))
   (ak (aL (cc (aY K rfl) (pv 5) (ax G_l_draw (hr.mono (by omega)) (by rfl) T.bE T.bF T.bI .nil bq (aa (pv 0) (ai aj af))) (fun _ _=>rfl)))))))),(aD (aM (aT (ac ae (ac (am bS (cg fF (ac ae ah)) av) ah))) aq)
   (aD (aM (aT (ac ae (ac ae ah))) aq)
   (aD (aM (cL (ac (am cj (am cj (eS ae bT (bA ae)) ae) (eS ae (bA ae) bT)) (ac (am cj (am cj (eS ae bT (bA ae)) ae) (eS ae (bA (am bS ae av)) bT)) (ac (am cj (eS ae bT (bA ae)) (eS ae (bA (am bS ae av)) bT)) (ac (eS ae bT (bA ae)) ah))))) aq)
   (aD (aM (am bS ae (cL (ac (am cj ae ae) (ac (am cj ae ae) (ac (eS ae (bA ae) bT) (ac (am cj (am cj (eS ae bT (bA ae)) (eS ae (bA ae) (bA (am bS ae av)))) (eS ae (bA ae) bT)) (ac (am cj ae ae) ah))))))) aq)
   (bh (am eB ae (aT (ac ae (ac av ah))))))))),fun xs Z Q h=>?_⟩)
 obtain⟨p,l,s,rfl,hp,hs1,hs2,hl,k⟩:=h;walk_at "ab";refine⟨by rw[al];exact Nat.le_trans hl (by decide),p,_,rfl,hp,by omega,by rw[al];omega,fun x c h0 h1=>?_⟩
 obtain⟨q,rfl⟩:=Int.eq_ofNat_of_zero_le h0;refine⟨p,s,rfl,bY,hs1,hs2,fun sg c2=>?_⟩;walk_at "ab";rw[show ((q:Int)+1)=((q+1:Nat):Int) from by omega]
 simp only[jH,AH,jO l (Nat.le_succ q),dL,al,List.length_append,List.length_take,List.length_drop,List.length_singleton];have sm:∀ {m:Nat},m<=100000->m<=sizeLine:=fun h=>Nat.le_trans h (by decide)
 refine⟨sm (by omega),sm (by omega),sm (by omega),sm (by omega),sm (by omega),sm (by omega),sm (by omega),sm (by omega),sm (by omega),sm (by omega),sm (by omega),sm (by omega),sm (by omega),sm (by omega),sm (by omega),sm (by omega),sm (by omega),sm (by omega),sm (by omega),sm (by omega),sm (by omega),p,9,rfl,bY,by decide,by decide,fun y c3 g0 g1=>⟨y,rfl,?_⟩⟩
 rw[Om.IC,gO hp];have fin:∀l':List Nat,l'.length<=2*l.length+1->l'.count 40<=2*l.count 40+1->∃d,AV.d (D.str (tx l'))=AV.d d/\Q (.d d) (Z.put p (plO c3)):=fun l' h h'=>⟨_,rfl,k l' c3 h h'⟩;have c1:∀m,(l.take m).count 40+(l.drop m).count 40=l.count 40:=fun m=>by rw[←List.count_append,List.take_append_drop]
 have c2:[sg].count 40<=1:=List.count_le_length;have d1:=c1 q;have d2:=c1 (q+1);have d3:(List.take (q.succ-q) (List.drop q l)).count 40<=1:=Nat.le_trans List.count_le_length (by rw[List.length_take];omega)
 rcases(by omega:y=0\/y=1\/y=2\/y=3\/y=4\/y=5\/y=6\/y=7\/y=8) with rfl|rfl|rfl|rfl|rfl|rfl|rfl|rfl|rfl<;>exact⟨_,rfl,fin _ (by simp;omega) (by first|(simp only[List.count_append];omega)|omega)⟩
noncomputable def upX(s:dh):dh:=fun xs Z Q Ex=>∃Q0 Ex0,s xs Z Q0 Ex0/\(∀v Z',Q0 v Z'->Q v Z')/\∀c Z',Ex0 c Z'->Ex c Z'
theorem nP{caps:List V}{cA:List AV}{sp:dh}{vs:List V}{H:Hp}{Q:VK}{E:XK}(h:gS caps cA (upX sp) vs H Q E):gS caps cA sp vs H Q E:=by
 obtain⟨F,xs,Z,Q',Ex,rp,rv,rc,⟨Q0,Ex0,h,k1,k2⟩,kq,kx⟩:=h;exact⟨F,xs,Z,Q0,Ex0,rp,rv,rc,h,fun a Z' v H' r f rv q=>kq a Z' v H' r f rv (k1 a Z' q),fun C Z' a H' r f q=>kx C Z' a H' r f (k2 C Z' q)⟩
theorem BZ{P:Program}{w:World}{K:W.Frag}{mg:Str->Option Value}{base:Heap}{H₀:Hp}{k:Nat}{f:Addr}{n:Nat}{caps:List V}{cA:List AV}{sp:dh}(C:rJ P w K mg base H₀ k f n (gS caps cA sp)):rJ P w K mg base H₀ k f n (gS caps cA (upX sp)):=
 ⟨C.fn,fun vs H Q E h=>C.len vs H Q E (nP h),fun A outer s H us vs Q E a b c d h=>C.run A outer s H us vs Q E a b c d (nP h)⟩
theorem mE{K:W.Frag}{f:Value->Option Bool}{a C m:Addr}{b:Bool}(ok:fN K C=true)(h:f (.ref C)=some b):ua K f (lF a C m) b:=.inr ⟨a,C,m,rfl,ok,h⟩
theorem A6(kc:Nat)(T:Txt K mg t):aV P w K mg base CX0 (kc+3) t.dy t.iF ["_law_asked"] (ly kc t.ao P w K mg base):=by
 refine T.wZ.ok eQ (fun vs H Q E h=>?_) (fun cdv A outer s H vs Q E hr h=>?_)
 ·obtain⟨F,Z,Q',f,c,a,sp,rfl,_⟩:=h;rfl
 obtain⟨F,Z,Q',f,c,a,sp,rfl,rp,C0,rc,hs,kq⟩:=h;have C__law_asked:=BZ C0;have rvs:RVs (cut F H Z) [Hk f c a] [.ref f]:=⟨_,_,rfl,⟨rfl,fun G' s=>rc.same s⟩,rfl⟩
 refine⟨_,(ag (az (i:=1) eQ.nd rfl (Or.inl rfl) cO)
   (ag (az (i:=2) eQ.nd rfl (Or.inl rfl) cO)
   (ag (Cr (i:=3) (j:=1) rfl rfl rfl (Bs (i:=2) eQ.nd rfl (Or.inl rfl) (rW (k:=kc) (i:=0) (hr.mono (by omega)) rfl (Or.inl rfl))) (by rfl) T.rK eQ.nd rfl rfl (by decide) rfl rfl)
   (ag (bw (aB lE (pv 1) cO (aO _)) (ak (aL (a8 (ai au (aa (pv 2) af))))) aP)
   (ag (bw (eM K rfl (aG (wK K rfl) (by rfl) T.dP (by kernel_rfl) (aa (pv 1) (bD (a8 (aa (cW (v:=.ref t.db) rfl T.xW rfl) (aa (cW (v:=.ref t.dc) rfl T.zU rfl) (aa (cW (v:=.ref t.d6) rfl T.B5 rfl) (aa (cW (v:=.ref t.b9) rfl T.sY rfl) (aa (cW (v:=.ref t.c7) rfl T.yw rfl) (aa (cW (v:=.ref t.da) rfl T.zS rfl) (aa (cW (v:=.ref t.cJ) rfl T.xg rfl) af)))))))) af))) (fun _=>rfl)) (ak (aL (a8 (ai au (ai cO af))))) aP)
   (ag (bw (PW.pt (A1 (tO (eM K rfl (aG (q0 K rfl) (by rfl) T.dP (by kernel_rfl) (aa (pv 1) (aa (cW (v:=.ref t.ao) rfl T.eV rfl) af))) (fun _=>rfl))) (tG (tO (eM K rfl (aG (q0 K rfl) (by rfl) T.dP (by kernel_rfl) (aa (pv 1) (aa (p5 (v:=.ty "ValueError") (by rfl) T.pV (by kernel_rfl) (by rfl)) af))) (fun _=>rfl)))))) (ak (aL (a8 (ai au (ai cO af))))) aP)
   (ak (aL (a8 (ai au (aa (Gn K rfl (pv 1)) af))))))))))),fD.run ((aD (aM ei aq)
   (aD (aM ei aq)
   (aD (Cy C__law_asked)
   (aD (dS (aK (am lS ae ei)) (bh (bV (ac aF (ac ae ah)))) a7)
   (aD (dS (nL (E4 ae (ac fh (ac fh (ac fh (ac fh (ac fh (ac fh (ac fh ah))))))))) (bh (bV (ac aF (ac ei ah)))) a7)
   (aD (dS (Ew (yJ (nL (cg CM (ac ae (ac fh ah))))) (yJ (nL (cg CM (ac ae (ac fh ah)))))) (bh (bV (ac aF (ac ei ah)))) a7)
   (bh (bV (ac aF (ac (Ig ae) ah))))))))))) F H Z _ _ _ { nx:=fun _ Z'=>Q' (.d .non) (Z'.only Z),rt:=fun a Z'=>∃d,a=.d d/\Q' (.d d) (Z'.only Z) } rp (RS.start rvs) ?_ ⟨?_,?_,fun _ _ _ _ _ _ _ z=>z.elim,fun _ _ _ _ _ _ _ z=>z.elim⟩⟩
 ·have ox:fN K t.ao=true:=by
   have:=T.eH;unfold tB at this;simp only[Bool.and_eq_true] at this;exact this.1.1
  walk_at "s1";walk_at "s1";refine⟨rfl,_,_,hs,?_,?_⟩
  ·rintro v Z1 ⟨d,rfl,q⟩
   walk_at "s1";exact q
  ·rintro C Z1 ⟨n,rfl,q⟩
   refine⟨t.ao,n,rfl,T.bP,fun x=>?_⟩;walk_at "s1";walk_at "s1";refine⟨[.ref t.db,.ref t.dc,.ref t.d6,.ref t.b9,.ref t.c7,.ref t.da,.ref t.cJ],rfl,by simp,_,rfl,false,mE ox (by simp only[W.kitAny,T.cC,T.cB,T.cN,T.bW,T.cz,T.cy,T.ci]),?_⟩
   walk_at "s1";refine⟨_,rfl,true,mE ox T.cD,_,rfl,true,mE ox T.bG,?_⟩;rw[if_neg (by decide)]
   exact⟨x,_,n,rfl,T.eH,q⟩
 ·exact fun ρ' Z' σ' H' e1 e2 e3 q=>kq (.d .non) (Z'.only Z) .non H' e1.only.1 e2.only (by simp[RV,Dat]) q
 ·rintro a Z' v H' e1 e2 e3 ⟨d,rfl,q⟩
  exact kq (.d d) (Z'.only Z) v H' e1.only.1 e2.only (e3.same e1.only.2) q
noncomputable def j8(v:List Int):Prop:=∀b∈v,b=0\/b=1
theorem j8.nn{v:List Int}(h:j8 v):∀b∈v,0<=b:=fun b hb=>by rcases h b hb with rfl|rfl<;>decide
noncomputable def Fq.d:Fq->D
 |.ta=>.str (tx [116,97,108,107])
 |.ch c=>.str (tx [c])
 |.wd l b=>.tup [.str (tx (btx l)),.str (tx (btx b))]
 |.mo b=>.tup [.str (tx [109,111,114,101]),.str (tx (btx b))]
noncomputable def Fq.ok(n:Nat):Fq->Prop
 |.wd l b=>j8 l/\j8 b/\b.length<n
 |.mo b=>j8 b/\b.length<=n
 |_=>True
theorem pL:Str.ofString "talk"=tx [116,97,108,107]:=by decide +kernel
theorem mJ:Str.ofString "more"=tx [109,111,114,101]:=by decide +kernel
theorem yR:Str.ofString ""=tx []:=by decide +kernel
theorem sZ(l:List Nat):(tx l).cps.toList=l:=by simp[tx]
theorem uJ(a b:List Int):btx (a++b)=btx a++btx b:=by simp[btx]
theorem la(a:List Int):(btx a).length=a.length:=by simp[btx]
theorem vf:∀k:Nat,(List.replicate k [49]).flatten=btx (List.replicate k 1)
 |0=>rfl
 |k+1=>by rw[List.replicate_succ,List.flatten_cons,vf k];rfl
theorem AQ{v:List Int}(h:j8 v):tx (btx v)≠tx [109,111,114,101]:=fun z=>by
 rw[cZ] at z
 cases v with
 |nil=>simp[btx] at z
 |cons b v=>
  simp only[btx,List.map_cons,List.cons.injEq] at z;rcases h b (List.mem_cons_self ..) with rfl|rfl<;>simp at z
theorem vn{n c:Nat}(hn:n<=5):c∈[48,49,50,51,52].take n↔fig n c=true:=by
 unfold fig;rw[decide_eq_true_eq];rcases(by omega:n=0\/n=1\/n=2\/n=3\/n=4\/n=5) with rfl|rfl|rfl|rfl|rfl|rfl<;>simp<;>omega
theorem C3{v:List Int}(h:j8 v):48∈btx v↔(0:Int)∈v:=by
 unfold btx;rw[List.mem_map];constructor
 ·rintro⟨b,hb,e⟩
  rcases h b hb with rfl|rfl
  ·exact hb
  ·simp at e
 ·exact fun hb=>⟨0,hb,rfl⟩
noncomputable def E1:ASp:=fun xs Z Q=>∃(n:Nat)(last bits:List Int),xs=[.d (.int n),.d (.str (tx (btx last))),.d (.str (tx (btx bits)))]/\n<=5/\bits.length<=n/\j8 last/\j8 bits/\Q (.d (if bv (bits++List.replicate (n-bits.length) 1) last=true then .non else .lst [(if bits.length<n then Fq.wd last bits else .mo bits).d])) Z
theorem Fz(T:Txt K mg t):aV P w K mg base CX0 1 t.dm t.i4 ["_law_places","_law_last","_law_bits"] (e9 E1):=by
 refine T.uv.okD sC (fun xs Z Q h=>by obtain ⟨n,l,b,rfl,_⟩:=h;rfl) (fun cdv A outer s H E hr=>⟨_,_,(ag (bw (aB Ev (ay aQ (pv 2) (ay B1 au (ay lW (pv 0) (aG (bi K rfl) (by rfl) T.eu (by kernel_rfl) (aa (pv 2) af))))) (pv 1) (aO _)) (ak (aL cO)) aP)
   (ag (bw (aB yY (aG (bi K rfl) (by rfl) T.eu (by kernel_rfl) (aa (pv 2) af)) (pv 0) (aO _)) (ak (aL (bj (bD (a8 (aa (pv 1) (aa (pv 2) af))) af)))) aP)
   (ak (aL (bj (bD (a8 (ai au (aa (pv 2) af))) af)))))),(aD (dS (aK (am Gj (am cj ae (am Es aF (am kJ ae (cg fF (ac ae ah))))) ae)) (bh ei) a7)
   (aD (dS (aK (am l7 (cg fF (ac ae ah)) ae)) (bh (cL (ac (bV (ac ae (ac ae ah))) ah))) a7)
   (bh (cL (ac (bV (ac aF (ac ae ah))) ah))))),fun xs Z Q h=>?_⟩)
 obtain⟨n,last,bits,rfl,hn,hb,h1,h2,k⟩:=h;walk_at "s1";have e1:Str.ofString "1"=tx [49]:=by decide +kernel
 have sm:∀ {m:Nat},m<=100->m<=sizeLine:=fun h=>Nat.le_trans h (by decide)
 rw[al,la];refine⟨sm (by omega),[49],e1,by omega,by omega,by decide,?_⟩
 rw[vf,al,la,List.length_replicate,show ((n:Int)-(bits.length:Nat)).toNat=n-bits.length from by omega,dL,←uJ,sZ,sZ]
 have hr:j8 (bits++List.replicate (n-bits.length) 1):=fun b hb=>by
  rcases List.mem_append.mp hb with hb|hb
  ·exact h2 b hb
  ·exact .inr (List.eq_of_mem_replicate hb)
 refine⟨sm (by omega),?_⟩
 rw[show (!decide (btx last<btx (bits++List.replicate (n-bits.length) 1)))=bv (bits++List.replicate (n-bits.length) 1) last from Dm _ _ hr.nn h1.nn]
 by_cases hle:bv (bits++List.replicate (n-bits.length) 1) last=true
 ·rw[if_pos hle] at k
  rw[if_pos hle,aA];exact k
 rw[if_neg hle] at k;rw[if_neg hle];walk_at "s1";rw[al,la];refine⟨sm (by omega),?_⟩
 by_cases hlt:bits.length<n
 ·rw[if_pos hlt] at k
  rw[if_pos (by omega),aA]
  exact k
 ·rw[if_neg hlt] at k
  rw[if_neg (by omega),mJ,aA]
  exact k
noncomputable def Ep:ASp:=fun xs Z Q=>∃(n c:Nat)(x:Fq),xs=[.d (.int n),.d x.d,.d (.str (tx [c]))]/\1<=n/\n<=5/\x.ok n/\Q (.d (match th n c x with|none=>.non|some v=>.lst (v.reverse.map Fq.d))) Z
theorem FC(T:Txt K mg t):aV P w K mg base CX0 2 t.eU t.mi ["_law_places","_law_want","_law_sign_here"] (e9 Ep):=by
 have G_l_behind:aV P w K mg base _ _ _ _ _ _:=Fz T
 refine T.AB.okD jW (fun xs Z Q h=>by obtain ⟨n,c,x,rfl,_⟩:=h;rfl) (fun cdv A outer s H E hr=>⟨_,_,(ag (bw (eM K rfl (aG qV (by rfl) T.dP (by kernel_rfl) (aa (pv 1) (aa (p5 (v:=.ty "str") (by rfl) T.vh (by kernel_rfl) (by rfl)) af))) (fun _=>rfl)) (ag (bw (aB (gK hr.IE) (pv 1) au (aO _)) (ak (aL (cc (aY K rfl) (bj (ai cO (jG (bj af) af))) (cE iq (by rfl) T.nZ (by kernel_rfl) (aa (iA (cK hr.IE) (pv 2) (pv 1) (aO _)) af)) (fun _ _=>rfl)))) aP)
   (ag (bw (aB (A3 hr.IE) (pv 2) (a8 (ai au (ai au af))) (by with_unfolding_all rfl)) (ak (aL (bj (ai au (ai au (ai au (ai au (ai au (ai au (bD (a8 (ai au (ai au af))) (ai au af))))))))))) aP)
   (ak (aL (cc (aY K rfl) (bj (ai cO (jG (bj af) af))) (cE iq (by rfl) T.nZ (by kernel_rfl) (aa (iA yH (pv 2) (aW c5 au bu (bb (pv 0))) (by with_unfolding_all rfl)) af)) (fun _ _=>rfl)))))) aP)
   (ag (j5 (pv 1) (wD K rfl (n:=2) rfl (fc (bX (i:=3) jW.nd rfl (Or.inl rfl)) (fc (bX (i:=4) jW.nd rfl (Or.inl rfl)) ph))))
   (ag (bw (aB (cK hr.IE) (pv 3) au (aO _)) (ak (aL (cc (aY K rfl) (bj (ai cO (jG (bj (bD (a8 (aa (pv 4) (ai au af))) af)) af))) (cE iq (by rfl) T.nZ (by kernel_rfl) (aa (B3 K rfl (iA (cK hr.IE) (pv 2) au (aO _)) (Ea (iA yH au (pv 4) (by with_unfolding_all rfl)))) af)) (fun _ _=>rfl)))) aP)
   (ag (bw (PW.pt (iU (aB (cK hr.IE) (pv 3) au (aO _)) (iU (aB (cK hr.IE) (pv 4) au (aO _)) (ig (aB (cK hr.IE) (pv 2) au (aO _)))))) (ak (aL (bj af))) aP)
   (ag (bw (aB (xk hr.IE) (pv 2) (a8 (ai au (ai au af))) (by with_unfolding_all rfl)) (ak (aL cO)) aP)
   (ak (aL (ax G_l_behind (hr.mono (by omega)) (by rfl) T.t9 T.t7 T.tY .nil bq (aa (pv 0) (aa (pv 3) (aa (ay aQ (pv 4) (pv 2)) af))))))))))),(aD (dS (nL (cg CN (ac ae (ac fh ah)))) (aD (dS (aK (am cr ae aF)) (bh (am eB (cL (ac ei (ac (cL ah) ah))) (cg vO (ac (am cr ae ae) ah)))) a7)
   (aD (dS (aK (am FA ae (bV (ac aF (ac aF ah))))) (bh (cL (ac aF (ac aF (ac aF (ac aF (ac aF (ac aF (ac (bV (ac aF (ac aF ah))) (ac aF ah)))))))))) a7)
   (bh (am eB (cL (ac ei (ac (cL ah) ah))) (cg vO (ac (am Dd ae (eS aF bT (bA ae))) ah)))))) a7)
   (aD (aM ae (D2 (jj aq (jj aq za))))
   (aD (dS (aK (am cr ae aF)) (bh (am eB (cL (ac ei (ac (cL (ac (bV (ac ae (ac aF ah))) ah)) ah))) (cg vO (ac (Fn (am cr ae aF) (am Dd aF ae)) ah)))) a7)
   (aD (dS (lC (aK (am cr ae aF)) (lC (aK (am cr ae aF)) (aK (am cr ae aF)))) (bh (cL ah)) a7)
   (aD (dS (aK (am FA ae (bV (ac aF (ac aF ah))))) (bh ei) a7)
   (bh (aT (ac ae (ac ae (ac (am cj ae ae) ah)))))))))),fun xs Z Q h=>?_⟩)
 obtain⟨n,c,x,rfl,hn1,hn,hx,k⟩:=h;walk_at "s1";refine⟨by decide,?_⟩
 have pick:∀(p:Prop) [Decidable p] (e:D),Q (.d (if p then e else .non)) Z->∃x,atI [AV.d D.non,AV.d e] (if p then 1 else 0)=some x/\∃d,x=AV.d d/\Q (AV.d d) (Z.only Z):=fun p _ e q=>by
  rw[aA];by_cases h:p
  ·rw[if_pos h] at q ⊢
   exact⟨_,rfl,_,rfl,q⟩
  ·rw[if_neg h] at q ⊢
   exact⟨_,rfl,_,rfl,q⟩
 have s1:Str.ofString ","=tx [44]:=by decide +kernel
 have s0:Str.ofString "0"=tx [48]:=by decide +kernel
 have e01:Str.ofString "01234"=tx [48,49,50,51,52]:=by decide +kernel
 cases x with
 |ta=>
  rw[if_pos (show isD "str" Fq.ta.d=true from rfl)]
  walk_at "s1";walk_at "s1"
  have m1:(inD (D.str (tx [c])) [D.str (Str.ofString "Y"),D.str (Str.ofString "N")]=true)↔(c=89\/c=78):=by
   rw[show Str.ofString "Y"=tx [89] from by decide +kernel,show Str.ofString "N"=tx [78] from by decide +kernel]
   simp[inD,eqD,cZ];omega
  refine⟨by decide,?_⟩
  rw[if_neg (by rw[pL];simp[Fq.d,eqD])]
  refine⟨by decide,?_⟩
  simp only[th] at k;by_cases h1:c=89\/c=78
  ·rw[if_pos h1] at k
   rw[if_pos (m1.mpr h1)];rw[show Str.ofString ")"=tx [41] from by decide +kernel,show Str.ofString ";"=tx [59] from by decide +kernel,show Str.ofString "("=tx [40] from by decide +kernel,show Str.ofString "]"=tx [93] from by decide +kernel,show Str.ofString "["=tx [91] from by decide +kernel,yR,pL,aA]
   exact k
  ·rw[if_neg h1] at k
   rw[if_neg fun z=>h1 (m1.mp z)];refine⟨by decide,pick _ _ ?_⟩
   rw[e01,jH,uK];by_cases h2:fig n c=true
   ·rw[if_pos h2] at k
    rw[if_pos (decide_eq_true ((vn hn).mpr h2))];exact k
   ·rw[if_neg h2] at k
    rw[if_neg (by rw[decide_eq_true_eq];exact fun z=>h2 ((vn hn).mp z))]
    exact k
 |ch a=>
  rw[if_pos (show isD "str" (Fq.ch a).d=true from rfl)]
  walk_at "s1";refine⟨by simp[Fq.d,dep],?_⟩
  rw[if_pos (by rw[pL];simp[Fq.d,eqD,cZ])]
  refine pick _ _ ?_;simp only[th] at k;by_cases h1:c=a
  ·rw[if_pos h1] at k
   rw[if_pos (by simp[Fq.d,eqD,h1])]
   exact k
  ·rw[if_neg h1] at k
   rw[if_neg (by simp[Fq.d,eqD,cZ,h1])]
   exact k
 |wd l b=>
  rw[if_neg (by simp[Fq.d,isD,tyD])]
  obtain⟨h1,h2,h3⟩:=hx;simp only[Fq.d];walk_at "s1";walk_at "s1";rw[if_neg (by rw[mJ];exact AQ h1)]
  walk_at "s1";have b0:∀v:List Int,tx (btx v)=Str.ofString ""↔v=[]:=fun v=>by rw[yR,cZ];simp[btx]
  have fin:∀R:Prop,(¬ (l=[]/\b=[]/\c=45)->R)->(if tx (btx l)=Str.ofString "" then if tx (btx b)=Str.ofString "" then if tx [c]=Str.ofString "-" then Q (AV.d (D.lst [])) (Z.only Z) else R else R else R):=fun R hR=>by
   by_cases a1:l=[]
   ·rw[if_pos ((b0 l).mpr a1)]
    by_cases a2:b=[]
    ·rw[if_pos ((b0 b).mpr a2)]
     by_cases a3:c=45
     ·rw[if_pos (by rw[a3];decide +kernel),aA]
      simp only[th,if_pos (show l=[]/\b=[]/\c=45 from ⟨a1,a2,a3⟩)] at k
      exact k
     ·rw[if_neg (by rw[show Str.ofString "-"=tx [45] from by decide +kernel,cZ];simp[a3])]
      exact hR fun z=>a3 z.2.2
    ·rw[if_neg fun z=>a2 ((b0 b).mp z)]
     exact hR fun z=>a2 z.2.1
   ·rw[if_neg fun z=>a1 ((b0 l).mp z)]
    exact hR fun z=>a1 z.1
  refine fin _ fun hnd=>?_;simp only[th,if_neg hnd] at k
  have m1:(inD (D.str (tx [c])) [D.str (Str.ofString "0"),D.str (Str.ofString "1")]=true)↔(c=48\/c=49):=by
   rw[s0,show Str.ofString "1"=tx [49] from by decide +kernel]
   simp[inD,eqD,cZ];omega
  walk_at "s1";refine⟨by decide,?_⟩
  by_cases hc:c=48\/c=49
  ·rw[if_pos hc] at k
   rw[if_neg (by rw[m1.mpr hc];simp)]
   have hb1:j8 (b++[((c-48:Nat):Int)]):=fun z hz=>by
    rcases List.mem_append.mp hz with hz|hz
    ·exact h2 z hz
    ·rw[List.mem_singleton] at hz
     subst hz;rcases hc with rfl|rfl
     ·exact .inl rfl
     ·exact .inr rfl
   have ec:btx b++[c]=btx (b++[((c-48:Nat):Int)]):=by
    rw[uJ]
    congr 1
    rcases hc with rfl|rfl<;>rfl
   have el:(b++[((c-48:Nat):Int)]).length=b.length+1:=by simp
   rw[dL,ec,al,la,al];refine⟨Nat.le_trans (m:=100) (by simp only[List.length_singleton];omega) (by decide),n,l,_,rfl,hn,by rw[el];omega,h1,hb1,_,rfl,?_⟩
   rw[aA,el];by_cases h5:bv (b++[((c-48:Nat):Int)]++List.replicate (n-(b.length+1)) 1) l=true
   ·rw[if_pos h5] at k ⊢
    exact k
   ·rw[if_neg h5] at k ⊢
    by_cases h6:b.length+1<n
    ·rw[if_pos h6] at k ⊢
     exact k
    ·rw[if_neg h6] at k ⊢
     exact k
  ·rw[if_neg hc] at k
   rw[if_pos (by rw[Bool.not_eq_true',←Bool.not_eq_true,m1];exact hc),aA]
   exact k
 |mo b=>
  rw[if_neg (by simp[Fq.d,isD,tyD])]
  simp only[Fq.d];walk_at "s1";walk_at "s1";rw[if_pos mJ.symm,s1,s0,yR,uK];simp only[th] at k;by_cases h1:c=44
  ·subst h1
   rw[if_pos rfl];refine pick _ _ ?_;by_cases h2:(0:Int)∈b
   ·rw[if_pos ⟨rfl,h2⟩] at k
    rw[if_pos (decide_eq_true (by rw[C3 hx.1];exact h2))]
    exact k
   ·rw[if_neg fun z=>h2 z.2] at k
    rw[if_neg (by rw[decide_eq_true_eq,C3 hx.1];exact h2)]
    exact k
  ·rw[if_neg fun z=>h1 z.1] at k
   rw[if_neg (by rw[cZ];simp[h1])]
   refine pick _ _ ?_;rw[if_neg (by rw[cZ];simp[h1])]
   exact k
theorem xY{K:W.Frag}:dv (fun x y H Q=>∃a b xs,x=.ref a/\y=.ref b/\SqL K H a xs/\SqL K H b []/\Q (.bl xs.isEmpty) H) (DT false):=⟨fun F H Z v u x y Q Q' rp h1 h2 ⟨xs,e1,e2,q⟩ k=>by
 obtain⟨a,vs,rfl,z1,z2⟩:=f6 rp h1 e1;obtain⟨b,rfl,hb⟩:=Az rp h2 e2
 have:vs.isEmpty=xs.isEmpty:=by
  have:=z2.length;cases vs<;>cases xs<;>simp at this ⊢
 exact⟨a,b,vs,rfl,rfl,.inl (.inl z1),.inl (.inl hb),by rw[this];exact k.bl rp q⟩⟩
noncomputable def fqA(W:List Fq):List AV:=(W.reverse.map Fq.d).map AV.d
theorem xF(x:Fq)(W:List Fq):fqA (x::W)=fqA W++[.d x.d]:=by simp[fqA]
theorem BP(v W:List Fq):fqA (v++W)=fqA W++(v.reverse.map Fq.d).map AV.d:=by simp[fqA]
theorem Bv(W:List Fq):(fqA W).length=W.length:=by simp[fqA]
theorem Hx{n c:Nat}(hn:1<=n){x:Fq}(hx:x.ok n){v:List Fq}(h:th n c x=some v):(∀y∈v,y.ok n)/\v.length<=8:=by
 have nil:j8 []:=fun b hb=>by cases hb
 cases x with
 |ta=>
  simp only[th] at h;split at h
  ·cases h
   refine⟨fun y hy=>?_,by decide⟩
   simp only[List.mem_cons,List.not_mem_nil,or_false] at hy;rcases hy with rfl|rfl|rfl|rfl|rfl|rfl|rfl|rfl<;>first|trivial|exact⟨nil,nil,hn⟩
  ·split at h
   ·cases h;exact⟨fun y hy=>(by cases hy),by decide⟩
   ·cases h
 |ch a=>
  simp only[th] at h;split at h
  ·cases h;exact⟨fun y hy=>(by cases hy),by decide⟩
  ·cases h
 |mo b=>
  simp only[th] at h;split at h
  ·cases h
   refine⟨fun y hy=>?_,by simp⟩
   rw[List.mem_singleton] at hy;subst hy;exact⟨hx.1,nil,hn⟩
  ·cases h
 |wd l b=>
  obtain⟨h1,h2,h3⟩:=hx;simp only[th] at h;split at h
  ·cases h;exact⟨fun y hy=>(by cases hy),by decide⟩
  ·split at h
   ·rename_i hc
    have hb:j8 (b++[((c-48:Nat):Int)]):=fun z hz=>by
     rcases List.mem_append.mp hz with hz|hz
     ·exact h2 z hz
     ·rw[List.mem_singleton] at hz
      subst hz;rcases hc with rfl|rfl
      ·exact .inl rfl
      ·exact .inr rfl
    split at h
    ·cases h
    ·split at h
     ·rename_i hl
      cases h;refine⟨fun y hy=>?_,by simp⟩
      rw[List.mem_singleton] at hy;subst hy;exact⟨h1,hb,by simp only[List.length_append,List.length_singleton];exact hl⟩
     ·cases h
      refine⟨fun y hy=>?_,by simp⟩
      rw[List.mem_singleton] at hy;subst hy;exact⟨hb,by simp only[List.length_append,List.length_singleton];omega⟩
   ·cases h
theorem GC(n:Nat){x:Fq}(hx:x.ok n):∃d:D,dep d<=100/\(∀(Z:Om)(Q:AV->Om->Prop),Q (.d d) Z->DW (.d x.d) none (some (1:Int)) Z Q)/\eqD d (.tup [.str (Str.ofString "more")])=(match x with|.mo _=>true|_=>false):=by
 have e1:∀(a b:D),bC [a,b] none (some (1:Int))=[a]:=fun a b=>rfl
 cases x with
 |ta=>exact⟨_,by simp[dep],fun Z Q q=>⟨by rw[al];decide,q⟩,rfl⟩
 |ch a=>exact⟨_,by simp[dep],fun Z Q q=>⟨by rw[al];exact Nat.le_trans (m:=100) (by simp) (by decide),q⟩,rfl⟩
 |mo b=>exact⟨_,by simp[dep,dR,e1],fun Z Q q=>q,by rw[e1,mJ];simp[eqD,fP]⟩
 |wd l b=>exact⟨_,by simp[dep,dR,e1],fun Z Q q=>q,by rw[e1,mJ];simp[eqD,fP,AQ hx.1]⟩
theorem xG{n c:Nat}{x:Fq}{W v:List Fq}(h:th n c x=some v):stp n c (x::W)=some (v++W):=by
 rw[stp.eq_def];simp only[h]
theorem xD{n c:Nat}{x:Fq}{W:List Fq}(h:th n c x=none):stp n c (x::W)=match x with|.mo _=>stp n c W|_=>none:=by
 rw[stp.eq_def];simp only[h];cases x<;>rfl
noncomputable def E8:ASp:=fun xs Z Q=>∃(n:Nat)(l:List Nat),xs=[.d (.int n),.d (.str (tx l))]/\1<=n/\n<=5/\l.length<=10000/\Q (.d (match fb n l 0 [.ta] with|none=>.non|some p=>.int p)) Z
theorem EE(T:Txt K mg t):aV P w K mg base CX0 3 t.dW t.ko ["_law_places","_law_text"] (e9 E8):=by
 have G_l_then:aV P w K mg base _ _ _ _ _ _:=FC T
 refine T.wV.okD dj (fun xs Z Q h=>by obtain⟨n,l,rfl,_⟩:=h;rfl) (fun cdv A outer s H E hr=>⟨_,_,(ag (az (i:=2) dj.nd rfl (Or.inl rfl) (bj (ai au af)))
   (ag (je PassesOwn.never rfl (io rfl T.jw (aa (aG (bi K rfl) (by rfl) T.eu (by kernel_rfl) (aa (pv 1) af)) af)) (bX (i:=3) dj.nd rfl (Or.inl rfl)) (ag (az (i:=4) dj.nd rfl (Or.inl rfl) cO)
   (ag (mz PassesOwn.never (PW.pt (iU (aB lE (pv 4) cO (aO _)) (ig (aB (xl K rfl hr.IE) (pv 2) (bj af) (aO _))))) (ag (az (i:=5) dj.nd rfl (Or.inl rfl) (j6 PySem.F.plainAttrs_list PySem.F.slot_list_pop PySem.F.type_list_pop ln (pv 2)))
   (ag (az (i:=4) dj.nd rfl (Or.inl rfl) (ax G_l_then (hr.mono (by omega)) (by rfl) T.ya T.y9 T.AJ .nil bq (aa (pv 0) (aa (pv 5) (aa (cc (aY K rfl) (pv 1) (pv 3) (fun _ _=>rfl)) af)))))
   (ak (bw (PW.pt (iU (aB lE (pv 4) cO (aO _)) (ig (aB (gK hr.IE) (aW (GT K rfl) (pv 5) bu (bb aj)) (a8 (ai au af)) (aO _))))) (ak (aL (pv 3))) aP)))))
   (ag (bw (aB lE (pv 4) cO (aO _)) (ak (aL (pv 3))) aP)
   (ak (az (i:=2) dj.nd rfl (Or.inl rfl) (ay (ar bd (ar aR bc)) (pv 2) (pv 4))))))))
   (ak (aL (cc (aY K rfl) (bj (aa (aG (bi K rfl) (by rfl) T.eu (by kernel_rfl) (aa (pv 1) af)) (ai cO af))) (cE iq (by rfl) T.nZ (by kernel_rfl) (aa (iA (wM K rfl hr.IE) (pv 2) (bj af) (aO _)) af)) (fun _ _=>rfl)))))),(aD (aM (lO (ac aF ah)) aq)
   (aD (oK (pZ (ac (cg fF (ac ae ah)) ah)) aq (aD (aM ei aq)
   (aD (BG (lC (aK (am lS ae ei)) (aK (am zW ae (cL ah)))) (aD (aM (qA ae) aq)
   (aD (aM (aT (ac ae (ac ae (ac (am uP ae ae) ah)))) aq)
   (dS (lC (aK (am lS ae ei)) (aK (am cr (E6 ae bT (bA av)) (bV (ac aF ah))))) (bh ae) a7))))
   (aD (dS (aK (am lS ae ei)) (bh ae) a7)
   (aM (am EF ae ae) aq)))))
   (bh (am eB (cL (ac (cg fF (ac ae ah)) (ac ei ah))) (cg vO (ac (am xY ae (cL ah)) ah)))))),fun xs Z Q h=>?_⟩)
 obtain⟨n,l,rfl,hn1,hn,hl,k⟩:=h;walk_at "s1";intro p hp;walk_at "s1";rw[al];have sm:∀ {m:Nat},m<=200000->m<=sizeLine:=fun h=>Nat.le_trans h (by decide)
 refine⟨sm (by omega),by omega,by omega,k8 (fun i ρ Z'=>∃(W:List Fq)(q:Addr)(v3 v4 v5:Option AV),L2.Ex Z Z'/\Z q=none/\Z' q=some (.own (fqA W))/\(∀x∈W,x.ok n)/\fb n l i W=fb n l 0 [.ta]/\W.length<=8*i+1/\ρ=[some (AV.d (D.int n)),some (AV.d (D.str (tx l))),some (AV.r (V.ref q)),v3,v4,v5]) ⟨[.ta],p,_,_,_,(L2.Ex.refl Z).new hp,hp,Om.IA.trans (by rw[pL];rfl),fun x hx=>(by rw[List.mem_singleton] at hx;subst hx;trivial),rfl,by simp,rfl⟩ ?_ ?_⟩
 ·rintro i ρ Z1 N hi ⟨W,q,v3,v4,v5,hx,hq,hc,hW,hf,hw,rfl⟩ kN
  rw[Int.zero_add];have hg:l[i]?=some l[i]:=List.getElem?_eq_getElem hi;generalize l[i]=c at hg
  have hst:fb n l i W=match stp n c W with
   |none=>some i
   |some W'=>fb n l (i+1) W':=by
   rw[dO (by omega),hg]
   all_goals rfl
  walk_at "s1";obtain⟨Pv,iP⟩:=D6 fun m ρ Z'=>∃(W2:List Fq)(r:D)(v5:Option AV),L2.Ex Z Z'/\Z' q=some (.own (fqA W2))/\(∀x∈W2,x.ok n)/\((r=.non/\stp n c W2=stp n c W/\W2.length<=W.length/\m=W2.length+1)\/(∃v:List Fq,r=.lst (v.reverse.map Fq.d)/\stp n c W=some (v++W2)/\(∀x∈v,x.ok n)/\v.length<=8/\W2.length<=W.length/\m=0))/\ρ=[some (AV.d (D.int n)),some (AV.d (D.str (tx l))),some (AV.r (V.ref q)),some (AV.d (D.int i)),some (.d r),v5]
  refine⟨Pv,⟨_,(iP _ _ _).mpr ⟨W,.non,v5,hx,hc,hW,.inl ⟨rfl,rfl,Nat.le_refl _,rfl⟩,rfl⟩⟩,fun m ρ Z2 h=>?_⟩;obtain⟨W2,r,v5',hx2,hc2,hW2,hr2,rfl⟩:=(iP _ _ _).mp h;clear h
  have stop:∀Z3,L2.Ex Z Z3->stp n c W=none->Q (AV.d (D.int (i:Int))) (Z3.only Z):=fun Z3 h3 hs=>by
   rw[iH h3];rw[hs] at hst;rw[←hf,hst] at k
   exact k
  rcases hr2 with⟨rfl,hs2,hl2,rfl⟩|⟨v,rfl,hs2,hv,hv8,hl2,rfl⟩
  ·cases W2 with
   |nil=>
    walk_at "a1";refine⟨_,by simp[c0,hc2];rfl,rfl,false,by simp[fqA],?_⟩
    rw[if_neg (by decide)]
    walk_at "s1";rw[stp] at hs2;exact stop _ hx2 hs2.symm
   |cons x W2=>
    walk_at "a1";rw[xF] at hc2;refine⟨_,by simp[c0,hc2];rfl,rfl,true,by simp,?_⟩
    rw[if_pos rfl];refine⟨fun ρ' Z'=>∃m',m'<W2.length+1+1/\Pv m' ρ' Z',fun _ _ h=>h,?_⟩;refine zA rfl hc2 ?_;walk_at "s1";have hx3:L2.Ex Z (Z2.put q (OC.own (fqA W2))):=hx2.over hq;have hxo:=hW2 x (List.mem_cons_self ..);have hW3:∀y∈W2,y.ok n:=fun y hy=>hW2 y (List.mem_cons_of_mem _ hy);simp only[List.length_cons] at hl2;rw[al];refine⟨sm (by omega),c,by rw[sZ];exact pT hg,n,c,x,rfl,hn1,hn,hxo,?_⟩
    cases hth:th n c x with
    |some v=>
     dsimp only;obtain⟨y1,y2⟩:=Hx hn1 hxo hth;refine⟨false,rfl,?_⟩;rw[if_neg (by decide)]
     rw[xG hth] at hs2;exact⟨0,by omega,(iP _ _ _).mpr ⟨W2,_,_,hx3,Om.IA,hW3,.inr ⟨v,rfl,hs2.symm,y1,y2,by omega,rfl⟩,rfl⟩⟩
    |none=>
     dsimp only;obtain⟨d,w0,w1,w2⟩:=GC n hxo;refine⟨true,rfl,?_⟩;rw[if_pos rfl];refine w1 _ _ ⟨d,rfl,w0,?_⟩;rw[w2];rw[xD hth] at hs2
     cases x with
     |mo b=>
      rw[if_neg (by simp)]
      exact⟨_,by omega,(iP _ _ _).mpr ⟨W2,_,_,hx3,Om.IA,hW3,.inl ⟨rfl,hs2,by omega,rfl⟩,rfl⟩⟩
     |_=>
      rw[if_pos (by simp)]
      exact stop _ hx3 hs2.symm
  ·walk_at "s1"
   refine⟨fqA W2,by rw[hc2],?_,fun p2 hp2=>?_⟩
   ·rw[Bv,List.length_reverse]
    exact sm (by omega)
   rw[hs2] at hst;refine kN _ _ ⟨v++W2,p2,_,_,_,hx2.new hp2,hx2.none hp2,Om.IA.trans (by rw[BP]),fun y hy=>?_,hst.symm.trans hf,by simp only[List.length_append];omega,rfl⟩
   rcases List.mem_append.mp hy with hy|hy
   ·exact hv y hy
   ·exact hW2 y hy
 ·rintro ρ Z1 ⟨W,q,v3,v4,v5,hx,hq,hc,hW,hf,hw,rfl⟩
  walk_at "a1";rw[al];refine⟨sm (by omega),fqA W,by simp[c0,hc],rfl,_,rfl,?_⟩
  rw[iH hx];have hst:=dO (n:=n) (W:=W) (Nat.le_refl l.length);rw[List.getElem?_eq_none (Nat.le_refl _)] at hst;rw[←hf,hst] at k
  cases W with
  |nil=>exact⟨1,rfl,_,rfl,_,rfl,k⟩
  |cons e W=>exact⟨0,by simp[fqA,xw],_,rfl,_,rfl,k⟩
theorem pj{c:Nat}(x:List Nat){ls:List (List Nat)}(h:ls≠[]):jn [c] (x::ls)=x++c::jn [c] ls:=by
 cases ls with
 |nil=>exact absurd rfl h
 |cons y ys=>simp[jn]
theorem Df(l:List Nat)(s:Nat)(ks:List Nat):pb l s ks≠[]:=fun z=>by
 have:=p9 l ks s;rw[z] at this;simp at this
theorem zX(c:Nat)(L:List Nat):∀(r:List Nat)(s p:Nat),L.drop s=r->p<=s->jn [c] (pb L p (i6 c s r))=L.drop p
 | [],s,p,h,hp=>rfl
 |x::r,s,p,h,hp=>by
  have hs:L.drop (s+1)=r:=by rw[←List.drop_drop,h];rfl
  rw[i6];by_cases e:x=c
  ·rw[if_pos e,pb,pj _ (Df _ _ _),zX c L r (s+1) (s+1) hs (Nat.le_refl _),hs,←e,←h]
   have:L.drop s=(L.drop p).drop (s-p):=by rw[List.drop_drop];congr 1;omega
   rw[this,List.take_append_drop]
  ·rw[if_neg e]
   exact zX c L r (s+1) p hs (by omega)
theorem kh(c:Nat)(l:List Nat):jn [c] (bf c l)=l:=zX c l l 0 0 rfl (Nat.le_refl _)
theorem gc(c:Nat)(l:List Nat):bf c l≠[]:=Df _ _ _
noncomputable def cx(ls:List (List Nat)):Nat:=(ls.map fun x=>x.length+1).sum
noncomputable def df(ls:List (List Nat)):Nat:=(ls.map fun x=>x.count 40).sum
theorem fu(c:Nat):∀ {ls:List (List Nat)},ls≠[]->(jn [c] ls).length+1=cx ls
 | [],h=>absurd rfl h
 | [x],_=>by simp[jn,cx]
 |x::y::ls,_=>by
  have:=fu c (ls:=y::ls) (by simp)
  rw[pj x (by simp),List.length_append,List.length_cons,this]
  simp only[cx,List.map_cons,List.sum_cons];omega
theorem lK(c:Nat)(ls:List (List Nat)):(jn [c] ls).length<=cx ls:=by
 by_cases h:ls=[]
 ·subst h;simp[jn]
 ·have:=fu c h;omega
theorem gn{c:Nat}(hc:c≠40):∀(ls:List (List Nat)),(jn [c] ls).count 40=df ls
 | []=>rfl
 | [x]=>by simp[jn,df]
 |x::y::ls=>by
  have:=gn hc (y::ls);rw[pj x (by simp),List.count_append,List.count_cons,this]
  simp only[df,List.map_cons,List.sum_cons,beq_iff_eq,if_neg hc];omega
theorem ql(a b:List (List Nat)):cx (a++b)=cx a+cx b:=by simp[cx]
theorem qE(a b:List (List Nat)):df (a++b)=df a+df b:=by simp[df]
theorem jF{α:Type}(f:α->Nat):∀ {a b:List α},a.Sublist b->(a.map f).sum<=(b.map f).sum
 |_,_,.slnil=>Nat.le_refl _
 |_,_,.cons x h=>by have:=jF f h;rw[List.map_cons,List.sum_cons];omega
 |_,_,.cons_cons x h=>by have:=jF f h;rw[List.map_cons,List.map_cons,List.sum_cons,List.sum_cons];omega
theorem pN{α:Type}(f:α->Nat){a:α}{b:List α}(h:a∈b):f a<=(b.map f).sum:=by
 have:=jF f (List.singleton_sublist.mpr h);simpa using this
theorem Ab(a:List (List Nat)):cx a.reverse=cx a:=by simp[cx,List.sum_reverse]
theorem yq(a:List (List Nat)):df a.reverse=df a:=by simp[df,List.sum_reverse]
theorem zM{α:Type}(f:α->Nat){b:List α}{j:Nat}{a:α}(h:b[j]?=some a):((b.take j).map f).sum+f a+((b.drop (j+1)).map f).sum=(b.map f).sum:=by
 have hj:=(List.getElem?_eq_some_iff.mp h).1
 have e:b=b.take j++a::b.drop (j+1):=by
  have:=List.drop_eq_getElem_cons hj;rw[(List.getElem?_eq_some_iff.mp h).2] at this;rw[←this,List.take_append_drop]
 conv=>rhs;rw[e]
 simp only[List.map_append,List.map_cons,List.sum_append,List.sum_cons];omega
theorem yx{l p w hd:List Nat}{j:Nat}{ws a b:List (List Nat)}(hp:(bf 93 l)[j]?=some p)(hw:w∈bf 91 p)(hws:ws=bf 44 w)(hh:hd.Sublist p)(a1:cx a<=cx ws)(a2:df a<=df ws)(b1:cx b<=cx ws)(b2:df b<=df ws):
  let out:=(bf 93 l).take j++[hd++jn [44] (a++b)]++(bf 93 l).drop (j+1)
  cx (a++b)<=2*l.length+2/\cx out<=3*l.length+3/\df out<=3*l.count 40:=by
 have l1:=fu 93 (gc 93 l);have l2:=fu 91 (gc 91 p);have l3:=fu 44 (gc 44 w);rw[kh] at l1 l2 l3;have c1:=gn (c:=93) (by decide) (bf 93 l)
 have c2:=gn (c:=91) (by decide) (bf 91 p)
 have c3:=gn (c:=44) (by decide) (bf 44 w)
 rw[kh] at c1 c2 c3;have s1:=zM (fun x:List Nat=>x.length+1) hp;have s2:=zM (fun x:List Nat=>x.count 40) hp;have m1:=pN (fun x:List Nat=>x.length+1) hw;have m2:=pN (fun x:List Nat=>x.count 40) hw;have j1:=lK 44 (a++b);have j2:=gn (c:=44) (by decide) (a++b)
 have h1:=hh.length_le;have h2:=hh.count_le 40;subst hws;rw[ql] at j1;rw[qE] at j2;simp only[ql,qE];have e1:cx [hd++jn [44] (a++b)]=hd.length+(jn [44] (a++b)).length+1:=by simp[cx]
 have e2:df [hd++jn [44] (a++b)]=hd.count 40+(jn [44] (a++b)).count 40:=by simp[df]
 rw[e1,e2];have q1:((bf 93 l).map fun x=>x.length+1).sum=cx (bf 93 l):=rfl;have q2:((bf 93 l).map fun x=>x.count 40).sum=df (bf 93 l):=rfl;have q3:(((bf 93 l).take j).map fun x=>x.length+1).sum=cx ((bf 93 l).take j):=rfl;have q4:(((bf 93 l).drop (j+1)).map fun x=>x.length+1).sum=cx ((bf 93 l).drop (j+1)):=rfl;have q5:(((bf 93 l).take j).map fun x=>x.count 40).sum=df ((bf 93 l).take j):=rfl
 have q6:(((bf 93 l).drop (j+1)).map fun x=>x.count 40).sum=df ((bf 93 l).drop (j+1)):=rfl;have q7:((bf 91 p).map fun x=>x.length+1).sum=cx (bf 91 p):=rfl;have q8:((bf 91 p).map fun x=>x.count 40).sum=df (bf 91 p):=rfl;omega
theorem jg{c:Nat}{ls:List (List Nat)}(h:cx ls<=200000):JoinOk (tx [c]) (ls.map tx)=true:=by
 unfold JoinOk
 have e:(ls.map tx).toArray.foldl (fun(n:Nat) (y:Str)=>n+y.length+(tx [c]).length) 0=cx ls:=by
  rw[List.foldl_toArray,iV,Nat.zero_add,List.map_map];rfl
 have h4:(200000:Nat)<=sizeLine:=by decide
 show (!Builtin.Str.tooLong ((ls.map tx).toArray.foldl (fun(n:Nat) (y:Str)=>n+y.length+(tx [c]).length) 0))=true;rw[e];unfold Builtin.Str.tooLong;simp only[Bool.not_eq_true',decide_eq_false_iff_not];omega
theorem B7{α:Type}(xs:List α)(k:Nat):bC xs none (some (k:Int))=xs.take k:=by
 unfold bC;rw[HT.sIx_none,HT.sIx_nat,List.drop_zero,Nat.sub_zero];by_cases h:k<=xs.length
 ·rw[Nat.min_eq_left h]
 ·rw[Nat.min_eq_right (by omega),List.take_length,List.take_of_length_le (by omega)]
theorem B9{α:Type}(xs:List α)(k:Nat):bC xs (some (k:Int)) none=xs.drop k:=by
 unfold bC;rw[HT.sIx_none,HT.sIx_nat];by_cases h:k<=xs.length
 ·rw[Nat.min_eq_left h,List.take_of_length_le (by simp)]
 ·rw[Nat.min_eq_right (by omega),List.drop_length,List.drop_eq_nil_of_le (by omega),List.take_nil]
noncomputable def EW:ASp:=fun xs Z Q=>∃(p:Addr)(l:List Nat),xs=[.r (.ref p),.d (.str (tx l))]/\lA Z p/\l.length<=3000/\∀(l':List Nat)(o:Pl),l'.length<=3*l.length+3->l'.count 40<=3*l.count 40->Q (.d (.str (tx l'))) (Z.put p (plO o))
theorem EK(T:Txt K mg t):aV P w K mg base CX0 2 t.bZ t.fC ["_law_pen_here","_law_text"] (e9 EW):=by
 have G_l_draw:aV P w K mg base _ _ _ _ _ _:=jR T
 refine T.mY.okD bN (fun xs Z Q h=>by obtain⟨p,l,rfl,_⟩:=h;rfl) (fun cdv A outer s H E hr=>⟨_,_,(ag (az (i:=2) bN.nd rfl (Or.inl rfl) (fZ PySem.F.plainAttrs_str PySem.F.slot_str_split PySem.F.type_str_split lH (pv 1) (ai au af)))
   (ag (az (i:=3) bN.nd rfl (Or.inl rfl) (ax G_l_draw (hr.mono (by omega)) (by rfl) T.bE T.bF T.bI .nil bq (aa (pv 0) (aa (aG (bi K rfl) (by rfl) T.eu (by kernel_rfl) (aa (pv 2) af)) af))))
   (ag (az (i:=4) bN.nd rfl (Or.inl rfl) (fZ PySem.F.plainAttrs_str PySem.F.slot_str_split PySem.F.type_str_split lH (cc (aY K rfl) (fZ PySem.F.plainAttrs_str PySem.F.slot_str_split PySem.F.type_str_split lH (cc (aY K rfl) (pv 2) (pv 3) (fun _ _=>rfl)) (ai au af)) (sD ma aj) (fun _ _=>rfl)) (ai au af)))
   (ag (az (i:=5) bN.nd rfl (Or.inl rfl) (ax G_l_draw (hr.mono (by omega)) (by rfl) T.bE T.bF T.bI .nil bq (aa (pv 0) (aa (aG (bi K rfl) (by rfl) T.eu (by kernel_rfl) (aa (pv 4) af)) af))))
   (ag (az (i:=6) bN.nd rfl (Or.inl rfl) (cc (aY K rfl) (bj (aa (Fc K rfl (pv 4) (sD ma aj)) (aa (ay (ar bd (ar aR bc)) (pv 4) (aW (gT K rfl) (pv 4) (bb (sD ma aj)) bu)) (aa (ay (ar bd (ar aR bc)) (aW (gT K rfl) (pv 4) (bb (pv 5)) bu) (aW (gT K rfl) (pv 4) bu (bb (pv 5)))) (aa (ay (ar bd (ar aR bc)) (aW (gT K rfl) (pv 4) bu (bb aj)) (pv 4)) af))))) (ax G_l_draw (hr.mono (by omega)) (by rfl) T.bE T.bF T.bI .nil bq (aa (pv 0) (ai aj af))) (fun _ _=>rfl)))
   (ag (az (i:=7) bN.nd rfl (Or.inl rfl) (aW c5 (cc (aY K rfl) (pv 2) (pv 3) (fun _ _=>rfl)) bu (bb (ay lW (aG (bi K rfl) (by rfl) T.eu (by kernel_rfl) (aa (cc (aY K rfl) (pv 2) (pv 3) (fun _ _=>rfl)) af)) (aG (bi K rfl) (by rfl) T.eu (by kernel_rfl) (aa (fZ PySem.F.plainAttrs_str PySem.F.slot_str_join PySem.F.type_str_join (gW K rfl) au (aa (pv 4) af)) af))))))
   (ak (aL (fZ PySem.F.plainAttrs_str PySem.F.slot_str_join PySem.F.type_str_join (gW K rfl) au (aa (ay (ar bd (ar aR bc)) (ay (ar bd (ar aR bc)) (aW (gT K rfl) (pv 2) bu (bb (pv 3))) (bj (aa (ay aQ (pv 7) (fZ PySem.F.plainAttrs_str PySem.F.slot_str_join PySem.F.type_str_join (gW K rfl) au (aa (pv 6) af))) af))) (aW (gT K rfl) (pv 2) (bb (ay (ar bd (ar aR bc)) (pv 3) aj)) bu)) af)))))))))),(aD (aM (p8 ae (ac aF ah)) aq)
   (aD (aM (aT (ac ae (ac (cg mf (ac ae ah)) ah))) aq)
   (aD (aM (p8 (am eB (p8 (am eB ae ae) (ac aF ah)) (Ce u_i av)) (ac aF ah)) aq)
   (aD (aM (aT (ac ae (ac (cg mf (ac ae ah)) ah))) aq)
   (aD (aM (am eB (cL (ac (Hs ae) (ac (am bS ae (xA ae (bA (Ce u_i av)) bT)) (ac (am bS (xA ae (bA ae) bT) (xA ae bT (bA ae))) (ac (am bS (xA ae bT (bA av)) ae) ah))))) (aT (ac ae (ac av ah)))) aq)
   (aD (aM (eS (am eB ae ae) bT (bA (am kJ (cg fF (ac (am eB ae ae) ah)) (cg fF (ac (md aF (ac ae ah)) ah))))) aq)
   (bh (md aF (ac (am bS (am bS (xA ae bT (bA ae)) (cL (ac (am cj ae (md aF (ac ae ah))) ah))) (xA ae (bA (am bS ae av)) bT)) ah))))))))),fun xs Z Q h=>?_⟩)
 obtain⟨p,l,rfl,hp,hl,k⟩:=h;walk_at "s1";have sm:∀ {m:Nat},m<=200000->m<=sizeLine:=fun h=>Nat.le_trans h (by decide)
 have e93:Str.ofString "]"=tx [93]:=by decide +kernel
 have e91:Str.ofString "["=tx [91]:=by decide +kernel
 have e44:Str.ofString ","=tx [44]:=by decide +kernel
 refine⟨l,rfl,93,e93,by decide,by omega,?_⟩
 have hPl:=fu 93 (gc 93 l);rw[kh] at hPl
 have lenle:∀ls:List (List Nat),ls.length<=cx ls:=fun ls=>by
  induction ls with
  |nil=>exact Nat.le_refl _
  |cons x ls ih=>simp only[cx,List.map_cons,List.sum_cons,List.length_cons] at ih ⊢;omega
 have hP0:1<=(bf 93 l).length:=List.length_pos_iff.mpr (gc 93 l);have hP1:=lenle (bf 93 l);walk_at "s1";refine⟨p,_,rfl,hp,by omega,by omega,fun r c r0 r1=>?_⟩
 obtain⟨j,rfl⟩:=Int.eq_ofNat_of_zero_le r0;have hj:j<(bf 93 l).length:=by omega
 obtain⟨pc,hpc⟩:∃pc,(bf 93 l)[j]?=some pc:=⟨_,List.getElem?_eq_getElem hj⟩
 have hpl:pc.length<=l.length:=by
  have:=pN (fun x:List Nat=>x.length+1) (List.mem_of_getElem? hpc);have q:((bf 93 l).map fun x=>x.length+1).sum=cx (bf 93 l):=rfl;omega
 walk_at "s1";refine⟨_,by rw[List.map_map];exact pT (by rw[List.getElem?_map,hpc];rfl),pc,rfl,91,e91,by decide,by omega,?_⟩
 obtain⟨ini,w0,hini⟩:∃ini w0,bf 91 pc=ini++[w0]:=by
  rcases List.eq_nil_or_concat (bf 91 pc) with h|⟨a,b,h⟩
  ·exact absurd h (gc 91 pc)
  ·exact⟨a,b,by rw[h];simp⟩
 have hw0:w0∈bf 91 pc:=by rw[hini];simp
 have hwl:w0.length<=pc.length:=by
  have:=pN (fun x:List Nat=>x.length+1) hw0;have q:((bf 91 pc).map fun x=>x.length+1).sum=cx (bf 91 pc):=rfl;have q2:=fu 91 (gc 91 pc);rw[kh] at q2;omega
 refine⟨_,by rw[hini,List.map_append,List.map_append];exact vZ,w0,rfl,44,e44,by decide,by omega,?_⟩
 have hWl:=fu 44 (gc 44 w0);have hWj:=kh 44 w0;rw[kh] at hWl;have hW0:1<=(bf 44 w0).length:=List.length_pos_iff.mpr (gc 44 w0);have hW1:=lenle (bf 44 w0);have bound:=fun(hd:List Nat) (a b:List (List Nat)) (hh:hd.Sublist pc) (a1:cx a<=cx (bf 44 w0)/\df a<=df (bf 44 w0)) (b1:cx b<=cx (bf 44 w0)/\df b<=df (bf 44 w0))=>yx hpc hw0 rfl hh a1.1 a1.2 b1.1 b1.2;generalize bf 44 w0=ws at *;walk_at "s1"
 refine⟨p,_,rfl,bY,by omega,by omega,fun r c2 r0 r1=>?_⟩
 rw[Om.IC];walk_at "s1";have sub:∀ {a:List (List Nat)},a.Sublist ws->cx a<=cx ws/\df a<=df ws:=fun h=>⟨jF (fun x:List Nat=>x.length+1) h,jF (fun x:List Nat=>x.count 40) h⟩
 have cl:∀(a b:Option Int),(bC (ws.map fun w=>D.str (tx w)) a b).length<=ws.length:=fun a b=>by
  have:=(gY (ws.map fun w=>D.str (tx w)) a b).length_le
  rwa [List.length_map] at this
 refine⟨sm (by have:=cl (some (-1)) none;omega),sm (by have:=cl (some r) none;have:=cl none (some r);omega),sm (by have:=cl none (some 1);omega),p,4,rfl,bY,by decide,by decide,fun x c3 x0 x1=>⟨x,rfl,?_⟩⟩
 have key:∀(R:AV->Prop),(∀a b,(cx a<=cx ws/\df a<=df ws)->(cx b<=cx ws/\df b<=df ws)->R (.d (.lst ((a++b).map fun w=>D.str (tx w)))))->∃x_1,atI [AV.d (D.lst (List.map (fun w=>D.str (tx w)) ws).reverse),
            AV.d
             (D.lst
              (List.map (fun w=>D.str (tx w)) ws ++
               bC (List.map (fun w=>D.str (tx w)) ws) (some (-1)) none)),
            AV.d
             (D.lst
              (bC (List.map (fun w=>D.str (tx w)) ws) (some r) none ++
               bC (List.map (fun w=>D.str (tx w)) ws) none (some r))),
            AV.d
             (D.lst
              (bC (List.map (fun w=>D.str (tx w)) ws) none (some 1) ++
               List.map (fun w=>D.str (tx w)) ws))] x=some x_1/\R x_1:=fun R hR=>by
  rcases(by omega:x=0\/x=1\/x=2\/x=3) with rfl|rfl|rfl|rfl
  ·refine⟨_,rfl,?_⟩
   have:=hR ws.reverse [] ⟨Nat.le_of_eq (Ab ws),Nat.le_of_eq (yq ws)⟩ (sub (List.nil_sublist _))
   rwa [List.append_nil,List.map_reverse] at this
  ·refine⟨_,rfl,?_⟩
   have:=hR ws (bC ws (some (-1)) none) (sub (List.Sublist.refl _)) (sub (gY ..))
   rwa [List.map_append,←jN] at this
  ·refine⟨_,rfl,?_⟩
   have:=hR (bC ws (some r) none) (bC ws none (some r)) (sub (gY ..)) (sub (gY ..))
   rwa [List.map_append,←jN,←jN] at this
  ·refine⟨_,rfl,?_⟩
   have:=hR (bC ws none (some 1)) ws (sub (gY ..)) (sub (List.Sublist.refl _))
   rwa [List.map_append,←jN] at this
 refine key _ fun a b ga gb=>?_;clear key;rw[Om.IC];walk_at "s1"
 have hat:atI (List.map AV.d (List.map (fun w=>D.str (tx w)) (bf 93 l))) (j:Int)=some (.d (.str (tx pc))):=by
  rw[List.map_map];exact pT (by rw[List.getElem?_map,hpc];rfl)
 have mm:∀ls:List (List Nat),List.map (fun w=>D.str (tx w)) ls=List.map D.str (ls.map tx):=fun ls=>by rw[List.map_map];rfl
 obtain⟨b1,b2,b3⟩:=bound (pc.take (pc.length-w0.length)) a b (List.take_sublist _ _) ga gb;have hab:=lK 44 (a++b);have tl:=List.length_take_le (pc.length-w0.length) pc;refine⟨_,hat,_,hat,_,rfl,by rw[al];exact sm (by omega),ws.map tx,mm ws,by rw[e44];exact jg (by omega),?_⟩
 rw[e44,iy,hWj,al,al];refine⟨sm (by omega),_,rfl,by rw[al];exact sm (by omega),(a++b).map tx,mm _,jg (by omega),?_⟩
 rw[show ((pc.length:Nat):Int)-(w0.length:Nat)=((pc.length-w0.length:Nat):Int) from by omega,jH,iy,al,al,show ((j:Int)+1)=((j+1:Nat):Int) from by omega,B7,B9,dL]
 simp only[List.length_take,List.length_drop,List.length_map];refine⟨sm (by omega),sm (by omega),sm (by omega),((bf 93 l).take j++[pc.take (pc.length-w0.length)++jn [44] (a++b)]++(bf 93 l).drop (j+1)).map tx,by rw[←mm];simp only[List.map_append,List.map_take,List.map_drop,List.map_cons,List.map_nil],by rw[e93];exact jg (by omega),?_⟩
 rw[e93,iy,gO hp];have j1:=lK 93 ((bf 93 l).take j++[pc.take (pc.length-w0.length)++jn [44] (a++b)]++(bf 93 l).drop (j+1));have j2:=gn (c:=93) (by decide) ((bf 93 l).take j++[pc.take (pc.length-w0.length)++jn [44] (a++b)]++(bf 93 l).drop (j+1))
 exact k _ _ (by omega) (by omega)
theorem xN(c:Nat)(n:Nat):∀ls:List (List Nat),(∀l∈ls,l.length=n)->(jn [c] ls).length<=ls.length*(n+1)
 | [],_=>by simp[jn]
 | [a],h=>by simp[jn,h a (by simp)]
 |a::b::ls,h=>by
  have:=xN c n (b::ls) (fun l hl=>h l (List.mem_cons_of_mem _ hl));have ha:=h a (by simp)
  have e:(a::b::ls).length*(n+1)=(b::ls).length*(n+1)+(n+1):=by rw[List.length_cons (a:=a),Nat.succ_mul]
  rw[jn,List.length_append,List.length_append,ha,e];simp only[List.length_singleton];omega
theorem BW{n:Nat}(hn:n<=5){ws:List (List Int)}(h:ws.Sublist (wl n)):(wtx ws).length<=192:=by
 have hwd:=Wds.sub h hn;by_cases h0:ws=[]
 ·simp[wtx,h0]
 ·have hj:=xN 44 n (ws.map btx) (fun l hl=>by
   obtain⟨v,hv,rfl⟩:=List.mem_map.mp hl
   simp[btx,(ez (hwd.2 v hv)).1])
  have hl:=h.length_le;have hp:=vv hn;rw[List.length_map] at hj;simp only[wtx,if_neg h0];have:ws.length*(n+1)<=32*6:=Nat.mul_le_mul (by omega) (by omega)
  omega
theorem ue{n:Nat}(hn:n<=5):∀ {u:Ta},sbT n u->(ttx u).length+199<=200*u.lvs
 |.en i,h=>by simp[ttx,Ta.lvs]
 |.nd y ws a b,⟨hw,ha,hb⟩=>by
  have h1:=ue hn ha;have h2:=ue hn hb;have h3:=BW hn hw;simp only[ttx,Ta.lvs,List.length_append,List.length_cons,List.length_nil];omega
theorem tF{n:Nat}(hn:n<=5):∀ {u:Ta},sbT n u->u.ok n
 |.en i,h=>h
 |.nd y ws a b,⟨hw,ha,hb⟩=>⟨Wds.sub hw hn,tF hn ha,tF hn hb⟩
theorem qB{q:Nat}(hq:q<=3000):sW (.tup [.str (Str.ofString "text"),.int q])=true/\(pyD (.tup [.str (Str.ofString "text"),.int q])).depth<=90/\fit (.tup [.str (Str.ofString "text"),.int q])=true/\wt (.tup [.str (Str.ofString "text"),.int q])<=1000000:=by
 have hr:(reprText (Str.ofString "text")).length=6:=by decide +kernel
 have hl:(q:Int).natAbs.log2<=12:=by
  rw[Int.natAbs_natCast];by_cases h0:q=0
  ·subst h0;decide
  ·exact Nat.le_of_lt_succ ((Nat.log2_lt h0).mpr (by omega))
 have e:dep (.tup [.str (Str.ofString "text"),.int q])<=40:=by simp only[dep,dR];omega
 refine⟨rfl,?_,?_,?_⟩
 ·rw[(lb _ (by omega)).2];omega
 ·simp only[fit,jh,Bool.and_true,Bool.true_and,decide_eq_true_eq];omega
 ·simp only[wt,wts,hr];omega
theorem wJ{n:Nat}(hn:n<=5){u:Ta}(h:sbT n u)(hd:u.dp<=12)(hl:u.lvs<=100):sW (.tup [.str (Str.ofString "told"),u.d])=true/\(pyD (.tup [.str (Str.ofString "told"),u.d])).depth<=90/\fit (.tup [.str (Str.ofString "told"),u.d])=true/\wt (.tup [.str (Str.ofString "told"),u.d])<=1000000:=by
 obtain⟨a,b,c⟩:=Ta.rep hn (tF hn h);have:=Ta.fT u;have hr:(reprText (Str.ofString "told")).length=6:=by decide +kernel
 have e:dep (.tup [.str (Str.ofString "told"),u.d])<=40:=by simp only[dep,dR];omega
 refine⟨rfl,?_,?_,?_⟩
 ·rw[(lb _ (by omega)).2];omega
 ·simp only[fit,jh,b,Bool.and_true]
 ·simp only[wt,wts,hr];omega
theorem DY(n:Nat)(t:List Nat):∀(f i:Nat)(W:List Fq)(q:Nat),i<=t.length->fa n t f i W=some q->q<=t.length
 |0,i,W,q,hi,h=>by rw[fa] at h;injection h with h;omega
 |f+1,i,W,q,hi,h=>by
  rw[fa] at h
  cases hc:t[i]? with
  |none=>
   rw[hc] at h;dsimp only at h;split at h
   ·cases h
   ·injection h with h;omega
  |some c=>
   rw[hc] at h;dsimp only at h;have hi1:=(List.getElem?_eq_some_iff.mp hc).1
   cases hs:stp n c W with
   |none=>rw[hs] at h;injection h with h;omega
   |some W'=>rw[hs] at h;exact DY n t f (i+1) W' q hi1 h
theorem FI(v:List Int):(btx v).count 40=0:=by
 rw[List.count_eq_zero];intro h;obtain⟨b,_,e⟩:=List.mem_map.mp h;omega
theorem Eo(ws:List (List Int)):(wtx ws).count 40=0:=by
 unfold wtx;split
 ·decide
 ·rw[gn (by decide),df,List.map_map]
  have:∀ws:List (List Int),(ws.map ((fun x:List Nat=>x.count 40) ∘ btx)).sum=0:=fun ws=>by
   induction ws with
   |nil=>rfl
   |cons v ws ih=>rw[List.map_cons,List.sum_cons,ih];simp[FI]
  exact this ws
theorem lh:∀x:Ta,(ttx x).count 40+1=x.lvs
 |.en i=>by
  have:[48+i.toNat].count 40=0:=by
   rw[List.count_eq_zero];intro h;rw[List.mem_singleton] at h;omega
  simp only[ttx,this,Ta.lvs]
 |.nd y ws a b=>by
  have h1:=lh a;have h2:=lh b;have h3:=Eo ws;have h4:((if y=true then 89 else 78) == 40)=false:=by cases y<;>rfl
  simp only[ttx,Ta.lvs,List.count_cons,List.count_append,h3,h4,beq_self_eq_true,if_true,Bool.false_eq_true,if_false,List.count_nil,show ((91:Nat) == 40)=false from rfl,show ((93:Nat) == 40)=false from rfl,show ((59:Nat) == 40)=false from rfl,show ((41:Nat) == 40)=false from rfl]
  omega
theorem tT:∀x:Ta,x.dp+1<=x.lvs
 |.en i=>by simp[Ta.dp,Ta.lvs]
 |.nd y ws a b=>by
  have h1:=tT a;have h2:=tT b;simp only[Ta.dp,Ta.lvs];omega
noncomputable def wR(t:Adr)(cA:List AV):dh:=fun xs Z Q Ex=>xs=[]/\cn t cA Z Q Ex
noncomputable def xc(t:Adr)(_:List AV):dh:=fun xs Z Q Ex=>xs=[]/\cn t [.d (.int 5),.d (.str (Str.ofString ""))] Z Q Ex
noncomputable def w9(t:Adr)(cA:List AV):dh:=fun xs Z Q Ex=>xs=[]/\cn t cA Z Q Ex
noncomputable def xp(t:Adr)(cA:List AV):dh:=fun xs Z Q Ex=>xs=[]/\cn t (.d (.int 1)::cA) Z Q Ex
theorem FO(T:Txt K mg t):aV P t.wo K mg base CX0 200 t.hV t.oh ["_law_script"] (pG K):=by
 have G_l_pen:aV P t.wo K mg base _ _ _ _ _ _:=EA T;have G_l_draw:aV P t.wo K mg base _ _ _ _ _ _:=jR T;have G_l_any_talk:aV P t.wo K mg base _ _ _ _ _ _:=vX T 3;have G_l_talk_text:aV P t.wo K mg base _ _ _ _ _ _:=zZ T 100;have G_l_bend:aV P t.wo K mg base _ _ _ _ _ _:=BT T;have G_l_exchanged:aV P t.wo K mg base _ _ _ _ _ _:=EK T;have G_l_first:aV P t.wo K mg base _ _ _ _ _ _:=EE T;have G_l_heard:∀b',aV P t.wo K mg b' CX0 10 t.dy t.iF ["_law_asked"] (ly 7 t.ao P t.wo K mg b'):=fun b'=>A6 7 T
 refine T.gB.okD dN (fun xs Z Q h=>by obtain⟨a,ns,rfl,_⟩:=h;rfl) (fun A outer s H E hr=>?_)
 refine ⟨_,_,(ag (az (i:=1) dN.nd rfl (Or.inl rfl) (ax G_l_pen (hr.mono (by omega)) (by rfl) T.Ca T.BC T.BI .nil bq (aa (pv 0) af)))
   (ag (je PassesOwn.never rfl (io rfl T.jw (ai aj af)) (bX (i:=2) dN.nd rfl (Or.inl rfl)) (ag (az (i:=3) dN.nd rfl (Or.inr rfl) (ay (ar bd (ar aR bc)) aj (ax G_l_draw (hr.mono (by omega)) (by rfl) T.bE T.bF T.bI .nil bq (aa (pv 1) (ai aj af)))))
   (ag (az (i:=4) dN.nd rfl (Or.inl rfl) (ax G_l_any_talk (hr.mono (by omega)) (by rfl) T.gf T.gg T.gy .nil bq (aa (pv 1) (aa (pv 3) (ai aj (aa (cc (aY K rfl) (bj (ai aj (ai aj (ai aj (ai aj af))))) (ax G_l_draw (hr.mono (by omega)) (by rfl) T.bE T.bF T.bI .nil bq (aa (pv 1) (ai aj af))) (fun _ _=>rfl)) af))))))
   (ag (az (i:=5) dN.nd rfl (Or.inr rfl) (ax G_l_talk_text (hr.mono (by omega)) (by rfl) T.eg T.ee T.d9 .nil bq (aa (pv 4) af)))
   (ag (bw (aB (gK hr.IE) (aG (cQ hr.gd hr.IE T.sm) (by rfl) T.gR (by kernel_rfl) (aa (ju G_l_heard (hr.mono (by omega)) (by rfl) T.ie T.ir T.iC (aa (o5 (x:="law") rfl rfl T.gB.tab T.gB.hd rfl) af)) af)) (aG (cQ hr.gd hr.IE T.sm) (by rfl) T.gR (by kernel_rfl) (bD (a8 (ai au (aa (pv 4) af))) af)) (aO _)) (ak (aL rl)) aP)
   (ag (az (i:=6) dN.nd rfl (Or.inr rfl) (pv 5))
   (ag (bw (aB (cK hr.IE) (ax G_l_draw (hr.mono (by omega)) (by rfl) T.bE T.bF T.bI .nil bq (aa (pv 1) (ai aj af))) aj (aO _)) (ak (az (i:=6) dN.nd rfl (Or.inr rfl) (ax G_l_exchanged (hr.mono (by omega)) (by rfl) T.ng T.m4 T.m5 .nil bq (aa (pv 1) (aa (pv 5) af))))) aP)
   (ag (je PassesOwn.never rfl (io rfl T.jw (aa (ax G_l_draw (hr.mono (by omega)) (by rfl) T.bE T.bF T.bI .nil bq (aa (pv 1) (ai aj af))) af)) (bX (i:=7) dN.nd rfl (Or.inl rfl)) (ak (az (i:=6) dN.nd rfl (Or.inr rfl) (ax G_l_bend (hr.mono (by omega)) (by rfl) T.AU T.yK T.Ai .nil bq (aa (pv 1) (aa (pv 6) (ai au af)))))))
   (ag (az (i:=6) dN.nd rfl (Or.inr rfl) (aW c5 (pv 6) bu (bb aj)))
   (ag (az (i:=8) dN.nd rfl (Or.inl rfl) (ju G_l_heard (hr.mono (by omega)) (by rfl) T.ie T.ir T.iC (aa (o5 (x:="law") rfl rfl T.gB.tab T.gB.hd rfl) af)))
   (ag (az (i:=9) dN.nd rfl (Or.inl rfl) (ax G_l_first (hr.mono (by omega)) (by rfl) T.wX T.wQ T.w4 .nil bq (aa (pv 3) (aa (pv 6) af))))
   (ak (bw (aB lE (pv 9) cO (aO _)) (ak (bw (PW.pt (A1 (aB (gK hr.IE) (cc (aY K rfl) (pv 8) aj (fun _ _=>rfl)) au (aO _)) (tG (aB (gK hr.IE) (ax G_l_talk_text (hr.mono (by omega)) (by rfl) T.eg T.ee T.d9 .nil bq (aa (cc (aY K rfl) (pv 8) aj (fun _ _=>rfl)) af)) (pv 6) (aO _))))) (ak (aL rl)) aP)) (ak (bw (aB (gK hr.IE) (aG (cQ hr.gd hr.IE T.sm) (by rfl) T.gR (by kernel_rfl) (aa (pv 8) af)) (aG (cQ hr.gd hr.IE T.sm) (by rfl) T.gR (by kernel_rfl) (bD (a8 (ai au (aa (pv 9) af))) af)) (aO _)) (ak (aL rl)) aP)))))))))))))))
   (ag (je PassesOwn.never rfl (mI K rfl (bj (ai cO (ai aj (ai rl (jG (bj (ai au af)) (bD (a8 (ai au (ai aj af))) (aa (zq) (bD (a8 (ai au af)) af))))))))) (bX (i:=10) dN.nd rfl (Or.inr rfl)) (ak (bw (aB (gK hr.IE) (aG (cQ hr.gd hr.IE T.sm) (by rfl) T.gR (by kernel_rfl) (aa (ju G_l_heard (hr.mono (by omega)) (by rfl) T.ie T.ir T.iC (aa (o5 (x:="law") rfl rfl T.gB.tab T.gB.hd rfl) af)) af)) (aG (cQ hr.gd hr.IE T.sm) (by rfl) T.gR (by kernel_rfl) (bD (a8 (ai au (ai aj af))) af)) (aO _)) (ak (aL rl)) aP)))
   (ak (aL (iA (cK hr.IE) (aG (cQ hr.gd hr.IE T.sm) (by rfl) T.gR (by kernel_rfl) (aa (ju G_l_heard (hr.mono (by omega)) (by rfl) T.ie T.ir T.iC (aa (o5 (x:="law") rfl rfl T.gB.tab T.gB.hd rfl) af)) af)) (aG (cQ hr.gd hr.IE T.sm) (by rfl) T.gR (by kernel_rfl) (bD (a8 (ai au (ai aj af))) af)) (aO _))))))),(aD (aM (aT (ac ae ah)) aq)
   (aD (oK (pZ (ac av ah)) aq (aD (aM (am bS av (aT (ac ae (ac av ah)))) aq)
   (aD (aM (aT (ac ae (ac ae (ac av (ac (am eB (cL (ac av (ac av (ac av (ac av ah))))) (aT (ac ae (ac av ah)))) ah))))) aq)
   (aD (aM (aT (ac ae ah)) aq)
   (aD (dS (aK (am cr (cg fj (ac (lc (C:=t.ao) (js:=[3,5]) (s:=w9 t) ?F2) ah)) (cg fj (ac (bV (ac aF (ac ae ah))) ah)))) (bh yF) a7)
   (aD (aM ae aq)
   (aD (dS (aK (am cr (aT (ac ae (ac av ah))) av)) (aM (aT (ac ae (ac ae ah))) aq) a7)
   (aD (oK (pZ (ac (aT (ac ae (ac av ah))) ah)) aq (aM (aT (ac ae (ac ae (ac aF ah)))) aq))
   (aD (aM (eS ae bT (bA av)) aq)
   (aD (aM (lc (C:=t.ao) (js:=[3,6]) (s:=wR t) ?F0) aq)
   (aD (aM (aT (ac ae (ac ae ah))) aq)
   (dS (aK (am lS ae ei)) (dS (Ew (aK (am cr (am eB ae av) aF)) (aK (am cr (aT (ac (am eB ae av) ah)) ae))) (bh yF) a7) (dS (aK (am cr (cg fj (ac ae ah)) (cg fj (ac (bV (ac aF (ac ae ah))) ah)))) (bh yF) a7)))))))))))))
   (aD (oK (rB (cL (ac ei (ac av (ac yF (ac (cL (ac aF ah)) (ac (bV (ac aF (ac av ah))) (ac GI (ac (bV (ac aF ah)) ah))))))))) aq (dS (aK (am cr (cg fj (ac (lc (C:=t.ao) (js:=[10]) (s:=xp t) ?F3) ah)) (cg fj (ac (bV (ac aF (ac av ah))) ah)))) (bh yF) a7))
   (bh (am cr (cg fj (ac (lc (C:=t.ao) (js:=[]) (s:=xc t) ?F1) ah)) (cg fj (ac (bV (ac aF (ac av ah))) ah))))))),fun xs Z Q h=>?main⟩
 case F0=>
  intro b' H f σ caps cA L cb hc hl;have GX_read_talk:aV P t.wo K mg b' (CXn P t.wo) 6 t.bB t.cS ["places","text"] (ft (cn t)):=jp T;obtain⟨v,v',rfl⟩:∃v v',caps=[v,v']:=match caps,hc.1 with | [v,v'],_=>⟨v,v',rfl⟩
  obtain⟨wc,wu,hwc,hcell,hrel⟩:=cb 3 "_law_places" v rfl (hc.2 0 3 v rfl rfl) rfl rfl;obtain⟨zc,zu,hzc,zcell,zrel⟩:=cb 6 "_law_bent" v' rfl (hc.2 1 6 v' rfl rfl) rfl rfl;obtain rfl:s.heap.objs.size+1+1=wc:=Option.some.inj hwc;obtain rfl:s.heap.objs.size+1=zc:=Option.some.inj hzc;refine jq (ps:=[]) (cs:=["_law_places","_law_bent"]) (spf:=cn t) L ⟨rfl,rfl,rfl,by decide +kernel,by decide +kernel,by decide +kernel,by decide +kernel⟩ (Fk (x:="_law_places") (y:="_law_bent") (c:=s.heap.objs.size+1+1) (d:=s.heap.objs.size+1) (by decide +kernel) (Nat.ne_of_gt (Nat.lt_succ_self _)) hcell hrel zcell zrel) (fun pm c ctv us hl=>match us,hl with | [],_=>rfl) (fun xs Z Q Ex h=>by obtain⟨rfl,_⟩:=h;rfl) (fun cd A outer s H hr=>⟨_,_,(jM GX_read_talk (hr.mono (by omega)) (by rfl) T.fv T.fq T.fm (aa (pv 0) (aa (pv 1) af))),(ac ae (ac ae ah)),fun xs Z Q Ex h=>?_⟩)
  obtain⟨rfl,h⟩:=h
  match cA,hl with
  | [y,y'],_=>exact⟨_,rfl,_,rfl,h⟩
 case F1=>
  intro b' H f σ caps cA L cb hc hl;have GX_read_talk:aV P t.wo K mg b' (CXn P t.wo) 6 t.bB t.cS ["places","text"] (ft (cn t)):=jp T;obtain rfl:caps=[]:=List.length_eq_zero_iff.mp (hc.1);refine jq (ps:=[]) (cs:=[]) (spf:=cn t) L ⟨rfl,rfl,rfl,by decide +kernel,by decide +kernel,by decide +kernel,by decide +kernel⟩ (HN b') (fun pm c ctv us hl=>match us,hl with | [],_=>rfl) (fun xs Z Q Ex h=>by obtain⟨rfl,_⟩:=h;rfl) (fun cd A outer s H hr=>⟨_,_,(jM GX_read_talk (hr.mono (by omega)) (by rfl) T.fv T.fq T.fm (ai aj (ai au af))),(ac av (ac aF ah)),fun xs Z Q Ex h=>?_⟩)
  obtain⟨rfl,h⟩:=h
  match cA,hl with
  | [],_=>exact h
 case F2=>
  intro b' H f σ caps cA L cb hc hl;have GX_read_talk:aV P t.wo K mg b' (CXn P t.wo) 6 t.bB t.cS ["places","text"] (ft (cn t)):=jp T;obtain⟨v,v',rfl⟩:∃v v',caps=[v,v']:=match caps,hc.1 with | [v,v'],_=>⟨v,v',rfl⟩
  obtain⟨wc,wu,hwc,hcell,hrel⟩:=cb 3 "_law_places" v rfl (hc.2 0 3 v rfl rfl) rfl rfl;obtain⟨zc,zu,hzc,zcell,zrel⟩:=cb 5 "_law_text" v' rfl (hc.2 1 5 v' rfl rfl) rfl rfl;obtain rfl:s.heap.objs.size+1+1=wc:=Option.some.inj hwc;obtain rfl:s.heap.objs.size+1+1+1=zc:=Option.some.inj hzc;refine jq (ps:=[]) (cs:=["_law_places","_law_text"]) (spf:=cn t) L ⟨rfl,rfl,rfl,by decide +kernel,by decide +kernel,by decide +kernel,by decide +kernel⟩ (Br (x:="_law_places") (y:="_law_text") (c:=s.heap.objs.size+1+1) (d:=s.heap.objs.size+1+1+1) (by decide +kernel) (Nat.ne_of_lt (Nat.lt_succ_self _)) hcell hrel zcell zrel) (fun pm c ctv us hl=>match us,hl with | [],_=>rfl) (fun xs Z Q Ex h=>by obtain⟨rfl,_⟩:=h;rfl) (fun cd A outer s H hr=>⟨_,_,(jM GX_read_talk (hr.mono (by omega)) (by rfl) T.fv T.fq T.fm (aa (pv 0) (aa (pv 1) af))),(ac ae (ac ae ah)),fun xs Z Q Ex h=>?_⟩)
  obtain⟨rfl,h⟩:=h
  match cA,hl with
  | [y,y'],_=>exact⟨_,rfl,_,rfl,h⟩
 case F3=>
  intro b' H f σ caps cA L cb hc hl;have GX_read_talk:aV P t.wo K mg b' (CXn P t.wo) 6 t.bB t.cS ["places","text"] (ft (cn t)):=jp T;obtain⟨v,rfl⟩:∃v,caps=[v]:=List.length_eq_one_iff.mp hc.1;obtain⟨wc,wu,hwc,hcell,hrel⟩:=cb 10 "_law_thing" v rfl (hc.2 0 10 v rfl rfl) rfl rfl;obtain rfl:=Option.some.inj hwc;refine jq (ps:=[]) (cs:=["_law_thing"]) (spf:=cn t) L ⟨rfl,rfl,rfl,by decide +kernel,by decide +kernel,by decide +kernel,by decide +kernel⟩ (Fx hcell hrel) (fun pm c ctv us hl=>match us,hl with | [],_=>rfl) (fun xs Z Q Ex h=>by obtain⟨rfl,_⟩:=h;rfl) (fun cd A outer s H hr=>⟨_,_,(jM GX_read_talk (hr.mono (by omega)) (by rfl) T.fv T.fq T.fm (ai aj (aa (pv 0) af))),(ac av (ac ae ah)),fun xs Z Q Ex h=>?_⟩)
  obtain⟨rfl,h⟩:=h
  match cA,hl with
  | [y],_=>exact⟨_,rfl,h⟩
 case main=>
  obtain⟨a,ns,rfl,hl,rfl,k⟩:=h;walk_at "s1";refine⟨a,ns,rfl,hl,fun p c hp0=>?_⟩;walk_at "s1";refine⟨by decide,by decide,k8 (fun i ρ Z'=>lA Z' p/\∃v2 v3 v4 v5 v6 v7 v8 v9,ρ=[some (scr K a ns),some (.r (.ref p)),v2,v3,v4,v5,v6,v7,v8,v9,none]) ⟨bY,_,_,_,_,_,_,_,_,rfl⟩ ?_ ?_⟩
  ·rintro i ρ Z N hi ⟨hp,v2,v3,v4,v5,v6,v7,v8,v9,rfl⟩ kN
   walk_at "s1";refine⟨p,5,rfl,hp,by decide,by decide,fun r c r0 r1=>⟨r,rfl,?_⟩⟩
   obtain⟨n,hn⟩:∃n:Nat,1+r=(n:Int):=⟨(1+r).toNat,by omega⟩
   have hn1:1<=n:=by omega
   have hn5:n<=5:=by omega
   rw[hn];clear hn r0 r1;walk_at "s1";refine⟨p,4,rfl,bY,by decide,by decide,fun r c r0 r1=>?_⟩
   obtain⟨sh,hsh,s1,s9⟩:∃sh:Nat,atI [AV.d (D.int 1),AV.d (D.int 2),AV.d (D.int 4),AV.d (D.int 9)] r=some (.d (.int sh))/\1<=sh/\sh<=9:=by
    rcases(by omega:r=0\/r=1\/r=2\/r=3) with rfl|rfl|rfl|rfl
    ·exact⟨1,rfl,by decide,by decide⟩
    ·exact⟨2,rfl,by decide,by decide⟩
    ·exact⟨4,rfl,by decide,by decide⟩
    ·exact⟨9,rfl,by decide,by decide⟩
   refine⟨r,rfl,_,hsh,p,n,sh,rfl,bY,hn1,hn5,s1,s9,by decide,fun x c ox dx lx=>?_⟩
   clear hsh r0 r1;rw[Om.IC,Om.IC];have lx:x.lvs<=8:=lx;have tl:=ue hn5 ox;have tc:=lh x;have htl:(ttx x).length<=1401:=by omega
   have htc:(ttx x).count 40<=7:=by omega
   walk_at "s1";refine⟨n,x,rfl,hn5,ox,by omega,by omega,by omega,?_⟩
   walk_at "s1";obtain⟨t1,t2,t3,t4⟩:=wJ hn5 ox (by omega) (by omega)
   refine⟨_,rfl,rfl,n,_,rfl,hn1,hn5,.inr ⟨ttx x,rfl,by omega,fun x' hx'=>?_,fun q hq=>?_⟩⟩
   rotate_left
   ·rw[wb hn1 hn5 ox] at hq;cases hq
   obtain rfl:x=x':=by rw[wb hn1 hn5 ox] at hx';injection hx' with h;injection h
   refine⟨_,rfl,t1,t2,t3,t4,t1,t2,t3,t4,?_⟩;rw[if_neg (by simp),aA]
   clear t1 t2 t3 t4 hx';walk_at "s1";refine pq (fun ρ' Z'=>lA Z' p/\(∀c,Z'.put p (plO c)=Z.put p (plO c))/\∃l:List Nat,l.length<=4206/\l.count 40<=21/\ρ'=[some (scr K a ns),some (.r (.ref p)),some (.d (.int (0+(i:Int)))),some (.d (.int n)),some (.d x.d),some (.d (.str (tx (ttx x)))),some (.d (.str (tx l))),v7,v8,v9,none]) (fun M kM=>?_) ?_
   ·walk_at "a1"
    refine⟨p,3,rfl,bY,by decide,by decide,fun r c2 r0 r1=>⟨_,rfl,by simp[dep],?_⟩⟩
    rw[Om.IC];refine pP (fun _=>?_) (fun _=>?_)
    ·refine⟨p,_,rfl,bY,by omega,fun l' c3 h1 h2=>kM _ _ ⟨bY,fun c=>(by rw[Om.IC,Om.IC]),l',by omega,by omega,rfl⟩⟩
    ·exact kM _ _ ⟨bY,fun c=>Om.IC,ttx x,by omega,by omega,rfl⟩
   rintro ρ' Z' ⟨hp',e',l0,hl0,hc0,rfl⟩;walk_at "s1";refine⟨p,3,rfl,hp',by decide,by decide,fun r c2 r0 r1=>⟨r,rfl,?_⟩⟩
   obtain⟨m,rfl⟩:=Int.eq_ofNat_of_zero_le r0;have hm2:m<=2:=by omega
   rw[e'];clear r0 r1;have esg:Str.ofString "0123456!&() ;YN[]-,\n9"=tx [48,49,50,51,52,53,54,33,38,40,41,32,59,89,78,91,93,45,44,10,57]:=by decide +kernel
   refine⟨by omega,by omega,k8 (fun j ρ' Z'=>lA Z' p/\(∀c,Z'.put p (plO c)=Z.put p (plO c))/\∃(l:List Nat)(v7:Option AV),l.length+1<=4207*2^j/\l.count 40+1<=22*2^j/\ρ'=[some (scr K a ns),some (.r (.ref p)),some (.d (.int (0+(i:Int)))),some (.d (.int n)),some (.d x.d),some (.d (.str (tx (ttx x)))),some (.d (.str (tx l))),v7,v8,v9,none]) ⟨bY,fun _=>Om.IC,l0,_,by omega,by omega,rfl⟩ ?_ ?_⟩
   ·rintro j ρ' Z' N hj ⟨hp',e',l,v7,hl,hc,rfl⟩ kN
    have hj1:2^j<=2^1:=Nat.pow_le_pow_right (by decide) (by omega)
    walk_at "a1";refine⟨p,l,_,by rw[esg],hp',by decide,by decide,by omega,fun l' c h h4=>kN _ _ ⟨bY,fun c=>by rw[Om.IC,e'],l',_,?_,?_,rfl⟩⟩
    ·rw[Nat.pow_succ];omega
    ·rw[Nat.pow_succ];omega
   ·rintro ρ' Z' ⟨hp',e',l,v7,hl,hc,rfl⟩
    have hj2:2^m<=2^2:=Nat.pow_le_pow_right (by decide) hm2
    have em:((m:Nat):Int).toNat=m:=Int.toNat_natCast m;rw[em] at hl hc;dsimp only;walk_at "s1";refine⟨by rw[al];exact Nat.le_trans (m:=20000) (by omega) (by decide),?_⟩
    rw[show (some (2900:Int))=some ((2900:Nat):Int) from rfl,jH]
    have hl2:(l.take 2900).length<=2900:=List.length_take_le _ _
    have hc2:(l.take 2900).count 40<=87:=by
     have:=(List.take_sublist 2900 l).count_le 40;omega
    generalize l.take 2900=l at hl2 hc2;walk_at "s1";rcases GZ (t:=l) hn1 l.length 0 [.ta] [] [] (by omega) (Nat.zero_le _) rfl with⟨R,hR,hF⟩|⟨q,hR,hF⟩
    ·obtain⟨x2,rfl,ox2,rfl⟩:=z9 hn1 hn5 hR
     refine⟨_,rfl,rfl,n,_,rfl,hn1,hn5,.inr ⟨ttx x2,rfl,by omega,fun x' hx'=>?_,fun q hq=>?_⟩⟩
     rotate_left
     ·rw[hR] at hq;cases hq
     obtain rfl:x2=x':=by rw[hR] at hx';injection hx' with h;injection h
     refine⟨_,rfl,?_⟩;rw[aA];walk_at "s1";refine⟨n,_,rfl,hn1,hn5,by omega,?_⟩
     rw[show fb n (ttx x2) 0 [.ta]=none from hF]
     walk_at "a1";have h1:=lh x2;have h2:=tT x2;rw[if_neg (by simp)]
     refine⟨n,x2,rfl,hn5,ox2,by omega,by omega,by omega,_,rfl,by rw[iE];decide,?_⟩
     rw[if_neg (by simp[eqD])]
     exact kN _ _ ⟨hp',_,_,_,_,_,_,_,_,rfl⟩
    ·have hq:q<=l.length:=DY n l _ 0 _ q (Nat.zero_le _) hF
     obtain⟨t1,t2,t3,t4⟩:=qB (q:=q) (by omega)
     refine⟨_,rfl,rfl,n,_,rfl,hn1,hn5,.inr ⟨l,rfl,by omega,fun x' hx'=>?_,fun q' hq'=>?_⟩⟩
     ·rw[hR] at hx';cases hx'
     obtain rfl:q=q':=by rw[hR] at hq';injection hq'
     refine⟨q,rfl,?_⟩;rw[aA];walk_at "s1";refine⟨n,_,rfl,hn1,hn5,by omega,?_⟩
     rw[show fb n l 0 [.ta]=some q from hF]
     walk_at "a1";rw[if_neg (by simp[eqD])]
     refine⟨t1,t2,t3,t4,t1,t2,t3,t4,?_⟩;rw[if_neg (by simp)]
     exact kN _ _ ⟨hp',_,_,_,_,_,_,_,_,rfl⟩
  ·rintro ρ Z ⟨hp,v2,v3,v4,v5,v6,v7,v8,v9,rfl⟩
   dsimp only;walk_at "s1";obtain⟨t1,t2,t3,t4⟩:=qB (q:=0) (by decide)
   refine DS (ds:=[D.non,D.int 0,D.bl true,D.lst [D.str (Str.ofString "0")],D.tup [D.str (Str.ofString "end"),D.int 0],D.dk [],D.tup [D.str (Str.ofString "0")]]) (fun j ρ' Z'=>∃v10,Z'=Z/\ρ'=[some (scr K a ns),some (AV.r (V.ref p)),v2,v3,v4,v5,v6,v7,v8,v9,v10]) ⟨_,rfl,rfl⟩ ?_ ?_
   ·rintro j d ρ' Z' N hj ⟨v10,rfl,rfl⟩ kN
    have hd:isD "str" d=false:=by
     have:=List.mem_of_getElem? hj;simp only[List.mem_cons,List.not_mem_nil,or_false] at this;rcases this with rfl|rfl|rfl|rfl|rfl|rfl|rfl<;>rfl
    walk_at "a1";refine⟨_,rfl,rfl,1,d,rfl,by decide,by decide,.inl ⟨hd,0,rfl,t1,t2,t3,t4,t1,t2,t3,t4,?_⟩⟩
    rw[if_neg (by simp),aA]
    exact kN _ _ ⟨_,rfl,rfl⟩
   ·rintro ρ' Z' ⟨v10,rfl,rfl⟩
    walk_at "a1";refine⟨_,rfl,rfl,5,_,rfl,by decide,by decide,.inr ⟨[],by rw[show Str.ofString ""=tx [] from by decide +kernel],by decide,fun x hx=>?_,fun q hq=>?_⟩⟩
    ·simp[pu,pt] at hx
    ·obtain rfl:0=q:=by simpa[pu,pt] using hq
     refine⟨0,rfl,t1,t2,t3,t4,t1,t2,t3,t4,?_⟩;rw[show (jJ (D.tup [D.str (Str.ofString "text"),D.int ((0:Nat):Int)]) == jJ (D.tup [D.str (Str.ofString "text"),D.int 0]))=true from beq_self_eq_true _]
     exact k _
end
theorem Ct{P:Program}{w:World}{K:W.Frag}{mg:Str->Option Value}{base:Heap}{t:Adr}(hw:t.wo=w)(T:Txt K mg t):aV P w K mg base CX0 200 t.hV t.oh ["_law_script"] (pG K):=by
 subst hw;exact FO T
theorem FB(w:World){K:W.Frag}{h:Heap}{mg:Str->Option Value}(X:K.In h)(G:h.Ns mainGlobals mg){bQ:Addr}{fd_must_be_text:FuncData}{di:Addr}{fd_must_end:FuncData}{dU:Addr}{fd_sign_at:FuncData}{i9:Addr}{fd_past:FuncData}{dw:Addr}{fd_place_at:FuncData}{bB:Addr}{fd_read_talk:FuncData}{cU:Addr}{fd_says_from:FuncData}{cR:Addr}{fd_word_from:FuncData}{f7:Addr}{fd_l_pen:FuncData}{eX:Addr}{fd_l_draw:FuncData}{gm:Addr}{fd_l_all:FuncData}{bK:Addr}{fd_l_any_talk:FuncData}{bM:Addr}{fd_l_words_text:FuncData}{bz:Addr}{fd_l_talk_text:FuncData}{eR:Addr}{fd_l_sign:FuncData}{ff:Addr}{fd_l_bend:FuncData}{dy:Addr}{fd_l_heard:FuncData}{dm:Addr}{fd_l_behind:FuncData}{eU:Addr}{fd_l_then:FuncData}{dW:Addr}{fd_l_first:FuncData}{bZ:Addr}{fd_l_exchanged:FuncData}{hV:Addr}{od_law an_law:Option Addr}{sl_law:Array (Option Value)}{oc_law kV_law dc_law pm_law cd_law ct_law:Value}{d7:Addr}{ep_HANDS:Nat}{u_HANDS_0 v_HANDS_0 u_HANDS_1 v_HANDS_1:Tok}{cP:Addr}{n_BIT_SIGNS:Nat}{u_BIT_SIGNS_0 u_BIT_SIGNS_1:Tok}{b8:Addr}{n_PLACE_SIGNS:Nat}{u_PLACE_SIGNS_0 u_PLACE_SIGNS_1 u_PLACE_SIGNS_2 u_PLACE_SIGNS_3 u_PLACE_SIGNS_4:Tok}{b7:Addr}{n_BEHIND_SAYS:Nat}{u_BEHIND_SAYS_0 u_BEHIND_SAYS_1 u_BEHIND_SAYS_2 u_BEHIND_SAYS_3 u_BEHIND_SAYS_4:Tok}{cc_law pp_law:Addr}{ko_law:Value}{kd_law:Option Addr}{kf_law:Array Value}{ks_law:Array (Option Value)}{dC:Addr}{db:Addr}{b9:Addr}{c7:Addr}{dc:Addr}{cJ:Addr}{d6:Addr}{da:Addr}{ao:Addr}{cT:Addr}{od_i_NoText an_i_NoText:Option Addr}{ba:Array (Option Value)}{oc_i_NoText kV_i_NoText dc_i_NoText pm_i_NoText cd_i_NoText ct_i_NoText:Value}(cm:fi K "must_be_text" fg bQ fd_must_be_text)(dY:fi K "must_end" ji di fd_must_end)(eK:fi K "sign_at" kl dU fd_sign_at)(j4:fi K "past" sS i9 fd_past)(d5:fi K "place_at" iS dw fd_place_at)(dE:fi K "read_talk" g6 bB fd_read_talk)(dG:fi K "says_from" hJ cU fd_says_from)(dA:fi K "word_from" g5 cR fd_word_from)(ip:fi K "_law_pen" p7 f7 fd_l_pen)(fQ:fi K "_law_draw" mH eX fd_l_draw)(iG:fi K "_law_all" pS gm fd_l_all)(cX:fi K "_law_any_talk" eD bK fd_l_any_talk)(cq:fi K "_law_words_text" dM bM fd_l_words_text)(cH:fi K "_law_talk_text" fA bz fd_l_talk_text)(fM:fi K "_law_sign" lV eR fd_l_sign)(fO:fi K "_law_bend" lQ ff fd_l_bend)(eL:fi K "_law_heard" kf dy fd_l_heard)(dZ:fi K "_law_behind" iZ dm fd_l_behind)(fR:fi K "_law_then" lR eU fd_l_then)(eO:fi K "_law_first" jX dW fd_l_first)(cG:fi K "_law_exchanged" fz bZ fd_l_exchanged)(yo:W.nsIn K mainGlobals "law"=some (some (.ref hV)))(wy:K.lookup hV=some ⟨oc_law,od_law,.func (W.fnOf "law" "law" (defArgs kS) (defBody kS) (defScope kS) .none kV_law dc_law pm_law an_law cd_law ct_law),sl_law⟩)(nB:W.codeIn K cd_law "law"=true)(uX:W.keepIn K (.ref hV)=true)(qa:W.nsIn K mainGlobals "HANDS"=some (some (.ref d7)))(pM:K.lookup d7=some { cls:=.type "dict",data:=.dict #[⟨PyData.keyHash w.params "Y",.str "Y" u_HANDS_0,.str "yes" v_HANDS_0⟩,⟨PyData.keyHash w.params "N",.str "N" u_HANDS_1,.str "no" v_HANDS_1⟩] ep_HANDS })(ic:W.nsIn K mainGlobals "BIT_SIGNS"=some (some (.ref cP)))(g4:K.lookup cP=some { cls:=.type "tuple",data:=.seq #[.str "0" u_BIT_SIGNS_0,.str "1" u_BIT_SIGNS_1] n_BIT_SIGNS })(fE:W.nsIn K mainGlobals "PLACE_SIGNS"=some (some (.ref b8)))(fJ:K.lookup b8=some { cls:=.type "tuple",data:=.seq #[.str "0" u_PLACE_SIGNS_0,.str "1" u_PLACE_SIGNS_1,.str "2" u_PLACE_SIGNS_2,.str "3" u_PLACE_SIGNS_3,.str "4" u_PLACE_SIGNS_4] n_PLACE_SIGNS })(fH:W.nsIn K mainGlobals "BEHIND_SAYS"=some (some (.ref b7)))(fG:K.lookup b7=some { cls:=.type "tuple",data:=.seq #[.str ")" u_BEHIND_SAYS_0,.str "talk" u_BEHIND_SAYS_1,.str ";" u_BEHIND_SAYS_2,.str "talk" u_BEHIND_SAYS_3,.str "(" u_BEHIND_SAYS_4] n_BEHIND_SAYS })(Ax:cd_law=.ref cc_law)(Da:K.lookup cc_law=some ⟨ko_law,kd_law,.fields kf_law,ks_law⟩)(Dw:kf_law[11]?=some (.ref pp_law))(yv:(i5 K).contains ("law",cc_law,pp_law)=true)(y8:xn K cc_law pp_law=true)(hG:W.nsIn K mainGlobals "TalkError"=some (some (.ref dC)))(lT:W.nsIn K mainGlobals "NoCase"=some (some (.ref db)))(jc:W.nsIn K mainGlobals "NoSaying"=some (some (.ref b9)))(mr:W.nsIn K mainGlobals "NoTalk"=some (some (.ref c7)))(l4:W.nsIn K mainGlobals "NoRise"=some (some (.ref dc)))(j7:W.nsIn K mainGlobals "TooMany"=some (some (.ref cJ)))(p6:W.nsIn K mainGlobals "NoRow"=some (some (.ref d6)))(lY:W.nsIn K mainGlobals "NoWord"=some (some (.ref da)))(l9:W.nsIn K mainGlobals "NoText"=some (some (.ref ao)))(lq:W.findIn K (.ref ao) "__init__"=some (some (.ref cT)))(iT:K.lookup cT=some ⟨oc_i_NoText,od_i_NoText,.func (W.fnOf "__init__" "NoText.__init__" (defArgs cw) (defBody cw) (defScope cw) .none kV_i_NoText dc_i_NoText pm_i_NoText an_i_NoText cd_i_NoText ct_i_NoText),ba⟩)(i7:W.codeIn K cd_i_NoText "NoText.__init__"=true)(iW:W.keepIn K (.ref cT)=true)(cF:zm K ao cT=true)(eH:tB K ao=true)(cC:W.kitOne K (.ref ao) (.ref db)=some false)(cB:W.kitOne K (.ref ao) (.ref dc)=some false)(cN:W.kitOne K (.ref ao) (.ref d6)=some false)(bW:W.kitOne K (.ref ao) (.ref b9)=some false)(cz:W.kitOne K (.ref ao) (.ref c7)=some false)(cy:W.kitOne K (.ref ao) (.ref da)=some false)(ci:W.kitOne K (.ref ao) (.ref cJ)=some false)(cD:W.kitOne K (.ref ao) (.ref ao)=some true)(bG:W.kitOne K (.ref ao) (.type "ValueError")=some true)(bP:W.exmOne K (.ref ao) (.ref dC)=some true)(jE:W.kitOne K (.type "NoneType") (.ref db)=some false)(jS:W.kitOne K (.type "NoneType") (.ref dc)=some false)(ll:W.kitOne K (.type "NoneType") (.ref d6)=some false)(gz:W.kitOne K (.type "NoneType") (.ref b9)=some false)(jL:W.kitOne K (.type "NoneType") (.ref c7)=some false)(jy:W.kitOne K (.type "NoneType") (.ref da)=some false)(ii:W.kitOne K (.type "NoneType") (.ref cJ)=some false)(jC:W.kitOne K (.type "NoneType") (.ref ao)=some false)(eE:W.kitOne K (.type "NoneType") (.type "ValueError")=some false)(sm:(K.lookup sysModules).isSome=true)(jt:(d7 == sysModules)=false)(gl:W.nsIn K mainGlobals "ValueError"=some none)(zD:W.nsIn K mainGlobals "abs"=some none)(xX:W.nsIn K mainGlobals "int"=some none)(gp:W.nsIn K mainGlobals "isinstance"=some none)(zj:W.nsIn K mainGlobals "len"=some none)(oU:W.nsIn K mainGlobals "range"=some none)(tu:W.nsIn K mainGlobals "repr"=some none)(xE:W.nsIn K mainGlobals "str"=some none)(px:W.nsIn K mainGlobals "tuple"=some none):∃t,t.wo=w/\Txt K mg t:=by
 have F_law:=ud (st:=kS) wy nB uX;have F_i_NoText:=ud (st:=cw) iT i7 iW
 exact⟨⟨bQ,_,di,_,dU,_,i9,_,dw,_,bB,_,cU,_,cR,_,f7,_,eX,_,gm,_,bK,_,bM,_,bz,_,eR,_,ff,_,dy,_,dm,_,eU,_,dW,_,bZ,_,hV,_,w,cP,b8,b7,d7,cc_law,pp_law,dC,db,b9,c7,dc,cJ,d6,da,ao,cT,_⟩,rfl,⟨W.mg_of X G cm.g,cm.f,cm.e,cm.f.IH fun _ _ _ _ _ _ _=>rfl,
  W.mg_of X G dY.g,dY.f,dY.e,dY.f.IF fun _ _ _ _ _ _ _ _=>rfl,
  W.mg_of X G eK.g,eK.f,eK.e,eK.f.IF fun _ _ _ _ _ _ _ _=>rfl,
  W.mg_of X G j4.g,j4.f,j4.e,j4.f.II fun _ _ _ _ _ _ _ _ _=>rfl,
  W.mg_of X G d5.g,d5.f,d5.e,d5.f.II fun _ _ _ _ _ _ _ _ _=>rfl,
  W.mg_of X G dE.g,dE.f,dE.e,dE.f.IF fun _ _ _ _ _ _ _ _=>rfl,
  W.mg_of X G dG.g,dG.f,dG.e,dG.f.II fun _ _ _ _ _ _ _ _ _=>rfl,
  W.mg_of X G dA.g,dA.f,dA.e,dA.f.IR fun _ _ _ _ _ _ _ _ _ _=>rfl,
  W.mg_of X G ip.g,ip.f,ip.e,ip.f.IH fun _ _ _ _ _ _ _=>rfl,
  W.mg_of X G fQ.g,fQ.f,fQ.e,fQ.f.IF fun _ _ _ _ _ _ _ _=>rfl,
  W.mg_of X G iG.g,iG.f,iG.e,iG.f.IH fun _ _ _ _ _ _ _=>rfl,
  W.mg_of X G cX.g,cX.f,cX.e,cX.f.IR fun _ _ _ _ _ _ _ _ _ _=>rfl,
  W.mg_of X G cq.g,cq.f,cq.e,cq.f.IH fun _ _ _ _ _ _ _=>rfl,
  W.mg_of X G cH.g,cH.f,cH.e,cH.f.IH fun _ _ _ _ _ _ _=>rfl,
  W.mg_of X G fM.g,fM.f,fM.e,fM.f.IF fun _ _ _ _ _ _ _ _=>rfl,
  W.mg_of X G fO.g,fO.f,fO.e,fO.f.II fun _ _ _ _ _ _ _ _ _=>rfl,
  W.mg_of X G eL.g,eL.f,eL.e,eL.f.IH fun _ _ _ _ _ _ _=>rfl,
  W.mg_of X G dZ.g,dZ.f,dZ.e,dZ.f.II fun _ _ _ _ _ _ _ _ _=>rfl,
  W.mg_of X G fR.g,fR.f,fR.e,fR.f.II fun _ _ _ _ _ _ _ _ _=>rfl,
  W.mg_of X G eO.g,eO.f,eO.e,eO.f.IF fun _ _ _ _ _ _ _ _=>rfl,
  W.mg_of X G cG.g,cG.f,cG.e,cG.f.IF fun _ _ _ _ _ _ _ _=>rfl,
  W.mg_of X G yo,F_law,uX,F_law.IH (p0:="_law_script") fun _ _ _ _ _ _ _=>rfl,
  fun s v=>.of_eq rfl,
  W.mg_none_of X G gl,
  W.mg_none_of X G zD,
  W.mg_none_of X G xX,
  W.mg_none_of X G gp,
  W.mg_none_of X G zj,
  W.mg_none_of X G oU,
  W.mg_none_of X G tu,
  W.mg_none_of X G xE,
  W.mg_none_of X G px,
  W.mg_of X G qa,
  ⟨_,_,ep_HANDS,pM,⟨rfl,rfl,rfl⟩,rfl,(.cons ⟨rfl,⟨_,rfl⟩,⟨_,rfl⟩⟩ (.cons ⟨rfl,⟨_,rfl⟩,⟨_,rfl⟩⟩ PySem.Paired.nil))⟩,
  W.mg_of X G ic,
  ⟨_,n_BIT_SIGNS,g4,(show 2<=sizeLine by decide),(.cons ⟨_,rfl⟩ (.cons ⟨_,rfl⟩ .nil))⟩,
  W.mg_of X G fE,
  ⟨_,n_PLACE_SIGNS,fJ,(show 5<=sizeLine by decide),(.cons ⟨_,rfl⟩ (.cons ⟨_,rfl⟩ (.cons ⟨_,rfl⟩ (.cons ⟨_,rfl⟩ (.cons ⟨_,rfl⟩ .nil)))))⟩,
  W.mg_of X G fH,
  ⟨_,n_BEHIND_SAYS,fG,(show 5<=sizeLine by decide),(.cons ⟨_,rfl⟩ (.cons ⟨_,rfl⟩ (.cons ⟨_,rfl⟩ (.cons ⟨_,rfl⟩ (.cons ⟨_,rfl⟩ .nil)))))⟩,
  BN (st:=kS) wy nB Ax yv y8,
  W.mg_of X G hG,
  W.mg_of X G lT,
  W.mg_of X G jc,
  W.mg_of X G mr,
  W.mg_of X G l4,
  W.mg_of X G j7,
  W.mg_of X G p6,
  W.mg_of X G lY,
  W.mg_of X G l9,
  F_i_NoText,F_i_NoText.IF (p0:="self") (p1:="at") fun _ _ _ _ _ _ _ _=>rfl,
  cF,
  eH,
  cC,
  cB,
  cN,
  bW,
  cz,
  cy,
  ci,
  cD,
  bG,
  bP,
  jE,
  jS,
  ll,
  gz,
  jL,
  jy,
  ii,
  jC,
  eE,
  sm,
  jt⟩⟩
noncomputable def inCls(s:PySem.Stmt)(j:Nat):PySem.Stmt:=match s with
 |.ClassDef _ _ _ b _ _ _ _ _ _ _=>b.getD j (.Pass ⟨0,0,0,0⟩)
 |_=>s
noncomputable abbrev oT(x:Array Value):Obj:=⟨.type "tuple",.none,.seq x 0,#[]⟩
noncomputable abbrev oF(n:Str)(i:Nat)(s:Str)(k:Tok)(c:Addr):Obj:=⟨.type "function",.none,.func (W.fnOf n n (defArgs (top i)) (defBody (top i)) (defScope (top i)) .none .none .none (.str s k) .none (.ref c) .none),#[]⟩
noncomputable abbrev oC(n:Str)(a b c:Tok)(l k:Int)(r:Addr)(e:Int)(u:Addr)(v w:Value)(x:Addr)(y:Int)(d:Tok):Obj:=⟨.type "code",.none,.fields #[.str n a,.str n b,.str "/claim/cut.py" c,.int l 0,.int k 0,.int 0 0,.int 0 0,.int 3 0,.ref r,.bool true,.int e 0,.ref u,.none,v,w,.ref x,.int y 0,.int l 0,.str "/claim/cut.py" d],#[]⟩
noncomputable def KK:PySem.Params->PySem.W.Frag:=fun P=>
 (nat_lit 1,⟨.type "dict",.none,.dict #[⟨PyData.keyHash P "builtins",.str "builtins" 162,.ref 4⟩,⟨PyData.keyHash P "__main__",.str "__main__" 163,.ref 5⟩] 2,#[]⟩)::
 (nat_lit 2,⟨.none,.none,.dict #[] 0,#[]⟩)::
 (nat_lit 3,⟨.type "dict",.none,.dict #[⟨PyData.keyHash P "__name__",.str "__name__" 165,.str "law_unlikeplace_k63_texts_of_no_talk" 451⟩,⟨PyData.keyHash P "__doc__",.str "__doc__" 166,.none⟩,⟨PyData.keyHash P "__package__",.str "__package__" 167,.none⟩,⟨PyData.keyHash P "__loader__",.str "__loader__" 168,.builtin "__main__.__loader__#opaque"⟩,⟨PyData.keyHash P "__spec__",.str "__spec__" 169,.none⟩,⟨PyData.keyHash P "__annotations__",.str "__annotations__" 170,.ref 6⟩,⟨PyData.keyHash P "__builtins__",.str "__builtins__" 171,.ref 4⟩,⟨PyData.keyHash P "__file__",.str "__file__" 173,.str "/claim/cut.py" 172⟩,⟨PyData.keyHash P "__cached__",.str "__cached__" 174,.none⟩,⟨PyData.keyHash P "TalkError",.str "TalkError" 206,.ref 24⟩,⟨PyData.keyHash P "NoCase",.str "NoCase" 222,.ref 37⟩,⟨PyData.keyHash P "NoSaying",.str "NoSaying" 238,.ref 49⟩,⟨PyData.keyHash P "NoTalk",.str "NoTalk" 254,.ref 61⟩,⟨PyData.keyHash P "NoRise",.str "NoRise" 270,.ref 73⟩,⟨PyData.keyHash P "TooMany",.str "TooMany" 286,.ref 85⟩,⟨PyData.keyHash P "NoRow",.str "NoRow" 302,.ref 97⟩,⟨PyData.keyHash P "NoWord",.str "NoWord" 318,.ref 109⟩,⟨PyData.keyHash P "NoText",.str "NoText" 343,.ref 128⟩,⟨PyData.keyHash P "BIT_SIGNS",.str "BIT_SIGNS" 348,.ref 131⟩,⟨PyData.keyHash P "PLACE_SIGNS",.str "PLACE_SIGNS" 354,.ref 132⟩,⟨PyData.keyHash P "HANDS",.str "HANDS" 361,.ref 133⟩,⟨PyData.keyHash P "BEHIND_SAYS",.str "BEHIND_SAYS" 367,.ref 134⟩,⟨PyData.keyHash P "must_be_text",.str "must_be_text" 374,.ref 141⟩,⟨PyData.keyHash P "must_end",.str "must_end" 382,.ref 148⟩,⟨PyData.keyHash P "sign_at",.str "sign_at" 390,.ref 155⟩,⟨PyData.keyHash P "past",.str "past" 399,.ref 162⟩,⟨PyData.keyHash P "place_at",.str "place_at" 409,.ref 169⟩,⟨PyData.keyHash P "read_talk",.str "read_talk" 426,.ref 176⟩,⟨PyData.keyHash P "says_from",.str "says_from" 436,.ref 183⟩,⟨PyData.keyHash P "word_from",.str "word_from" 450,.ref 190⟩,⟨PyData.keyHash P "_law_pen",.str "_law_pen" 459,.ref 197⟩,⟨PyData.keyHash P "_law_draw",.str "_law_draw" 472,.ref 204⟩,⟨PyData.keyHash P "_law_all",.str "_law_all" 483,.ref 211⟩,⟨PyData.keyHash P "_law_any_talk",.str "_law_any_talk" 489,.ref 216⟩,⟨PyData.keyHash P "_law_words_text",.str "_law_words_text" 495,.ref 221⟩,⟨PyData.keyHash P "_law_talk_text",.str "_law_talk_text" 503,.ref 228⟩,⟨PyData.keyHash P "_law_sign",.str "_law_sign" 512,.ref 235⟩,⟨PyData.keyHash P "_law_bend",.str "_law_bend" 524,.ref 242⟩,⟨PyData.keyHash P "_law_heard",.str "_law_heard" 534,.ref 249⟩,⟨PyData.keyHash P "_law_behind",.str "_law_behind" 543,.ref 256⟩,⟨PyData.keyHash P "_law_then",.str "_law_then" 554,.ref 263⟩,⟨PyData.keyHash P "_law_first",.str "_law_first" 566,.ref 270⟩,⟨PyData.keyHash P "_law_exchanged",.str "_law_exchanged" 580,.ref 277⟩,⟨PyData.keyHash P "law",.str "law" 597,.ref 284⟩] 44,#[]⟩)::
 (nat_lit 15,oT #[.type "ValueError"])::
 (nat_lit 22,oT #[])::
 (nat_lit 23,⟨.type "dict",.none,.dict #[⟨PyData.keyHash P "__module__",.str "__module__" 196,.str "unlikeplace.errors" 187⟩,⟨PyData.keyHash P "__firstlineno__",.str "__firstlineno__" 200,.int 2 199⟩,⟨PyData.keyHash P "__static_attributes__",.str "__static_attributes__" 201,.ref 22⟩,⟨PyData.keyHash P "__weakref__",.str "__weakref__" 203,.ref 25⟩,⟨PyData.keyHash P "__doc__",.str "__doc__" 204,.none⟩] 3,#[]⟩)::
 (nat_lit 24,⟨.type "type",.none,.cls ⟨"TalkError",[.type "ValueError"],[.ref 24,.type "ValueError",.type "Exception",.type "BaseException",.type "object"],23,"TalkError",true,[],[.ref 37,.ref 49,.ref 61,.ref 73,.ref 85,.ref 97,.ref 109,.ref 128],false,.none,false⟩,#[(.some (.ref 15)),.none,(.some (.str "TalkError" 189)),(.some (.str "TalkError" 197)),(.some (.builtin "ValueError.__new__")),(.some (.bool true))]⟩)::
 (nat_lit 25,⟨.type "getset_descriptor",.none,.fields #[.str "__weakref__" 202,.ref 24,.builtin "ExceptionGroup.__weakref__",.none],#[]⟩)::
 (nat_lit 28,oT #[.ref 24])::
 (nat_lit 35,oT #[])::
 (nat_lit 36,⟨.type "dict",.none,.dict #[⟨PyData.keyHash P "__module__",.str "__module__" 214,.str "unlikeplace.errors" 187⟩,⟨PyData.keyHash P "__firstlineno__",.str "__firstlineno__" 218,.int 4 217⟩,⟨PyData.keyHash P "__static_attributes__",.str "__static_attributes__" 219,.ref 35⟩,⟨PyData.keyHash P "__doc__",.str "__doc__" 220,.none⟩] 2,#[]⟩)::
 (nat_lit 37,⟨.type "type",.none,.cls ⟨"NoCase",[.ref 24],[.ref 37,.ref 24,.type "ValueError",.type "Exception",.type "BaseException",.type "object"],36,"NoCase",true,[],[],false,.none,false⟩,#[(.some (.ref 28)),.none,(.some (.str "NoCase" 207)),(.some (.str "NoCase" 215)),(.some (.builtin "ValueError.__new__")),(.some (.bool true))]⟩)::
 (nat_lit 40,oT #[.ref 24])::
 (nat_lit 47,oT #[])::
 (nat_lit 48,⟨.type "dict",.none,.dict #[⟨PyData.keyHash P "__module__",.str "__module__" 230,.str "unlikeplace.errors" 187⟩,⟨PyData.keyHash P "__firstlineno__",.str "__firstlineno__" 234,.int 6 233⟩,⟨PyData.keyHash P "__static_attributes__",.str "__static_attributes__" 235,.ref 47⟩,⟨PyData.keyHash P "__doc__",.str "__doc__" 236,.none⟩] 2,#[]⟩)::
 (nat_lit 49,⟨.type "type",.none,.cls ⟨"NoSaying",[.ref 24],[.ref 49,.ref 24,.type "ValueError",.type "Exception",.type "BaseException",.type "object"],48,"NoSaying",true,[],[],false,.none,false⟩,#[(.some (.ref 40)),.none,(.some (.str "NoSaying" 223)),(.some (.str "NoSaying" 231)),(.some (.builtin "ValueError.__new__")),(.some (.bool true))]⟩)::
 (nat_lit 52,oT #[.ref 24])::
 (nat_lit 59,oT #[])::
 (nat_lit 60,⟨.type "dict",.none,.dict #[⟨PyData.keyHash P "__module__",.str "__module__" 246,.str "unlikeplace.errors" 187⟩,⟨PyData.keyHash P "__firstlineno__",.str "__firstlineno__" 250,.int 8 249⟩,⟨PyData.keyHash P "__static_attributes__",.str "__static_attributes__" 251,.ref 59⟩,⟨PyData.keyHash P "__doc__",.str "__doc__" 252,.none⟩] 2,#[]⟩)::
 (nat_lit 61,⟨.type "type",.none,.cls ⟨"NoTalk",[.ref 24],[.ref 61,.ref 24,.type "ValueError",.type "Exception",.type "BaseException",.type "object"],60,"NoTalk",true,[],[],false,.none,false⟩,#[(.some (.ref 52)),.none,(.some (.str "NoTalk" 239)),(.some (.str "NoTalk" 247)),(.some (.builtin "ValueError.__new__")),(.some (.bool true))]⟩)::
 (nat_lit 64,oT #[.ref 24])::
 (nat_lit 71,oT #[])::
 (nat_lit 72,⟨.type "dict",.none,.dict #[⟨PyData.keyHash P "__module__",.str "__module__" 262,.str "unlikeplace.errors" 187⟩,⟨PyData.keyHash P "__firstlineno__",.str "__firstlineno__" 266,.int 10 265⟩,⟨PyData.keyHash P "__static_attributes__",.str "__static_attributes__" 267,.ref 71⟩,⟨PyData.keyHash P "__doc__",.str "__doc__" 268,.none⟩] 2,#[]⟩)::
 (nat_lit 73,⟨.type "type",.none,.cls ⟨"NoRise",[.ref 24],[.ref 73,.ref 24,.type "ValueError",.type "Exception",.type "BaseException",.type "object"],72,"NoRise",true,[],[],false,.none,false⟩,#[(.some (.ref 64)),.none,(.some (.str "NoRise" 255)),(.some (.str "NoRise" 263)),(.some (.builtin "ValueError.__new__")),(.some (.bool true))]⟩)::
 (nat_lit 76,oT #[.ref 24])::
 (nat_lit 83,oT #[])::
 (nat_lit 84,⟨.type "dict",.none,.dict #[⟨PyData.keyHash P "__module__",.str "__module__" 278,.str "unlikeplace.errors" 187⟩,⟨PyData.keyHash P "__firstlineno__",.str "__firstlineno__" 282,.int 12 281⟩,⟨PyData.keyHash P "__static_attributes__",.str "__static_attributes__" 283,.ref 83⟩,⟨PyData.keyHash P "__doc__",.str "__doc__" 284,.none⟩] 2,#[]⟩)::
 (nat_lit 85,⟨.type "type",.none,.cls ⟨"TooMany",[.ref 24],[.ref 85,.ref 24,.type "ValueError",.type "Exception",.type "BaseException",.type "object"],84,"TooMany",true,[],[],false,.none,false⟩,#[(.some (.ref 76)),.none,(.some (.str "TooMany" 271)),(.some (.str "TooMany" 279)),(.some (.builtin "ValueError.__new__")),(.some (.bool true))]⟩)::
 (nat_lit 88,oT #[.ref 24])::
 (nat_lit 95,oT #[])::
 (nat_lit 96,⟨.type "dict",.none,.dict #[⟨PyData.keyHash P "__module__",.str "__module__" 294,.str "unlikeplace.errors" 187⟩,⟨PyData.keyHash P "__firstlineno__",.str "__firstlineno__" 298,.int 14 297⟩,⟨PyData.keyHash P "__static_attributes__",.str "__static_attributes__" 299,.ref 95⟩,⟨PyData.keyHash P "__doc__",.str "__doc__" 300,.none⟩] 2,#[]⟩)::
 (nat_lit 97,⟨.type "type",.none,.cls ⟨"NoRow",[.ref 24],[.ref 97,.ref 24,.type "ValueError",.type "Exception",.type "BaseException",.type "object"],96,"NoRow",true,[],[],false,.none,false⟩,#[(.some (.ref 88)),.none,(.some (.str "NoRow" 287)),(.some (.str "NoRow" 295)),(.some (.builtin "ValueError.__new__")),(.some (.bool true))]⟩)::
 (nat_lit 100,oT #[.ref 24])::
 (nat_lit 107,oT #[])::
 (nat_lit 108,⟨.type "dict",.none,.dict #[⟨PyData.keyHash P "__module__",.str "__module__" 310,.str "unlikeplace.errors" 187⟩,⟨PyData.keyHash P "__firstlineno__",.str "__firstlineno__" 314,.int 16 313⟩,⟨PyData.keyHash P "__static_attributes__",.str "__static_attributes__" 315,.ref 107⟩,⟨PyData.keyHash P "__doc__",.str "__doc__" 316,.none⟩] 2,#[]⟩)::
 (nat_lit 109,⟨.type "type",.none,.cls ⟨"NoWord",[.ref 24],[.ref 109,.ref 24,.type "ValueError",.type "Exception",.type "BaseException",.type "object"],108,"NoWord",true,[],[],false,.none,false⟩,#[(.some (.ref 100)),.none,(.some (.str "NoWord" 303)),(.some (.str "NoWord" 311)),(.some (.builtin "ValueError.__new__")),(.some (.bool true))]⟩)::
 (nat_lit 112,oT #[.ref 24])::
 (nat_lit 119,oT #[])::
 (nat_lit 121,oT #[.str "self" 334,.str "at" 335])::
 (nat_lit 122,oT #[])::
 (nat_lit 124,⟨.type "code",.none,.fields #[.str "__init__" 331,.str "NoText.__init__" 332,.str "/claim/cut.py" 333,.int 20 0,.int 2 0,.int 0 0,.int 0 0,.int 3 0,.ref 119,.bool true,.int 181 0,.ref 120,.none,.ref 121,.ref 122,.ref 123,.int 336 0,.int 20 0,.str "/claim/cut.py" 337],#[]⟩)::
 (nat_lit 125,⟨.type "function",.none,.func (W.fnOf "__init__" "NoText.__init__" (defArgs (inCls (top 9) 0)) (defBody (inCls (top 9) 0)) (defScope (inCls (top 9) 0)) .none .none .none (.str "unlikeplace.errors" 187) .none (.ref 124) .none),#[]⟩)::
 (nat_lit 126,oT #[.str "at" 339])::
 (nat_lit 127,⟨.type "dict",.none,.dict #[⟨PyData.keyHash P "__module__",.str "__module__" 326,.str "unlikeplace.errors" 187⟩,⟨PyData.keyHash P "__firstlineno__",.str "__firstlineno__" 330,.int 18 329⟩,⟨PyData.keyHash P "__init__",.str "__init__" 338,.ref 125⟩,⟨PyData.keyHash P "__static_attributes__",.str "__static_attributes__" 340,.ref 126⟩,⟨PyData.keyHash P "__doc__",.str "__doc__" 341,.none⟩] 2,#[]⟩)::
 (nat_lit 128,⟨.type "type",.none,.cls ⟨"NoText",[.ref 24],[.ref 128,.ref 24,.type "ValueError",.type "Exception",.type "BaseException",.type "object"],127,"NoText",true,[],[],false,.none,false⟩,#[(.some (.ref 112)),.none,(.some (.str "NoText" 319)),(.some (.str "NoText" 327)),(.some (.builtin "ValueError.__new__")),(.some (.bool true))]⟩)::
 (nat_lit 131,oT #[.str "0" 346,.str "1" 347])::
 (nat_lit 132,oT #[.str "0" 349,.str "1" 350,.str "2" 351,.str "3" 352,.str "4" 353])::
 (nat_lit 133,⟨.type "dict",.none,.dict #[⟨PyData.keyHash P "Y",.str "Y" 355,.str "yes" 356⟩,⟨PyData.keyHash P "N",.str "N" 357,.str "no" 358⟩] 2,#[]⟩)::
 (nat_lit 134,oT #[.str ")" 362,.str "talk" 363,.str ";" 364,.str "talk" 365,.str "(" 366])::
 (nat_lit 135,oT #[])::
 (nat_lit 137,oT #[.str "thing" 371])::
 (nat_lit 138,oT #[])::
 (nat_lit 140,oC "must_be_text" 368 369 370 27 1 135 181 136 (.ref 137) (.ref 138) 139 372 373)::
 (nat_lit 141,oF "must_be_text" 15 "unlikeplace.reader" 344 140)::
 (nat_lit 142,oT #[])::
 (nat_lit 144,oT #[.str "text" 378,.str "at" 379])::
 (nat_lit 145,oT #[])::
 (nat_lit 147,oC "must_end" 375 376 377 30 2 142 181 143 (.ref 144) (.ref 145) 146 380 381)::
 (nat_lit 148,oF "must_end" 16 "unlikeplace.reader" 344 147)::
 (nat_lit 149,oT #[])::
 (nat_lit 151,oT #[.str "text" 386,.str "at" 387])::
 (nat_lit 152,oT #[])::
 (nat_lit 154,oC "sign_at" 383 384 385 33 2 149 181 150 (.ref 151) (.ref 152) 153 388 389)::
 (nat_lit 155,oF "sign_at" 17 "unlikeplace.reader" 344 154)::
 (nat_lit 156,oT #[])::
 (nat_lit 158,oT #[.str "text" 394,.str "at" 395,.str "sign" 396])::
 (nat_lit 159,oT #[])::
 (nat_lit 161,oC "past" 391 392 393 35 3 156 181 157 (.ref 158) (.ref 159) 160 397 398)::
 (nat_lit 162,oF "past" 18 "unlikeplace.reader" 344 161)::
 (nat_lit 163,oT #[])::
 (nat_lit 165,oT #[.str "places" 403,.str "text" 404,.str "at" 405,.str "sign" 406])::
 (nat_lit 166,oT #[])::
 (nat_lit 168,oC "place_at" 400 401 402 39 3 163 181 164 (.ref 165) (.ref 166) 167 407 408)::
 (nat_lit 169,oF "place_at" 19 "unlikeplace.reader" 344 168)::
 (nat_lit 170,oT #[])::
 (nat_lit 172,oT #[.str "places" 413,.str "text" 414,.str "at" 415,.str "waiting" 416,.str "begun" 417,.str "done" 418,.str "wanted" 419,.str "sign" 420,.str "says" 421,.str "second" 422,.str "first" 423])::
 (nat_lit 173,oT #[])::
 (nat_lit 175,oC "read_talk" 410 411 412 44 2 170 181 171 (.ref 172) (.ref 173) 174 424 425)::
 (nat_lit 176,oF "read_talk" 20 "unlikeplace.reader" 344 175)::
 (nat_lit 177,oT #[])::
 (nat_lit 179,oT #[.str "places" 430,.str "text" 431,.str "at" 432,.str "says" 433])::
 (nat_lit 180,oT #[])::
 (nat_lit 182,oC "says_from" 427 428 429 68 3 177 181 178 (.ref 179) (.ref 180) 181 434 435)::
 (nat_lit 183,oF "says_from" 21 "unlikeplace.reader" 344 182)::
 (nat_lit 184,oT #[])::
 (nat_lit 186,oT #[.str "places" 440,.str "text" 441,.str "at" 442,.str "last" 443,.str "word" 444,.str "number" 445,.str "sign" 446,.str "greatest" 447])::
 (nat_lit 187,oT #[])::
 (nat_lit 189,oC "word_from" 437 438 439 78 4 184 181 185 (.ref 186) (.ref 187) 188 448 449)::
 (nat_lit 190,oF "word_from" 22 "unlikeplace.reader" 344 189)::
 (nat_lit 191,oT #[])::
 (nat_lit 193,oT #[.str "_law_script" 456])::
 (nat_lit 194,oT #[])::
 (nat_lit 196,oC "_law_pen" 453 454 455 90 1 191 181 192 (.ref 193) (.ref 194) 195 457 458)::
 (nat_lit 197,oF "_law_pen" 24 "law_unlikeplace_k63_texts_of_no_talk" 451 196)::
 (nat_lit 198,oT #[])::
 (nat_lit 200,oT #[.str "_law_pen_here" 463,.str "_law_many" 464,.str "_law_cells" 465,.str "_law_place" 466,.str "_law_left" 467,.str "_law_cell" 468,.str "_law_number" 469])::
 (nat_lit 201,oT #[])::
 (nat_lit 203,oC "_law_draw" 460 461 462 92 2 198 181 199 (.ref 200) (.ref 201) 202 470 471)::
 (nat_lit 204,oF "_law_draw" 25 "law_unlikeplace_k63_texts_of_no_talk" 451 203)::
 (nat_lit 205,oT #[])::
 (nat_lit 207,oT #[.str "_law_places" 476,.str "_law_found" 477,.str "_law_k" 478,.str "_law_longer" 479,.str "_law_word" 480])::
 (nat_lit 208,oT #[])::
 (nat_lit 210,oC "_law_all" 473 474 475 108 1 205 181 206 (.ref 207) (.ref 208) 209 481 482)::
 (nat_lit 211,oF "_law_all" 26 "law_unlikeplace_k63_texts_of_no_talk" 451 210)::
 (nat_lit 212,oT #[])::
 (nat_lit 215,oC "_law_any_talk" 484 485 486 116 4 212 181 213 .none .none 214 487 488)::
 (nat_lit 216,oF "_law_any_talk" 27 "law_unlikeplace_k63_texts_of_no_talk" 451 215)::
 (nat_lit 217,oT #[])::
 (nat_lit 220,oC "_law_words_text" 490 491 492 122 1 217 181 218 .none .none 219 493 494)::
 (nat_lit 221,oF "_law_words_text" 28 "law_unlikeplace_k63_texts_of_no_talk" 451 220)::
 (nat_lit 222,oT #[])::
 (nat_lit 224,oT #[.str "_law_talk" 499,.str "_law_both" 500])::
 (nat_lit 225,oT #[])::
 (nat_lit 227,oC "_law_talk_text" 496 497 498 126 1 222 181 223 (.ref 224) (.ref 225) 226 501 502)::
 (nat_lit 228,oF "_law_talk_text" 29 "law_unlikeplace_k63_texts_of_no_talk" 451 227)::
 (nat_lit 229,oT #[])::
 (nat_lit 231,oT #[.str "_law_pen_here" 507,.str "_law_signs" 508,.str "_law_every" 509])::
 (nat_lit 232,oT #[])::
 (nat_lit 234,oC "_law_sign" 504 505 506 131 2 229 181 230 (.ref 231) (.ref 232) 233 510 511)::
 (nat_lit 235,oF "_law_sign" 30 "law_unlikeplace_k63_texts_of_no_talk" 451 234)::
 (nat_lit 236,oT #[])::
 (nat_lit 238,oT #[.str "_law_pen_here" 516,.str "_law_text" 517,.str "_law_signs" 518,.str "_law_at" 519,.str "_law_sign_here" 520,.str "_law_some" 521])::
 (nat_lit 239,oT #[])::
 (nat_lit 241,oC "_law_bend" 513 514 515 136 3 236 181 237 (.ref 238) (.ref 239) 240 522 523)::
 (nat_lit 242,oF "_law_bend" 31 "law_unlikeplace_k63_texts_of_no_talk" 451 241)::
 (nat_lit 243,oT #[])::
 (nat_lit 245,oT #[.str "_law_asked" 528,.str "_law_caught" 529,.str "_law_found" 530,.str "error" 531])::
 (nat_lit 246,oT #[])::
 (nat_lit 248,oC "_law_heard" 525 526 527 142 1 243 181 244 (.ref 245) (.ref 246) 247 532 533)::
 (nat_lit 249,oF "_law_heard" 32 "law_unlikeplace_k63_texts_of_no_talk" 451 248)::
 (nat_lit 250,oT #[])::
 (nat_lit 252,oT #[.str "_law_places" 538,.str "_law_last" 539,.str "_law_bits" 540])::
 (nat_lit 253,oT #[])::
 (nat_lit 255,oC "_law_behind" 535 536 537 156 3 250 181 251 (.ref 252) (.ref 253) 254 541 542)::
 (nat_lit 256,oF "_law_behind" 33 "law_unlikeplace_k63_texts_of_no_talk" 451 255)::
 (nat_lit 257,oT #[])::
 (nat_lit 259,oT #[.str "_law_places" 547,.str "_law_want" 548,.str "_law_sign_here" 549,.str "_law_last" 550,.str "_law_bits" 551])::
 (nat_lit 260,oT #[])::
 (nat_lit 262,oC "_law_then" 544 545 546 162 3 257 181 258 (.ref 259) (.ref 260) 261 552 553)::
 (nat_lit 263,oF "_law_then" 34 "law_unlikeplace_k63_texts_of_no_talk" 451 262)::
 (nat_lit 264,oT #[])::
 (nat_lit 266,oT #[.str "_law_places" 558,.str "_law_text" 559,.str "_law_due" 560,.str "_law_at" 561,.str "_law_then_here" 562,.str "_law_want" 563])::
 (nat_lit 267,oT #[])::
 (nat_lit 269,oC "_law_first" 555 556 557 177 2 264 181 265 (.ref 266) (.ref 267) 268 564 565)::
 (nat_lit 270,oF "_law_first" 35 "law_unlikeplace_k63_texts_of_no_talk" 451 269)::
 (nat_lit 271,oT #[])::
 (nat_lit 273,oT #[.str "_law_pen_here" 570,.str "_law_text" 571,.str "_law_pieces" 572,.str "_law_at" 573,.str "_law_words" 574,.str "_law_place" 575,.str "_law_other" 576,.str "_law_head" 577])::
 (nat_lit 274,oT #[])::
 (nat_lit 276,oC "_law_exchanged" 567 568 569 190 2 271 181 272 (.ref 273) (.ref 274) 275 578 579)::
 (nat_lit 277,oF "_law_exchanged" 36 "law_unlikeplace_k63_texts_of_no_talk" 451 276)::
 (nat_lit 278,oT #[])::
 (nat_lit 280,oT #[.str "_law_script" 584,.str "_law_pen_here" 585,.str "_law_turn" 586,.str "_law_talk" 587,.str "_law_k" 588,.str "_law_found" 589,.str "_law_first_here" 590])::
 (nat_lit 281,oT #[.str "_law_bent" 591,.str "_law_places" 592,.str "_law_text" 593,.str "_law_thing" 594])::
 (nat_lit 283,oC "law" 581 582 583 198 1 278 181 279 (.ref 280) (.ref 281) 282 595 596)::
 (nat_lit 284,oF "law" 37 "law_unlikeplace_k63_texts_of_no_talk" 451 283)::[]
end My
noncomputable def PySem.W.Fast.tw6894247980046229166:PySem.Params->PySem.W.Frag:=My.KK
theorem PySem.W.Fast.te6894247980046229166:My.KK=PySem.W.Fast.tw6894247980046229166:=rfl
noncomputable def PySem.W.Fast.tw5794628289700891249:PySem.Program:=PySem.Challenge.pw_unlikeplace_k63_texts_of_no_talk
theorem PySem.W.Fast.te5794628289700891249:PySem.Challenge.pw_unlikeplace_k63_texts_of_no_talk=PySem.W.Fast.tw5794628289700891249:=rfl
namespace PySem.W.Fast
theorem te17057190925206512896:True:=⟨⟩
theorem te16953034617709874720:True:=⟨⟩
theorem te13854100537636735648:True:=⟨⟩
theorem te9145043131953613472:True:=⟨⟩
noncomputable def My.sts_211:List PySem.Stmt:=[My.top 17,My.top 18,My.top 19,My.top 20,My.top 21,My.top 22,My.top 23,My.top 24,My.top 25,My.top 26,My.top 27,My.top 28,My.top 29]
noncomputable def tw12891697293393715904:List PySem.Stmt:=My.sts_211
theorem te12891697293393715904:My.sts_211=tw12891697293393715904:=rfl
theorem te5977076192033159936:True:=⟨⟩
theorem te12772139182937150368:True:=⟨⟩
noncomputable def My.sts_169:List PySem.Stmt:=[My.top 9,My.top 10,My.top 11,My.top 12,My.top 13,My.top 14,My.top 15,My.top 16]
noncomputable def tw11666108823732660257:List PySem.Stmt:=My.sts_169
theorem te11666108823732660257:My.sts_169=tw11666108823732660257:=rfl
theorem te9195980338141093921:True:=⟨⟩
theorem te15560704340900272289:True:=⟨⟩
theorem te7164667133335019777:True:=⟨⟩
theorem te14339218779199370593:True:=⟨⟩
theorem te2847981410044182945:True:=⟨⟩
theorem te13250682729930779105:True:=⟨⟩
theorem te10359746306225537537:True:=⟨⟩
theorem te9195311886585315873:True:=⟨⟩
theorem te4769121708749380225:True:=⟨⟩
noncomputable def My.sts_154:List PySem.Stmt:=[My.top 8]
noncomputable def tw13431191028539834017:List PySem.Stmt:=My.sts_154
theorem te13431191028539834017:My.sts_154=tw13431191028539834017:=rfl
theorem te8567075530327418593:True:=⟨⟩
theorem te1213232419233243937:True:=⟨⟩
theorem te662133393427082081:True:=⟨⟩
noncomputable def My.sts_139:List PySem.Stmt:=[My.top 7]
noncomputable def tw2308349091358688129:List PySem.Stmt:=My.sts_139
theorem te2308349091358688129:My.sts_139=tw2308349091358688129:=rfl
theorem te17044454129813711745:True:=⟨⟩
theorem te3314291833816565665:True:=⟨⟩
theorem te16342210646922924001:True:=⟨⟩
theorem te16465117274971430881:True:=⟨⟩
noncomputable def My.sts_293:List PySem.Stmt:=[My.top 30,My.top 31,My.top 32,My.top 33,My.top 34,My.top 35,My.top 36,My.top 37]
noncomputable def tw1084372603603530882:List PySem.Stmt:=My.sts_293
theorem te1084372603603530882:My.sts_293=tw1084372603603530882:=rfl
theorem te11478111309726666946:True:=⟨⟩
theorem te5549080629339256034:True:=⟨⟩
theorem te4999219111865630050:True:=⟨⟩
theorem te4397834134423041410:True:=⟨⟩
theorem te14001082223597849058:True:=⟨⟩
theorem te4967080100633464322:True:=⟨⟩
theorem te6600281667335702050:True:=⟨⟩
theorem te309746176622757666:True:=⟨⟩
noncomputable def My.sts_64:List PySem.Stmt:=[My.top 2]
noncomputable def tw1204935240074571586:List PySem.Stmt:=My.sts_64
theorem te1204935240074571586:My.sts_64=tw1204935240074571586:=rfl
theorem te1281360293180630850:True:=⟨⟩
theorem te13022685872658306:True:=⟨⟩
theorem te7735866703895698306:True:=⟨⟩
theorem te9494580884288989058:True:=⟨⟩
theorem te9800373747188674595:True:=⟨⟩
theorem te16134044235078742339:True:=⟨⟩
theorem te16499080246734402979:True:=⟨⟩
theorem te4804044855704356259:True:=⟨⟩
noncomputable def My.sts_94:List PySem.Stmt:=[My.top 4]
noncomputable def tw6016548670280217059:List PySem.Stmt:=My.sts_94
theorem te6016548670280217059:My.sts_94=tw6016548670280217059:=rfl
theorem te11375191230930887395:True:=⟨⟩
theorem te10159860653633305315:True:=⟨⟩
theorem te9298994565548888931:True:=⟨⟩
theorem te11953814531978040420:True:=⟨⟩
theorem te4907028362249796740:True:=⟨⟩
theorem te10771633993967308964:True:=⟨⟩
theorem te14114618272109028580:True:=⟨⟩
theorem te226326504068851012:True:=⟨⟩
theorem te3032958775528448101:True:=⟨⟩
theorem te9861698864810633381:True:=⟨⟩
theorem te11348208887580818661:True:=⟨⟩
theorem te5230624069376868613:True:=⟨⟩
theorem te15966142169526118725:True:=⟨⟩
theorem te10329677321767484741:True:=⟨⟩
theorem te7077995164634196325:True:=⟨⟩
theorem te4263058382458269061:True:=⟨⟩
theorem te15268180422216459013:True:=⟨⟩
theorem te16225088237870052133:True:=⟨⟩
theorem te13897360839618805637:True:=⟨⟩
theorem te8931398346053207013:True:=⟨⟩
theorem te12355875138992002021:True:=⟨⟩
theorem te1397479011170680902:True:=⟨⟩
theorem te340321961105766534:True:=⟨⟩
theorem te5785756894511696102:True:=⟨⟩
theorem te17242417345710722374:True:=⟨⟩
theorem te7194472564134795622:True:=⟨⟩
theorem te6758644562209510886:True:=⟨⟩
theorem te16135390731111116358:True:=⟨⟩
theorem te2778778780778128006:True:=⟨⟩
theorem te14660094080836304550:True:=⟨⟩
theorem te16593634657513837254:True:=⟨⟩
theorem te11031418464862291814:True:=⟨⟩
theorem te1486965622800282502:True:=⟨⟩
theorem te9925289531955499974:True:=⟨⟩
theorem te4481517796884003847:True:=⟨⟩
theorem te14381559776165990471:True:=⟨⟩
theorem te7744333156875866215:True:=⟨⟩
theorem te845563458309228711:True:=⟨⟩
theorem te13873630770881100967:True:=⟨⟩
theorem te7156161975653715239:True:=⟨⟩
theorem te18179960169967696167:True:=⟨⟩
theorem te3650197747125852583:True:=⟨⟩
theorem te9643521996357340615:True:=⟨⟩
theorem te9112055554207585799:True:=⟨⟩
theorem te16914463464330437127:True:=⟨⟩
theorem te17739669054291323399:True:=⟨⟩
theorem te3547180807635774087:True:=⟨⟩
theorem te16736114812443122439:True:=⟨⟩
theorem te17667793103352333127:True:=⟨⟩
theorem te4913376068623098695:True:=⟨⟩
theorem te15217465611579060135:True:=⟨⟩
theorem te12539247138297354151:True:=⟨⟩
theorem te17990148417549220807:True:=⟨⟩
theorem te13146052562877740040:True:=⟨⟩
theorem te7862738348109095976:True:=⟨⟩
theorem te838504821061518632:True:=⟨⟩
theorem te57009834564362664:True:=⟨⟩
theorem te12523511364373170856:True:=⟨⟩
noncomputable def My.sts_124:List PySem.Stmt:=[My.top 6]
noncomputable def tw2875965800666954472:List PySem.Stmt:=My.sts_124
theorem te2875965800666954472:My.sts_124=tw2875965800666954472:=rfl
theorem te11957505863860138760:True:=⟨⟩
theorem te5094342447598298121:True:=⟨⟩
theorem te9920588993732913513:True:=⟨⟩
theorem te2663361372646950377:True:=⟨⟩
noncomputable def My.sts_79:List PySem.Stmt:=[My.top 3]
noncomputable def tw17956616605000163945:List PySem.Stmt:=My.sts_79
theorem te17956616605000163945:My.sts_79=tw17956616605000163945:=rfl
theorem te8178182736177063657:True:=⟨⟩
theorem te17121025424629456681:True:=⟨⟩
theorem te4510429259883461513:True:=⟨⟩
theorem te4582070457257261098:True:=⟨⟩
theorem te2920868847598594250:True:=⟨⟩
theorem te3439646864990575882:True:=⟨⟩
theorem te3547929524672969994:True:=⟨⟩
theorem te5903692920273893930:True:=⟨⟩
theorem te9831178475966071466:True:=⟨⟩
theorem te7806256498852220682:True:=⟨⟩
theorem te1229675324661583722:True:=⟨⟩
theorem te437981770529569674:True:=⟨⟩
theorem te3536552301722359819:True:=⟨⟩
theorem te3806814118290709579:True:=⟨⟩
theorem te15101212331292496971:True:=⟨⟩
theorem te17602903716598819147:True:=⟨⟩
theorem te15117361825644228331:True:=⟨⟩
theorem te4639561414944526444:True:=⟨⟩
theorem te7534291244989551820:True:=⟨⟩
theorem te11962604304503329196:True:=⟨⟩
theorem te5065084818490410444:True:=⟨⟩
theorem te1316621528018817804:True:=⟨⟩
theorem te14397640054978935628:True:=⟨⟩
theorem te4776687601288067948:True:=⟨⟩
theorem te8688551238711434188:True:=⟨⟩
theorem te18332218000868793517:True:=⟨⟩
theorem te14113543972941748493:True:=⟨⟩
theorem te4567179327893087789:True:=⟨⟩
theorem te15711598106469810829:True:=⟨⟩
theorem te10559604198609026797:True:=⟨⟩
theorem te12196232680680043277:True:=⟨⟩
theorem te10743911549298549517:True:=⟨⟩
theorem te182685122719515565:True:=⟨⟩
theorem te5128163578703679437:True:=⟨⟩
theorem te6387289299998549166:True:=⟨⟩
theorem te1661093770083501358:True:=⟨⟩
theorem te10760833703252896046:True:=⟨⟩
theorem te7518548202685846958:True:=⟨⟩
theorem te1035189076186582478:True:=⟨⟩
theorem te13170914812849287630:True:=⟨⟩
theorem te16133202929586641422:True:=⟨⟩
theorem te16095064228220652110:True:=⟨⟩
theorem te10709755770848077614:True:=⟨⟩
theorem te10236125083096473390:True:=⟨⟩
theorem te12810968759523954574:True:=⟨⟩
theorem te16586538749501322158:True:=⟨⟩
theorem te15504110814292649999:True:=⟨⟩
theorem te14455682240088407087:True:=⟨⟩
theorem te10608931867413920815:True:=⟨⟩
theorem te8817194770959483023:True:=⟨⟩
theorem te8253023720980131247:True:=⟨⟩
theorem te16360610547628228079:True:=⟨⟩
noncomputable def My.sts_109:List PySem.Stmt:=[My.top 5]
noncomputable def tw17619628084477494799:List PySem.Stmt:=My.sts_109
theorem te17619628084477494799:My.sts_109=tw17619628084477494799:=rfl
theorem te7807204372394225231:True:=⟨⟩
theorem te16529407962368438095:True:=⟨⟩
theorem te5482426308131604335:True:=⟨⟩
theorem te10702023181731345391:True:=⟨⟩
theorem te15420895354546321424:True:=⟨⟩
theorem te18050801661151042608:True:=⟨⟩
theorem te4708405870739656752:True:=⟨⟩
theorem te13489340578386097264:True:=⟨⟩
theorem te13524780732677263472:True:=⟨⟩
theorem te7534910709818795568:True:=⟨⟩
theorem te15610828994377873008:True:=⟨⟩
theorem te2419937889840659120:True:=⟨⟩
theorem te3952018833027055408:True:=⟨⟩
theorem te9082495777790799696:True:=⟨⟩
theorem te11149794189206999121:True:=⟨⟩
theorem te18231665706102756657:True:=⟨⟩
theorem te16197357505359544881:True:=⟨⟩
theorem te9446716641148564081:True:=⟨⟩
theorem te9181016095200285425:True:=⟨⟩
theorem te15000348587060796241:True:=⟨⟩
theorem te8839584718092972913:True:=⟨⟩
theorem te452452502446389105:True:=⟨⟩
theorem te14387489222321096593:True:=⟨⟩
theorem te1238599908096401554:True:=⟨⟩
theorem te4675277801539522802:True:=⟨⟩
theorem te11261729340339356050:True:=⟨⟩
theorem te90698558813475378:True:=⟨⟩
theorem te8607567423650054738:True:=⟨⟩
theorem te11179824163780732594:True:=⟨⟩
theorem te6032993766606196434:True:=⟨⟩
theorem te553232474862621458:True:=⟨⟩
theorem te5124677403951242066:True:=⟨⟩
theorem te15991957582773435282:True:=⟨⟩
theorem te967367384196240306:True:=⟨⟩
theorem te1928686753427357011:True:=⟨⟩
theorem te14296942252192413395:True:=⟨⟩
theorem te14128365929003006867:True:=⟨⟩
theorem te18224354358410942548:True:=⟨⟩
theorem te13722277606220408948:True:=⟨⟩
theorem te6176557778105418900:True:=⟨⟩
theorem te7005114486839389364:True:=⟨⟩
theorem te14263215434048113172:True:=⟨⟩
theorem te8702705213624172180:True:=⟨⟩
theorem te9450978066738387796:True:=⟨⟩
theorem te17813298633379703636:True:=⟨⟩
theorem te4476435439753575380:True:=⟨⟩
theorem te3525972112234161140:True:=⟨⟩
theorem te10561845293210727541:True:=⟨⟩
theorem te4965045521331932341:True:=⟨⟩
theorem te6792960348426031285:True:=⟨⟩
theorem te8294338591916629301:True:=⟨⟩
theorem te8833912258559239765:True:=⟨⟩
theorem te15343758312590659285:True:=⟨⟩
theorem te13070732459972074293:True:=⟨⟩
theorem te12181996407218304981:True:=⟨⟩
theorem te13657574889840694229:True:=⟨⟩
theorem te17830480950719332406:True:=⟨⟩
theorem te14623547330692737142:True:=⟨⟩
theorem te4889742339549906198:True:=⟨⟩
theorem te3302077429401220406:True:=⟨⟩
theorem te17409921553522464086:True:=⟨⟩
theorem te9157345229634726358:True:=⟨⟩
theorem te9248924831602305526:True:=⟨⟩
theorem te2603656353681169974:True:=⟨⟩
theorem te1758737127171261302:True:=⟨⟩
theorem te5907911893500224470:True:=⟨⟩
theorem te3647960557028526295:True:=⟨⟩
noncomputable def My.view_39:PySem.Program:={ PySem.Challenge.pw_unlikeplace_k63_texts_of_no_talk with main:={ PySem.Challenge.pw_unlikeplace_k63_texts_of_no_talk.main with body:=[My.top 1,My.top 2,My.top 3,My.top 4,My.top 5,My.top 6,My.top 7,My.top 8,My.top 9,My.top 11,My.top 12,My.top 13,My.top 14,My.top 15,My.top 16,My.top 17,My.top 18,My.top 19,My.top 20,My.top 21,My.top 22,My.top 24,My.top 25,My.top 26,My.top 27,My.top 28,My.top 29,My.top 30,My.top 31,My.top 32,My.top 33,My.top 34,My.top 35,My.top 36,My.top 37] } }
noncomputable def tw3082672832861734295:PySem.Program:=My.view_39
theorem te3082672832861734295:My.view_39=tw3082672832861734295:=rfl
theorem te3628324935749919127:True:=⟨⟩
theorem te1997281976037493367:True:=⟨⟩
theorem te15483142052547289847:True:=⟨⟩
theorem te8618765044098686935:True:=⟨⟩
theorem te8204001316938878967:True:=⟨⟩
theorem te17292023638255739928:True:=⟨⟩
theorem te12187703456859124024:True:=⟨⟩
theorem te8847759194211448440:True:=⟨⟩
theorem te288624826258991896:True:=⟨⟩
theorem te1673511688415130456:True:=⟨⟩
theorem te6392989482605713336:True:=⟨⟩
theorem te8007009494494747608:True:=⟨⟩
theorem te5973485851017976824:True:=⟨⟩
theorem te3052416406170861689:True:=⟨⟩
theorem te13577616411920226457:True:=⟨⟩
theorem te15244779811995697401:True:=⟨⟩
theorem te10489394291249994137:True:=⟨⟩
theorem te1825263738467823129:True:=⟨⟩
theorem te5208031516716208761:True:=⟨⟩
theorem te12097049383032005241:True:=⟨⟩
theorem te8126471440682308345:True:=⟨⟩
theorem te4576321806630837049:True:=⟨⟩
theorem te14087204150595896378:True:=⟨⟩
theorem te4801784790882918618:True:=⟨⟩
theorem te15093138786788219194:True:=⟨⟩
theorem te16786023328964960762:True:=⟨⟩
theorem te49880441871547354:True:=⟨⟩
theorem te2575911788100129786:True:=⟨⟩
theorem te14126992947994079387:True:=⟨⟩
theorem te10522143305037376699:True:=⟨⟩
theorem te11935152300449955131:True:=⟨⟩
theorem te14816321008002425147:True:=⟨⟩
theorem te14606137427571288443:True:=⟨⟩
theorem te7768314848697057755:True:=⟨⟩
noncomputable def My.sts_49:List PySem.Stmt:=[My.top 0,My.top 1]
noncomputable def tw14707693284094406139:List PySem.Stmt:=My.sts_49
theorem te14707693284094406139:My.sts_49=tw14707693284094406139:=rfl
theorem te477314920472475131:True:=⟨⟩
theorem te14779539838089227931:True:=⟨⟩
theorem te16814492629321998011:True:=⟨⟩
theorem te7002394220470915771:True:=⟨⟩
theorem te2259742575850113723:True:=⟨⟩
theorem te1220718762490041051:True:=⟨⟩
theorem te6088304439986448315:True:=⟨⟩
theorem te3734466643819136987:True:=⟨⟩
theorem te4712831759810675772:True:=⟨⟩
theorem te6074287916386558108:True:=⟨⟩
theorem te1226884630393586940:True:=⟨⟩
theorem te16694724595603594620:True:=⟨⟩
theorem te9593266528237072860:True:=⟨⟩
theorem te15673387239755338300:True:=⟨⟩
theorem te1563398201147359836:True:=⟨⟩
theorem te12974865095381512860:True:=⟨⟩
theorem te9233469274695616252:True:=⟨⟩
theorem te16878185393417168668:True:=⟨⟩
theorem te4513607718449921884:True:=⟨⟩
theorem te3830209104011516796:True:=⟨⟩
theorem te1083258097535574908:True:=⟨⟩
theorem te17118710510774745020:True:=⟨⟩
theorem te4199325086880816124:True:=⟨⟩
theorem te10255388044216693213:True:=⟨⟩
theorem te16120568943020914141:True:=⟨⟩
theorem te6254210765560347389:True:=⟨⟩
theorem te10834507974361537405:True:=⟨⟩
theorem te3074953829347376029:True:=⟨⟩
theorem te9163281811973968958:True:=⟨⟩
theorem te17930395974441152702:True:=⟨⟩
theorem te16628070248224910526:True:=⟨⟩
theorem te1451769513344744670:True:=⟨⟩
theorem te6850925149080747262:True:=⟨⟩
theorem te15768181506109642174:True:=⟨⟩
theorem te15667702650432429566:True:=⟨⟩
theorem te15670561069139226270:True:=⟨⟩
theorem te10106443388874889982:True:=⟨⟩
theorem te1326731345216921406:True:=⟨⟩
theorem te5848106433527471966:True:=⟨⟩
theorem te3224101757735288734:True:=⟨⟩
theorem te4778193458811171806:True:=⟨⟩
theorem te787983420451573758:True:=⟨⟩
theorem te2899759417852645599:True:=⟨⟩
theorem te5991074763998856575:True:=⟨⟩
theorem te13744263743394728319:True:=⟨⟩
theorem te9966083797764951455:True:=⟨⟩
theorem te5221935883007157695:True:=⟨⟩
theorem te5227623996884691519:True:=⟨⟩
theorem te10795865632125925951:True:=⟨⟩
theorem te2880196306643319743:True:=⟨⟩
theorem te10559559606882309087:True:=⟨⟩
end PySem.W.Fast
open PySem PySem.W PyProof.Rows
local macro_rules | `(tactic| walk_at "q")=>`(tactic| (refine' L2.FY ?d1 ?d2 ?d3 ?d4;(case d1=>k_is);(case d2=>k_is);(case d3=>k_is);(case d4=>k_is)))
set_option maxRecDepth 100000 in
set_option maxHeartbeats 0 in
theorem PySem.Challenge.cw_unlikeplace_k63_texts_of_no_talk_holds : PySem.Challenge.rw_unlikeplace_k63_texts_of_no_talk.Holds := by
 w_on;o_law
 o_head (PySem.W.kmHook My.KK [nat_lit 1,nat_lit 2,nat_lit 3,nat_lit 15,nat_lit 22,nat_lit 23,nat_lit 24,nat_lit 25,nat_lit 28,nat_lit 35,nat_lit 36,nat_lit 37,nat_lit 40,nat_lit 47,nat_lit 48,nat_lit 49,nat_lit 52,nat_lit 59,nat_lit 60,nat_lit 61,nat_lit 64,nat_lit 71,nat_lit 72,nat_lit 73,nat_lit 76,nat_lit 83,nat_lit 84,nat_lit 85,nat_lit 88,nat_lit 95,nat_lit 96,nat_lit 97,nat_lit 100,nat_lit 107,nat_lit 108,nat_lit 109,nat_lit 112,nat_lit 119,nat_lit 121,nat_lit 122,nat_lit 124,nat_lit 125,nat_lit 126,nat_lit 127,nat_lit 128,nat_lit 131,nat_lit 132,nat_lit 133,nat_lit 134,nat_lit 135,nat_lit 137,nat_lit 138,nat_lit 140,nat_lit 141,nat_lit 142,nat_lit 144,nat_lit 145,nat_lit 147,nat_lit 148,nat_lit 149,nat_lit 151,nat_lit 152,nat_lit 154,nat_lit 155,nat_lit 156,nat_lit 158,nat_lit 159,nat_lit 161,nat_lit 162,nat_lit 163,nat_lit 165,nat_lit 166,nat_lit 168,nat_lit 169,nat_lit 170,nat_lit 172,nat_lit 173,nat_lit 175,nat_lit 176,nat_lit 177,nat_lit 179,nat_lit 180,nat_lit 182,nat_lit 183,nat_lit 184,nat_lit 186,nat_lit 187,nat_lit 189,nat_lit 190,nat_lit 191,nat_lit 193,nat_lit 194,nat_lit 196,nat_lit 197,nat_lit 198,nat_lit 200,nat_lit 201,nat_lit 203,nat_lit 204,nat_lit 205,nat_lit 207,nat_lit 208,nat_lit 210,nat_lit 211,nat_lit 212,nat_lit 215,nat_lit 216,nat_lit 217,nat_lit 220,nat_lit 221,nat_lit 222,nat_lit 224,nat_lit 225,nat_lit 227,nat_lit 228,nat_lit 229,nat_lit 231,nat_lit 232,nat_lit 234,nat_lit 235,nat_lit 236,nat_lit 238,nat_lit 239,nat_lit 241,nat_lit 242,nat_lit 243,nat_lit 245,nat_lit 246,nat_lit 248,nat_lit 249,nat_lit 250,nat_lit 252,nat_lit 253,nat_lit 255,nat_lit 256,nat_lit 257,nat_lit 259,nat_lit 260,nat_lit 262,nat_lit 263,nat_lit 264,nat_lit 266,nat_lit 267,nat_lit 269,nat_lit 270,nat_lit 271,nat_lit 273,nat_lit 274,nat_lit 276,nat_lit 277,nat_lit 278,nat_lit 280,nat_lit 281,nat_lit 283,nat_lit 284] (fun _=>by kernel_rfl) [279])
 (case hw=>w_witness2)
 k_fill
 refine L2.zI (l:=PySem.Challenge.rw_unlikeplace_k63_texts_of_no_talk) (n:=63) (k:=200) (x:="_law_script") (CX:=L2.CX0) (sp:=My.pG) rfl (by decide) rfl ⟨rfl,by decide,by decide,rfl⟩ (fun w h Y=>by first | exact PySem.W.kIn_of Y | exact PySem.W.km_in_of Y) (fun w=>by kernel_rfl) ?F ?S ?C
 case F =>
  intro w mg fa h KX G hmg
  have T : ∃ t,t.wo = w/\My.Txt (L2.KOf KX) mg t:=by
   dsimp only [L2.KOf]
   refine' My.FB w KX G ?cm ?dY ?eK ?j4 ?d5 ?dE ?dG ?dA ?ip ?fQ ?iG ?cX ?cq ?cH ?fM ?fO ?eL ?dZ ?fR ?eO ?cG ?yo ?wy ?nB ?uX ?qa ?pM ?ic ?g4 ?fE ?fJ ?fH ?fG ?Ax ?Da ?Dw ?yv ?y8 ?hG ?lT ?jc ?mr ?l4 ?j7 ?p6 ?lY ?l9 ?lq ?iT ?i7 ?iW ?cF ?eH ?cC ?cB ?cN ?bW ?cz ?cy ?ci ?cD ?bG ?bP ?jE ?jS ?ll ?gz ?jL ?jy ?ii ?jC ?eE ?sm ?jt ?gl ?zD ?xX ?gp ?zj ?oU ?tu ?xE ?px
   (case cm=>walk_at "q")
   (case dY=>walk_at "q")
   (case eK=>walk_at "q")
   (case j4=>walk_at "q")
   (case d5=>walk_at "q")
   (case dE=>walk_at "q")
   (case dG=>walk_at "q")
   (case dA=>walk_at "q")
   (case ip=>walk_at "q")
   (case fQ=>walk_at "q")
   (case iG=>walk_at "q")
   (case cX=>walk_at "q")
   (case cq=>walk_at "q")
   (case cH=>walk_at "q")
   (case fM=>walk_at "q")
   (case fO=>walk_at "q")
   (case eL=>walk_at "q")
   (case dZ=>walk_at "q")
   (case fR=>walk_at "q")
   (case eO=>walk_at "q")
   (case cG=>walk_at "q")
   (case yo=>k_is)
   (case wy=>k_is)
   (case nB=>k_is)
   (case uX=>k_is)
   (case qa=>k_is)
   (case pM=>k_is)
   (case ic=>k_is)
   (case g4=>k_is)
   (case fE=>k_is)
   (case fJ=>k_is)
   (case fH=>k_is)
   (case fG=>k_is)
   (case Ax=>rfl)
   (case Da=>k_is)
   (case Dw=>rfl)
   (case yv=>kernel_rfl)
   (case y8=>kernel_rfl)
   (case hG=>k_is)
   (case lT=>k_is)
   (case jc=>k_is)
   (case mr=>k_is)
   (case l4=>k_is)
   (case j7=>k_is)
   (case p6=>k_is)
   (case lY=>k_is)
   (case l9=>k_is)
   (case lq=>k_is)
   (case iT=>k_is)
   (case i7=>k_is)
   (case iW=>k_is)
   (case cF=>kernel_rfl)
   (case eH=>kernel_rfl)
   (case cC=>kernel_rfl)
   (case cB=>kernel_rfl)
   (case cN=>kernel_rfl)
   (case bW=>kernel_rfl)
   (case cz=>kernel_rfl)
   (case cy=>kernel_rfl)
   (case ci=>kernel_rfl)
   (case cD=>kernel_rfl)
   (case bG=>kernel_rfl)
   (case bP=>kernel_rfl)
   (case jE=>kernel_rfl)
   (case jS=>kernel_rfl)
   (case ll=>kernel_rfl)
   (case gz=>kernel_rfl)
   (case jL=>kernel_rfl)
   (case jy=>kernel_rfl)
   (case ii=>kernel_rfl)
   (case jC=>kernel_rfl)
   (case eE=>kernel_rfl)
   (case sm=>kernel_rfl)
   (case jt=>kernel_rfl)
   (case gl=>k_is)
   (case zD=>k_is)
   (case xX=>k_is)
   (case gp=>k_is)
   (case zj=>k_is)
   (case oU=>k_is)
   (case tu=>k_is)
   (case xE=>k_is)
   (case px=>k_is)
  obtain ⟨t,hw,T⟩:=T
  have e0:=hmg.symm.trans T.GO
  cases e0
  exact ⟨_,T.ET,fun base=>My.Ct hw T⟩
 case S=>exact fun K H a ns hl hO hS=>My.xx hl hO hS
 case C=>exact fun _ _ _ _ h=>h
