import PyProof.Rows.All
import Wide.All
import OpenK.AllK
import Wide.FinOn
import Lean
import PyProof.EqAt
import PyProof.EqKinds
import PyProof.TupleCall
import PyProof.NeKinds
import PyProof.Rows.StrLen
import PyProof.AutoIntG2
import PyProof.FactsAll.int_6
import PyProof.Rows.BootFacts.P1
import PyProof.ReprRoads
import PyProof.ListRange
import PyProof.TupleOfSeq
import PyProof.EnumMake
import PyProof.StrWalks
import PyProof.Rows.Range3
import PyProof.Rows.SetFrom
import KE.KIntText
import PyProof.FString
import PyProof.StrCalls2
import PyProof.StrOps2
import PyProof.SliceStr2
import PyProof.StrBlockI
import PyProof.StrBlockL
import PyProof.StrLaws
import OpenK.KOwn
import KE.KTryMore
import PyProof.ExcAttrAll.ValueError
import PyProof.NsDelKeeps
import KE.KRevIter
import PyProof.DictRoadsH
import PyProof.ListMulRoad
import PySem.Challenge.RW_unlikeplace_k61_what_is_written_is_read
noncomputable section
set_option Elab.async false
set_option linter.all false
set_option maxRecDepth 100000
namespace L2
open PySem PySem.Spec PyProof.Rows
noncomputable abbrev Key:=Sum Int Str
noncomputable def iF:Key->Value->Bool
 |.inl k,v=>Value.isInt k v
 |.inr x,v=>Value.isStrOf x v
noncomputable def Ie(w:World):Key->Int
 |.inl k=>hashInt k
 |.inr x=>hashStr w x
theorem bI:∀ {k:Key} {v:Value},iF k v=true->(∃i t,k=Sum.inl i/\v=Value.int i t)\/(∃x t,k=Sum.inr x/\v=Value.str x t)
 |.inl i,v,h=>by
  obtain⟨t,e⟩:=Value.isInt_shape (k:=i) (v:=v) h;exact .inl ⟨i,t,rfl,e⟩
 |.inr x,v,h=>by
  obtain⟨t,e⟩:=Value.isStrOf_shape (x:=x) (v:=v) h;exact .inr ⟨x,t,rfl,e⟩
theorem p6(x:Str)(t:Tok):iF (.inr x) (.str x t)=true:=by simp[iF,Value.isStrOf]
theorem Ew(a b:Int):decide ((Sum.inl a:Key)=Sum.inl b)=(a == b):=by
 by_cases e:a=b
 ·subst e;simp
 ·have h:¬ (Sum.inl a:Key)=Sum.inl b:=fun q=>e (Sum.inl.inj q)
  rw[decide_eq_false h];exact(beq_eq_false_iff_ne.mpr e).symm
theorem EH(a b:Str):decide ((Sum.inr a:Key)=Sum.inr b)=decide (a=b):=by
 by_cases e:a=b
 ·subst e;simp
 ·have h:¬ (Sum.inr a:Key)=Sum.inr b:=fun q=>e (Sum.inr.inj q)
  rw[decide_eq_false h,decide_eq_false e]
theorem EG(a:Int)(b:Str):decide ((Sum.inl a:Key)=Sum.inr b)=false:=decide_eq_false (fun q=>nomatch q)
theorem EJ(a:Str)(b:Int):decide ((Sum.inr a:Key)=Sum.inl b)=false:=decide_eq_false (fun q=>nomatch q)
noncomputable def bG(prog:Program)(w:World):PySem.KeyKind prog w Key where
 is:=iF
 hash:=Ie w
 inj:=fun v a b ha hb=>by
  rcases bI ha with⟨i,t,rfl,rfl⟩|⟨x,t,rfl,rfl⟩
  ·rcases bI hb with⟨j,u,rfl,e⟩|⟨y,u,rfl,e⟩
   ·injection e with e1 _;rw[e1]
   ·exact nomatch e
  ·rcases bI hb with⟨j,u,rfl,e⟩|⟨y,u,rfl,e⟩
   ·exact nomatch e
   ·injection e with e1 _;rw[e1]
 byValue:=fun k v h=>by
  rcases bI h with⟨i,t,rfl,rfl⟩|⟨x,t,rfl,rfl⟩<;>rfl
 pyHash:=fun hv h=>by
  rcases bI hv with⟨i,t,rfl,rfl⟩|⟨x,t,rfl,rfl⟩
  ·exact wpAny_pyHash_int h
  ·exact wpAny_pyHash_str h
 eqBool:=fun hu hv h=>by
  rcases bI hu with⟨i,t,rfl,rfl⟩|⟨x,t,rfl,rfl⟩
  ·rcases bI hv with⟨j,u,rfl,rfl⟩|⟨y,u,rfl,rfl⟩
   ·rw[Ew] at h;exact wpAny_eqBool_int h
   ·rw[EG] at h;exact SeqAt.EqAt.int_str i t y u _ _ _ _ h
  ·rcases bI hv with⟨j,u,rfl,rfl⟩|⟨y,u,rfl,rfl⟩
   ·rw[EJ] at h;exact SeqAt.EqAt.str_int x t j u _ _ _ _ h
   ·rw[EH] at h;exact wpAny_eqBool_str h
 «strs»:=fun k x t v h=>by
  rcases bI h with⟨i,u,rfl,e⟩|⟨y,u,rfl,e⟩
  ·exact nomatch e
  ·injection e with e1 _
   subst e1;cases v<;>rfl
theorem oE(prog:Program)(w:World)(k:Key)(v:Value):(bG prog w).is k v=iF k v:=rfl
theorem iO(prog:Program)(w:World)(x:Str)(t:Tok):(bG prog w).is (.inr x) (.str x t)=true:=p6 x t
inductive V where
 |non|bl (b:Bool)|int (i:Int)|str (x:Str)|byt (b:Array UInt8)|flt (b:UInt64)|ref (a:Addr)|ty (n:String)
 deriving DecidableEq
noncomputable def bq:V->Value->Prop
 |.non,u=>u=Value.none
 |.bl b,u=>u=Value.bool b
 |.int i,u=>∃t,u=Value.int i t
 |.str x,u=>∃t,u=Value.str x t
 |.byt b,u=>∃t,u=Value.bytes b t
 |.flt b,u=>∃t,u=Value.float b t
 |.ref a,u=>u=Value.ref a
 |.ty n,u=>u=Value.type n
noncomputable abbrev aT:List V->List Value->Prop:=Paired bq
theorem aT.length{xs:List V}{us:List Value}(r:aT xs us):xs.length=us.length:=Paired.length r
theorem aT.get:∀ {xs:List V} {us:List Value} {i:Nat} {x:V},aT xs us->xs[i]?=some x->∃u,us[i]?=some u/\bq x u
 |_,_,_,_,.nil,e=>by simp at e
 |_,_,0,_,.cons r _,e=>by simp at e;subst e;exact⟨_,rfl,r⟩
 |_,_,i+1,x,.cons _ t,e=>by
  obtain⟨u,h1,h2⟩:=aT.get (i:=i) (x:=x) t (by simpa using e)
  exact⟨u,by simpa using h1,h2⟩
theorem aT.set{x:V}{u:Value}(r:bq x u):∀ {xs:List V} {us:List Value} (i:Nat),aT xs us->aT (xs.set i x) (us.set i u)
 |_,_,_,.nil=>.nil
 |_,_,0,.cons _ t=>.cons r t
 |_,_,i+1,.cons q t=>.cons q (aT.set r i t)
theorem aT.append:∀ {xs ys:List V} {us ws:List Value},aT xs us->aT ys ws->aT (xs++ys) (us++ws)
 |_,_,_,_,.nil,s=>s
 |_,_,_,_,.cons r t,s=>.cons r (aT.append t s)
theorem aT.take:∀ {xs:List V} {us:List Value} (n:Nat),aT xs us->aT (xs.take n) (us.take n)
 |_,_,0,_=>.nil
 |_,_,_+1,.nil=>.nil
 |_,_,n+1,.cons r t=>.cons r (aT.take n t)
theorem aT.drop:∀ {xs:List V} {us:List Value} (n:Nat),aT xs us->aT (xs.drop n) (us.drop n)
 |_,_,0,r=>r
 |_,_,_+1,.nil=>.nil
 |_,_,n+1,.cons _ t=>aT.drop n t
noncomputable def EE:Option V->Option Value->Prop
 |some v,some u=>bq v u
 |none,none=>True
 |_,_=>False
noncomputable def KV{κ:Type}:List (κ×V)->List (κ×Value)->Prop:=Paired fun(p:κ×V) (q:κ×Value)=>p.1=q.1/\bq p.2 q.2
noncomputable def kV:Key->V
 |.inl i=>.int i
 |.inr x=>.str x
inductive HO where
 |lst (xs:List V)
 |tup (xs:List V)
 |dK (kvs:List (Key×V))|dT (kvs:List (List Key×V))
 |set (S:Int->Bool) (n:Nat)
 |ins (C dx:Addr) (fs:List (Str×V))
 |own (x:Addr)
 |xd (fs:List (Str×V))
 |met (f x:Addr)
 |rng (lo hi:Int)
 |frz (o:Obj) (u:HO)
 |tbl (ps:Array Value)
 |ext (φ:Heap->Prop)
noncomputable abbrev Hp:=Addr->Option HO
noncomputable def upd(H:Hp)(a:Addr)(o:HO):Hp:=fun b=>if b=a then some o else H b
theorem b9{H:Hp}{a:Addr}{o:HO}:upd H a o a=some o:=by unfold upd;rw[if_pos rfl]
theorem aV{H:Hp}{a b:Addr}{o:HO}(h:b≠a):upd H a o b=H b:=by unfold upd;rw[if_neg h]
theorem bC{H:Hp}{a b:Addr}{o:HO}(h:H a=some o)(h':H b=none):a≠b:=by
 intro e;subst e;rw[h] at h';cases h'
noncomputable def rL(h:Heap)(a:Addr)(items:Array Value):Prop:=IsTup h a items/\∃o,h.get? a=some o/\o.dict=none
theorem rL.lt{h:Heap}{a:Addr}{items:Array Value}(x:rL h a items):a<h.objs.size:=x.1.lt
theorem rL.new(h:Heap)(items:Array Value):rL (h.push { cls:=.type "tuple",data:=.seq items }) h.objs.size items:=⟨IsTup.new h items,_,Heap.get?_push_size _ rfl,rfl⟩
noncomputable def xG(H:Hp)(a:Addr)(ps qs:Array Value):Prop:=TriplesOk qs.toList/\∀(pos:Pos)(cv:Value),codeAmong pos qs.toList=some cv ->
 ∃(c:Addr)(o:Obj)(vs:Array Value)(t:Tok)(q:Str),cv=.ref c/\H c=some (.frz o (.own a))/\o.data=.fields vs/\vs[1]?=some (.str q t)/\ps[0]?=some (.str q 0)
theorem xG.mono{H H':Hp}{a:Addr}{ps qs:Array Value}(x:xG H a ps qs)(k:∀b o u,H b=some (.frz o u)->H' b=some (.frz o u)):xG H' a ps qs:=
 ⟨x.1,fun pos cv e=>let ⟨c,o,vs,t,q,e1,e2,r⟩:=x.2 pos cv e;⟨c,o,vs,t,q,e1,k _ _ _ e2,r⟩⟩
section
variable(P:Program)(w:World)
noncomputable def cE(H:Hp)(h:Heap)(a:Addr):HO->Prop
 |.lst xs=>xs.length<=sizeLine/\∃(its:List Value)(n:Nat),aT xs its/\h.get? a=some { cls:=.type "list",data:=.seq its.toArray n }
 |.tup xs=>xs.length<=sizeLine/\∃its:List Value,aT xs its/\rL h a its.toArray
 |.dK kvs=>kvs.length<=sizeLine/\(a == sysModules)=false/\∃vs,KV kvs vs/\h.DictOf (bG P w) a vs
 |.dT kvs=>kvs.length<=sizeLine/\(a == sysModules)=false/\∃xs:List (List Key×Addr×Value),
   Paired (fun(p:List Key×V) (q:List Key×Addr×Value)=>p.1=q.1/\H q.2.1=some (.tup (p.1.map kV))/\bq p.2 q.2.2) kvs xs /\
   ∃o es ep,h.get? a=some o/\o.ExactDict/\o.data=.dict es ep/\es.toList=xs.map (entryOfKey (tupleKind (bG P w)))/\(xs.map (·.1)).Nodup
 |.set S n=>h.SetOf (intKind P w) a S n
 |.ins C dx fs=>H dx=some (.own a)/\fs.length<=1000/\dx≠a/\h.get? a=some (W.instObj C dx) /\
   ∃mA,h.Ns1 dx mA/\(∀f,EE (fs.lookup f) (mA f))/\PySem.Within mA (fs.map (·.1))
 |.own _=>∃o,h.get? a=some o
 |.xd fs=>∃mA,h.Ns1 a mA/\∀f,EE (fs.lookup f) (mA f)
 |.rng lo hi=>∃t u v,h.get? a=some { cls:=.type "range",data:=.fields #[.int lo t,.int hi u,.int 1 v] }
 |.frz o u=>h.get? a=some o/\cE H h a u
 |.tbl ps=>∃qs:Array Value,h.get? a=some { cls:=.none,data:=.fields qs }/\xG H a ps qs
 |.met f x=>h.get? a=some (W.methodObj (.ref f) (.ref x))
 |.ext φ=>φ h/\(∃o,h.get? a=some o)/\∀h1 h2:Heap,φ h1->(∀o,h1.get? a=some o->h2.get? a=some o)->φ h2
noncomputable def HOk(H:Hp)(h:Heap):Prop:=∀a o,H a=some o->cE P w H h a o
end
section
variable{P:Program}{w:World}{H H':Hp}{h h':Heap}{a:Addr}{o:HO}
theorem cE.lt(x:cE P w H h a o):a<h.objs.size:=by
 cases o with
 |lst xs=>obtain⟨_,_,_,_,e⟩:=x;exact Heap.lt_size e
 |tup xs=>obtain⟨_,_,_,p⟩:=x;exact p.lt
 |dK kvs=>obtain⟨_,_,_,_,o,_,_,e,_⟩:=x;exact Heap.lt_size e
 |dT kvs=>obtain⟨_,_,_,_,o,_,_,e,_⟩:=x;exact Heap.lt_size e
 |set S n=>obtain⟨o,_,_,_,e,_⟩:=x;exact Heap.lt_size e
 |ins C dx fs=>obtain⟨_,_,_,e,_⟩:=x;exact Heap.lt_size e
 |own y=>obtain⟨_,e⟩:=x;exact Heap.lt_size e
 |xd fs=>obtain⟨_,⟨_,_,_,e,_⟩,_⟩:=x;exact Heap.lt_size e
 |rng lo hi=>obtain⟨_,_,_,e⟩:=x;exact Heap.lt_size e
 |frz ob u=>obtain⟨e,_⟩:=x;exact Heap.lt_size e
 |tbl ps=>obtain⟨qs,e,_⟩:=x;exact Heap.lt_size e
 |met f y=>exact Heap.lt_size (show h.get? a=some _ from x)
 |ext φ=>obtain⟨_,⟨_,e⟩,_⟩:=x;exact Heap.lt_size e
theorem Paired.IT{α β:Type}{F G:α->β->Prop}:∀ {l₁:List α} {l₂:List β},Paired F l₁ l₂->(∀a b,F a b->G a b)->Paired G l₁ l₂
 |_,_,.nil,_=>.nil
 |_,_,.cons r t,f=>.cons (f _ _ r) (Paired.IT t f)
theorem cE.stay(x:cE P w H h a o)(k:∀b u,(b=a\/H b=some (.own a))->h.get? b=some u->h'.get? b=some u)(ho:∀b,H b=some (.own a)->H' b=some (.own a))(ht:∀b xs,H b=some (.tup xs)->H' b=some (.tup xs))(hf:∀b o u,H b=some (.frz o u)->H' b=some (.frz o u)):cE P w H' h' a o:=by
 induction o with
 |lst xs=>obtain⟨z,its,n,r,e⟩:=x;exact⟨z,its,n,r,k _ _ (.inl rfl) e⟩
 |tup xs=>obtain⟨z,its,r,⟨ob,e,c⟩,ob',e',c'⟩:=x;exact⟨z,its,r,⟨ob,k _ _ (.inl rfl) e,c⟩,ob',k _ _ (.inl rfl) e',c'⟩
 |dK kvs=>obtain⟨z,y,vs,r,ob,es,ep,e,c⟩:=x;exact⟨z,y,vs,r,ob,es,ep,k _ _ (.inl rfl) e,c⟩
 |dT kvs=>
  obtain⟨z,y,xs,r,ob,es,ep,e,c⟩:=x;exact⟨z,y,xs,Paired.IT r fun p q z=>⟨z.1,ht _ _ z.2.1,z.2.2⟩,ob,es,ep,k _ _ (.inl rfl) e,c⟩
 |set S n=>obtain⟨ob,es,ep,t,e,c⟩:=x;exact⟨ob,es,ep,t,k _ _ (.inl rfl) e,c⟩
 |ins C dx fs=>
  obtain⟨d,z,ne,e,mA,⟨od,es,ep,e2,c⟩,r⟩:=x;exact⟨ho _ d,z,ne,k _ _ (.inl rfl) e,mA,⟨od,es,ep,k _ _ (.inr d) e2,c⟩,r⟩
 |own y=>obtain⟨ob,e⟩:=x;exact⟨ob,k _ _ (.inl rfl) e⟩
 |xd fs=>obtain⟨mA,⟨od,es,ep,e,c⟩,r⟩:=x;exact⟨mA,⟨od,es,ep,k _ _ (.inl rfl) e,c⟩,r⟩
 |rng lo hi=>obtain⟨t,u,v,e⟩:=x;exact⟨t,u,v,k _ _ (.inl rfl) e⟩
 |frz ob u ih=>obtain⟨e,q⟩:=x;exact⟨k _ _ (.inl rfl) e,ih q⟩
 |tbl ps=>obtain⟨qs,e,z⟩:=x;exact⟨qs,k a _ (.inl rfl) e,z.mono hf⟩
 |met f y=>
  have e:h.get? a=some (W.methodObj (.ref f) (.ref y)):=x;show h'.get? a=some (W.methodObj (.ref f) (.ref y));exact k a _ (.inl rfl) e
 |ext φ=>obtain⟨p,⟨o,e⟩,st⟩:=x;exact⟨st _ _ p fun o q=>k _ _ (.inl rfl) q,⟨o,k _ _ (.inl rfl) e⟩,st⟩
theorem HOk.lt(x:HOk P w H h)(e:H a=some o):a<h.objs.size:=(x a o e).lt
theorem HOk.fresh(x:HOk P w H h)(e:h.objs.size<=a):H a=none:=by
 cases q:H a with
 |none=>rfl
 |some u=>exact absurd (Nat.lt_of_lt_of_le (x.lt q) e) (Nat.lt_irrefl _)
theorem HOk.kept(x:HOk P w H h)(k:∀b u,h.get? b=some u->h'.get? b=some u):HOk P w H h':=fun a o e=>
 (x a o e).stay (fun b u _ q=>k b u q) (fun _ q=>q) (fun _ _ q=>q) fun _ _ _ q=>q
theorem HOk.laid(x:HOk P w H h)(k:∀b u,h.get? b=some u->h'.get? b=some u)(hp:h.objs.size<=a)(new:cE P w (upd H a o) h' a o):HOk P w (upd H a o) h':=fun b u e=>by
 have hn:=x.fresh hp;by_cases hb:b=a
 ·subst hb;rw[b9] at e;cases e;exact new
 ·rw[aV hb] at e
  exact(x b u e).stay (fun c v _ q=>k c v q) (fun c q=>by rw[aV (bC q hn)];exact q) (fun c xs q=>by rw[aV (bC q hn)];exact q) fun c o' u' q=>by rw[aV (bC q hn)];exact q
end
noncomputable def Rd(H:Hp)(a:Addr)(u:HO):Prop:=H a=some u\/∃o,H a=some (.frz o u)
theorem Rd.ok{P:Program}{w:World}{H:Hp}{h:Heap}{a:Addr}{u:HO}(r:Rd H a u)(x:HOk P w H h):cE P w H h a u:=by
 rcases r with r|⟨o,r⟩
 ·exact x a u r
 ·obtain⟨_,q⟩:=x a _ r
  exact q
noncomputable def Mut:Option HO->Prop
 |some (.lst _)=>True
 |some (.dK _)=>True
 |some (.dT _)=>True
 |some (.set _ _)=>True
 |some (.ins _ _ _)=>True
 |some (.ext _)=>True
 |_=>False
section
variable{P:Program}{w:World}{H:Hp}{h h':Heap}{x e:Addr}{o':HO}
theorem HOk.write(ok:HOk P w H h)(mu:Mut (H x))(he:e=x\/H e=some (.own x))(k:∀b u,b≠e->h.get? b=some u->h'.get? b=some u)(heo:∃u,h'.get? e=some u)(new:cE P w (upd H x o') h' x o'):HOk P w (upd H x o') h':=fun b u q=>by
 have nown:∀c y,H c=some (.own y)->c≠x:=fun c y r z=>by subst z;rw[r] at mu;exact mu
 have ntup:∀c xs,H c=some (.tup xs)->c≠x:=fun c xs r z=>by subst z;rw[r] at mu;exact mu
 by_cases hb:b=x
 ·subst hb;rw[b9] at q;cases q;exact new
 ·rw[aV hb] at q
  by_cases hbe:b=e
  ·have q':H b=some (.own x):=by
    rcases he with z|z
    ·exact absurd (hbe.trans z) hb
    ·rw[hbe];exact z
   rw[q] at q';cases q';obtain⟨v,hv⟩:=heo;exact⟨v,by rw[hbe];exact hv⟩
  ·refine(ok b u q).stay (fun c v hc r=>k c v ?_ r) (fun c r=>by rw[aV (nown c b r)];exact r) (fun c xs r=>by rw[aV (ntup c xs r)];exact r) fun c o' u' r=>by rw[aV (fun z=>by subst z;rw[r] at mu;exact mu)];exact r
   rcases hc with rfl|hc
   ·exact hbe
   ·rintro rfl
    rcases he with z|z
    ·exact nown c b hc z
    ·rw[hc] at z;cases z;exact hb rfl
end
structure Un(fs ex:List Addr)(H H':Hp)(h h':Heap):Prop where
 keep:∀b o,h.get? b=some o->H b=none->b ∉ fs->b ∉ ex->h'.get? b=some o
 slot:∀b o,h.get? b=some o->H b=none->b∈fs->b ∉ ex->∃sl,h'.get? b=some { o with slots:=sl }
 free:∀b o,h.get? b=some o->H b=none->b ∉ ex->H' b=none
 there:∀b o,h.get? b=some o->b ∉ ex->∃o',h'.get? b=some o'
 tups:∀b xs,H b=some (.tup xs)->H' b=some (.tup xs)
 frzs:∀b o u,H b=some (.frz o u)->H' b=some (.frz o u)
 tbls:∀b ps,H b=some (.tbl ps)->∃more,H' b=some (.tbl (ps++more))
section
variable{fs fs' ex ex':List Addr}{H H1 H2:Hp}{h h1 h2 h':Heap}{a x e:Addr}{o:HO}
theorem Un.any(u:Un fs ex H H1 h h1){b:Addr}{ob:Obj}(q:h.get? b=some ob)(n:H b=none)(hx:b ∉ ex):∃sl,h1.get? b=some { ob with slots:=sl }:=by
 by_cases hb:b∈fs
 ·exact u.slot b ob q n hb hx
 ·exact⟨ob.slots,u.keep b ob q n hb hx⟩
theorem Un.kept(k:∀b u,h.get? b=some u->h'.get? b=some u):Un fs ex H H h h':=
 ⟨fun b ob q _ _ _=>k b ob q,fun b ob q _ _ _=>⟨ob.slots,k b ob q⟩,fun _ _ _ n _=>n,fun b ob q _=>⟨ob,k b ob q⟩,fun _ _ q=>q,fun _ _ _ q=>q,fun _ ps q=>⟨#[],by rw[q];simp⟩⟩
theorem Un.refl:Un fs ex H H h h:=Un.kept fun _ _ q=>q
theorem Un.laid(k:∀b u,h.get? b=some u->h'.get? b=some u)(hp:h.objs.size<=a)(hn:H a=none):Un fs ex H (upd H a o) h h' where
 keep:=fun b u q _ _ _=>k b u q
 slot:=fun b u q _ _ _=>⟨u.slots,k b u q⟩
 free:=fun b u q n _=>by rw[aV (Nat.ne_of_lt (Nat.lt_of_lt_of_le (Heap.lt_size q) hp))];exact n
 there:=fun b u q _=>⟨u,k b u q⟩
 tups:=fun b xs q=>by rw[aV (bC q hn)];exact q
 frzs:=fun b u xs q=>by rw[aV (bC q hn)];exact q
 tbls:=fun b ps q=>⟨#[],by rw[aV (bC q hn),q];simp⟩
theorem Un.write(mu:Mut (H x))(he:e=x\/H e=some (.own x))(k:∀b u,b≠e->h.get? b=some u->h'.get? b=some u)(heo:∃u,h'.get? e=some u):Un fs ex H (upd H x o) h h':=by
 have hx:∀b,H b=none->b≠x:=fun b n z=>by subst z;rw[n] at mu;exact mu
 have hb:∀b,H b=none->b≠e:=fun b n z=>by
  subst z;rcases he with r|r
  ·exact hx b n r
  ·rw[n] at r;cases r
 have hm:∀b u,H b=some u->¬ Mut (some u)->b≠x:=fun b u q nm z=>by subst z;rw[q] at mu;exact nm mu
 refine⟨fun b u q n _ _=>k b u (hb b n) q,fun b u q n _ _=>⟨u.slots,k b u (hb b n) q⟩,fun b u q n _=>by rw[aV (hx b n)];exact n,fun b u q _=>?_,
  fun b xs q=>by rw[aV (hm b _ q fun z=>z)];exact q,fun b u xs q=>by rw[aV (hm b _ q fun z=>z)];exact q,fun b ps q=>⟨#[],by rw[aV (hm b _ q fun z=>z),q];simp⟩⟩
 by_cases hbe:b=e
 ·subst hbe;exact heo
 ·exact⟨u,k b u hbe q⟩
end
noncomputable def trk(h:Heap)(H:Hp):List Addr:=(List.range h.objs.size).filter fun a=>(H a).isSome
noncomputable def qo(h:Heap)(H:Hp):Heap:=W.hideAll h (trk h H)
theorem yC(h:Heap)(H:Hp):(qo h H).objs.size=h.objs.size:=W.hideAll_size _ _
theorem zP{h:Heap}{H:Hp}{b:Addr}{o:Obj}(e:h.get? b=some o)(n:H b=none):(qo h H).get? b=some o:=
 W.hideAll_get _ e fun hm=>by
  have q:(H b).isSome=true:=(List.mem_filter.mp hm).2;rw[n] at q;simp at q
theorem BX{h:Heap}{H:Hp}{b:Addr}{o:Obj}(e:(qo h H).get? b=some o):h.get? b=some o/\H b=none:=by
 have e':h.get? b=some o:=W.of_hideAll (trk h H) e;refine⟨e',?_⟩
 cases q:H b with
 |none=>rfl
 |some x=>
  have hm:b∈trk h H:=List.mem_filter.mpr ⟨List.mem_range.mpr (Heap.lt_size e'),by simp[q]⟩
  have z:(qo h H).get? b=none:=W.hideAll_none (trk h H) hm;rw[z] at e;cases e
noncomputable def Ca(g h:Heap)(L:Addr):List (Addr×Obj):=(List.range h.objs.size).filterMap fun a=>if a=L\/(g.get? a).isSome=true then none else (h.get? a).map fun o=>(a,o)
noncomputable def cq(g h:Heap)(L d:Addr):List (Addr×Obj):=(Ca g h L).filter fun p=>decide (p.1≠d)
noncomputable def j9(K:W.Frag):List (Str×Addr×Addr):=match K.lookup mainGlobals with
 |some ⟨_,_,.dict es _,_⟩=>es.toList.filterMap fun e=>match e.key with
  |.str x _=>(W.tabIn K x).map fun q=>(x,q)
  |_=>none
 |_=>[]
noncomputable def yM(K:W.Frag)(H:Hp):Prop:=∀q∈j9 K,∃ps,H q.2.2=some (.tbl ps)/\ps[0]?=some (.str (q.1 ++ ".<locals>." ++ "<lambda>") 0)
theorem yM.mono{K:W.Frag}{H H':Hp}(x:yM K H)(k:∀b ps,H b=some (.tbl ps)->∃more,H' b=some (.tbl (ps++more))):yM K H':=fun q hq=>by
 obtain⟨ps,e,z⟩:=x q hq;obtain⟨more,e'⟩:=k _ _ e;refine⟨_,e',?_⟩
 have hz:0<ps.size:=by
  rcases Nat.eq_zero_or_pos ps.size with h|h
  ·rw[Array.getElem?_eq_none (by omega)] at z;cases z
  ·exact h
 rw[Array.getElem?_append_left hz];exact z
structure Mod(K:W.Frag)(mg:Str->Option Value)(base:Heap):Prop where
 kin:K.In base
 glob:base.Ns mainGlobals mg
 blt:∃mb,base.Ns builtinsNs mb/\∀x:Str,x≠"__name__"->mb x=bootBuiltins x
 nolimit:base.NoLimit
 bm:∃bm ob,mg "__builtins__"=some (.ref bm)/\bm≠builtinsNs/\base.get? bm=some ob/\ob.cls=.type "module"/\ob.dict=some builtinsNs/\ob.data=.plain
structure Cx where
 prog:Program
 w:World
 K:W.Frag
 mg:Str->Option Value
 base:Heap
 A:Around
 N:List Str
 s₀:Shared
 H₀:Hp
 env:Env
 outer:List Env
 stack:List Env
 ex:List Addr
 fn:Str->Bool
 calm:Bool
 pn:List (Addr×Obj)
 xe:Value->Shared->Prop
noncomputable def frs(l:List Env):List Addr:=l.filterMap (·.frame)
noncomputable abbrev Cx.fs(X:Cx):List Addr:=frs X.outer
noncomputable def Vis(sc:Scope)(x:Str):Prop:=sc.names.lookup x=some .local\/sc.names.lookup x=some .cell\/sc.names.lookup x=some .free
noncomputable def Loc(sc:Scope)(x:Str):Prop:=sc.names.lookup x=some .local\/sc.names.lookup x=some .cell
noncomputable def Ig(env:Env)(h:Heap)(m:Str->Option Value)(x:Str)(u:Value):Prop:=
 (env.kindOf x=some .local/\m x=some u)\/((env.kindOf x=some .cell\/env.kindOf x=some .free)/\∃c,env.cells.lookup x=some c/\h.IsCell c (some u))
structure Cx.Ok(X:Cx):Prop where
 mod:Mod X.K X.mg X.base
 kind:X.env.scope.kind=.function
 glob:X.env.globals=mainGlobals
 blt:X.env.builtins=builtinsNs
 above:X.s₀.heap.objs.size<=X.env.locals
 inj:∀x y c,X.env.cells.lookup x=some c->X.env.cells.lookup y=some c->x=y
 has:∀x,(X.env.kindOf x=some .cell\/X.env.kindOf x=some .free)->∃c,X.env.cells.lookup x=some c
 cab:∀x c,X.fn x=true->X.env.cells.lookup x=some c->X.s₀.heap.objs.size<=c
 hd:X.calm=true->X.A.handled=none
 frames:X.A.frames=some X.stack
 stk:X.stack=X.outer\/(X.stack=X.env::X.outer/\X.env.frame=some X.env.locals)
 exf:∀b∈X.ex,b≠X.env.locals/\∀x c,X.env.cells.lookup x=some c->c≠b
 bs:∀b o,X.base.get? b=some o->X.s₀.heap.get? b=some o/\X.H₀ b=none
 bsz:X.base.objs.size<=X.s₀.heap.objs.size
 noex:∀b o,X.base.get? b=some o->b ∉ X.ex
 exfs:∀b∈X.ex,b ∉ X.fs
 funs:X.s₀.heap.FunFrames X.base X.outer
 frf:∀b∈X.fs,X.H₀ b=none
 tt:yM X.K X.H₀
structure Inv(X:Cx)(pins:List (Addr×Obj))(σ:List (Option V))(H:Hp)(s:Shared):Prop where
 ok:X.Ok
 os:s.os=X.s₀.os
 bare:AllBare s.gens
 base:Un X.fs X.ex X.H₀ H X.s₀.heap s.heap
 loc:∃m,s.heap.Ns X.env.locals m/\∀(i:Nat)(x:Str)(v:V),X.N[i]?=some x->σ[i]?=some (some v)->Vis X.env.scope x->∃u,bq v u/\Ig X.env s.heap m x u
 cell:∀x c,X.env.cells.lookup x=some c->∃v,s.heap.IsCell c v
 free:H X.env.locals=none
 freeC:∀x c,X.env.cells.lookup x=some c->H c=none
 pin:∀p∈X.pn++pins,s.heap.get? p.1=some p.2/\H p.1=none/\p.1≠X.env.locals/\p.1 ∉ X.fs/\∀v,p.2.data≠.cell v
 hok:HOk X.prog X.w H s.heap
 len:σ.length=X.N.length
section
variable{X:Cx}{pins:List (Addr×Obj)}{σ:List (Option V)}{H H':Hp}{s:Shared}{h':Heap}
theorem Cx.Ok.nofr(ok:X.Ok){b:Addr}{o:Obj}(e:X.base.get? b=some o):b ∉ X.fs:=fun hb=>by
 have:=(ok.funs.mem hb).1;rw[e] at this;cases this
theorem Inv.bs(I:Inv X pins σ H s):∀b o,X.base.get? b=some o->s.heap.get? b=some o/\H b=none:=fun b o e=>
 ⟨I.base.keep b o (I.ok.bs b o e).1 (I.ok.bs b o e).2 (I.ok.nofr e) (I.ok.noex b o e),I.base.free b o (I.ok.bs b o e).1 (I.ok.bs b o e).2 (I.ok.noex b o e)⟩
theorem Inv.bk(I:Inv X pins σ H s):∀b o,X.base.get? b=some o->s.heap.get? b=some o:=fun b o e=>(I.bs b o e).1
theorem Inv.mod(I:Inv X pins σ H s):Mod X.K X.mg X.base:=I.ok.mod
theorem Inv.kIn(I:Inv X pins σ H s):X.K.In s.heap:=I.ok.mod.kin.keeps I.bk
theorem Inv.lt(I:Inv X pins σ H s):X.env.locals<s.heap.objs.size:=let ⟨_,hn,_⟩:=I.loc;hn.lt
theorem Inv.sz(I:Inv X pins σ H s):X.s₀.heap.objs.size<=s.heap.objs.size:=Nat.le_trans I.ok.above (Nat.le_of_lt I.lt)
theorem Inv.nofs(I:Inv X pins σ H s){a:Addr}(h:s.heap.objs.size<=a):a ∉ X.fs:=fun hb=>by
 obtain⟨_,o,ho,_⟩:=I.ok.funs.mem hb;exact absurd (Nat.lt_of_lt_of_le (Heap.lt_size ho) (Nat.le_trans I.sz h)) (Nat.lt_irrefl _)
theorem Inv.cne(I:Inv X pins σ H s):∀x c,X.env.cells.lookup x=some c->c≠X.env.locals:=fun x c e z=>by
 obtain⟨v,o,ho,hd⟩:=I.cell x c e;obtain⟨m,⟨o',es,ep,ho',hd',_⟩,_⟩:=I.loc;rw[z,ho'] at ho;cases ho;rw[hd'] at hd;cases hd
theorem Inv.funs(I:Inv X pins σ H s):s.heap.FunFrames X.base X.outer:=by
 have all:∀(l:List Env),(∀b∈frs l,b∈X.fs)->X.s₀.heap.FunFrames X.base l->s.heap.FunFrames X.base l:=by
  intro l
  induction l with
  |nil=>intro _ _;trivial
  |cons env r ih=>
   intro hs hl;obtain⟨hk,⟨L,o,hf,hn,ho,hd⟩,hr⟩:=hl;have hL:L∈X.fs:=hs L (by unfold frs;rw[List.filterMap_cons,hf];exact List.mem_cons_self)
   obtain⟨sl,e⟩:=I.base.slot L o ho (I.ok.frf L hL) hL fun z=>I.ok.exfs L z hL;exact⟨hk,⟨L,_,hf,hn,e,hd⟩,ih (fun b hb=>hs b (by unfold frs;rw[List.filterMap_cons,hf];exact List.mem_cons_of_mem _ hb)) hr⟩
 exact all X.outer (fun _ hb=>hb) I.ok.funs
theorem Inv.stack(I:Inv X pins σ H s):s.heap.FunFrames X.base X.stack:=by
 rcases I.ok.stk with e|⟨e,hf⟩
 ·rw[e];exact I.funs
 ·rw[e]
  obtain⟨m,hn,_⟩:=I.loc;refine .cons (by rw[I.ok.kind];decide) hf hn ?_ I.funs
  exact Heap.get?_none_of_le (Nat.le_trans I.ok.bsz I.ok.above)
theorem Inv.IH(I:Inv X pins σ H s):∀b∈frs X.stack,b∈X.env.locals::X.fs:=fun b hb=>by
 rcases I.ok.stk with e|⟨e,hf⟩
 ·rw[e] at hb;exact List.mem_cons_of_mem _ hb
 ·rw[e] at hb
  unfold frs at hb;rw[List.filterMap_cons,hf] at hb;exact hb
theorem Inv.IK(I:Inv X pins σ H s):∀b∈frs X.stack,H b=none:=fun b hb=>by
 rcases List.mem_cons.mp (I.IH b hb) with e|hb
 ·rw[e];exact I.free
 ·obtain⟨_,o,ho,_⟩:=I.ok.funs.mem hb
  exact I.base.free b o ho (I.ok.frf b hb) fun z=>I.ok.exfs b z hb
theorem Inv.step{g':Array GenState}{t':Nat}{d':Drawn}{ch:List Addr}(I:Inv X pins σ H s)(hch:∀b∈ch,(b∈X.ex\/X.s₀.heap.objs.size<=b)/\b≠X.env.locals/\(∀x c,X.env.cells.lookup x=some c->c≠b)/\∀p∈X.pn++pins,p.1≠b)(keep:∀b o,b≠X.env.locals->b ∉ X.fs->b ∉ ch->s.heap.get? b=some o->H b=none->h'.get? b=some o)(slot:∀b o,b≠X.env.locals->b∈X.fs->b ∉ ch->s.heap.get? b=some o->H b=none->∃sl,h'.get? b=some { o with slots:=sl })(free:∀b o,b ∉ ch->s.heap.get? b=some o->H b=none->H' b=none)(there:∀b o,b ∉ ch->s.heap.get? b=some o->∃o',h'.get? b=some o')(tups:∀b xs,H b=some (.tup xs)->H' b=some (.tup xs))(frzs:∀b o u,H b=some (.frz o u)->H' b=some (.frz o u))(tbls:∀b ps,H b=some (.tbl ps)->∃more,H' b=some (.tbl (ps++more)))(ns:∀m,s.heap.Ns X.env.locals m->h'.Ns X.env.locals m)(hok:HOk X.prog X.w H' h')(hg:AllBare g'):
  Inv X pins σ H' { s with heap:=h',gens:=g',drawn:=d',toks:=t' }:=by
 have neL:∀b o,X.s₀.heap.get? b=some o->b≠X.env.locals:=fun b o e=>Nat.ne_of_lt (Nat.lt_of_lt_of_le (Heap.lt_size e) I.ok.above)
 have neC:∀b o,X.s₀.heap.get? b=some o->b ∉ X.ex->b ∉ ch:=fun b o e hx hb=>by
  rcases(hch b hb).1 with z|z
  ·exact hx z
  ·exact absurd (Nat.lt_of_lt_of_le (Heap.lt_size e) z) (Nat.lt_irrefl _)
 have cellK:∀x c,X.env.cells.lookup x=some c->∀v,s.heap.IsCell c v->h'.IsCell c v:=fun x c e v ⟨o,ho,hd⟩=>by
  have nch:c ∉ ch:=fun z=>(hch c z).2.2.1 x c e rfl;by_cases hc:c∈X.fs
  ·obtain⟨sl,q⟩:=slot c o (I.cne x c e) hc nch ho (I.freeC x c e)
   exact⟨_,q,hd⟩
  ·exact⟨o,keep c o (I.cne x c e) hc nch ho (I.freeC x c e),hd⟩
 refine⟨I.ok,I.os,hg,⟨fun b o e n hb hx=>?_,fun b o e n hb hx=>?_,fun b o e n hx=>?_,fun b o e hx=>?_,fun b xs e=>tups b xs (I.base.tups b xs e),fun b o xs e=>frzs b o xs (I.base.frzs b o xs e),fun b ps e=>?_⟩,?_,fun x c e=>?_,?_,fun x c e=>?_,fun p hp=>?_,hok,I.len⟩
 ·exact keep b o (neL b o e) hb (neC b o e hx) (I.base.keep b o e n hb hx) (I.base.free b o e n hx)
 ·obtain⟨sl,e1⟩:=I.base.slot b o e n hb hx
  obtain⟨sl',e2⟩:=slot b _ (neL b o e) hb (neC b o e hx) e1 (I.base.free b o e n hx);exact⟨sl',e2⟩
 ·obtain⟨o',e1⟩:=I.base.there b o e hx
  exact free b o' (neC b o e hx) e1 (I.base.free b o e n hx)
 ·obtain⟨o',e1⟩:=I.base.there b o e hx
  exact there b o' (neC b o e hx) e1
 ·obtain⟨m1,e1⟩:=I.base.tbls b ps e
  obtain⟨m2,e2⟩:=tbls b _ e1;exact⟨m1++m2,by rw[e2,Array.append_assoc]⟩
 ·obtain⟨m,hn,hl⟩:=I.loc
  refine⟨m,ns m hn,fun i x v e1 e2 e3=>?_⟩;obtain⟨u,r,l⟩:=hl i x v e1 e2 e3;refine⟨u,r,?_⟩;rcases l with l|⟨k,c,e,z⟩
  ·exact .inl l
  ·exact .inr ⟨k,c,e,cellK x c e _ z⟩
 ·obtain⟨v,z⟩:=I.cell x c e
  exact⟨v,cellK x c e v z⟩
 ·obtain⟨m,⟨o,_,_,ho,_⟩,_⟩:=I.loc
  exact free _ o (fun z=>(hch _ z).2.1 rfl) ho I.free
 ·obtain⟨v,o,ho,hd⟩:=I.cell x c e
  exact free c o (fun z=>(hch c z).2.2.1 x c e rfl) ho (I.freeC x c e)
 ·obtain⟨e,n,ne,nf,d⟩:=I.pin p hp
  have nch:p.1 ∉ ch:=fun z=>(hch p.1 z).2.2.2 p hp rfl;exact⟨keep p.1 p.2 ne nf nch e n,free p.1 p.2 nch e n,ne,nf,d⟩
theorem Inv.un{t':Nat}(I:Inv X pins σ H s)(u:Un X.fs [] H H' s.heap h')(hok:HOk X.prog X.w H' h'):Inv X pins σ H' { s with heap:=h',toks:=t' }:=by
 obtain⟨m,⟨o,es,ep,ho,r⟩,_⟩:=id I.loc;obtain⟨sl,hL⟩:=u.any ho I.free (by simp)
 exact I.step (g':=s.gens) (d':=s.drawn) (ch:=[]) (fun _ z=>nomatch z) (fun b o _ hb _ e n=>u.keep b o e n hb (by simp)) (fun b o _ hb _ e n=>u.slot b o e n hb (by simp)) (fun b o _ e n=>u.free b o e n (by simp)) (fun b o _ e=>u.there b o e (by simp)) u.tups u.frzs u.tbls (fun m' hm=>by
  obtain⟨o',es',ep',ho',r'⟩:=hm;rw[ho] at ho';cases ho'
  exact⟨_,es',ep',hL,r'⟩) hok I.bare
theorem Inv.call{g':Array GenState}{t':Nat}{d':Drawn}{ch:List Addr}(I:Inv X pins σ H s)(u:Un (frs X.stack) ch H H' s.heap h')(hok:HOk X.prog X.w H' h')(hg:AllBare g')(hch:∀b∈ch,(b∈X.ex\/X.s₀.heap.objs.size<=b)/\b≠X.env.locals/\(∀x c,X.env.cells.lookup x=some c->c≠b)/\∀p∈X.pn++pins,p.1≠b):
  Inv X pins σ H' { s with heap:=h',gens:=g',drawn:=d',toks:=t' }:=by
 obtain⟨m,⟨o,es,ep,ho,r⟩,_⟩:=id I.loc;obtain⟨sl,hL⟩:=u.any ho I.free fun z=>(hch _ z).2.1 rfl
 exact I.step (ch:=ch) hch (fun b o hL hb hc e n=>u.keep b o e n (fun z=>(List.mem_cons.mp (I.IH b z)).elim hL hb) hc) (fun b o _ _ hc e n=>u.any e n hc) (fun b o hc e n=>u.free b o e n hc) (fun b o hc e=>u.there b o e hc) u.tups u.frzs u.tbls (fun m' hm=>by
  obtain⟨o',es',ep',ho',r'⟩:=hm;rw[ho] at ho';cases ho'
  exact⟨_,es',ep',hL,r'⟩) hok hg
theorem Inv.turned{t':Nat}{it:Addr}(I:Inv X pins σ H s)(k:∀b o,b≠it->s.heap.get? b=some o->h'.get? b=some o)(hn:H it=none)(hL:it≠X.env.locals)(h1:it∈X.ex\/X.s₀.heap.objs.size<=it)(h2:∀x c,X.env.cells.lookup x=some c->c≠it)(h3:∀p∈X.pn++pins,p.1≠it):Inv X pins σ H { s with heap:=h',toks:=t' }:=by
 have nit:∀b u,H b=some u->b≠it:=fun b u e z=>by rw[z,hn] at e;cases e
 refine I.step (g':=s.gens) (d':=s.drawn) (ch:=[it]) (fun b hb=>?_) (fun b o _ _ hc e _=>k b o (fun z=>hc (by simp[z])) e) (fun b o _ _ hc e _=>⟨o.slots,k b o (fun z=>hc (by simp[z])) e⟩) (fun _ _ _ _ n=>n)
  (fun b o hc e=>⟨o,k b o (fun z=>hc (by simp[z])) e⟩) (fun _ _ e=>e) (fun _ _ _ e=>e) (fun b ps e=>⟨#[],by rw[e];simp⟩) (fun m hm=>?_) (fun b u e=>?_) I.bare
 ·have e:b=it:=by simpa using hb
  subst e;exact⟨h1,hL,h2,h3⟩
 ·obtain⟨o,es,ep,ho,r⟩:=hm
  exact⟨o,es,ep,k _ o (Ne.symm hL) ho,r⟩
 ·refine(I.hok b u e).stay (fun c v hc q=>k c v ?_ q) (fun _ q=>q) (fun _ _ q=>q) fun _ _ _ q=>q
  rcases hc with z|z
  ·rw[z];exact nit b u e
  ·exact nit c _ z
theorem Inv.tok(I:Inv X pins σ H s)(t:Nat):Inv X pins σ H { s with toks:=t }:=I.un (h':=s.heap) (t':=t) Un.refl I.hok
theorem Inv.kept{t':Nat}(I:Inv X pins σ H s)(k:∀b u,s.heap.get? b=some u->h'.get? b=some u):Inv X pins σ H { s with heap:=h',toks:=t' }:=I.un (Un.kept k) (I.hok.kept k)
theorem Inv.laid{a:Addr}{o:HO}{t':Nat}(I:Inv X pins σ H s)(k:∀b u,s.heap.get? b=some u->h'.get? b=some u)(hp:s.heap.objs.size<=a)(new:cE X.prog X.w (upd H a o) h' a o):
  Inv X pins σ (upd H a o) { s with heap:=h',toks:=t' }:=I.un (Un.laid k hp (I.hok.fresh hp)) (I.hok.laid k hp new)
theorem Inv.write{x e:Addr}{o:HO}{t':Nat}(I:Inv X pins σ H s)(mu:Mut (H x))(he:e=x\/H e=some (.own x))(k:∀b u,b≠e->s.heap.get? b=some u->h'.get? b=some u)(heo:∃u,h'.get? e=some u)(new:cE X.prog X.w (upd H x o) h' x o):Inv X pins σ (upd H x o) { s with heap:=h',toks:=t' }:=I.un (Un.write mu he k heo) (I.hok.write mu he k heo new)
theorem Inv.IL{pins':List (Addr×Obj)}(I:Inv X pins σ H s)(h:∀p∈pins',s.heap.get? p.1=some p.2/\H p.1=none/\p.1≠X.env.locals/\p.1 ∉ X.fs/\∀v,p.2.data≠.cell v):Inv X pins' σ H s:=
 ⟨I.ok,I.os,I.bare,I.base,I.loc,I.cell,I.free,I.freeC,fun p hp=>(List.mem_append.mp hp).elim (fun z=>I.pin p (List.mem_append_left _ z)) (h p),I.hok,I.len⟩
theorem rq{N:List Str}(hN:N.Nodup){i j:Nat}{x:Str}(a:N[i]?=some x)(b:N[j]?=some x):i=j:=by
 obtain⟨h1,e1⟩:=List.getElem?_eq_some_iff.mp a;obtain⟨h2,e2⟩:=List.getElem?_eq_some_iff.mp b;exact(List.getElem_inj hN).mp (e1.trans e2.symm)
theorem xW{M:Model}{A:Around}{E:Value->Shared->Prop}{i:Nat}{x:Str}{v:V}{u:Value}{Q:Unit->Shared->Prop}(I:Inv X pins σ H s)(hN:X.N.Nodup)(hi:X.N[i]?=some x)(hx:Loc X.env.scope x)(r:bq v u)(h:∀s',Inv X pins (σ.set i (some v)) H s'->(∃a,Heap.SameBut a s.heap s'.heap/\(a=X.env.locals\/X.env.cells.lookup x=some a))->Q () s')(hf:X.fn x=true\/X.env.scope.names.lookup x=some .local:=by first|exact .inl rfl|exact .inr rfl|assumption):wpAny M A (storeName X.env x u) Q E s:=by
 obtain⟨m,hn,hl⟩:=id I.loc;have hcls:(X.env.scope.kind == .class || (X.env.scope.kind == .module && X.env.locals != X.env.globals))=false:=by rw[I.ok.kind];rfl
 have hiσ:i<σ.length:=by rw[I.len];exact(List.getElem?_eq_some_iff.mp hi).1
 have cne:=I.cne
 have tracked:∀ {a:Addr} {h':Heap},(∃o,s.heap.get? a=some o/\H a=none)->Heap.SameBut a s.heap h'->HOk X.prog X.w H h':=fun {a h'} ha hs b ob e=>by
  obtain⟨_,_,hfree⟩:=ha;refine(I.hok b ob e).stay (fun c w' hc q=>(hs.2 c ?_).trans q) (fun _ q=>q) (fun _ _ q=>q) fun _ _ _ q=>q;rintro rfl;rcases hc with rfl|hc
  ·rw[hfree] at e;cases e
  ·rw[hfree] at hc;cases hc
 rcases hx with hk|hk
 ·refine wpAny_storeName_local hk hn (fun h' hn' hs=>?_) hcls
  obtain⟨oL,_,_,hoL,_⟩:=id hn;refine h _ ⟨I.ok,I.os,I.bare,⟨fun b o e n hb hx=>?_,fun b o e n hb hx=>?_,I.base.free,fun b o e hx=>?_,I.base.tups,I.base.frzs,I.base.tbls⟩,⟨_,hn',fun j y v' e1 e2 e3=>?_⟩,fun y c e=>?_,I.free,I.freeC,fun p hp=>?_,tracked ⟨oL,hoL,I.free⟩ hs,by simpa using I.len⟩ ⟨_,hs,.inl rfl⟩
  ·exact(hs.2 b (Nat.ne_of_lt (Nat.lt_of_lt_of_le (Heap.lt_size e) I.ok.above))).trans (I.base.keep b o e n hb hx)
  ·obtain⟨sl,e1⟩:=I.base.slot b o e n hb hx
   exact⟨sl,(hs.2 b (Nat.ne_of_lt (Nat.lt_of_lt_of_le (Heap.lt_size e) I.ok.above))).trans e1⟩
  ·obtain⟨o',e1⟩:=I.base.there b o e hx
   exact⟨o',(hs.2 b (Nat.ne_of_lt (Nat.lt_of_lt_of_le (Heap.lt_size e) I.ok.above))).trans e1⟩
  ·by_cases hj:j=i
   ·subst hj
    rw[hi] at e1;cases e1;rw[List.getElem?_set_self hiσ] at e2;cases e2;exact⟨u,r,.inl ⟨hk,by simp⟩⟩
   ·rw[List.getElem?_set_ne (Ne.symm hj)] at e2
    obtain⟨u',r',q⟩:=hl j y v' e1 e2 e3;refine⟨u',r',?_⟩;rcases q with⟨k,e⟩|⟨k,c,e,z⟩
    ·refine .inl ⟨k,?_⟩
     have:y≠x:=fun e=>hj (rq hN e1 (e ▸ hi));simp[this,e]
    ·exact .inr ⟨k,c,e,z.sameBut hs (cne y c e)⟩
  ·obtain⟨w',z⟩:=I.cell y c e
   exact⟨w',z.sameBut hs (cne y c e)⟩
  ·obtain⟨e,n,ne,nf,d⟩:=I.pin p hp
   exact⟨(hs.2 p.1 ne).trans e,n,ne,nf,d⟩
 ·have hfn:X.fn x=true:=by
   rcases hf with z|z
   ·exact z
   ·rw[z] at hk;cases hk
  obtain⟨c,hc⟩:=I.ok.has x (.inl hk);obtain⟨w',z⟩:=I.cell x c hc;refine wpAny_storeName_cell I.ok.kind hk hc z (fun h' hc' hs=>?_);obtain⟨oc,hoc,hocd⟩:=id z;refine h { s with heap:=h' } ⟨I.ok,I.os,I.bare,⟨fun b o e n hb hx=>?_,fun b o e n hb hx=>?_,I.base.free,fun b o e hx=>?_,I.base.tups,I.base.frzs,I.base.tbls⟩,⟨m,hn.sameBut hs (Ne.symm (cne x c hc)),fun j y v' e1 e2 e3=>?_⟩,fun y c' e=>?_,I.free,I.freeC,fun p hp=>?_,tracked ⟨oc,hoc,I.freeC x c hc⟩ hs,by simpa using I.len⟩ ⟨c,hs,.inr hc⟩
  ·exact(hs.2 b (Nat.ne_of_lt (Nat.lt_of_lt_of_le (Heap.lt_size e) (I.ok.cab x c hfn hc)))).trans (I.base.keep b o e n hb hx)
  ·obtain⟨sl,e1⟩:=I.base.slot b o e n hb hx
   exact⟨sl,(hs.2 b (Nat.ne_of_lt (Nat.lt_of_lt_of_le (Heap.lt_size e) (I.ok.cab x c hfn hc)))).trans e1⟩
  ·obtain⟨o',e1⟩:=I.base.there b o e hx
   exact⟨o',(hs.2 b (Nat.ne_of_lt (Nat.lt_of_lt_of_le (Heap.lt_size e) (I.ok.cab x c hfn hc)))).trans e1⟩
  ·by_cases hj:j=i
   ·subst hj
    rw[hi] at e1;cases e1;rw[List.getElem?_set_self hiσ] at e2;cases e2;exact⟨u,r,.inr ⟨.inl hk,c,hc,hc'⟩⟩
   ·rw[List.getElem?_set_ne (Ne.symm hj)] at e2
    obtain⟨u',r',q⟩:=hl j y v' e1 e2 e3;refine⟨u',r',?_⟩;rcases q with q|⟨k,c',e,z'⟩
    ·exact .inl q
    ·refine .inr ⟨k,c',e,z'.sameBut hs ?_⟩
     rintro rfl;exact hj (rq hN e1 (I.ok.inj _ _ _ e hc ▸ hi))
  ·by_cases hcc:c'=c
   ·subst hcc;exact⟨_,hc'⟩
   ·obtain⟨w2,z2⟩:=I.cell y c' e
    exact⟨w2,z2.sameBut hs hcc⟩
  ·obtain⟨e,n,ne,nf,d⟩:=I.pin p hp
   refine⟨(hs.2 p.1 ?_).trans e,n,ne,nf,d⟩;intro q;rw[q,hoc] at e;have q':oc=p.2:=Option.some.inj e;exact d w' (by rw[←q'];exact hocd)
theorem oo{M:Model}{A:Around}{E:Value->Shared->Prop}{i:Nat}{x:Str}{v:V}{u:Value}{Q:Unit->Shared->Prop}(I:Inv X pins σ H s)(hN:X.N.Nodup)(hi:X.N[i]?=some x)(hx:Loc X.env.scope x)(r:bq v u)(h:∀s',Inv X pins (σ.set i (some v)) H s'->Q () s')(hf:X.fn x=true\/X.env.scope.names.lookup x=some .local:=by first|exact .inl rfl|exact .inr rfl|assumption):wpAny M A (storeName X.env x u) Q E s:=
 xW I hN hi hx r (fun s' I' _=>h s' I') hf
theorem Inv.call'{s':Shared}{ch:List Addr}(I:Inv X pins σ H s)(ho:s'.os=s.os)(u:Un (frs X.stack) ch H H' s.heap s'.heap)(hok:HOk X.prog X.w H' s'.heap)(hg:AllBare s'.gens)(hch:∀b∈ch,(b∈X.ex\/X.s₀.heap.objs.size<=b)/\b≠X.env.locals/\(∀x c,X.env.cells.lookup x=some c->c≠b)/\∀p∈X.pn++pins,p.1≠b):Inv X pins σ H' s':=by
 obtain⟨h',g',d',t',o'⟩:=s';have e:o'=s.os:=ho;subst e;exact I.call (g':=g') (t':=t') (d':=d') u hok hg hch
end
noncomputable abbrev XK:=Value->Option Addr->Hp->Prop
noncomputable abbrev St:=List (Option V)
noncomputable abbrev VK:=V->Hp->Prop
noncomputable abbrev TE:=St->Hp->VK->Prop
noncomputable abbrev TT:=St->Hp->(Bool->Hp->Prop)->Prop
noncomputable abbrev TA:=St->Hp->(List V->Hp->Prop)->Prop
structure jL where
 nx:St->Hp->Prop
 rt:VK
 bk:St->Hp->Prop:=fun _ _=>False
 ct:St->Hp->Prop:=fun _ _=>False
noncomputable abbrev TS:=jL->St->Hp->Prop
noncomputable def EP(X:Cx)(pins:List (Addr×Obj))(σ:St)(Q:VK)(u:Value)(s':Shared):Prop:=∃v H',Inv X pins σ H' s'/\bq v u/\Q v H'
noncomputable def TP(X:Cx)(pins:List (Addr×Obj))(σ:St)(Q:Bool->Hp->Prop)(b:Bool)(s':Shared):Prop:=∃H',Inv X pins σ H' s'/\Q b H'
noncomputable def AP(X:Cx)(pins:List (Addr×Obj))(σ:St)(Q:List V->Hp->Prop)(us:List Value)(s':Shared):Prop:=∃vs H',Inv X pins σ H' s'/\aT vs us/\Q vs H'
noncomputable def SP(X:Cx)(pins:List (Addr×Obj))(D:jL)(f:Flow)(s':Shared):Prop:=
 match f with
 |.next=>∃σ' H',Inv X pins σ' H' s'/\D.nx σ' H'
 |.brk=>∃σ' H',Inv X pins σ' H' s'/\D.bk σ' H'
 |.cont=>∃σ' H',Inv X pins σ' H' s'/\D.ct σ' H'
 |.ret u=>∃v σ' H',Inv X pins σ' H' s'/\bq v u/\D.rt v H'
noncomputable def PEd(X:Cx)(e:Expr)(t:TE):Prop:=
 ∀(pins:List (Addr×Obj)) (s:Shared) (σ:St) (H:Hp) (Q:VK),Inv X pins σ H s->t σ H Q->wpAny (model X.prog X.w) X.A (eval e X.env) (EP X pins σ Q) X.xe s
structure PE(X:Cx)(e:Expr)(t:TE):Prop where
 run:PEd X e t
noncomputable instance {X:Cx} {e:Expr} {t:TE}:CoeFun (PE X e t) (fun _=>PEd X e t):=⟨PE.run⟩
noncomputable instance {X:Cx} {e:Expr} {t:TE}:Coe (PE X e t) (PEd X e t):=⟨PE.run⟩
noncomputable def PT(X:Cx)(e:Expr)(t:TT):Prop:=
 ∀(pins:List (Addr×Obj)) (s:Shared) (σ:St) (H:Hp) (Q:Bool->Hp->Prop),Inv X pins σ H s->t σ H Q->wpAny (model X.prog X.w) X.A (isTrue e X.env (eval e X.env)) (TP X pins σ Q) X.xe s
noncomputable def PW(X:Cx)(e:Expr)(t:TT):Prop:=
 ∀(whole:Sem Value) (pins:List (Addr×Obj)) (s:Shared) (σ:St) (H:Hp) (Q:Bool->Hp->Prop),Inv X pins σ H s->t σ H Q->wpAny (model X.prog X.w) X.A (isTrue e X.env whole) (TP X pins σ Q) X.xe s
theorem PW.pt{X:Cx}{e:Expr}{t:TT}(h:PW X e t):PT X e t:=h _
noncomputable def PAd(X:Cx)(es:List Expr)(t:TA):Prop:=
 ∀(pos:Pos) (pins:List (Addr×Obj)) (s:Shared) (σ:St) (H:Hp) (Q:List V->Hp->Prop),Inv X pins σ H s->t σ H Q->wpAny (model X.prog X.w) X.A (spliced (backTo pos (starEach es X.env))) (AP X pins σ Q) X.xe s
structure PA(X:Cx)(es:List Expr)(t:TA):Prop where
 run:PAd X es t
noncomputable instance {X:Cx} {es:List Expr} {t:TA}:CoeFun (PA X es t) (fun _=>PAd X es t):=⟨PA.run⟩
noncomputable instance {X:Cx} {es:List Expr} {t:TA}:Coe (PA X es t) (PAd X es t):=⟨PA.run⟩
noncomputable def PSd(X:Cx)(st:Stmt)(t:TS):Prop:=
 ∀(pins:List (Addr×Obj)) (s:Shared) (σ:St) (H:Hp) (D:jL),Inv X pins σ H s->t D σ H->wpAny (model X.prog X.w) X.A (exec st X.env) (SP X pins D) X.xe s
structure PS(X:Cx)(st:Stmt)(t:TS):Prop where
 run:PSd X st t
noncomputable instance {X:Cx} {st:Stmt} {t:TS}:CoeFun (PS X st t) (fun _=>PSd X st t):=⟨PS.run⟩
noncomputable instance {X:Cx} {st:Stmt} {t:TS}:Coe (PS X st t) (PSd X st t):=⟨PS.run⟩
noncomputable def Fi(X:Cx)(st:List Stmt)(t:TS):Prop:=
 ∀(pins:List (Addr×Obj)) (s:Shared) (σ:St) (H:Hp) (D:jL),Inv X pins σ H s->t D σ H->wpAny (model X.prog X.w) X.A (execs st X.env) (SP X pins D) X.xe s
structure PSs(X:Cx)(st:List Stmt)(t:TS):Prop where
 run:Fi X st t
noncomputable instance {X:Cx} {st:List Stmt} {t:TS}:CoeFun (PSs X st t) (fun _=>Fi X st t):=⟨PSs.run⟩
noncomputable instance {X:Cx} {st:List Stmt} {t:TS}:Coe (PSs X st t) (Fi X st t):=⟨PSs.run⟩
theorem thn{α:Type}{t:Sem α}{Q Q':α->Shared->Prop}{M:Model}{A:Around}{E:Value->Shared->Prop}{s:Shared}(h:wpAny M A t Q E s)(hQ:∀a s,Q a s->Q' a s):wpAny M A t Q' E s:=wpAny_mono h hQ fun _ _ x=>x
section
variable{X:Cx}
noncomputable def FM(i:Nat):TE:=fun σ H Q=>∃v,σ[i]?=some (some v)/\Q v H
noncomputable def tC(v:V):TE:=fun _ H Q=>Q v H
theorem ze{i:Nat}{x:Str}{pos:Pos}(hN:X.N[i]?=some x)(hv:Vis X.env.scope x)(hd:(x == ("__debug__":Str))=false:=by decide)(hcd:(x == ("__classdict__":Str))=false:=by decide):PE X (.Name x pos) (FM i):=.mk <| by
 intro pins s σ H Q I h;obtain⟨v,e,h⟩:=h;obtain⟨m,hn,hl⟩:=I.loc;obtain⟨u,r,l⟩:=hl i x v hN e hv;have fin:EP X pins σ Q u s:=⟨v,H,I,r,h⟩;rcases l with⟨hk,hm⟩|⟨hk,c,hc,hcell⟩
 ·exact wpAny_Name (wpAny_loadName_local I.ok.kind hk hn hm fin) hd
 ·rcases hk with hk|hk
  ·exact wpAny_Name (wpAny_loadName_cell I.ok.kind hk hc hcell fin) hd
  ·exact wpAny_Name (wpAny_loadName_free I.ok.kind hk hc hcell fin hcd) hd
theorem aj{i j pos}:PE X (.Constant (.int i) j pos) (tC (.int i)):=.mk <| fun _ _ _ H _ I h=>wpAny_Constant_int ⟨.int i,H,I.tok _,⟨_,rfl⟩,h⟩
theorem kQ{b j pos}:PE X (.Constant (.bool b) j pos) (tC (.bl b)):=.mk <| fun _ _ _ H _ I h=>Constant_bool ⟨.bl b,H,I,rfl,h⟩
theorem aH{x j pos}:PE X (.Constant (.str x) j pos) (tC (.str x)):=.mk <| fun _ _ _ H _ I h=>Calls.Constant_str ⟨.str x,H,I.tok _,⟨_,rfl⟩,h⟩
noncomputable def Gl(X:Cx)(x:Str):Prop:=X.env.kindOf x=some .globalImplicit
theorem qm{E:Value->Shared->Prop}{pins:List (Addr×Obj)}{s:Shared}{σ:St}{H:Hp}{x:Str}{u:Value}{pos:Pos}{Q:Value->Shared->Prop}(I:Inv X pins σ H s)(hg:Gl X x)(hm:X.mg x=some u)(h:Q u s)(hd:(x == ("__debug__":Str))=false:=by decide):wpAny (model X.prog X.w) X.A (eval (.Name x pos) X.env) Q E s:=
 Calls.Name_function_global I.ok.kind hg (Calls.loadGlobal_global (by rw[I.ok.glob];exact I.mod.glob.keeps I.bk) hm h) hd
theorem m4{E:Value->Shared->Prop}{pins:List (Addr×Obj)}{s:Shared}{σ:St}{H:Hp}{x:Str}{u:Value}{pos:Pos}{Q:Value->Shared->Prop}(I:Inv X pins σ H s)(hg:Gl X x)(hm:X.mg x=none)(hv:bootBuiltins x=some u)(h:Q u s)(hn:x≠"__name__":=by decide)(hd:(x == ("__debug__":Str))=false:=by decide):wpAny (model X.prog X.w) X.A (eval (.Name x pos) X.env) Q E s:=by
 obtain⟨mb,h1,h2⟩:=I.mod.blt;exact Calls.Name_function_global I.ok.kind hg (Calls.loadGlobal_builtin (by rw[I.ok.glob];exact I.mod.glob.keeps I.bk) hm (by rw[I.ok.blt];exact h1.keeps I.bk) ((h2 x hn).trans hv) h) hd
theorem c8{x:Str}{v:V}{u:Value}{pos:Pos}(hg:Gl X x)(hm:X.mg x=some u)(r:bq v u)(hd:(x == ("__debug__":Str))=false:=by decide):PE X (.Name x pos) (tC v):=.mk <|
 fun _ _ _ H _ I h=>qm I hg hm ⟨v,H,I,r,h⟩ hd
theorem im{x:Str}{v:V}{u:Value}{pos:Pos}(hg:Gl X x)(hm:X.mg x=none)(hv:bootBuiltins x=some u)(r:bq v u)(hn:x≠"__name__":=by decide)(hd:(x == ("__debug__":Str))=false:=by decide):PE X (.Name x pos) (tC v):=.mk <|
 fun _ _ _ H _ I h=>m4 I hg hm hv ⟨v,H,I,r,h⟩ hn hd
variable{a b:Expr}{ta tb:TE}{pos:Pos}
variable{tA tB':TT}{cq:List Expr}
noncomputable def Gz(t u:TT):TT:=fun σ H Q=>t σ H fun c H1=>if c=true then u σ H1 Q else Q false H1
noncomputable def tOr(t u:TT):TT:=fun σ H Q=>t σ H fun c H1=>if c=true then Q true H1 else u σ H1 Q
noncomputable def HI(t:TT):TT:=fun σ H Q=>t σ H fun c H1=>Q (!c) H1
theorem iq(ha:PT X a tA):PW X (.BoolOp .And [a] pos) tA:=by
 intro wh pins s σ H Q I h;refine isTrue_and (thn (ha pins s σ H Q I h) fun c s1 e=>?_)
 cases c with
 |true=>exact isTrue_and_nil e
 |false=>exact e
theorem oB(ha:PT X a tA):PW X (.BoolOp .Or [a] pos) tA:=by
 intro wh pins s σ H Q I h;refine isTrue_or (thn (ha pins s σ H Q I h) fun c s1 e=>?_)
 cases c with
 |false=>exact isTrue_or_nil e
 |true=>exact e
theorem jY(ha:PT X a tA)(hb:PW X (.BoolOp .And (b::cq) pos) tB'):PW X (.BoolOp .And (a::b::cq) pos) (Gz tA tB'):=by
 intro wh pins s σ H Q I h;refine isTrue_and (thn (ha pins s σ H _ I h) fun c s1 ⟨H1,I1,q1⟩=>?_)
 cases c with
 |true=>exact hb wh pins s1 σ H1 Q I1 q1
 |false=>exact⟨H1,I1,q1⟩
theorem pe(ha:PT X a tA)(hb:PW X (.BoolOp .Or (b::cq) pos) tB'):PW X (.BoolOp .Or (a::b::cq) pos) (tOr tA tB'):=by
 intro wh pins s σ H Q I h;refine isTrue_or (thn (ha pins s σ H _ I h) fun c s1 ⟨H1,I1,q1⟩=>?_)
 cases c with
 |true=>exact⟨H1,I1,q1⟩
 |false=>exact hb wh pins s1 σ H1 Q I1 q1
theorem cU(ha:PT X a tA):PT X (.UnaryOp .Not a pos) (HI tA):=by
 intro pins s σ H Q I h;exact isTrue_not (ha pins s σ H (fun c H1=>Q (!c) H1) I h)
theorem qk{op}{t:TE}(h:PE X a t):PE X (.BoolOp op [a] pos) t:=.mk <| fun pins s σ H Q I hw=>BoolOp_one (h pins s σ H Q I hw)
end
noncomputable def SqL(K:W.Frag)(H:Hp)(a:Addr)(xs:List V):Prop:=
 Rd H a (.lst xs) \/
  ∃(o:Obj)(its:Array Value)(n:Nat),K.lookup a=some o/\o.cls=.type "list"/\o.dict=none/\o.data=.seq its n/\its.size<=sizeLine/\aT xs its.toList
noncomputable def SqT(K:W.Frag)(H:Hp)(a:Addr)(xs:List V):Prop:=
 Rd H a (.tup xs) \/
  ∃(o:Obj)(its:Array Value)(n:Nat),K.lookup a=some o/\o.cls=.type "tuple"/\o.data=.seq its n/\its.size<=sizeLine/\aT xs its.toList
noncomputable def HJ:Value->Option V
 |.none=>some .non
 |.bool b=>some (.bl b)
 |.int i _=>some (.int i)
 |.str x _=>some (.str x)
 |.bytes b _=>some (.byt b)
 |.float b _=>some (.flt b)
 |.ref a=>some (.ref a)
 |.type n=>some (.ty n)
 |_=>none
theorem bq.abs{x:V}{u:Value}(r:bq x u):HJ u=some x:=by
 cases x with
 |non=>cases r;rfl
 |bl _=>cases r;rfl
 |int _=>obtain⟨t,rfl⟩:=r;rfl
 |str _=>obtain⟨t,rfl⟩:=r;rfl
 |byt _=>obtain⟨t,rfl⟩:=r;rfl
 |flt _=>obtain⟨t,rfl⟩:=r;rfl
 |ref _=>cases r;rfl
 |ty _=>cases r;rfl
theorem bq.inj{x y:V}{u:Value}(r:bq x u)(q:bq y u):x=y:=Option.some.inj (r.abs.symm.trans q.abs)
theorem aT.inj:∀ {xs ys:List V} {us:List Value},aT xs us->aT ys us->xs=ys
 |_,_,_,.nil,.nil=>rfl
 |_,_,_,.cons r t,.cons r' t'=>by rw[r.inj r',aT.inj t t']
section
variable{X:Cx}{pins:List (Addr×Obj)}{σ:St}{H:Hp}{s:Shared}{a:Addr}{xs ys:List V}
theorem SqL.of{K:W.Frag}(h:H a=some (.lst xs)):SqL K H a xs:=.inl (.inl h)
theorem SqT.of{K:W.Frag}(h:H a=some (.tup xs)):SqT K H a xs:=.inl (.inl h)
theorem Inv.list(I:Inv X pins σ H s)(h:SqL X.K H a xs):∃its:List Value,aT xs its/\PlainL s.heap a its.toArray/\xs.length<=sizeLine:=by
 rcases h with h|⟨o,its,n,hk,hc,hd,hs,hz,r⟩
 ·obtain⟨z,its,n,r,e⟩:=h.ok I.hok
  exact⟨its,r,⟨_,n,e,rfl,rfl,rfl⟩,z⟩
 ·refine⟨its.toList,r,⟨o,n,I.kIn a o hk,hc,hd,by simpa using hs⟩,?_⟩
  have e:=r.length;simp only[Array.length_toList] at e;omega
theorem Inv.tuple(I:Inv X pins σ H s)(h:SqT X.K H a xs):∃its:List Value,aT xs its/\IsTup s.heap a its.toArray/\xs.length<=sizeLine:=by
 rcases h with h|⟨o,its,n,hk,hc,hs,hz,r⟩
 ·obtain⟨z,its,r,p⟩:=h.ok I.hok
  exact⟨its,r,p.1,z⟩
 ·refine⟨its.toList,r,⟨o,I.kIn a o hk,hc,n,by simpa using hs⟩,?_⟩
  have e:=r.length;simp only[Array.length_toList] at e;omega
theorem Inv.IO(I:Inv X pins σ H s)(h:SqL X.K H a xs)(h':SqL X.K H a ys):xs=ys:=by
 obtain⟨its,r,⟨o,n,e,_,_,d⟩,_⟩:=I.list h;obtain⟨its',r',⟨o',n',e',_,_,d'⟩,_⟩:=I.list h';rw[e] at e';cases e';rw[d] at d';injection d' with d1 _;have:its=its':=by simpa using congrArg Array.toList d1
 subst this;exact r.inj r'
theorem Inv.IM(I:Inv X pins σ H s)(h:SqT X.K H a xs)(h':SqT X.K H a ys):xs=ys:=by
 obtain⟨its,r,⟨o,e,_,n,d⟩,_⟩:=I.tuple h;obtain⟨its',r',⟨o',e',_,n',d'⟩,_⟩:=I.tuple h';rw[e] at e';cases e';rw[d] at d';injection d' with d1 _;have:its=its':=by simpa using congrArg Array.toList d1
 subst this;exact r.inj r'
end
noncomputable abbrev Cx.wish(X:Cx)(E:Value->Shared->Prop):Cx:={ X with xe:=E }
noncomputable abbrev Cx.nox(X:Cx):Cx:=X.wish fun _ _=>False
theorem Cx.Ok.wish{X:Cx}(ok:X.Ok)(E:Value->Shared->Prop):(X.wish E).Ok:=
 ⟨ok.mod,ok.kind,ok.glob,ok.blt,ok.above,ok.inj,ok.has,ok.cab,ok.hd,ok.frames,ok.stk,ok.exf,ok.bs,ok.bsz,ok.noex,ok.exfs,ok.funs,ok.frf,ok.tt⟩
theorem Cx.Ok.unwish{X:Cx}{E:Value->Shared->Prop}(ok:(X.wish E).Ok):X.Ok:=
 ⟨ok.mod,ok.kind,ok.glob,ok.blt,ok.above,ok.inj,ok.has,ok.cab,ok.hd,ok.frames,ok.stk,ok.exf,ok.bs,ok.bsz,ok.noex,ok.exfs,ok.funs,ok.frf,ok.tt⟩
section
variable{X:Cx}{pins:List (Addr×Obj)}{σ:St}{H:Hp}{s:Shared}{E:Value->Shared->Prop}
theorem Inv.wish(I:Inv X pins σ H s)(E:Value->Shared->Prop):Inv (X.wish E) pins σ H s:=⟨I.ok.wish E,I.os,I.bare,I.base,I.loc,I.cell,I.free,I.freeC,I.pin,I.hok,I.len⟩
theorem Inv.unwish(I:Inv (X.wish E) pins σ H s):Inv X pins σ H s:=⟨I.ok.unwish,I.os,I.bare,I.base,I.loc,I.cell,I.free,I.freeC,I.pin,I.hok,I.len⟩
theorem SP.unwish{D:jL}{f:Flow}{s':Shared}(h:SP (X.wish E) pins D f s'):SP X pins D f s':=by
 cases f with
 |next=>obtain⟨σ',H',I,q⟩:=h;exact⟨σ',H',I.unwish,q⟩
 |brk=>obtain⟨σ',H',I,q⟩:=h;exact⟨σ',H',I.unwish,q⟩
 |cont=>obtain⟨σ',H',I,q⟩:=h;exact⟨σ',H',I.unwish,q⟩
 |ret u=>obtain⟨v,σ',H',I,r,q⟩:=h;exact⟨v,σ',H',I.unwish,r,q⟩
theorem PSs.nox{st:List Stmt}{t:TS}(h:PSs X.nox st t):PSs X st t:=.mk <| fun pins s σ H D I hw=>
 wpAny_mono (h pins s σ H D (I.wish _) hw) (fun _ _ q=>q.unwish) fun _ _ z=>False.elim z
end
section
variable{X:Cx}{st:Stmt}{cq:List Stmt}{t u:TS}{e:Expr}{te:TE}{pos:Pos}
noncomputable def Dm:TS:=fun D σ H=>D.nx σ H
noncomputable def Hf(t u:TS):TS:=fun D σ H=>t { D with nx:=u D } σ H
theorem aX:PSs X [] Dm:=.mk <| fun _ _ σ H _ I h=>wpAny_execs_nil ⟨σ,H,I,h⟩
theorem ah(h1:PS X st t)(h2:PSs X cq u):PSs X (st::cq) (Hf t u):=.mk <| by
 intro pins s σ H D I h;refine wpAny_execs_cons (thn (h1 pins s σ H { D with nx:=u D } I h) fun f s1 q=>?_)
 cases f with
 |next=>
  obtain⟨σ',H',I',q⟩:=q;exact h2 pins s1 σ' H' D I' q
 |ret v=>exact q
 |brk=>exact q
 |cont=>exact q
theorem am(h1:PS X st t):PSs X [st] t:=.mk <| by
 intro pins s σ H D I h;refine wpAny_execs_cons (thn (h1 pins s σ H D I h) fun f s1 q=>?_)
 cases f with
 |next=>exact wpAny_execs_nil q
 |ret v=>exact q
 |brk=>exact q
 |cont=>exact q
theorem Inv.quiet{pins:List (Addr×Obj)}{σ:St}{H:Hp}{s:Shared}(I:Inv X pins σ H s):interactive X.env=false:=by simp[interactive,I.ok.kind]
noncomputable def D9(te:TE):TS:=fun D σ H=>te σ H fun _ H1=>D.nx σ H1
theorem cj(he:PE X e te)(hs:swapsWith e none pos.line X.env=pure false:=by rfl):PS X (.Expr e pos) (D9 te):=.mk <| by
 intro pins s σ H D I h;exact wpAny_Expr_any (thn (he pins s σ H _ I h) fun v s1 ⟨x,H1,I1,r1,q1⟩=>⟨σ,H1,I1,q1⟩) I.quiet hs
noncomputable def G8(te:TE):TS:=fun D σ H=>te σ H D.rt
theorem aR(he:PE X e te):PS X (.Return (some e) pos) (G8 te):=.mk <| by
 intro pins s σ H D I h;exact wpAny_Return_some (thn (he pins s σ H _ I h) fun v s1 ⟨x,H1,I1,r1,q1⟩=>⟨x,σ,H1,I1,r1,q1⟩)
noncomputable def GF(c:TT)(t u:TS):TS:=fun D σ H=>c σ H fun b H1=>if b=true then t D σ H1 else u D σ H1
theorem bn{c:Expr}{a b:List Stmt}{tc:TT}(hc:PT X c tc)(ha:PSs X a t)(hb:PSs X b u):PS X (.If c a b pos) (GF tc t u):=.mk <| by
 intro pins s σ H D I h;refine wpAny_If (thn (hc pins s σ H _ I h) fun d s1 ⟨H1,I1,q1⟩=>?_)
 cases d with
 |true=>exact ha pins s1 σ H1 D I1 q1
 |false=>exact hb pins s1 σ H1 D I1 q1
noncomputable def Ez:TS:=fun _ _ _=>False
theorem bQ:PS X st Ez:=.mk <| fun _ _ _ _ _ _ h=>h.elim
end
noncomputable abbrev TG:=V->St->Hp->(St->Hp->Prop)->Prop
noncomputable abbrev TGs:=List V->St->Hp->(St->Hp->Prop)->Prop
noncomputable def PG(X:Cx)(target:Expr)(t:TG):Prop:=
 ∀(pins:List (Addr×Obj)) (s:Shared) (σ:St) (H:Hp) (v:V) (u:Value) (Q:St->Hp->Prop),Inv X pins σ H s->bq v u->t v σ H Q ->
  wpAny (model X.prog X.w) X.A (assign target X.env u) (fun _ s'=>∃σ' H',Inv X pins σ' H' s'/\Q σ' H') X.xe s
noncomputable def PGs(X:Cx)(ts:List Expr)(t:TGs):Prop:=
 ∀(pins:List (Addr×Obj)) (s:Shared) (σ:St) (H:Hp) (vs:List V) (us:List Value) (Q:St->Hp->Prop),Inv X pins σ H s->aT vs us->t vs σ H Q ->
  wpAny (model X.prog X.w) X.A (assignInOrder ((assignEach ts X.env).map (·.2)) us) (fun _ s'=>∃σ' H',Inv X pins σ' H' s'/\Q σ' H') X.xe s
noncomputable abbrev EQ:=V->V->V->Hp->(Hp->Prop)->Prop
noncomputable def GP(X:Cx)(t:EQ):Prop:=
 ∀(pins:List (Addr×Obj)) (s:Shared) (σ:St) (H:Hp) (o i v:V) (ov iv u:Value) (Q:Hp->Prop),Inv X pins σ H s->bq o ov->bq i iv->bq v u->t o i v H Q ->
  wpAny (model X.prog X.w) X.A (setItem ov iv u) (fun _ s'=>∃H',Inv X pins σ H' s'/\Q H') X.xe s
noncomputable abbrev TIp:=V->V->Hp->VK->Prop
noncomputable def PIp(X:Cx)(op:Operator)(t:TIp):Prop:=
 ∀(pins:List (Addr×Obj)) (s:Shared) (σ:St) (H:Hp) (x y:V) (v u:Value) (Q:VK),Inv X pins σ H s->bq x v->bq y u->t x y H Q ->
  wpAny (model X.prog X.w) X.A (inplaceOp op v u) (EP X pins σ Q) X.xe s
section
variable{X:Cx}{pos:Pos}
noncomputable def zo(i:Nat):TG:=fun v σ H Q=>Q (σ.set i (some v)) H
theorem aW{i:Nat}{x:Str}(hN:X.N.Nodup)(hi:X.N[i]?=some x)(hx:Loc X.env.scope x)(hf:X.fn x=true\/X.env.scope.names.lookup x=some .local:=by first|exact .inl rfl|exact .inr rfl|assumption):PG X (.Name x pos) (zo i):=by
 intro pins s σ H v u Q I r h;exact wpAny_assign_Name (oo I hN hi hx r (fun s' I'=>⟨_,H,I',h⟩) hf)
noncomputable def Ho:TGs:=fun vs σ H Q=>vs=[]/\Q σ H
noncomputable def Dz(t:TG)(u:TGs):TGs:=fun vs σ H Q=>∃v r,vs=v::r/\t v σ H fun σ' H'=>u r σ' H' Q
theorem mx:PGs X [] Ho:=by
 intro pins s σ H vs us Q I r h;obtain⟨e,h⟩:=h;subst e;cases r;exact assignInOrder_nil ⟨σ,H,I,h⟩
theorem d5{e:Expr}{es:List Expr}{t:TG}{u:TGs}(h1:PG X e t)(h2:PGs X es u)(hs:(assignEach (e::es) X.env).map (·.2)=assign e X.env::(assignEach es X.env).map (·.2):=by rfl):PGs X (e::es) (Dz t u):=by
 intro pins s σ H vs us Q I r h;obtain⟨v,vr,e1,h⟩:=h;subst e1
 cases r with
 |cons r rr=>
  rw[hs];refine assignInOrder_cons (thn (h1 pins s σ H _ _ _ I r h) fun _ s1 ⟨σ1,H1,I1,q1⟩=>?_);exact h2 pins s1 σ1 H1 _ _ Q I1 rr q1
noncomputable def Eu(K:W.Frag)(n:Nat)(t:TGs):TG:=fun v σ H Q=>∃a xs,v=.ref a/\SqT K H a xs/\xs.length=n/\t xs σ H Q
theorem Fk{es:List Expr}{k:Nat}{t:TGs}{n:Nat}(hc:X.calm=true)(h:PGs X es t)(hn:(assignEach es X.env).length=n:=by rfl)(hst:(assignEach es X.env).findIdx? (·.1)=none:=by rfl):PG X (.Tuple es k pos) (Eu X.K n t):=by
 intro pins s σ H v u Q I r hw;obtain⟨a,xs,e1,hq,hl,hw⟩:=hw;subst e1;cases r;obtain⟨its,rv,ht,hz⟩:=I.tuple hq;refine assign_Tuple_tuple (I.ok.hd hc) ht (by simp[hn,←hl,rv.length]) hst fun h' hx=>?_
 have I1:Inv X pins σ H { s with heap:=h' }:=I.kept (t':=s.toks) fun b o e=>hx b o (Nat.ne_of_lt (Heap.lt_size e)) e;exact h pins _ σ H xs _ Q I1 (by simpa using rv) hw
noncomputable def GY(to ti:TE)(t:EQ):TG:=fun v σ H Q=>to σ H fun o H1=>ti σ H1 fun i H2=>t o i v H2 fun H3=>Q σ H3
theorem nY{o i:Expr}{to ti:TE}{t:EQ}(ho:PE X o to)(hi:PE X i ti)(hs:GP X t)
  (ha:∀v,assign (.Subscript o i pos) X.env v=(do
   let ov ← holding [v] (eval o X.env)
   let iv ← holding [v,ov] (eval i X.env)
   standAt pos
   holding [v,ov,iv] (setItem ov iv v)
   release [v,ov,iv] []):=by intro _;rfl):PG X (.Subscript o i pos) (GY to ti t):=by
 intro pins s σ H v u Q I r h;rw[ha];refine wpAny_bind (wpAny_holding (thn (ho pins s σ H _ I h) fun ov s1 ⟨x,H1,I1,r1,q1⟩=>?_));refine wpAny_bind (wpAny_holding (thn (hi pins s1 σ H1 _ I1 q1) fun iv s2 ⟨y,H2,I2,r2,q2⟩=>?_));refine wpAny_bind (wpAny_standAt (wpAny_bind (wpAny_holding (thn (hs pins s2 σ H2 x y v ov iv u _ I2 r1 r2 r q2) fun _ s3 ⟨H3,I3,q3⟩=>?_))));exact wpAny_release ⟨σ,H3,I3,q3⟩
noncomputable def FL(te:TE)(g:TG):TS:=fun D σ H=>te σ H fun x H1=>g x σ H1 D.nx
theorem hZ{tg e:Expr}{te:TE}{g:TG}(he:PE X e te)(hg:PG X tg g)(hs:swapsWithSole [tg] e pos.line X.env=pure false:=by rfl)(hw:swappedStores [tg] e X.env=pure none:=by rfl)(h1:(assignEach [tg] X.env).map (·.2)=[assign tg X.env]:=by rfl):PS X (.Assign [tg] e pos) (FL te g):=.mk <| by
 intro pins s σ H D I h;refine wpAny_Assign_stores (thn (he pins s σ H _ I h) fun v s1 ⟨x,H1,I1,r1,q1⟩=>?_) hs hw;rw[h1];exact thn (hg pins s1 σ H1 x v _ I1 r1 q1) fun _ s2 q=>q
theorem az{i:Nat}{x:Str}{e:Expr}{te:TE}{pos':Pos}(hN:X.N.Nodup)(hi:X.N[i]?=some x)(hx:Loc X.env.scope x)(he:PE X e te)(hs:swapsWith e (some (.Name x pos')) pos.line X.env=pure false:=by rfl)(hf:X.fn x=true\/X.env.scope.names.lookup x=some .local:=by first|exact .inl rfl|exact .inr rfl|assumption):
  PS X (.Assign [.Name x pos'] e pos) (FL te (zo i)):=.mk <| by
 intro pins s σ H D I h;refine wpAny_Assign_Name (thn (he pins s σ H _ I h) fun v s1 ⟨y,H1,I1,r1,q1⟩=>?_) hs;exact oo I1 hN hi hx r1 (fun s2 I2=>⟨_,H1,I2,q1⟩) hf
noncomputable def Gf(i:Nat)(te:TE)(ti:TIp):TS:=fun D σ H=>∃x,σ[i]?=some (some x)/\te σ H fun y H1=>ti x y H1 fun z H2=>D.nx (σ.set i (some z)) H2
theorem m9{i:Nat}{x:Str}{e:Expr}{te:TE}{op:Operator}{ti:TIp}{pos':Pos}(hN:X.N.Nodup)(hi:X.N[i]?=some x)(hx:Loc X.env.scope x)(he:PE X e te)(ho:PIp X op ti)(hf:X.fn x=true\/X.env.scope.names.lookup x=some .local:=by first|exact .inl rfl|exact .inr rfl|assumption):
  PS X (.AugAssign (.Name x pos') op e pos) (Gf i te ti):=.mk <| by
 intro pins s σ H D I h;obtain⟨v,e1,h⟩:=h;obtain⟨m,hn,hl⟩:=I.loc;have vis:Vis X.env.scope x:=by rcases hx with k|k;exact .inl k;exact .inr (.inl k)
 obtain⟨u,r,l⟩:=hl i x v hi e1 vis;refine wpAny_AugAssign_Name ?_
 have go:wpAny (model X.prog X.w) X.A (eval e X.env) (fun w s₂=>wpAny (model X.prog X.w) X.A (inplaceOp op u w) (fun r s₃=>wpAny (model X.prog X.w) X.A (storeName X.env x r) (fun _=>SP X pins D .next) X.xe s₃) X.xe s₂) X.xe s:=by
  refine thn (he pins s σ H _ I h) fun w s1 ⟨y,H1,I1,r1,q1⟩=>?_;refine thn (ho pins s1 σ H1 v y u w _ I1 r r1 q1) fun z s2 ⟨zv,H2,I2,r2,q2⟩=>?_;exact oo I2 hN hi hx r2 (fun s3 I3=>⟨_,H2,I3,q2⟩) hf
 rcases l with⟨hk,hm⟩|⟨hk,c,hc,hcell⟩
 ·exact wpAny_loadName_local I.ok.kind hk hn hm go
 ·rcases hk with hk|hk
  ·exact wpAny_loadName_cell I.ok.kind hk hc hcell go
  ·rcases hx with k|k
   ·have:X.env.scope.names.lookup x=some .free:=hk
    rw[k] at this;cases this
   ·have:X.env.scope.names.lookup x=some .free:=hk
    rw[k] at this;cases this
end
section
variable{X:Cx}{pos:Pos}
noncomputable def zt(c:TT)(tb:TS):TS:=fun D σ H=>∃W:Nat->St->Hp->Prop,(∃m,W m σ H)/\∀m σ H,W m σ H ->
 c σ H fun b H1=>if b=true then ∃N:St->Hp->Prop,(∀σ' H',N σ' H'->∃m',m'<m/\W m' σ' H')/\tb { D with nx:=N,ct:=N,bk:=D.nx } σ H1 else D.nx σ H1
theorem nU{c:Expr}{body:List Stmt}{tc:TT}{tb:TS}(hp:PassesOwn (model X.prog X.w) X.A X.env X.xe)(hc:PT X c tc)(hb:PSs X body tb):PS X (.While c body [] pos) (zt tc tb):=.mk <| by
 intro pins s σ H D I h;obtain⟨W,⟨m0,w0⟩,turn⟩:=h;refine wpAny_While (codeAny_whileLoop (fun n s'=>∃σ' H',Inv X pins σ' H' s'/\W n σ' H') ?_ m0 ⟨σ,H,I,w0⟩);rintro n s1 ⟨σ1,H1,I1,w1⟩;refine wpAny_passesOwn hp (thn (hc pins s1 σ1 H1 _ I1 (turn n σ1 H1 w1)) fun b s2 ⟨H2,I2,q2⟩=>?_)
 cases b with
 |true=>
  obtain⟨N,hN,q2⟩:=q2;rw[if_pos rfl];refine wpAny_passesOwn hp (thn (hb pins s2 σ1 H2 _ I2 q2) fun f s3 q3=>?_)
  cases f with
  |next=>
   obtain⟨σ3,H3,I3,n3⟩:=q3;obtain⟨m',hm,w3⟩:=hN σ3 H3 n3;exact⟨m',hm,σ3,H3,I3,w3⟩
  |cont=>
   obtain⟨σ3,H3,I3,n3⟩:=q3;obtain⟨m',hm,w3⟩:=hN σ3 H3 n3;exact⟨m',hm,σ3,H3,I3,w3⟩
  |brk=>exact q3
  |ret v=>exact q3
 |false=>
  rw[if_neg Bool.false_ne_true];exact wpAny_execs_nil ⟨σ1,H2,I2,q2⟩
end
structure It where
 go:Nat->Hp->Prop
 yld:Nat->Hp->V->Hp->Prop
 stop:Nat->Hp->Prop
noncomputable def lC(X:Cx)(pins:List (Addr×Obj))(H:Hp)(b:Addr):Prop:=
 H b=none/\b≠X.env.locals/\b ∉ X.fs/\(b∈X.ex\/X.s₀.heap.objs.size<=b)/\(∀x c,X.env.cells.lookup x=some c->c≠b)/\∀p∈X.pn++pins,p.1≠b
theorem Inv.IQ{X:Cx}{pins:List (Addr×Obj)}{σ:St}{H H':Hp}{s:Shared}{b:Addr}(I:Inv X pins σ H s)(hb:s.heap.objs.size<=b)(hn:H' b=none):lC X pins H' b:=by
 refine⟨hn,Nat.ne_of_gt (Nat.lt_of_lt_of_le I.lt hb),I.nofs hb,.inr (Nat.le_trans I.sz hb),fun x c e z=>?_,fun p hp z=>?_⟩
 ·obtain⟨v,q⟩:=I.cell x c e
  exact absurd (Nat.lt_of_lt_of_le q.lt (by rw[z];exact hb)) (Nat.lt_irrefl _)
 ·exact absurd (Nat.lt_of_lt_of_le (Heap.lt_size (I.pin p hp).1) (by rw[z];exact hb)) (Nat.lt_irrefl _)
structure yF(P:Program)(w:World)(K:W.Frag)(tg:Expr)(J:It)(fp:List Addr)(it:Addr)(tn:Nat->Heap->Prop):Prop where
 mem:it∈fp
 obj:∀i h,tn i h->∀b∈fp,∃o,h.get? b=some o/\∀v,o.data≠.cell v
 keep:∀i h h',tn i h->(∀b∈fp,∀o,h.get? b=some o->h'.get? b=some o)->tn i h'
 item:∀(X:Cx),X.prog=P->X.w=w->X.K=K->X.calm=true->∀(i:Nat) (pins:List (Addr×Obj)) (s:Shared) (σ:St) (H:Hp) (E:Value->Shared->Prop),Inv X pins σ H s->(∀b∈fp,lC X pins H b)->tn i s.heap->J.go i H ->
  wpAny (model P w) X.A (pyNext (.ref it)) (fun r s1=>∃u,r=some u /\
   wpAny (model P w) X.A (letOwnedTupleGo tg (.ref it) u) (fun _ s2=>∃x H',Inv X pins σ H' s2/\bq x u/\J.yld i H x H'/\tn (i+1) s2.heap/\∀b∈fp,H' b=none) E s1) E s
 done:∀(X:Cx),X.prog=P->X.w=w->X.K=K->X.calm=true->∀(i:Nat) (pins:List (Addr×Obj)) (s:Shared) (σ:St) (H:Hp) (E:Value->Shared->Prop),Inv X pins σ H s->(∀b∈fp,lC X pins H b)->tn i s.heap->J.stop i H ->
  wpAny (model P w) X.A (pyNext (.ref it)) (fun r s1=>r=none/\Inv X pins σ H s1) E s
 self:∀(A:Around)(i:Nat)(s:Shared)(Q:Value->Shared->Prop)(E:Value->Shared->Prop),tn i s.heap->Q (.ref it) s->wpAny (model P w) A (pyIter (.ref it)) Q E s
noncomputable abbrev TI:=St->Hp->(It->Hp->Prop)->Prop
noncomputable def PIE(X:Cx)(pins:List (Addr×Obj))(σ:St)(tg:Expr)(R:It->Hp->Prop)(itv:Value)(s2:Shared):Prop:=
 ∃(it:Addr)(fp:List Addr)(tn:Nat->Heap->Prop)(J:It)(H':Hp),itv=.ref it/\Inv X pins σ H' s2/\yF X.prog X.w X.K tg J fp it tn/\tn 0 s2.heap/\(∀b∈fp,lC X pins H' b)/\R J H'
noncomputable def PI(X:Cx)(tg iter:Expr)(wi:TI):Prop:=
 ∀(pins:List (Addr×Obj)) (s:Shared) (σ:St) (H:Hp) (R:It->Hp->Prop),Inv X pins σ H s->wi σ H R ->
  wpAny (model X.prog X.w) X.A (eval iter X.env) (fun v s1=>wpAny (model X.prog X.w) X.A (pyIter v) (PIE X pins σ tg R) X.xe s1) X.xe s
theorem vR{M:Model}{A:Around}{E:Value->Shared->Prop}{s:Shared}{tg:Expr}{it:Addr}{u:Value}{o:Obj}{n:String}{vs:Array Value}{Q:Unit->Shared->Prop}(ho:s.heap.get? it=some o)(hc:o.cls=.type n)(hd:o.data=.fields vs)(hn:["enumerate","zip","dict_itemiterator","dict_reverseitemiterator","odict_iterator","itertools.zip_longest","itertools.pairwise"].contains n=false)(hQ:Q () s):wpAny M A (letOwnedTupleGo tg (.ref it) u) Q E s:=by
  unfold letOwnedTupleGo
  cases tg<;>first
    |exact wpAny_pure hQ
    | (cases u<;>first
        |exact wpAny_pure hQ
        | (refine wpAny_bind (wpAny_load ho ?_)
           rw[hc,hd];show wpAny M A (if (["enumerate","zip","dict_itemiterator","dict_reverseitemiterator","odict_iterator","itertools.zip_longest","itertools.pairwise"].contains n && vs[0]? == some (rawInt _))=true then _ else _) Q E s
           rw[if_neg (by intro h;rw[hn,Bool.false_and] at h;cases h)]
           exact wpAny_pure hQ))
noncomputable def Itl(K:W.Frag)(a:Addr):It:=
 ⟨fun i H=>∃xs x,SqL K H a xs/\xs[i]?=some x,fun i H x H'=>H'=H/\∀xs,SqL K H a xs->xs[i]?=some x,fun i H=>∃xs,SqL K H a xs/\xs.length<=i⟩
noncomputable def Itt(K:W.Frag)(a:Addr):It:=
 ⟨fun i H=>∃xs x,SqT K H a xs/\xs[i]?=some x,fun i H x H'=>H'=H/\∀xs,SqT K H a xs->xs[i]?=some x,fun i H=>∃xs,SqT K H a xs/\xs.length<=i⟩
noncomputable def Itr(lo:Int)(n:Nat):It:=⟨fun i _=>i<n,fun i H x H'=>H'=H/\x=.int (lo+i),fun i _=>n<=i⟩
theorem yJ{P:Program}{w:World}{K:W.Frag}{tg:Expr}(a it:Addr):yF P w K tg (Itl K a) [it] it (fun i h=>h.IsListIter it a i) where
 mem:=by simp
 obj:=fun i h st b hb=>by
  have e:b=it:=by simpa using hb
  subst e;obtain⟨o,e,c,d⟩:=st;exact⟨o,e,fun v z=>by rw[d] at z;cases z⟩
 keep:=fun i h h' st k=>st.at fun o e=>k it (by simp) o e
 item:=by
  intro X hP hw hK hc i pins s σ H E I hf st hg;subst hP hw hK;obtain⟨xs,x,hq,hx⟩:=hg;obtain⟨its,rv,p,hz⟩:=I.list hq;obtain⟨u,hu,ru⟩:=rv.get hx;obtain⟨f0,f1,f2,f3,f4,f5⟩:=hf it (by simp)
  refine wpAny_pyNext_list_item st p.isList (x:=u) (by simpa using hu) fun h' st' sb=>?_
  have I1:Inv X pins σ H { s with heap:=h' }:=I.turned (t':=s.toks) (fun b o hb e=>(sb.2 b hb).trans e) f0 f1 f3 f4 f5;obtain⟨o,e,c,d⟩:=id st';exact⟨u,rfl,vR (s:={ s with heap:=h' }) e c d (by decide) ⟨x,H,I1,ru,⟨rfl,fun ys hy=>by rw[I.IO hy hq];exact hx⟩,st',fun b hb=>(hf b hb).1⟩⟩
 done:=by
  intro X hP hw hK hc i pins s σ H E I hf st hg;subst hP hw hK;obtain⟨xs,hq,hx⟩:=hg;obtain⟨its,rv,p,hz⟩:=I.list hq;obtain⟨f0,f1,f2,f3,f4,f5⟩:=hf it (by simp)
  have hl:=rv.length;exact wpAny_pyNext_list_end (I.ok.hd hc) st p.isList (by simp;omega) fun h' eb=>⟨rfl,I.turned (t':=s.toks) (fun b o hb e=>eb b o hb e) f0 f1 f3 f4 f5⟩
 self:=fun _ _ _ _ _ st h=>wpAny_pyIter_listiter st h
theorem vq{P:Program}{w:World}{K:W.Frag}{tg:Expr}(a it:Addr):yF P w K tg (Itt K a) [it] it (fun i h=>h.IsTupleIter it a i) where
 mem:=by simp
 obj:=fun i h st b hb=>by
  have e:b=it:=by simpa using hb
  subst e;obtain⟨o,e,c,d⟩:=st;exact⟨o,e,fun v z=>by rw[d] at z;cases z⟩
 keep:=fun i h h' st k=>st.at fun o e=>k it (by simp) o e
 item:=by
  intro X hP hw hK hc i pins s σ H E I hf st hg;subst hP hw hK;obtain⟨xs,x,hq,hx⟩:=hg;obtain⟨its,rv,p,hz⟩:=I.tuple hq;obtain⟨u,hu,ru⟩:=rv.get hx;obtain⟨f0,f1,f2,f3,f4,f5⟩:=hf it (by simp)
  refine wpAny_pyNext_tuple_item st (show s.heap.IsTuple a its.toArray from p) (x:=u) (by simpa using hu) fun h' st' sb=>?_
  have I1:Inv X pins σ H { s with heap:=h' }:=I.turned (t':=s.toks) (fun b o hb e=>(sb.2 b hb).trans e) f0 f1 f3 f4 f5;obtain⟨o,e,c,d⟩:=id st';exact⟨u,rfl,vR (s:={ s with heap:=h' }) e c d (by decide) ⟨x,H,I1,ru,⟨rfl,fun ys hy=>by rw[I.IM hy hq];exact hx⟩,st',fun b hb=>(hf b hb).1⟩⟩
 done:=by
  intro X hP hw hK hc i pins s σ H E I hf st hg;subst hP hw hK;obtain⟨xs,hq,hx⟩:=hg;obtain⟨its,rv,p,hz⟩:=I.tuple hq;obtain⟨f0,f1,f2,f3,f4,f5⟩:=hf it (by simp)
  have hl:=rv.length;exact wpAny_pyNext_tuple_end (I.ok.hd hc) st (show s.heap.IsTuple a its.toArray from p) (by simp;omega) fun h' eb=>⟨rfl,I.turned (t':=s.toks) (fun b o hb e=>eb b o hb e) f0 f1 f3 f4 f5⟩
 self:=fun _ _ _ _ _ st h=>wpAny_pyIter_tupleiter st h
theorem va{P:Program}{w:World}{K:PySem.W.Frag}{tg:Expr}(it:Addr)(lo:Int)(n:Nat):yF P w K tg (Itr lo n) [it] it (fun i h=>IsRangeIter h it (lo+(i:Nat)*1) ((n:Int)-(i:Nat)) 1) where
 mem:=by simp
 obj:=fun i h st b hb=>by
  have e:b=it:=by simpa using hb
  subst e
  exact⟨_,st,fun v z=>by
   have z':Data.fields _=Data.cell v:=z
   cases z'⟩
 keep:=fun i h h' st k=>k it (by simp) _ st
 item:=by
  intro X hP hw hK hc i pins s σ H E I hf st hg;subst hP hw hK;obtain⟨f0,f1,f2,f3,f4,f5⟩:=hf it (by simp)
  have W:=Walks.range (prog:=X.prog) (w:=X.w) (I.ok.hd hc) it lo 1 n;refine W.item i s _ _ hg st fun v h' tk hv st' kk=>?_;obtain⟨t,rfl⟩:=hv;have I1:Inv X pins σ H { s with heap:=h',toks:=tk }:=I.turned (fun b o hb e=>kk b o (by simpa using hb) e) f0 f1 f3 f4 f5
  refine⟨_,rfl,vR (s:={ s with heap:=h',toks:=tk }) (n:="range_iterator") st' rfl rfl (by decide) ⟨.int (lo+i),H,I1,⟨t,?_⟩,⟨rfl,rfl⟩,st',fun b hb=>(hf b hb).1⟩⟩
  rw[Int.mul_one]
 done:=by
  intro X hP hw hK hc i pins s σ H E I hf st hg;subst hP hw hK;obtain⟨f0,f1,f2,f3,f4,f5⟩:=hf it (by simp)
  exact wpAny_pyNext_range_end (I.ok.hd hc) st (by have:n<=i:=hg;omega) fun h' eb=>⟨rfl,I.turned (t':=s.toks) (fun b o hb e=>eb b o hb e) f0 f1 f3 f4 f5⟩
 self:=fun _ _ _ _ _ st h=>wpAny_pyIter_rangeiter st h
section
variable{X:Cx}{tg:Expr}
theorem si{pins:List (Addr×Obj)}{σ:St}{H:Hp}{s:Shared}{R:It->Hp->Prop}{E:Value->Shared->Prop}{lo hi:Int}{t u v:Tok}{tk:Nat}(I:Inv X pins σ H s)(h1:-(2^62)<=lo)(h2:lo<2^62)(h3:-(2^62)<=hi)(h4:hi<2^62)(q:R (Itr lo (hi-lo).toNat) H):wpAny (model X.prog X.w) X.A (pyIter (.ref s.heap.objs.size)) (PIE X pins σ tg R) E { s with heap:=s.heap.push { cls:=.type "range",data:=.fields #[.int lo t,.int hi u,.int 1 v] },toks:=tk }:=by
 refine wpAny_pyIter_range (IsRange.new ..) (small_one h1 h2 h3 h4) ?_;have I1:Inv X pins σ H { s with heap:=s.heap.push { cls:=.type "range",data:=.fields #[.int lo t,.int hi u,.int 1 v] },toks:=tk }:=I.kept fun b o e=>Heap.get?_push_of_some _ e
 refine⟨(s.heap.push { cls:=.type "range",data:=.fields #[.int lo t,.int hi u,.int 1 v] }).objs.size,[(s.heap.push { cls:=.type "range",data:=.fields #[.int lo t,.int hi u,.int 1 v] }).objs.size],_,_,H,rfl,
  I1.kept (t':=tk) fun b o e=>Heap.get?_push_of_some _ e,va _ lo (hi-lo).toNat,?_,fun b hb=>?_,q⟩
 ·have e1:lo+((0:Nat):Int)*1=lo:=by simp
  have e2:(((hi-lo).toNat:Nat):Int)-((0:Nat):Int)=Builtin.Range.rangeSize lo hi 1:=by rw[rangeSize_one];split<;>omega
  show IsRangeIter _ _ (lo+((0:Nat):Int)*1) ((((hi-lo).toNat:Nat):Int)-((0:Nat):Int)) 1;rw[e1,e2];exact Heap.get?_push_size _ rfl
 ·have e:b=(s.heap.push { cls:=.type "range",data:=.fields #[.int lo t,.int hi u,.int 1 v] }).objs.size:=by simpa using hb
  subst e;exact I1.IQ (Nat.le_refl _) (I1.hok.fresh (Nat.le_refl _))
noncomputable def DR(ta:TA):TI:=fun σ H R=>ta σ H fun vs H1=>∃j:Int,vs=[.int j]/\-(2^62)<=j/\j<2^62/\R (Itr 0 j.toNat) H1
noncomputable def Du(ta:TA):TI:=fun σ H R=>ta σ H fun vs H1=>∃i j:Int,vs=[.int i,.int j]/\(-(2^62)<=i/\i<2^62/\-(2^62)<=j/\j<2^62)/\R (Itr i (j-i).toNat) H1
theorem eN{a:Expr}{ta:TA}{p pos:Pos}(hg:Gl X "range")(hm:X.mg "range"=none)(ha:PA X [a] ta)(hs:starEach [a] X.env=[(false,eval a X.env)]:=by rfl):PI X tg (.Call (.Name "range" p) [a] [] pos) (DR ta):=by
 intro pins s σ H R I h;refine Call_ (m4 I hg hm boot_range (PyProof.Rows.callWith_type1 (thn (ha pos pins s σ H _ I h) fun us s1 ⟨vs,H1,I1,r1,q1⟩=>?_) hs rfl));obtain⟨j,e,q1,q2,q⟩:=q1;subst e
 cases r1 with
 |cons r rr=>
  cases rr;obtain⟨t,rfl⟩:=r;exact call_range_1 (si I1 (by omega) (by omega) q1 q2 (by simpa using q))
theorem x9{a b:Expr}{ta:TA}{p pos:Pos}(hg:Gl X "range")(hm:X.mg "range"=none)(ha:PA X [a,b] ta)(hs:starEach [a,b] X.env=[(false,eval a X.env),(false,eval b X.env)]:=by rfl)(hs2:starEach [b] X.env=[(false,eval b X.env)]:=by rfl):
  PI X tg (.Call (.Name "range" p) [a,b] [] pos) (Du ta):=by
 intro pins s σ H R I h;refine Call_ (m4 I hg hm boot_range (PyProof.Rows.callWith_type1 (thn (ha pos pins s σ H _ I h) fun us s1 ⟨vs,H1,I1,r1,q1⟩=>?_) (by rw[hs,hs2]) (by rw[hs2];rfl)))
 obtain⟨i,j,e,⟨q1,q2,q3,q4⟩,q⟩:=q1;subst e
 cases r1 with
 |cons r rr=>
  cases rr with
  |cons r' rr=>
   cases rr;obtain⟨t,rfl⟩:=r;obtain⟨t',rfl⟩:=r';exact call_range_2 (si I1 q1 q2 q3 q4 q)
noncomputable def Ep(wi:TI)(g:TG)(tb:TS):TS:=fun D σ H=>wi σ H fun J H1=>∃W:Nat->Nat->St->Hp->Prop,(∃m,W 0 m σ H1)/\∀i m σ H,W i m σ H ->
 (J.stop i H/\D.nx σ H)\/(J.go i H/\∃N:St->Hp->Prop,(∀σ' H',N σ' H'->∃m',m'<m/\W (i+1) m' σ' H')/\∀x H',J.yld i H x H'->g x σ H' fun σ2 H2=>tb { D with nx:=N,ct:=N,bk:=D.nx } σ2 H2)
noncomputable def mV(fp:List Addr)(h:Heap):List (Addr×Obj):=fp.filterMap fun b=>(h.get? b).map fun o=>(b,o)
theorem iy{fp:List Addr}{h:Heap}{b:Addr}{o:Obj}(hb:b∈fp)(e:h.get? b=some o):(b,o)∈mV fp h:=List.mem_filterMap.mpr ⟨b,hb,by rw[e];rfl⟩
theorem yt{fp:List Addr}{h:Heap}{p:Addr×Obj}(hp:p∈mV fp h):p.1∈fp/\h.get? p.1=some p.2:=by
 obtain⟨b,hb,e⟩:=List.mem_filterMap.mp hp
 cases q:h.get? b with
 |none=>rw[q] at e;cases e
 |some o=>
  rw[q] at e;have e':(b,o)=p:=Option.some.inj e;subst e';exact⟨hb,q⟩
theorem Inv.pinned{pins:List (Addr×Obj)}{σ:St}{H:Hp}{s:Shared}{fp:List Addr}(I:Inv X pins σ H s)(hf:∀b∈fp,lC X pins H b)(ho:∀b∈fp,∃o,s.heap.get? b=some o/\∀v,o.data≠.cell v):Inv X (pins++mV fp s.heap) σ H s:=
 I.IL fun p hp=>(List.mem_append.mp hp).elim (fun z=>I.pin p (List.mem_append_right _ z)) fun z=>by
  obtain⟨hb,e⟩:=yt z;obtain⟨f0,f1,f2,_⟩:=hf p.1 hb;obtain⟨o,e',d⟩:=ho p.1 hb;rw[e] at e';cases e';exact⟨e,f0,f1,f2,d⟩
theorem Inv.unpinned{pins pl:List (Addr×Obj)}{σ:St}{H:Hp}{s:Shared}(I:Inv X (pins++pl) σ H s):Inv X pins σ H s:=I.IL fun p hp=>I.pin p (List.mem_append_right _ (List.mem_append_left _ hp))
theorem gv{iter:Expr}{body:List Stmt}{wi:TI}{g:TG}{tb:TS}{pos:Pos}(hp:PassesOwn (model X.prog X.w) X.A X.env X.xe)(hc:X.calm=true)(hi:PI X tg iter wi)(hg:PG X tg g)(hb:PSs X body tb)(hs:∀x,foldedSetIterable iter X.env x=pure x:=by intro _;rfl):PS X (.For tg iter body [] pos) (Ep wi g tb):=.mk <| by
 intro pins s σ H D I h;refine wpAny_For (thn (hi pins s σ H _ I h) fun v s1 h1=>thn h1 fun itv s2 h2=>?_) hs;obtain⟨it,fp,tn,J,H2,e,I2,T,st2,f2,W,⟨m0,w0⟩,turn⟩:=h2;subst e;have stat:∀ {H':Hp},(∀b∈fp,H' b=none)->∀b∈fp,lC X pins H' b:=fun hn b hb=>⟨hn b hb,(f2 b hb).2⟩;refine codeAny_forLoop_any (fun n s'=>∃i σ' H',Inv X pins σ' H' s'/\tn i s'.heap/\(∀b∈fp,H' b=none)/\W i n σ' H') ?_ m0 ⟨0,σ,H2,I2,st2,fun b hb=>(f2 b hb).1,w0⟩
 rintro n s3 ⟨i,σ3,H3,I3,st3,fr3,w3⟩;rcases turn i n σ3 H3 w3 with⟨stop,qn⟩|⟨go,N,hN,step⟩
 ·refine wpAny_passesOwn hp (thn (T.done X rfl rfl rfl hc i pins s3 σ3 H3 X.xe I3 (stat fr3) st3 stop) fun r s4 ⟨hr,I4⟩=>?_)
  subst hr;exact wpAny_execs_nil ⟨σ3,H3,I4,qn⟩
 ·refine wpAny_passesOwn hp (thn (T.item X rfl rfl rfl hc i pins s3 σ3 H3 X.xe I3 (stat fr3) st3 go) fun r s4 ⟨u,hr,h4⟩=>?_)
  subst hr;refine wpAny_passesOwn hp (thn h4 fun _ s5 ⟨x,H5,I5,r5,y5,st5,fr5⟩=>?_);have I5':=I5.pinned (stat fr5) (T.obj _ _ st5);refine wpAny_passesOwn hp (thn (hg _ s5 σ3 H5 x u _ I5' r5 (step x H5 y5)) fun _ s6 ⟨σ6,H6,I6,q6⟩=>?_);refine wpAny_passesOwn hp (thn (hb _ s6 σ6 H6 _ I6 q6) fun f s7 q7=>?_)
  have again:∀ {σ7:St} {H7:Hp},Inv X (pins++mV fp s5.heap) σ7 H7 s7->N σ7 H7->∃m,m<n/\∃i σ' H',Inv X pins σ' H' s7/\tn i s7.heap/\(∀b∈fp,H' b=none)/\W i m σ' H':=fun {σ7 H7} I7 n7=>by
   obtain⟨m',hm,w7⟩:=hN σ7 H7 n7;refine⟨m',hm,i+1,σ7,H7,I7.unpinned,T.keep _ _ _ st5 fun b hb o e=>(I7.pin (b,o) (List.mem_append_right _ (List.mem_append_right _ (iy hb e)))).1,fun b hb=>?_,w7⟩;obtain⟨o,e,d⟩:=T.obj _ _ st5 b hb;exact(I7.pin (b,o) (List.mem_append_right _ (List.mem_append_right _ (iy hb e)))).2.1
  cases f with
  |next=>obtain⟨σ7,H7,I7,n7⟩:=q7;exact again I7 n7
  |cont=>obtain⟨σ7,H7,I7,n7⟩:=q7;exact again I7 n7
  |brk=>obtain⟨σ7,H7,I7,q7⟩:=q7;exact⟨σ7,H7,I7.unpinned,q7⟩
  |ret v=>obtain⟨x7,σ7,H7,I7,r7,q7⟩:=q7;exact⟨x7,σ7,H7,I7.unpinned,r7,q7⟩
end
noncomputable abbrev R2:=V->V->Hp->VK->Prop
noncomputable def OpR(X:Cx)(f:Value->Value->Sem Value)(r:R2):Prop:=
 ∀(pins:List (Addr×Obj)) (s:Shared) (σ:St) (H:Hp) (x y:V) (v u:Value) (Q:VK),Inv X pins σ H s->bq x v->bq y u->r x y H Q ->
  wpAny (model X.prog X.w) X.A (f v u) (EP X pins σ Q) X.xe s
noncomputable def UnR(X:Cx)(f:Value->Sem Value)(r:V->Hp->VK->Prop):Prop:=
 ∀(pins:List (Addr×Obj)) (s:Shared) (σ:St) (H:Hp) (x:V) (v:Value) (Q:VK),Inv X pins σ H s->bq x v->r x H Q ->
  wpAny (model X.prog X.w) X.A (f v) (EP X pins σ Q) X.xe s
noncomputable def c6(X:Cx)(f:Value)(r:List V->Hp->VK->Prop):Prop:=
 ∀(pins:List (Addr×Obj)) (s:Shared) (σ:St) (H:Hp) (xs:List V) (us:List Value) (Q:VK),Inv X pins σ H s->aT xs us->r xs H Q ->
  wpAny (model X.prog X.w) X.A (call f us) (EP X pins σ Q) X.xe s
noncomputable def HX(X:Cx)(r:V->Hp->(Bool->Hp->Prop)->Prop):Prop:=
 ∀(pins:List (Addr×Obj)) (s:Shared) (σ:St) (H:Hp) (x:V) (v:Value) (Q:Bool->Hp->Prop),Inv X pins σ H s->bq x v->r x H Q ->
  wpAny (model X.prog X.w) X.A (truthy v) (TP X pins σ Q) X.xe s
noncomputable def tOp(r:R2)(ta tb:TE):TE:=fun σ H Q=>ta σ H fun x H1=>tb σ H1 fun y H2=>r x y H2 Q
noncomputable def tUn(r:V->Hp->VK->Prop)(ta:TE):TE:=fun σ H Q=>ta σ H fun x H1=>r x H1 Q
noncomputable def rI(C:Int->Int->Prop)(g:Int->Int->V):R2:=fun x y H Q=>∃i j,x=.int i/\y=.int j/\C i j/\Q (g i j) H
noncomputable def rI0(g:Int->Int->V):R2:=fun x y H Q=>∃i j,x=.int i/\y=.int j/\Q (g i j) H
noncomputable def rU(g:Int->V):V->Hp->VK->Prop:=fun x H Q=>∃i,x=.int i/\Q (g i) H
section
variable{X:Cx}{a b c:Expr}{ta tb tc:TE}{pos:Pos}
theorem FH(ha:PE X a ta)(hb:PE X b tb){pins:List (Addr×Obj)}{s:Shared}{σ:St}{H:Hp}{R:V->V->Hp->Prop}(I:Inv X pins σ H s)(h:ta σ H fun x H1=>tb σ H1 fun y H2=>R x y H2){Q:Value->Shared->Prop}{f:Value->Value->Sem Value}(hf:∀v u s2 x y H2,Inv X pins σ H2 s2->bq x v->bq y u->R x y H2->wpAny (model X.prog X.w) X.A (f v u) Q X.xe s2):
  wpAny (model X.prog X.w) X.A (eval a X.env) (fun v s₁=>wpAny (model X.prog X.w) X.A (eval b X.env) (fun u s₂=>wpAny (model X.prog X.w) X.A (f v u) Q X.xe s₂) X.xe s₁) X.xe s:=by
 refine thn (ha pins s σ H _ I h) fun v s1 ⟨x,H1,I1,r1,q1⟩=>?_;refine thn (hb pins s1 σ H1 _ I1 q1) fun u s2 ⟨y,H2,I2,r2,q2⟩=>?_;exact hf v u s2 x y H2 I2 r1 r2 q2
theorem aE{op:Operator}{r:R2}(ho:OpR X (binaryOp op) r)(ha:PE X a ta)(hb:PE X b tb):PE X (.BinOp a op b pos) (tOp r ta tb):=.mk <| by
 intro pins s σ H Q I h;exact wpAny_BinOp (FH ha hb I h fun v u s2 x y H2 I2 rx ry q=>ho pins s2 σ H2 x y v u Q I2 rx ry q)
theorem Dy{op:UnaryOp}{r:V->Hp->VK->Prop}(ho:UnR X (unaryOp op) r)(ha:PE X a ta):PE X (.UnaryOp op a pos) (tUn r ta):=.mk <| by
 intro pins s σ H Q I h;exact UnaryOp_ (thn (ha pins s σ H _ I h) fun v s1 ⟨x,H1,I1,r1,q1⟩=>ho pins s1 σ H1 x v Q I1 r1 q1)
theorem opI{f:Value->Value->Sem Value}{C:Int->Int->Prop}{g:Int->Int->Int}(rule:∀(i j:Int)(t u:Tok)(s:Shared)(Q:Value->Shared->Prop)(E:Value->Shared->Prop),C i j->Q (.int (g i j) s.toks) { s with toks:=s.toks+1 }->wpAny (model X.prog X.w) X.A (f (.int i t) (.int j u)) Q E s):
  OpR X f (rI C fun i j=>.int (g i j)):=by
 intro pins s σ H x y v u Q I rx ry h;obtain⟨i,j,rfl,rfl,hc,q⟩:=h;obtain⟨t,rfl⟩:=rx;obtain⟨t',rfl⟩:=ry;exact rule i j t t' s _ _ hc ⟨.int (g i j),H,I.tok _,⟨_,rfl⟩,q⟩
theorem FW{f:Value->Value->Sem Value}{g:Int->Int->Int}(rule:∀(i j:Int)(t u:Tok)(s:Shared)(Q:Value->Shared->Prop)(E:Value->Shared->Prop),Q (.int (g i j) s.toks) { s with toks:=s.toks+1 }->wpAny (model X.prog X.w) X.A (f (.int i t) (.int j u)) Q E s):
  OpR X f (rI0 fun i j=>.int (g i j)):=by
 intro pins s σ H x y v u Q I rx ry h;obtain⟨i,j,rfl,rfl,q⟩:=h;obtain⟨t,rfl⟩:=rx;obtain⟨t',rfl⟩:=ry;exact rule i j t t' s _ _ ⟨.int (g i j),H,I.tok _,⟨_,rfl⟩,q⟩
theorem Ce{f:Value->Value->Sem Value}{g:Int->Int->Bool}(rule:∀(i j:Int)(t u:Tok)(s:Shared)(Q:Value->Shared->Prop)(E:Value->Shared->Prop),Q (.bool (g i j)) s->wpAny (model X.prog X.w) X.A (f (.int i t) (.int j u)) Q E s):
  OpR X f (rI0 fun i j=>.bl (g i j)):=by
 intro pins s σ H x y v u Q I rx ry h;obtain⟨i,j,rfl,rfl,q⟩:=h;obtain⟨t,rfl⟩:=rx;obtain⟨t',rfl⟩:=ry;exact rule i j t t' s _ _ ⟨.bl (g i j),H,I,rfl,q⟩
noncomputable def Im(i j:Int):Prop:=0<j/\j<1073741824
noncomputable def HK(i j:Int):Prop:=0<=j/\j<=1000000/\i.natAbs<2^64
noncomputable def o6(i j:Int):Prop:=(-(2^64)<i/\i<2^64)\/(-(2^64)<j/\j<2^64)
theorem o6.ok{i j:Int}(h:o6 i j):IntMulOk i j:=by
 rcases h with⟨h1,h2⟩|⟨h1,h2⟩
 ·exact .of_left (intBits_le_64 h1 h2)
 ·exact .of_right (intBits_le_64 h1 h2)
theorem bv:OpR X (binaryOp .Add) (rI0 fun i j=>.int (i+j)):=FW fun _ _ _ _ _ _ _ q=>add_int q
theorem dH:OpR X (binaryOp .Sub) (rI0 fun i j=>.int (i-j)):=FW fun _ _ _ _ _ _ _ q=>sub_int q
theorem ke:OpR X (binaryOp .Mult) (rI o6 fun i j=>.int (i*j)):=opI fun _ _ _ _ _ _ _ hc q=>mul_int q hc.ok
theorem kC:OpR X (binaryOp .FloorDiv) (rI Im fun i j=>.int (i / j)):=opI fun i j _ _ _ _ _ hc q=>by
 have h1:(0:Int)<j:=hc.1;have h2:j<1073741824:=hc.2;exact floordiv_int (by omega) (by rw[Int.fdiv_eq_ediv_of_nonneg i (by omega)];exact q) (.inl (PyProof.noPylong_small (by omega)))
theorem gy:OpR X (binaryOp .Mod) (rI (fun _ j=>0<j) fun i j=>.int (i%j)):=opI fun i j _ _ _ _ _ hc q=>by
 have h1:(0:Int)<j:=hc;exact mod_int' (by omega) (by rw[Int.fmod_eq_emod_of_nonneg i (by omega)];exact q)
theorem FJ:OpR X (binaryOp .Pow) (rI HK fun i j=>.int (i^j.toNat)):=opI fun _ _ _ _ _ _ _ hc q=>pow_int_small hc.1 hc.2.1 hc.2.2 q
theorem kB:OpR X (inplaceOp .Add) (rI0 fun i j=>.int (i+j)):=FW fun _ _ _ _ _ _ _ q=>iadd_int q
theorem unI{f:Value->Sem Value}{g:Int->Int}(rule:∀(i:Int)(t:Tok)(s:Shared)(Q:Value->Shared->Prop)(E:Value->Shared->Prop),Q (.int (g i) s.toks) { s with toks:=s.toks+1 }->wpAny (model X.prog X.w) X.A (f (.int i t)) Q E s):
  UnR X f (rU fun i=>.int (g i)):=by
 intro pins s σ H x v Q I rx h;obtain⟨i,rfl,q⟩:=h;obtain⟨t,rfl⟩:=rx;exact rule i t s _ _ ⟨.int (g i),H,I.tok _,⟨_,rfl⟩,q⟩
theorem zx:UnR X (unaryOp .USub) (rU fun i=>.int (-i)):=unI fun _ _ _ _ _ q=>neg_int q
end
section
variable{X:Cx}{a b c:Expr}{ta tb tc:TE}{pos:Pos}
theorem wQ:OpR X (compareOp .Lt) (rI0 fun i j=>.bl (decide (i<j))):=Ce fun _ _ _ _ _ _ _ q=>lt_int q
theorem sw:OpR X (compareOp .LtE) (rI0 fun i j=>.bl (decide (i<=j))):=Ce fun _ _ _ _ _ _ _ q=>le_int q
theorem DS:OpR X (compareOp .Gt) (rI0 fun i j=>.bl (decide (j<i))):=Ce fun _ _ _ _ _ _ _ q=>gt_int q
theorem Ha:OpR X (compareOp .GtE) (rI0 fun i j=>.bl (decide (j<=i))):=Ce fun _ _ _ _ _ _ _ q=>ge_int q
theorem a7(b:Expr){op:CmpOp}(h:op≠.In:=by decide)(h2:op≠.NotIn:=by decide):behindInMarks op b=false:=by
 have e1:(op == CmpOp.In)=false:=by cases op<;>first|rfl|exact absurd rfl h
 have e2:(op == CmpOp.NotIn)=false:=by cases op<;>first|rfl|exact absurd rfl h2
 cases b<;>simp[behindInMarks,e1,e2]
theorem fc{op:CmpOp}{r:R2}(ho:OpR X (compareOp op) r)(ha:PE X a ta)(hb:PE X b tb)(hm:behindInMarks op b=false):PE X (.Compare a [op] [b] pos) (tOp r ta tb):=.mk <| by
 intro pins s σ H Q I h;exact wpAny_Compare1 (FH ha hb I h fun v u s2 x y H2 I2 rx ry q=>ho pins s2 σ H2 x y v u Q I2 rx ry q) hm
noncomputable def Ea(t:TE):TT:=fun σ H Q=>t σ H fun x H'=>∃k,x=.bl k/\Q k H'
theorem aL{op:CmpOp}{r:R2}(ho:OpR X (compareOp op) r)(ha:PE X a ta)(hb:PE X b tb)(hm:behindInMarks op b=false):PT X (.Compare a [op] [b] pos) (Ea (tOp r ta tb)):=by
 intro pins s σ H Q I h
 refine wpAny_isTrue_Compare1 (thn (ha pins s σ H _ I h) fun v s1 ⟨x,H1,I1,r1,q1⟩=>thn (hb pins s1 σ H1 _ I1 q1) fun u s2 ⟨y,H2,I2,r2,q2⟩=>
  thn (ho pins s2 σ H2 x y v u _ I2 r1 r2 q2) fun c s3 ⟨z,H3,I3,r3,k,e,q3⟩=>?_) hm
 subst e;cases r3;exact wpAny_truthy_bool ⟨H3,I3,q3⟩
noncomputable def zK(r r':R2)(ta tb tc:TE):TE:=fun σ H Q=>ta σ H fun x H1=>tb σ H1 fun y H2=>r x y H2 fun z H3=>∃k,z=.bl k /\
 (if k=true then tc σ H3 fun w' H4=>r' y w' H4 Q else Q (.bl false) H3)
theorem sr{op op':CmpOp}{r r':R2}(ho:OpR X (compareOp op) r)(ho':OpR X (compareOp op') r')(ha:PE X a ta)(hb:PE X b tb)(hc:PE X c tc)(hm:lastMarks [op,op'] [b,c]=false:=by with_unfolding_all rfl):PE X (.Compare a [op,op'] [b,c] pos) (zK r r' ta tb tc):=.mk <| by
 intro pins s σ H Q I h
 refine Compare_chain (thn (ha pins s σ H _ I h) fun v s1 ⟨x,H1,I1,r1,q1⟩=>chain_link (thn (hb pins s1 σ H1 _ I1 q1) fun u s2 ⟨y,H2,I2,r2,q2⟩=>
  thn (ho pins s2 σ H2 x y v u _ I2 r1 r2 q2) fun d s3 ⟨z,H3,I3,r3,k,e,q3⟩=>?_)) hm
 subst e;cases r3;refine wpAny_truthy_bool ?_
 cases k with
 |false=>exact ite_ff ⟨.bl false,H3,I3,rfl,q3⟩
 |true=>exact ite_tt (chain_last (thn (hc pins s3 σ H3 _ I3 q3) fun w' s4 ⟨z',H4,I4,r4,q4⟩=>ho' pins s4 σ H4 y z' u w' Q I4 r2 r4 q4))
noncomputable def sB(K:W.Frag)(x:V)(H:Hp)(k:Bool):Prop:=
 match x with
 |.non=>k=false
 |.bl b=>k=b
 |.int i=>k=(i != 0)
 |.str y=>y.length<=sizeLine/\k=((y.length:Int) != 0)
 |.byt y=>y.size<=sizeLine/\k=((y.size:Int) != 0)
 |.ref p=>(∃xs,SqL K H p xs/\k=!xs.isEmpty)\/(∃xs,SqT K H p xs/\k=!xs.isEmpty)\/∃kvs,H p=some (.dK kvs)/\k=!kvs.isEmpty
 |_=>False
theorem u6{κ:Type}{kvs:List (κ×V)}{vs:List (κ×Value)}(r:KV kvs vs):(!vs.isEmpty)=!kvs.isEmpty:=by
 cases r<;>rfl
theorem nZ{xs:List V}{its:List Value}(r:aT xs its):(!its.toArray.isEmpty)=!xs.isEmpty:=by
 cases r<;>simp
theorem kZ:(sizeLine:Nat)<2^63:=by rw[sizeLine_eq];decide
theorem uw:HX X (fun x H Q=>∃k,sB X.K x H k/\Q k H):=by
 intro pins s σ H x v Q I rx h;obtain⟨k,e,q⟩:=h;have hl:=kZ;have hs:sizeLine=16777216:=sizeLine_eq
 cases x with
 |non=>
  cases rx;have e':k=false:=e;subst e';exact truthy_none ⟨H,I,q⟩
 |bl b=>
  cases rx;have e':k=b:=e;subst e';exact wpAny_truthy_bool ⟨H,I,q⟩
 |int i=>
  obtain⟨t,rfl⟩:=rx;have e':k=(i != 0):=e;subst e';exact PySem.P.truthy_int ⟨H,I,q⟩
 |str y=>
  obtain⟨t,rfl⟩:=rx;obtain⟨hy,e'⟩:y.length<=sizeLine/\k=((y.length:Int) != 0):=e;subst e';exact PySem.P.truthy_str (by omega) ⟨H,I.tok _,q⟩
 |byt y=>
  obtain⟨t,rfl⟩:=rx;obtain⟨hy,e'⟩:y.size<=sizeLine/\k=((y.size:Int) != 0):=e;subst e';exact W.truthy_bytes (by omega) ⟨H,I.tok _,q⟩
 |ref p=>
  cases rx;have e':(∃xs,SqL X.K H p xs/\k=!xs.isEmpty)\/(∃xs,SqT X.K H p xs/\k=!xs.isEmpty)\/∃kvs,H p=some (.dK kvs)/\k=!kvs.isEmpty:=e;rcases e' with⟨xs,hx,e'⟩|⟨xs,hx,e'⟩|⟨kvs,hx,e'⟩
  ·subst e'
   obtain⟨its,r,pl,hz⟩:=I.list hx;have hlen:=r.length;exact wpAny_truthy_list pl.isList (by simp only[List.size_toArray];omega) ⟨H,I.tok _,by rw[nZ r];exact q⟩
  ·subst e'
   obtain⟨its,r,pl,hz⟩:=I.tuple hx;have hlen:=r.length;exact truthy_tuple pl (by simp only[List.size_toArray];omega) ⟨H,I.tok _,by rw[nZ r];exact q⟩
  ·subst e'
   obtain⟨hz,hS,vs,r,m⟩:kvs.length<=sizeLine/\(p == sysModules)=false/\∃vs,KV kvs vs/\s.heap.DictOf (bG X.prog X.w) p vs:=I.hok p _ hx;have hlen:kvs.length=vs.length:=Paired.length r;exact wpAny_truthy_dict hS m (by omega) ⟨H,I.tok _,by rw[u6 r];exact q⟩
 |_=>exact(show False from e).elim
theorem yU(ha:PE X a ta)(he:∀whole,isTrue a X.env whole=(do let v ← whole;standAt a.pos;holding [v] (truthy v))):
  PT X a (fun σ H Q=>ta σ H fun x H'=>∃k,sB X.K x H' k/\Q k H'):=by
 intro pins s σ H Q I h;exact isTrue_plain (thn (ha pins s σ H _ I h) fun v s1 ⟨x,H1,I1,r1,q1⟩=>uw pins s1 σ H1 x v Q I1 r1 q1) (he _)
theorem bE:OpR X (binaryOp .Add) (fun x y H Q=>∃i j,x=.str i/\y=.str j/\i.length+j.length<=sizeLine/\Q (.str (i++j)) H):=by
 intro pins s σ H x y v u Q I rx ry h;obtain⟨i,j,rfl,rfl,hz,q⟩:=h;obtain⟨t,rfl⟩:=rx;obtain⟨t',rfl⟩:=ry;exact add_str (fun t' tk=>⟨.str (i++j),H,I.tok _,⟨_,rfl⟩,q⟩) hz
theorem gi{x:V}{us:List Value}(r:aT [x] us):∃u,us=[u]/\bq x u:=by
 cases r with
 |cons r1 r2=>cases r2;exact⟨_,rfl,r1⟩
theorem HC{x y:V}{us:List Value}(r:aT [x,y] us):∃u w',us=[u,w']/\bq x u/\bq y w':=by
 cases r with
 |cons r1 r2=>
  cases r2 with
  |cons r3 r4=>cases r4;exact⟨_,_,rfl,r1,r3⟩
theorem om:c6 X (.builtin "abs") (fun xs H Q=>∃i,xs=[.int i]/\Q (.int (if i<0 then -i else i)) H):=by
 intro pins s σ H xs us Q I r h;obtain⟨i,rfl,q⟩:=h;obtain⟨u,rfl,t,rfl⟩:=gi r;exact call_abs_int fun u tk=>⟨.int (if i<0 then -i else i),H,I.tok _,⟨_,rfl⟩,q⟩
theorem fH:c6 X (.type "int") (fun xs H Q=>(∃i,xs=[.int i]/\Q (.int i) H)\/∃k,xs=[.bl k]/\Q (.int (if k then 1 else 0)) H):=by
 intro pins s σ H xs us Q I r h;rcases h with⟨i,rfl,q⟩|⟨k,rfl,q⟩
 ·obtain⟨u,rfl,t,rfl⟩:=gi r
  exact call_int_int ⟨.int i,H,I,⟨_,rfl⟩,q⟩
 ·obtain⟨u,rfl,r1⟩:=gi r
  cases r1;exact call_int_bool ⟨.int (if k then 1 else 0),H,I.tok _,⟨_,rfl⟩,q⟩
theorem fF:c6 X (.type "str") (fun xs H Q=>∃i,xs=[.int i]/\i.natAbs.log2<1920/\Q (.str (toString i)) H):=by
 intro pins s σ H xs us Q I r h;obtain⟨i,rfl,hz,q⟩:=h;obtain⟨u,rfl,t,rfl⟩:=gi r;exact PySem.P.str_of_int hz ⟨.str _,H,I.tok _,⟨_,rfl⟩,q⟩
noncomputable def B6(K:W.Frag)(x:V)(H:Hp)(n:Nat):Prop:=
 match x with
 |.str y=>y.length<=sizeLine/\n=y.length
 |.byt y=>y.size<=sizeLine/\n=y.size
 |.ref p=>(∃xs,SqL K H p xs/\n=xs.length)\/∃xs,SqT K H p xs/\n=xs.length
 |_=>False
theorem Ba:c6 X (.builtin "len") (fun xs H Q=>∃x n,xs=[x]/\B6 X.K x H n/\Q (.int n) H):=by
 intro pins s σ H xs us Q I r h;obtain⟨x,n,rfl,e,q⟩:=h;obtain⟨u,rfl,rx⟩:=gi r;have hl:=kZ;have hs:sizeLine=16777216:=sizeLine_eq
 cases x with
 |str y=>
  obtain⟨t,rfl⟩:=rx;obtain⟨hy,e'⟩:y.length<=sizeLine/\n=y.length:=e;subst e';exact len_str (by omega) ⟨.int _,H,I.tok _,⟨_,rfl⟩,q⟩
 |byt y=>
  obtain⟨t,rfl⟩:=rx;obtain⟨hy,e'⟩:y.size<=sizeLine/\n=y.size:=e;subst e';exact W.len_bytes (by omega) ⟨.int _,H,I.tok _,⟨_,rfl⟩,q⟩
 |ref p=>
  cases rx;have e':(∃xs,SqL X.K H p xs/\n=xs.length)\/∃xs,SqT X.K H p xs/\n=xs.length:=e;rcases e' with⟨xs,hx,e'⟩|⟨xs,hx,e'⟩
  ·subst e'
   obtain⟨its,r',pl,hz⟩:=I.list hx;have hlen:=r'.length;exact Calls.call_len_list pl.isList (by simp only[List.size_toArray];omega) ⟨.int xs.length,H,I.tok _,⟨_,by simp only[List.size_toArray];rw[hlen]⟩,q⟩
  ·subst e'
   obtain⟨its,r',pl,hz⟩:=I.tuple hx;have hlen:=r'.length;exact len_tuple pl (by simp only[List.size_toArray];omega) ⟨.int xs.length,H,I.tok _,⟨_,by simp only[List.size_toArray];rw[hlen]⟩,q⟩
 |_=>exact(show False from e).elim
end
structure Fo(h:Heap)(x dx C:Addr)(mA:Str->Option Value):Prop where
 obj:h.get? x=some (W.instObj C dx)
 ns:h.Ns1 dx mA
 ne:dx≠x
theorem yw{h:Heap}{dx:Addr}{mA:Str->Option Value}(n:h.Ns1 dx mA):∃od,h.get? dx=some od/\∀name,W.lookIn name od=some (mA name):=by
 obtain⟨o,es,ep,ho,hd,hk,_,hm⟩:=n;refine⟨o,ho,fun name=>?_⟩;have e:=hm name;unfold nsFind findBy at e;rw[←Array.find?_toList] at e
 unfold W.lookIn;rw[hd];dsimp only;split
 ·rename_i y q
  rw[q] at e;exact congrArg some e
 ·rename_i q
  rw[q] at e
  have a:es.toList.any (·.refKey)=false:=by
   rw[List.any_eq_false];intro y hy;obtain⟨z,t,hkey⟩:=hk y (Array.mem_toList_iff.mp hy);simp[DictEntry.refKey,hkey]
  have a':¬ es.toList.any (·.refKey)=true:=by rw[a];exact Bool.false_ne_true
  rw[if_neg a'];exact congrArg some e
theorem Fo.look{h:Heap}{x dx C:Addr}{mA:Str->Option Value}(I:Fo h x dx C mA):∃od,W.InstAt h x (W.instObj C dx) C (some od)/\∀name,W.lookIn name od=some (mA name):=
 let ⟨od,ho,hl⟩:=yw I.ns
 ⟨od,⟨I.obj,rfl,rfl,ho⟩,hl⟩
section
variable{P:Program}{w:World}{H H':Hp}{h h':Heap}{a C dx:Addr}{fs fs':List (Str×V)}
theorem CB(hok:HOk P w H h)(e:H a=some (.ins C dx fs)):∃mA,Fo h a dx C mA/\(∀f,EE (fs.lookup f) (mA f))/\PySem.Within mA (fs.map (·.1))/\fs.length<=1000/\H dx=some (.own a):=by
 obtain⟨d,z,ne,ob,mA,n,r,q⟩:=(show cE P w H h a (.ins C dx fs) from hok a _ e)
 exact⟨mA,⟨ob,n,ne⟩,r,q,z,d⟩
end
structure Cls(K:W.Frag)(C:Addr):Prop where
 pg:W.plainGet K C Str.empty=true
 hd:W.hasDictIn K C=true
 po:W.plainOver K C=true
 sa:W.findIn K (.ref C) "__setattr__"=some (some (.builtin "object.__setattr__"))
theorem Cls.get{K:W.Frag}{C:Addr}(c:Cls K C)(f:Str):W.plainGet K C f=true:=c.pg
structure Con(K:W.Frag)(C:Addr)(f:Str)(v:V)(u:Value):Prop where
 at_:W.findIn K (.ref C) f=some (some u)
 rel:bq v u
 get:W.specialIn K u "__get__"=some none
 cp:W.copiedNames.contains f=false
structure Ix(K:W.Frag)(C:Addr)(m:Str)(f:Addr):Prop where
 at_:W.findIn K (.ref C) m=some (some (.ref f))
 fn:W.isFn K (.ref f)=true
 kp:W.keepIn K (.ref f)=true
section
variable{X:Cx}{pins:List (Addr×Obj)}{σ:St}{H:Hp}{s:Shared}{A:Around}{E:Value->Shared->Prop}{Q:Value->Shared->Prop}{c:Value}{b:Bool}
inductive lg (K:PySem.W.Frag) (H:Hp):V->Value->Prop where
 |non:lg K H .non (.type "NoneType")
 |bl (x:Bool):lg K H (.bl x) (.type "bool")
 |int (i:Int):lg K H (.int i) (.type "int")
 |str (x:Str):lg K H (.str x) (.type "str")
 |flt (x:UInt64):lg K H (.flt x) (.type "float")
 |lst {a:Addr} {xs:List V} (e:H a=some (.lst xs)):lg K H (.ref a) (.type "list")
 |frz {a:Addr} {o:Obj} {xs:List V} (e:H a=some (.frz o (.lst xs))):lg K H (.ref a) (.type "list")
 |tup {a:Addr} {xs:List V} (e:H a=some (.tup xs)):lg K H (.ref a) (.type "tuple")
 |dK {a:Addr} {kvs:List (Key×V)} (e:H a=some (.dK kvs)):lg K H (.ref a) (.type "dict")
 |dT {a:Addr} {kvs:List (List Key×V)} (e:H a=some (.dT kvs)):lg K H (.ref a) (.type "dict")
 |ins {a C dx:Addr} {fs:List (Str×V)} (e:H a=some (.ins C dx fs)) (cl:Cls K C) (ha:PySem.W.findIn K (.ref C) "__class__"=some (some (.builtin "object.__class__")))
   (hn:PySem.W.specialIn K (.builtin "object.__class__") "__get__"=some (some (.builtin "getset_descriptor.__get__"))) (htk:PySem.W.takesIn K (.builtin "object.__class__")=some true)
   (hm:PySem.W.mroIn K C (.type "object")=some true):lg K H (.ref a) (.ref C)
theorem yP{x:V}{u t:Value}(I:Inv X pins σ H s)(rx:bq x u)(ty:lg X.K H x t)(e:W.kitOne X.K t c=some b)(h:∀tk,Q (.bool b) { s with toks:=tk }):
  wpAny (model X.prog X.w) A (call (.builtin "isinstance") [u,c]) Q E s:=by
 cases ty with
 |non=>cases (show u=Value.none from rx);exact W.kia_one W.kitx_none I.kIn True.intro e (fun z=>nomatch z) h
 |bl y=>cases (show u=Value.bool y from rx);exact W.kia_one W.kitx_bool I.kIn True.intro e (fun z=>nomatch z) h
 |int i=>obtain⟨t,q⟩:=(show ∃t,u=Value.int i t from rx);cases q;exact W.kia_one W.kitx_int I.kIn True.intro e (fun z=>nomatch z) h
 |str y=>obtain⟨t,q⟩:=(show ∃t,u=Value.str y t from rx);cases q;exact W.kia_one W.kitx_str I.kIn True.intro e (fun z=>nomatch z) h
 |flt y=>obtain⟨t,q⟩:=(show ∃t,u=Value.float y t from rx);cases q;exact W.kia_one W.kitx_float I.kIn True.intro e (fun z=>nomatch z) h
 | @lst a xs ea=>
  cases (show u=Value.ref a from rx)
  obtain⟨_,_,n,_,h1⟩:=(show cE X.prog X.w H s.heap a (.lst xs) from I.hok a _ ea)
  exact W.kia_one W.kitx_list I.kIn ⟨_,h1,rfl⟩ e (fun z=>nomatch z) h
 | @frz a ob xs ea=>
  cases (show u=Value.ref a from rx)
  obtain⟨_,_,_,n,_,h1⟩:=(show cE X.prog X.w H s.heap a (.frz ob (.lst xs)) from I.hok a _ ea)
  exact W.kia_one W.kitx_list I.kIn ⟨_,h1,rfl⟩ e (fun z=>nomatch z) h
 | @tup a xs ea=>
  cases (show u=Value.ref a from rx)
  obtain⟨_,_,_,p⟩:=(show cE X.prog X.w H s.heap a (.tup xs) from I.hok a _ ea)
  obtain⟨o,h1,h2,_⟩:=p.1;exact W.kia_one W.kitx_tuple I.kIn ⟨o,h1,h2⟩ e (fun z=>nomatch z) h
 | @dK a kvs ea=>
  cases (show u=Value.ref a from rx)
  obtain⟨_,_,vs,_,p⟩:=(show cE X.prog X.w H s.heap a (.dK kvs) from I.hok a _ ea)
  obtain⟨o,es,ep,h1,h2,_⟩:=p;exact W.kia_one W.kitx_dict I.kIn ⟨o,h1,h2.1⟩ e (fun z=>nomatch z) h
 | @dT a kvs ea=>
  cases (show u=Value.ref a from rx)
  obtain⟨_,_,xs,_,o,es,ep,h1,h2,_⟩:=(show cE X.prog X.w H s.heap a (.dT kvs) from I.hok a _ ea)
  exact W.kia_one W.kitx_dict I.kIn ⟨o,h1,h2.1⟩ e (fun z=>nomatch z) h
 | @ins a C dx fs ea cl ha hn htk hm=>
  cases (show u=Value.ref a from rx)
  obtain⟨mA,O,_⟩:=CB I.hok ea;obtain⟨od,J,_⟩:=O.look;exact W.kia_one (W.kitx_own (cl.get _) cl.hd ha hn htk hm) I.kIn J e (fun z=>nomatch z) h
end
structure eZ(k:Nat)(A:Around):Prop where
 hd:A.handled=none
 dp:A.depth+3*k+5<recursionLimit
 un:A.units+16*k+200<cLine
 gd:A.guards=some []
theorem eZ.mono{j k:Nat}{A:Around}(r:eZ k A)(h:j<=k):eZ j A:=⟨r.hd,by have:=r.dp;omega,by have:=r.un;omega,r.gd⟩
theorem eZ.deeper{k:Nat}{A:Around}(r:eZ (k+1) A)(env:Env):eZ k (A.deeper env):=
 ⟨r.hd,by have:=r.dp;show A.depth+1+3*k+5<_;omega,by have:=r.un;show A.units+3+16*k+200<_;omega,r.gd⟩
theorem eZ.depth{k:Nat}{A:Around}(r:eZ k A):A.depth<recursionLimit:=by have:=r.dp;omega
noncomputable def A5:TA:=fun _ H Q=>Q [] H
noncomputable def gO(ta:TE)(tr:TA):TA:=fun σ H Q=>ta σ H fun x H1=>tr σ H1 fun xs H2=>Q (x::xs) H2
section
variable{X:Cx}{e:Expr}{es:List Expr}{te:TE}{t:TA}{pos:Pos}
theorem af:PA X [] A5:=.mk <| fun _ _ _ _ H Q I h=>Calls.spliced_nil ⟨[],H,I,.nil,h⟩
theorem aa(ha:PE X e te)(hr:PA X es t)(hs:starEach (e::es) X.env=(false,eval e X.env)::starEach es X.env:=by rfl):PA X (e::es) (gO te t):=.mk <| by
 intro pos pins s σ H Q I h;rw[hs];show wpAny _ _ (spliced ((false,eval e X.env)::backTo pos (starEach es X.env))) _ _ s;refine Calls.spliced_cons (thn (ha pins s σ H _ I h) fun u s1 ⟨x,H1,I1,r1,q1⟩=>?_);exact thn (hr pos pins s1 σ H1 _ I1 q1) fun us s2 ⟨xs,H2,I2,r2,q2⟩=>⟨x::xs,H2,I2,.cons r1 r2,q2⟩
noncomputable def FA(t:TA):TE:=fun σ H Q=>t σ H fun xs H1=>xs.length<=sizeLine/\∀p,H1 p=none->Q (.ref p) (upd H1 p (.tup xs))
noncomputable def FR(t:TA):TE:=fun σ H Q=>t σ H fun xs H1=>xs.length<=sizeLine/\∀p,H1 p=none->Q (.ref p) (upd H1 p (.lst xs))
theorem a9{x1}(h:PA X es t):PE X (.Tuple es x1 pos) (FA t):=.mk <| by
 intro pins s σ H Q I hq;refine wpAny_Tuple_spliced (thn (h pos pins s σ H _ I hq) fun us s1 ⟨xs,H1,I1,r,z,q⟩=>⟨by rw[←r.length];exact z,?_⟩)
 have hf:H1 s1.heap.objs.size=none:=I1.hok.fresh (Nat.le_refl _);refine⟨.ref s1.heap.objs.size,upd H1 s1.heap.objs.size (.tup xs),I1.laid (t':=s1.toks) (fun b u e=>Heap.get?_push_of_some _ e) (Nat.le_refl _) ?_,rfl,q _ hf⟩;exact⟨z,us,r,⟨_,Heap.get?_push_size _ rfl,rfl,_,rfl⟩,_,Heap.get?_push_size _ rfl,rfl⟩
theorem br(h:PA X es t):PE X (.List es pos) (FR t):=.mk <| by
 intro pins s σ H Q I hq;refine wpAny_List_spliced (thn (h pos pins s σ H _ I hq) fun us s1 ⟨xs,H1,I1,r,z,q⟩=>⟨by rw[←r.length];exact z,?_⟩)
 have hf:H1 s1.heap.objs.size=none:=I1.hok.fresh (Nat.le_refl _);refine⟨.ref s1.heap.objs.size,upd H1 s1.heap.objs.size (.lst xs),I1.laid (t':=s1.toks) (fun b u e=>Heap.get?_push_of_some _ e) (Nat.le_refl _) ?_,rfl,q _ hf⟩;exact⟨z,us,0,r,Heap.get?_push_size _ rfl⟩
end
noncomputable abbrev Sp:=List V->Hp->VK->XK->Prop
noncomputable abbrev CXT:=List Env->Hp->Shared->XK->Value->Shared->Prop
structure ut(P:Program)(w:World)(K:W.Frag)(mg:Str->Option Value)(base:Heap)(A:Around)(outer:List Env)(s:Shared)(H:Hp):Prop where
 frames:A.frames=some outer
 mod:Mod K mg base
 bs:∀b o,base.get? b=some o->s.heap.get? b=some o/\H b=none
 bsz:base.objs.size<=s.heap.objs.size
 funs:s.heap.FunFrames base outer
 frf:∀b∈frs outer,H b=none
 tt:yM K H
 hok:HOk P w H s.heap
 bare:AllBare s.gens
noncomputable def CE(outer:List Env)(P:Program)(w:World)(H:Hp)(s:Shared)(Q:VK)(u:Value)(s':Shared):Prop:=
 ∃v H',s'.os=s.os/\AllBare s'.gens/\Un (frs outer) [] H H' s.heap s'.heap/\HOk P w H' s'.heap/\bq v u/\Q v H'
noncomputable def CR(CX:CXT)(outer:List Env)(P:Program)(w:World)(H:Hp)(s:Shared)(Q:VK)(E:XK)(r:Result)(s':Shared):Prop:=
 match r with
 |.ok (.ret u)=>CE outer P w H s Q u s'
 |.ok _=>False
 |.error e=>CX outer H s E e s'
structure aD(P:Program)(w:World)(K:W.Frag)(mg:Str->Option Value)(base:Heap)(CX:CXT)(k:Nat)(f:Addr)(fd:FuncData)(ps:List Str)(sp:Sp):Prop where
 len:∀vs H Q E,sp vs H Q E->vs.length=ps.length
 run:∀(A:Around)(outer:List Env)(s:Shared)(H:Hp)(args:Args)(us:List Value)(vs:List V)(Q:VK)(E:XK),eZ k A->ut P w K mg base A outer s H->BindsTo s fd args (ps.zip us)->aT vs us->sp vs H Q E ->
  codeAny (model P w) A (.call (.ref f) args) (CR CX outer P w H s Q E) s
theorem aD.mono{P:Program}{w:World}{K:W.Frag}{mg:Str->Option Value}{base:Heap}{CX:CXT}{j k:Nat}{f:Addr}{fd:FuncData}{ps:List Str}{sp:Sp}(F:aD P w K mg base CX j f fd ps sp)(h:j<=k):
  aD P w K mg base CX k f fd ps sp:=⟨F.len,fun A outer s H args us vs Q E hr=>F.run A outer s H args us vs Q E (hr.mono h)⟩
section
variable{X:Cx}{pins:List (Addr×Obj)}{σ:St}{H:Hp}{s s':Shared}
theorem Inv.env0(I:Inv X pins σ H s):ut X.prog X.w X.K X.mg X.base X.A X.stack s H:=
 ⟨I.ok.frames,I.ok.mod,I.bs,Nat.le_trans I.ok.bsz I.sz,I.stack,I.IK,I.ok.tt.mono I.base.tbls,I.hok,I.bare⟩
theorem Inv.after{Q:VK}{u:Value}(I:Inv X pins σ H s)(h:CE X.stack X.prog X.w H s Q u s'):EP X pins σ Q u s':=by
 obtain⟨v,H',os,bare,un,hok,r,q⟩:=h;obtain⟨hh,g,d,t,os'⟩:=s';obtain rfl:os'=s.os:=os;exact⟨v,H',I.call (h':=hh) (g':=g) (d':=d) (t':=t) (ch:=[]) un hok bare (fun b z=>absurd z (by simp)),r,q⟩
end
noncomputable def Da(sp:Sp)(dvs:List V)(E:XK)(t:TA):TE:=fun σ H Q=>t σ H fun vs H1=>sp (vs++dvs) H1 Q E
noncomputable def bo(K:W.Frag)(fd:FuncData)(ps:List Str)(ds:List Value):Prop:=
 ∀(s:Shared)(us:List Value),K.In s.heap->(us++ds).length=ps.length->BindsTo s fd ⟨us,[]⟩ (ps.zip (us++ds))
theorem bo.all{K:W.Frag}{fd:FuncData}{ps:List Str}(h:∀us:List Value,us.length=ps.length->bindArgs fd ⟨us,[]⟩=pure (ps.zip us)):bo K fd ps []:=fun s us _ hl=>by
 rw[List.append_nil] at hl ⊢;exact .of_eq (h us hl)
noncomputable def uq(CX:CXT)(X:Cx)(E:XK):Prop:=∀(pins:List (Addr×Obj)) (σ:St) (H:Hp) (s:Shared) (e:Value) (s':Shared),Inv X pins σ H s->CX X.stack H s E e s'->X.xe e s'
section
variable{X:Cx}{CX:CXT}{k:Nat}{f C:Addr}{fd:FuncData}{ps:List Str}{sp:Sp}{dvs:List V}{ds:List Value}{E:XK}{x m:Str}{p pos apos:Pos}{e o:Expr}{es:List Expr}{ta:TE}{t:TA}
theorem Fb{pins:List (Addr×Obj)}{σ:St}{H:Hp}{s:Shared}{Q:VK}{us:List Value}{vs:List V}(F:aD X.prog X.w X.K X.mg X.base CX k f fd ps sp)(hr:eZ k X.A)(hb:bo X.K fd ps ds)(hd:aT dvs ds)(hx:uq CX X E)(I:Inv X pins σ H s)(r:aT vs us)(h:sp (vs++dvs) H Q E):wpAny (model X.prog X.w) X.A (call (.ref f) us) (EP X pins σ Q) X.xe s:=by
 have r2:aT (vs++dvs) (us++ds):=r.append hd;have hl:(us++ds).length=ps.length:=by rw[←r2.length];exact F.len _ _ _ _ h
 refine wpAny_call (codeAny_mono (F.run X.A X.stack s H ⟨us,[]⟩ (us++ds) (vs++dvs) Q E hr I.env0 (hb s us I.kIn hl) r2 h) fun r s' hq=>?_)
 cases r with
 |error e=>exact hx pins σ H s e s' I hq
 |ok fl=>
  cases fl with
  |ret u=>exact I.after hq
  |next=>exact False.elim hq
  |brk=>exact False.elim hq
  |cont=>exact False.elim hq
theorem ak(F:aD X.prog X.w X.K X.mg X.base CX k f fd ps sp)(hr:eZ k X.A)(hg:Gl X x)(hm:X.mg x=some (.ref f))(hk:W.keepIn X.K (.ref f)=true)(hb:bo X.K fd ps ds)(hd:aT dvs ds)(hx:uq CX X E)(ha:PA X (e::es) t)(hdb:(x == ("__debug__":Str))=false:=by decide)(he:starEach (e::es) X.env=(false,eval e X.env)::starEach es X.env:=by rfl)(hpl:(backTo pos (starEach es X.env)).any (·.1)=false:=by rfl):
  PE X (.Call (.Name x p) (e::es) [] pos) (Da sp dvs E t):=.mk <| by
 intro pins s σ H Q I h;refine wpAny_Call_Name_kw (qm I hg hm ?_ hdb);refine W.callWith_K (h₀:=X.base) I.ok.mod.kin hk (thn (ha pos pins s σ H _ I h) fun us s1 ⟨vs,H1,I1,r,q⟩=>⟨I1.kIn,?_⟩) he hpl;exact Fb F hr hb hd hx I1 r q
structure Mk(K:W.Frag)(C f:Addr):Prop where
 makes:W.makesIn K C=true
 init:W.findIn K (.ref C) "__init__"=some (some (.ref f))
 fn:W.isFn K (.ref f)=true
 kp:W.keepIn K (.ref C)=true
end
section
variable{X:Cx}{CX:CXT}{k:Nat}{f C:Addr}{fd:FuncData}{ps ks:List Str}{sp:Sp}{E:XK}{x m:Str}{p pos apos kpos:Pos}{e o:Expr}{es:List Expr}{kws:List Keyword}{te ta:TE}{t tk:TA}{nm:Option Str}
structure Ih(K:W.Frag)(fd:FuncData)(ps ks:List Str)(g:List Value->List Value->List Value)(gV:List V->List V->List V):Prop where
 to:∀(s:Shared)(us ws:List Value),K.In s.heap->(g us ws).length=ps.length->BindsTo s fd ⟨us,ks.zip ws⟩ (ps.zip (g us ws))
 rel:∀ {vs:List V} {us:List Value} {zs:List V} {ws:List Value},aT vs us->aT zs ws->aT (gV vs zs) (g us ws)
variable{g:List Value->List Value->List Value}{gV:List V->List V->List V}
end
structure aM(N P:List Str)(sc:Scope):Prop where
 kind:sc.kind=.function
 co:sc.isCoroutine=false
 gen:sc.isGenerator=false
 nd:N.Nodup
 pre:N.take P.length=P
 par:∀x∈P,sc.names.lookup x=some .local\/sc.names.lookup x=some .cell
 nofree:∀y∈sc.names,y.2≠.free
theorem pL{kindOf:Str->Option NameKind}{x:Str}:∀ {binds:List (Str×Value)} {m:Str->Option Value},(∀v,(x,v) ∉ binds)->bindL kindOf binds m x=m x
 | [],_,_=>rfl
 |(n,v)::r,m,h=>by
  unfold bindL;rw[pL fun w hw=>h w (List.mem_cons_of_mem _ hw)];split
  ·have:x≠n:=by rintro rfl;exact h v List.mem_cons_self
   simp[this]
  ·rfl
theorem pM{kindOf:Str->Option NameKind}{x:Str}:∀ {binds:List (Str×Value)} {m:Str->Option Value},(∀v,(x,v) ∉ binds)->bindC kindOf binds m x=m x
 | [],_,_=>rfl
 |(n,v)::r,m,h=>by
  unfold bindC;rw[pM fun w hw=>h w (List.mem_cons_of_mem _ hw)];split
  ·rfl
  ·have:x≠n:=by rintro rfl;exact h v List.mem_cons_self
   simp[this]
theorem pH{kindOf:Str->Option NameKind}{x:Str}{v:Value}:∀ {P:List Str} {vs:List Value} {i:Nat} {m:Str->Option Value},P.Nodup->P[i]?=some x->vs[i]?=some v->kindOf x=some .local ->
  bindL kindOf (P.zip vs) m x=some v
 | [],_,_,_,_,h,_,_=>by simp at h
 |_::_,[],_,_,_,_,h,_=>by simp at h
 |p::P,w::vs,0,m,nd,h1,h2,hk=>by
  simp at h1 h2;subst h1;subst h2;show bindL kindOf ((p,w)::P.zip vs) m p=_;unfold bindL;rw[pL fun v hv=>(List.nodup_cons.mp nd).1 (List.of_mem_zip hv).1,if_pos hk];simp
 |p::P,w::vs,i+1,m,nd,h1,h2,hk=>by
  show bindL kindOf ((p,w)::P.zip vs) m x=_;unfold bindL;exact pH (i:=i) (List.nodup_cons.mp nd).2 (by simpa using h1) (by simpa using h2) hk
theorem pR{kindOf:Str->Option NameKind}{x:Str}{v:Value}:∀ {P:List Str} {vs:List Value} {i:Nat} {m:Str->Option Value},P.Nodup->P[i]?=some x->vs[i]?=some v->kindOf x≠some .local ->
  bindC kindOf (P.zip vs) m x=some v
 | [],_,_,_,_,h,_,_=>by simp at h
 |_::_,[],_,_,_,_,h,_=>by simp at h
 |p::P,w::vs,0,m,nd,h1,h2,hk=>by
  simp at h1 h2;subst h1;subst h2;show bindC kindOf ((p,w)::P.zip vs) m p=_;unfold bindC;rw[pM fun v hv=>(List.nodup_cons.mp nd).1 (List.of_mem_zip hv).1,if_neg hk];simp
 |p::P,w::vs,i+1,m,nd,h1,h2,hk=>by
  show bindC kindOf ((p,w)::P.zip vs) m x=_;unfold bindC;exact pR (i:=i) (List.nodup_cons.mp nd).2 (by simpa using h1) (by simpa using h2) hk
noncomputable def start(N:List Str)(vs:List V):St:=vs.map some++List.replicate (N.length-vs.length) none
noncomputable def oQ(CX:CXT)(P:Program)(w:World)(K:W.Frag)(mg:Str->Option Value)(base:Heap)(N:List Str)(qual:Str)(scope:Scope)(f:Addr)(cd:Value)(A:Around)(outer:List Env)(s:Shared)(H:Hp)(E:XK):Cx where
 prog:=P
 w:=w
 K:=K
 mg:=mg
 base:=base
 A:=A.deeper (envOfC qual scope s.heap.objs.size f cd)
 N:=N
 s₀:=s
 H₀:=H
 env:=envOfC qual scope s.heap.objs.size f cd
 outer:=outer
 stack:=envOfC qual scope s.heap.objs.size f cd::outer
 ex:=[]
 calm:=true
 fn:=fun _=>true
 pn:=[]
 xe:=fun e s'=>wpAny (model P w) (A.deeper (envOfC qual scope s.heap.objs.size f cd)) (leaving (envOfC qual scope s.heap.objs.size f cd) e) (fun _ s''=>CX outer H s E e s'') (fun e' s''=>CX outer H s E e' s'') s'
theorem rQ{sc:Scope}{n:Nat}{x:Str}(h:sc.names.lookup x=some .cell):∃c,(cellsFrom n sc.names []).lookup x=some c:=by
 have q:=W.cellsFrom_some sc.names n [] (.inl h);exact Option.isSome_iff_exists.mp q
theorem yq{CX:CXT}{P:Program}{w:World}{K:W.Frag}{mg:Str->Option Value}{base:Heap}{N ps:List Str}{qual:Str}{scope:Scope}{f:Addr}{cd:Value}{A:Around}{outer:List Env}{s s1:Shared}{H:Hp}{E:XK}{us:List Value}{vs:List V}(S:aM N ps scope)(hd:A.handled=none)(e0:ut P w K mg base A outer s H)(hl:vs.length=ps.length)(r:aT vs us)(x:InCallC s s.heap.objs.size (bindL (envOfC qual scope s.heap.objs.size f cd).kindOf (ps.zip us) fun _=>none) (cellsFrom (s.heap.objs.size+1) scope.names []) (bindC (envOfC qual scope s.heap.objs.size f cd).kindOf (ps.zip us) fun _=>none) s1):
  Inv (oQ CX P w K mg base N qual scope f cd A outer s H E) [] (start N vs) H s1:=by
 have hpl:ps.length<=N.length:=by have:=congrArg List.length S.pre;rw[List.length_take] at this;omega
 obtain⟨h1,tk,rfl,hk⟩:=x.done;have noA:∀b:Addr,b ∉ (oQ CX P w K mg base N qual scope f cd A outer s H E).ex:=fun b z=>absurd (show b∈([]:List Addr) from z) (by simp)
 refine⟨⟨e0.mod,S.kind,rfl,rfl,Nat.le_refl _,fun y z c h1 h2=>?_,fun y hy=>?_,fun y c _ h=>?_,fun _=>hd,Around.frames_deeper e0.frames,.inr ⟨rfl,rfl⟩,fun b z=>absurd z (noA b),e0.bs,e0.bsz,fun b _ _=>noA b,fun b z=>absurd z (noA b),e0.funs,e0.frf,e0.tt⟩,
  rfl,e0.bare,Un.kept hk,⟨_,x.toInCall.ns,fun i y v h1 h2 h3=>?_⟩,fun y c h=>⟨_,x.cell y c h⟩,e0.hok.fresh (Nat.le_refl _),fun y c h=>?_,fun p hp=>absurd (show p∈([]:List (Addr×Obj)) from hp) (by simp),e0.hok.kept hk,?_⟩
 ·exact name_of_addr x.apart (PySem.mem_of_lookup h1) (PySem.mem_of_lookup h2)
 ·have hy:scope.names.lookup y=some .cell\/scope.names.lookup y=some .free:=hy
  rcases hy with hy|hy
  ·exact rQ hy
  ·exact absurd rfl (S.nofree _ (PySem.mem_of_lookup hy))
 ·exact Nat.le_of_lt (x.above y c (PySem.mem_of_lookup h))
 ·have hi:i<vs.length:=by
   unfold start at h2;by_cases hi:i<vs.length
   ·exact hi
   ·rw[List.getElem?_append_right (by simpa using hi)] at h2
    rw[List.getElem?_replicate] at h2;split at h2<;>cases h2
  have ha:vs[i]?=some v:=by
   unfold start at h2;rw[List.getElem?_append_left (by simpa using hi),List.getElem?_map] at h2
   cases e:vs[i]? with
   |none=>rw[e] at h2;cases h2
   |some a=>rw[e] at h2;cases h2;rfl
  obtain⟨u,hu,rv⟩:=r.get ha
  have hp:ps[i]?=some y:=by
   rw[←S.pre,List.getElem?_take_of_lt (by omega)];exact h1
  have ndP:ps.Nodup:=by rw[←S.pre];exact S.nd.sublist (List.take_sublist _ _)
  refine⟨u,rv,?_⟩;rcases S.par y (List.mem_of_getElem? hp) with k|k
  ·exact .inl ⟨k,pH ndP hp hu k⟩
  ·obtain⟨c,e⟩:=rQ (n:=s.heap.objs.size+1) k
   refine .inr ⟨.inl k,c,e,?_⟩;have q:=x.cell y c e;rw[pR ndP hp hu (by show scope.names.lookup y≠_;rw[k];decide)] at q
   exact q
 ·exact e0.hok.fresh (Nat.le_of_lt (x.above y c (PySem.mem_of_lookup h)))
 ·unfold start
  show _=N.length;rw[List.length_append,List.length_map,List.length_replicate];omega
theorem C7{CX:CXT}{P:Program}{w:World}{K:W.Frag}{mg:Str->Option Value}{base:Heap}{k:Nat}{f:Addr}{name qual:Str}{params:Arguments}{body:List Stmt}{scope:Scope}{dV kV doc pm cdv ct oc:Value}{an od:Option Addr}{osl:Array (Option Value)}{N ps:List Str}{sp:Sp}(lk:K.lookup f=some ⟨oc,od,.func (W.fnOf name qual params body scope dV kV doc pm an cdv ct),osl⟩)(hcd:W.codeIn K cdv qual=true)(S:aM N ps scope)(len:∀vs H Q E,sp vs H Q E->vs.length=ps.length)
  (hbody:∀(A:Around)(outer:List Env)(s:Shared)(H:Hp)(vs:List V)(Q:VK)(E:XK),eZ k (A.deeper (envOfC qual scope s.heap.objs.size f cdv))->sp vs H Q E ->
   ∃t,PSs (oQ CX P w K mg base N qual scope f cdv A outer s H E) body t/\t { nx:=fun _ H'=>Q .non H',rt:=Q } (start N vs) H) :
  aD P w K mg base CX (k+1) f (W.fnOf name qual params body scope dV kV doc pm an cdv ct) ps sp:=by
 refine⟨len,fun A outer s H args us vs Q E hr e0 hb r hsp=>?_⟩;have hl:=len _ _ _ _ hsp;have KX:K.In s.heap:=e0.mod.kin.keeps fun b o e=>(e0.bs b o e).1;have lim:s.heap.NoLimit:=e0.mod.nolimit.keeps fun b o e=>(e0.bs b o e).1
 have hkind:∀y∈ps.zip us,scope.names.lookup y.1=some .local\/(scope.names.lookup y.1=some .cell/\((cellsFrom (s.heap.objs.size+1) scope.names []).lookup y.1).isSome=true):=fun⟨n,v⟩ hy=>by
  rcases S.par n (List.of_mem_zip hy).1 with q|q
  ·exact .inl q
  ·exact .inr ⟨q,W.cellsFrom_some _ _ _ (.inl q)⟩
 refine codeAny_call_function hr.depth (KX _ _ lk) rfl S.co S.gen rfl (W.codeRec_of KX hcd) (hb _ _ _ _ ?_);refine wpAny_newFunctionEnv_cells S.kind hkind fun env he s1 x=>?_;subst he;refine⟨lim.keeps x.toInCall.keep,codeAny_func ?_⟩;obtain⟨t,ht,hq⟩:=hbody A outer s H vs Q E (hr.deeper _) hsp;have I:Inv (oQ CX P w K mg base N qual scope f cdv A outer s H E) [] (start N vs) H s1:=yq S hr.hd e0 hl r x
 refine wpAny_mono (ht [] s1 (start N vs) H _ I hq) (fun fl s' hs=>?_) fun e s' hs=>hs
 have fin:∀ {σ':St} {H':Hp} {v:V} {u:Value},Inv (oQ CX P w K mg base N qual scope f cdv A outer s H E) [] σ' H' s'->bq v u->Q v H'->CE outer P w H s Q u s':=
  fun {σ' H' v u} J rv q=>⟨v,H',J.os,J.bare,J.base,J.hok,rv,q⟩
 cases fl with
 |ret u=>
  obtain⟨v,σ',H',J,rv,q⟩:=hs;exact fin J rv q
 |next=>
  obtain⟨σ',H',J,q⟩:=hs;exact fin (v:=V.non) (u:=Value.none) J rfl q
 |brk=>
  obtain⟨_,_,_,q⟩:=hs;exact False.elim q
 |cont=>
  obtain⟨_,_,_,q⟩:=hs;exact False.elim q
section
variable{X:Cx}{x:Str}{p pos:Pos}{e:Expr}{es:List Expr}{t:TA}{id T:String}{r:List V->Hp->VK->Prop}
noncomputable def tCB(r:List V->Hp->VK->Prop)(t:TA):TE:=fun σ H Q=>t σ H fun vs H1=>r vs H1 Q
theorem aK(hc:c6 X (.builtin id) r)(hg:Gl X x)(hm:X.mg x=none)(hv:bootBuiltins x=some (.builtin id))(ha:PA X (e::es) t)(hn:x≠"__name__":=by decide)(hdb:(x == ("__debug__":Str))=false:=by decide)(he:starEach (e::es) X.env=(false,eval e X.env)::starEach es X.env:=by rfl)(hpl:(backTo pos (starEach es X.env)).any (·.1)=false:=by rfl):PE X (.Call (.Name x p) (e::es) [] pos) (tCB r t):=.mk <| by
 intro pins s σ H Q I h;refine wpAny_Call_Name_kw (m4 I hg hm hv ?_ hn hdb);exact PyProof.Rows.callWith_builtin1 (thn (ha pos pins s σ H _ I h) fun us s1 ⟨vs,H1,I1,r1,q1⟩=>hc pins s1 σ H1 vs us Q I1 r1 q1) he hpl
theorem a8(hc:c6 X (.type T) r)(hg:Gl X x)(hm:X.mg x=none)(hv:bootBuiltins x=some (.type T))(ha:PA X (e::es) t)(hn:x≠"__name__":=by decide)(hdb:(x == ("__debug__":Str))=false:=by decide)(he:starEach (e::es) X.env=(false,eval e X.env)::starEach es X.env:=by rfl)(hpl:(backTo pos (starEach es X.env)).any (·.1)=false:=by rfl):PE X (.Call (.Name x p) (e::es) [] pos) (tCB r t):=.mk <| by
 intro pins s σ H Q I h;refine wpAny_Call_Name_kw (m4 I hg hm hv ?_ hn hdb);exact PyProof.Rows.callWith_type1 (thn (ha pos pins s σ H _ I h) fun us s1 ⟨vs,H1,I1,r1,q1⟩=>hc pins s1 σ H1 vs us Q I1 r1 q1) he hpl
end
end L2
namespace HT
open PySem PyProof.Rows
theorem zF(A:Around)(s:Shared)(a:Int)(t:Tok)(c:Int)(u:Tok):∃e,SeqAt.EqAt A s (.int a t) (.int c u) e/\(e=true↔a=c):=
 ⟨(a == c),SeqAt.EqAt.int_int a t c u,by simp⟩
section
open PySem.SeqAt
open PySem.AutoSeq1 (wpAny_loadPart')
open PySem.MeetsSeq PySem.MeetsSeq2 PySem.MeetsSeq3
end
section
variable{prog:Program}{w:World}{A:Around}{E:Value->Shared->Prop}{s:Shared}
theorem cat_tup{t b:Addr}{vs ws:List Value}{Q:Value->Shared->Prop}(ht:IsTup s.heap t vs.toArray)(hb:IsTup s.heap b ws.toArray)(hv:vs≠[])(h1:ws=[]->Q (.ref t) s)(h2:ws≠[]->Q (.ref s.heap.objs.size) { s with heap:=s.heap.push { cls:=.type "tuple",data:=.seq (vs++ws).toArray } })(hsz:vs.length+ws.length<=sizeLine):wpAny (model prog w) A (binaryOp .Add (.ref t) (.ref b)) Q E s:=by
 obtain⟨⟨cls,dd,data,sl⟩,ho,hc,n,hd⟩:=id ht;obtain⟨⟨cls2,dd2,data2,sl2⟩,ho2,hc2,n2,hd2⟩:=id hb;simp only at hc hd hc2 hd2;subst hc hd hc2 hd2;have e:vs.toArray++ws.toArray=(vs++ws).toArray:=by simp
 by_cases hw:ws=[]
 ·exact concat_meets ⟨_,ho,rfl⟩ ⟨_,ho2,rfl⟩ noFill_tuple_add seq_tuple_add PySem.F.slot_tuple_add PySem.F.entry_tuple_add (PySem.F.args_tuple_add_2 _ _)
   (tuple_addW1 t b vs.toArray ws.toArray n n2 dd dd2 sl sl2 (by simpa using hv) (by simp[hw])) ⟨ho,ho2,h1 hw⟩
 ·refine concat_meets ⟨_,ho,rfl⟩ ⟨_,ho2,rfl⟩ noFill_tuple_add seq_tuple_add PySem.F.slot_tuple_add PySem.F.entry_tuple_add (PySem.F.args_tuple_add_2 _ _)
   (tuple_addW2 t b vs.toArray ws.toArray n n2 dd dd2 sl sl2 (by simpa using hv) (by simpa using hw) (by rw[List.size_toArray,List.size_toArray];exact hsz)) ⟨ho,ho2,?_⟩
  rw[e];exact h2 hw
noncomputable def sIx(n d:Nat):Option Int->Nat
 |none=>d
 |some v=>if v<0 then (v+(n:Int)).toNat else min v.toNat n
theorem sIx_none(n d:Nat):sIx n d none=d:=rfl
theorem sIx_nat(n d k:Nat):sIx n d (some (k:Int))=min k n:=by
 show (if (k:Int)<0 then ((k:Int)+(n:Int)).toNat else min (k:Int).toNat n)=min k n
 rw[if_neg (by omega),Int.toNat_natCast]
theorem FE(n d:Nat)(hd:d<=n)(o:Option Int):sIx n d o<=n:=by
 cases o with
 |none=>exact hd
 |some v=>
  show (if v<0 then (v+(n:Int)).toNat else min v.toNat n)<=n
  by_cases hv:v<0
  ·rw[if_pos hv];omega
  ·rw[if_neg hv];exact Nat.min_le_right _ _
theorem vG(v:Int)(n d:Nat):(if v<0 then max (v+(n:Int)) 0 else min v (n:Int))=((sIx n d (some v):Nat):Int):=by
 show (if v<0 then max (v+(n:Int)) 0 else min v (n:Int))=(((if v<0 then (v+(n:Int)).toNat else min v.toNat n):Nat):Int)
 by_cases hv:v<0
 ·simp only[if_pos hv];omega
 ·simp only[if_neg hv];omega
theorem uF(lo hi:Option Int)(n:Nat):Builtin.Slice.sliceAdjust lo hi 1 (n:Int)=(((sIx n 0 lo:Nat):Int),((sIx n n hi:Nat):Int)):=by
 have h1:¬ ((1:Int)<0):=by omega
 unfold Builtin.Slice.sliceAdjust;simp only[h1,if_false];refine Prod.ext ?_ ?_
 ·cases lo with
  |none=>rfl
  |some v=>exact vG v n 0
 ·cases hi with
  |none=>rfl
  |some v=>exact vG v n n
theorem uv(i j:Nat):Builtin.Slice.slicePlaces (i:Int) (j:Int) 1=j-i:=by
 unfold Builtin.Slice.slicePlaces;have h1:(1:Int)>0:=by omega
 simp only[h1,if_true,Int.ediv_one];split<;>omega
theorem mY{v:Value}{o:Option Int}{Q:Option Int->Shared->Prop}(p:IsPart v o)(h:Q o s):wpAny (model prog w) A (Builtin.Slice.slicePartIndex v) Q E s:=by
 cases p with
 |none=>exact slicePart_none h
 |int i t=>exact slicePart_int h
theorem sliceApplied_gen{sl:Addr}{vl vu:Value}{lo hi:Option Int}{n:Nat}{Q:Int×Int×Nat->Shared->Prop}(hs:s.heap.IsSliceOf sl vl vu .none)(pl:IsPart vl lo)(pu:IsPart vu hi)(h:Q (((sIx n 0 lo:Nat):Int),1,sIx n n hi-sIx n 0 lo) s):wpAny (model prog w) A (Builtin.Slice.sliceApplied (.ref sl) (pure (n:Int))) Q E s:=by
 obtain⟨os,hos,hcs,hds⟩:=id hs;unfold Builtin.Slice.sliceApplied Builtin.Slice.sliceFields;refine wpAny_bind (wpAny_bind (wpAny_field hos hds (x:=vl) rfl (wpAny_bind (wpAny_field hos hds (x:=vu) rfl (wpAny_bind (wpAny_field hos hds (x:=.none) rfl (wpAny_pure ?_)))))));refine wpAny_bind (slicePart_none ?_);show wpAny _ _ (if ((1:Int) == 0)=true then _ else _) _ _ s
 rw[if_neg (by decide)]
 refine wpAny_bind (mY pl (wpAny_bind (mY pu (wpAny_bind (wpAny_pure ?_)))));show wpAny _ _ (match Builtin.Slice.sliceAdjust lo hi 1 (n:Int) with|(lo,hi)=>pure (lo,(1:Int),Builtin.Slice.slicePlaces lo hi 1)) _ _ s
 rw[uF lo hi n];show wpAny _ _ (pure (((sIx n 0 lo:Nat):Int),(1:Int),Builtin.Slice.slicePlaces ((sIx n 0 lo:Nat):Int) ((sIx n n hi:Nat):Int) 1)) _ _ s;rw[uv];exact wpAny_pure h
theorem Bs(xs:Array Value)(i k:Nat):((List.range k).filterMap fun(m:Nat)=>xs[((i:Int)+(m:Int)*1).toNat]?).toArray=((xs.toList.drop i).take k).toArray:=by
 have e:(fun(m:Nat)=>xs[((i:Int)+(m:Int)*1).toNat]?)=fun m=>xs[i+m]?:=by
  funext m
  have:((i:Int)+(m:Int)*1).toNat=i+m:=by omega
  rw[this]
 rw[e];have:=pick_run xs i k;rw[List.filterMap_map] at this;have e2:((fun x=>xs[x]?) ∘ fun x=>i+x)=fun m=>xs[i+m]?:=rfl;rw[e2] at this;rw[this]
theorem getItem_tuple_cut{t sl:Addr}{items:Array Value}{vl vu:Value}{lo hi:Option Int}{Q:Value->Shared->Prop}(ht:IsTup s.heap t items)(hs:s.heap.IsSliceOf sl vl vu .none)(pl:IsPart vl lo)(pu:IsPart vu hi)(hw:¬ (sIx items.size 0 lo=0/\sIx items.size items.size hi=items.size))(h:Q (.ref s.heap.objs.size) { s with heap:=s.heap.push { cls:=.type "tuple",data:=.seq ((items.toList.drop (sIx items.size 0 lo)).take (sIx items.size items.size hi-sIx items.size 0 lo)).toArray } })(hsz:items.size<=sizeLine):wpAny (model prog w) A (getItem (.ref t) (.ref sl)) Q E s:=by
 have htake:sizeOk (.seq ((items.toList.drop (sIx items.size 0 lo)).take (sIx items.size items.size hi-sIx items.size 0 lo)).toArray):=by
  show ((items.toList.drop (sIx items.size 0 lo)).take (sIx items.size items.size hi-sIx items.size 0 lo)).toArray.size<=sizeLine;rw[List.size_toArray,List.length_take,List.length_drop,Array.length_toList];omega
 have hj:sIx items.size items.size hi<=items.size:=FE _ _ (Nat.le_refl _) hi;obtain⟨os,hos,hcs,hds⟩:=id hs;have hTs:s.TypeIs (.ref sl) "slice":=⟨os,hos,hcs⟩;unfold getItem
 try with_reducible refine wpAny_holding ?_
 first|refine wpAny_bind (wpAny_pure ?_)|skip
 refine wpAny_bind (wpAny_sequenceKey ht.typeIs (by decide) ?_)
 refine wpAny_bind (wpAny_callSpecial?_slot (name:=Str.ofString "__getitem__") ht.typeIs PyProof.Rows.slot_tuple_getitem
  (wpAny_call_entry PyProof.Rows.slot_tuple_getitem ht.typeIs entry_tuple_getitem ?_ (args_tuple_getitem _ _)))
 show wpAny _ _ (Builtin.Tuple.tupleItemsOf (.ref t) >>= _) _ _ s;refine wpAny_bind (tupleItemsOf_ ht ?_);refine wpAny_bind (wpAny_typeOf hTs ?_);rw[if_pos (by decide)]
 refine wpAny_bind (sliceApplied_gen hs pl pu ?_)
 have hno:¬ ((((sIx items.size 0 lo:Nat):Int) == 0 && (1:Int) == 1 && (sIx items.size items.size hi-sIx items.size 0 lo) == items.size)=true):=by
  intro q;rw[Bool.and_eq_true,Bool.and_eq_true] at q;have q1:((sIx items.size 0 lo:Nat):Int)=0:=eq_of_beq q.1.1;have q2:sIx items.size items.size hi-sIx items.size 0 lo=items.size:=eq_of_beq q.2;exact hw ⟨by omega,by omega⟩
 show wpAny _ _ (if (((sIx items.size 0 lo:Nat):Int) == 0 && (1:Int) == 1 && (sIx items.size items.size hi-sIx items.size 0 lo) == items.size)=true then _ else _) _ _ s
 rw[if_neg hno,Bs]
 first
  |exact wpAny_bind (m:=Builtin.Tuple.tupleExact _) (wpAny_newObj_type (wpAny_pure ⟨_,rfl,wpAny_pure h⟩) htake)
  |exact wpAny_bind (m:=Builtin.Tuple.tupleExact _) (wpAny_newObj_type (wpAny_bind (wpAny_pure (wpAny_pure ⟨_,rfl,wpAny_pure h⟩))) htake)
  |exact wpAny_bind (wpAny_bind (m:=Builtin.Tuple.tupleExact _) (wpAny_newObj_type (wpAny_pure (wpAny_pure ⟨_,rfl,wpAny_pure h⟩)) htake))
  |exact wpAny_bind (wpAny_bind (m:=Builtin.Tuple.tupleExact _) (wpAny_newObj_type (wpAny_pure ⟨_,rfl,wpAny_pure h⟩) htake))
end
end HT
namespace L2
open PySem PySem.Spec PyProof.Rows
noncomputable abbrev TO:=St->Hp->(Option Int->Hp->Prop)->Prop
noncomputable def PO(X:Cx)(e:Option Expr)(t:TO):Prop:=
 ∀(pins:List (Addr×Obj)) (s:Shared) (σ:St) (H:Hp) (Q:Option Int->Hp->Prop),Inv X pins σ H s->t σ H Q ->
  wpAny (model X.prog X.w) X.A (evalPart e X.env) (fun u s'=>∃o H',Inv X pins σ H' s'/\IsPart u o/\Q o H') X.xe s
noncomputable def xz:TO:=fun _ H Q=>Q none H
noncomputable def D1(t:TE):TO:=fun σ H Q=>t σ H fun x H1=>∃i,x=.int i/\Q (some i) H1
theorem n9{ns:List Int}:∀ {us:List Value},aT (ns.map V.int) us->IntsAre us ns:=by
 induction ns with
 |nil=>intro us r;rw[List.map_nil] at r;cases r;exact .nil
 |cons n ns ih=>
  intro us r;rw[List.map_cons] at r
  cases r with
  |cons r1 r2=>
   obtain⟨t,e⟩:=r1;subst e;exact .cons n t (ih r2)
section
variable{X:Cx}{e:Expr}{te:TE}{lo hi:Option Expr}{tl th:TO}{pos p2:Pos}
theorem mQ:PO X none xz:=by
 intro pins s σ H Q I h;rw[evalPart_none];exact wpAny_pure ⟨none,H,I,.none,h⟩
theorem jw(h:PE X e te):PO X (some e) (D1 te):=by
 intro pins s σ H Q I hw;rw[evalPart_some];refine thn (h pins s σ H _ I hw) fun u s1 ⟨x,H1,I1,r1,q1⟩=>?_;obtain⟨i,rfl,q⟩:=q1;obtain⟨t,rfl⟩:=r1;exact⟨some i,H1,I1,.int i t,q⟩
noncomputable def SlR(X:Cx)(r:V->Option Int->Option Int->Hp->VK->Prop):Prop:=
 ∀(pins:List (Addr×Obj)) (s:Shared) (σ:St) (H:Hp) (x:V) (v vl vu:Value) (lo hi:Option Int) (sl:Addr) (Q:VK),Inv X pins σ H s->bq x v->s.heap.IsSliceOf sl vl vu .none->IsPart vl lo->IsPart vu hi->r x lo hi H Q ->
  ∃T id,typeLookup (.type T) "__getitem__"=pure (some (.builtin id))/\s.TypeIs v T/\wpAny (model X.prog X.w) X.A (getItem v (.ref sl)) (EP X pins σ Q) X.xe s
noncomputable def tSl(r:V->Option Int->Option Int->Hp->VK->Prop)(te:TE)(tl th:TO):TE:=fun σ H Q=>te σ H fun x H1=>tl σ H1 fun l H2=>th σ H2 fun u H3=>r x l u H3 Q
theorem iX{r:V->Option Int->Option Int->Hp->VK->Prop}(hr:SlR X r)(he:PE X e te)(hl:PO X lo tl)(hu:PO X hi th):PE X (.Subscript e (.Slice lo hi none p2) pos) (tSl r te tl th):=.mk <| by
 intro pins s σ H Q I h;refine Subscript_ (thn (he pins s σ H _ I h) fun v s1 ⟨x,H1,I1,r1,q1⟩=>?_);refine wpAny_Slice (thn (hl pins s1 σ H1 _ I1 q1) fun vl s2 ⟨l,H2,I2,pl,q2⟩=>thn (hu pins s2 σ H2 _ I2 q2) fun vu s3 ⟨u,H3,I3,pu,q3⟩=>?_);rw[evalPart_none];refine wpAny_pure ?_;have I4:Inv X pins σ H3 { s3 with heap:=s3.heap.push { cls:=.type "slice",data:=.fields #[vl,vu,.none] } }:=I3.kept (t':=s3.toks) fun b ob q=>Heap.get?_push_of_some _ q
 obtain⟨T,id,hT,ht,hg⟩:=hr pins { s3 with heap:=s3.heap.push { cls:=.type "slice",data:=.fields #[vl,vu,.none] } } σ H3 x v vl vu l u s3.heap.objs.size Q I4 r1 (Heap.IsSliceOf.new ..) pl pu q3;show wpAny (model X.prog X.w) X.A (subscriptTail e (.Slice lo hi none p2) v (.ref s3.heap.objs.size)) (EP X pins σ Q) X.xe { s3 with heap:=s3.heap.push { cls:=.type "slice",data:=.fields #[vl,vu,.none] } };exact tail_any (ops:=[.ref s3.heap.objs.size,v]) ht hT hg (by with_unfolding_all rfl)
noncomputable def lJ(xs:List V)(lo hi:Option Int):List V:=(xs.drop (HT.sIx xs.length 0 lo)).take (HT.sIx xs.length xs.length hi-HT.sIx xs.length 0 lo)
theorem l4(xs:List V)(lo hi:Option Int):(lJ xs lo hi).length<=xs.length:=by
 unfold lJ;rw[List.length_take,List.length_drop];omega
noncomputable def HQ(K:W.Frag):V->Option Int->Option Int->Hp->VK->Prop:=fun x lo hi H Q=>∃a xs,x=.ref a/\SqT K H a xs /\
 ¬ (HT.sIx xs.length 0 lo=0/\HT.sIx xs.length xs.length hi=xs.length)/\∀p,H p=none->Q (.ref p) (upd H p (.tup (lJ xs lo hi)))
theorem Fh:SlR X (HQ X.K):=by
 intro pins s σ H x v vl vu lo hi sl Q I rx hs pl pu h;obtain⟨a,xs,rfl,hx,hw,q⟩:=h;cases rx;obtain⟨its,r,ht,hz⟩:=I.tuple hx;have hlen:its.toArray.size=xs.length:=by rw[List.size_toArray];exact r.length.symm
 refine⟨"tuple",_,PyProof.Rows.slot_tuple_getitem.lookup,ht.typeIs,?_⟩;refine HT.getItem_tuple_cut ht hs pl pu (by rw[hlen];exact hw) ?_ (by rw[hlen];exact hz)
 rw[hlen];refine⟨.ref s.heap.objs.size,_,I.laid (t':=s.toks) (o:=.tup (lJ xs lo hi)) (fun b ob q=>Heap.get?_push_of_some _ q) (Nat.le_refl _) ?_,rfl,q _ (I.hok.fresh (Nat.le_refl _))⟩;exact⟨Nat.le_trans (l4 xs lo hi) hz,_,(r.drop (HT.sIx xs.length 0 lo)).take (HT.sIx xs.length xs.length hi-HT.sIx xs.length 0 lo),rL.new _ _⟩
noncomputable def GS(K:W.Frag):R2:=fun x y H Q=>∃a b xs ys,x=.ref a/\y=.ref b/\SqT K H a xs/\SqT K H b ys/\xs≠[]/\xs.length+ys.length<=sizeLine /\
 (ys=[]->Q (.ref a) H)/\(ys≠[]->∀p,H p=none->Q (.ref p) (upd H p (.tup (xs++ys))))
theorem aT.IJ{xs:List V}{us:List Value}(r:aT xs us):us=[]↔xs=[]:=by
 cases r with
 |nil=>simp
 |cons _ _=>simp
theorem CJ:OpR X (binaryOp .Add) (GS X.K):=by
 intro pins s σ H x y v u Q I rx ry h;obtain⟨a,b,xs,ys,rfl,rfl,ha,hb,hx,hz,q1,q2⟩:=h;cases rx;cases ry;obtain⟨its,r1,p1,_⟩:=I.tuple ha;obtain⟨its2,r2,p2,_⟩:=I.tuple hb;refine HT.cat_tup p1 p2 (fun z=>hx (r1.IJ.mp z)) (fun z=>⟨.ref a,H,I,rfl,q1 (r2.IJ.mp z)⟩) (fun z=>?_) (by rw[←r1.length,←r2.length];exact hz)
 refine⟨.ref s.heap.objs.size,_,I.laid (t':=s.toks) (o:=.tup (xs++ys)) (fun b ob q=>Heap.get?_push_of_some _ q) (Nat.le_refl _) ?_,rfl,q2 (fun w=>z (r2.IJ.mpr w)) _ (I.hok.fresh (Nat.le_refl _))⟩;exact⟨by rw[List.length_append];exact hz,_,r1.append r2,rL.new _ _⟩
end
noncomputable def ixN(n:Nat)(i:Int):Option Nat:=if 0<=i then (if i<n then some i.toNat else none) else if -(n:Int)<=i then some (i+n).toNat else none
noncomputable def atI{α:Type}(xs:List α)(i:Int):Option α:=(ixN xs.length i).bind fun j=>xs[j]?
theorem vZ{n:Nat}{i:Int}{j:Nat}(h:ixN n i=some j):seqIndex? i n=some j/\j<n/\-(n:Int)<=i/\i<n:=by
 unfold ixN at h;by_cases h0:0<=i
 ·rw[if_pos h0] at h
  by_cases h1:i<n
  ·rw[if_pos h1] at h
   have e:i.toNat=j:=Option.some.inj h;exact⟨by rw[seqIndex_of h0 h1,e],by omega,by omega,h1⟩
  ·rw[if_neg h1] at h;cases h
 ·rw[if_neg h0] at h
  by_cases h1:-(n:Int)<=i
  ·rw[if_pos h1] at h
   have e:(i+n).toNat=j:=Option.some.inj h;exact⟨by rw[seqIndex_neg (by omega) h1,e],by omega,h1,by omega⟩
  ·rw[if_neg h1] at h;cases h
theorem qy{α:Type}{xs:List α}{i:Int}{v:α}(h:atI xs i=some v):∃j,seqIndex? i xs.length=some j/\xs[j]?=some v/\j<xs.length/\-(xs.length:Int)<=i/\i<xs.length:=by
 unfold atI at h
 cases e:ixN xs.length i with
 |none=>rw[e] at h;cases h
 |some j=>
  rw[e] at h;obtain⟨h1,h2,h3,h4⟩:=vZ e;exact⟨j,h1,h,h2,h3,h4⟩
noncomputable def Co(b:Expr):Prop:=∀o i,subscripted b false o i=operate [o,i] (getItem o i)
noncomputable def IxR(X:Cx)(r:R2):Prop:=
 ∀(value slice:Expr) (pins:List (Addr×Obj)) (s:Shared) (σ:St) (H:Hp) (x y:V) (v u:Value) (Q:VK),Inv X pins σ H s->bq x v->bq y u->r x y H Q ->
  subscripted slice false v u=operate [v,u] (getItem v u)->wpAny (model X.prog X.w) X.A (subscriptTail value slice v u) (EP X pins σ Q) X.xe s
noncomputable def MtR(X:Cx)(id:String)(r:V->List V->Hp->VK->Prop):Prop:=
 ∀(pins:List (Addr×Obj)) (s:Shared) (σ:St) (H:Hp) (x:V) (xs:List V) (v:Value) (us:List Value) (Q:VK),Inv X pins σ H s->bq x v->aT xs us->r x xs H Q ->
  wpAny (model X.prog X.w) X.A (call (.builtin id) (v::us)) (EP X pins σ Q) X.xe s
section
variable{X:Cx}{a b:Expr}{ta tb:TE}{pos:Pos}
theorem IxR.or{r r':R2}(h:IxR X r)(h':IxR X r'):IxR X (fun x y H Q=>r x y H Q\/r' x y H Q):=by
 intro value slice pins s σ H x y v u Q I rx ry q hs;rcases q with q|q
 ·exact h value slice pins s σ H x y v u Q I rx ry q hs
 ·exact h' value slice pins s σ H x y v u Q I rx ry q hs
theorem bh{r:R2}(hr:IxR X r)(ha:PE X a ta)(hb:PE X b tb)(hs:Co b):PE X (.Subscript a b pos) (tOp r ta tb):=.mk <| by
 intro pins s σ H Q I h;exact Subscript_ (FH ha hb I h fun v u s2 x y H2 I2 rx ry q=>hr a b pins s2 σ H2 x y v u Q I2 rx ry q (hs _ _))
noncomputable def Fv(K:W.Frag):R2:=fun x y H Q=>∃p xs i v,x=.ref p/\y=.int i/\SqL K H p xs/\atI xs i=some v/\Q v H
noncomputable def FZ(K:W.Frag):R2:=fun x y H Q=>∃p xs i v,x=.ref p/\y=.int i/\SqT K H p xs/\atI xs i=some v/\Q v H
noncomputable def Hq:R2:=fun x y H Q=>∃z i c,x=.str z/\y=.int i/\z.length<=sizeLine/\atI z.cps.toList i=some c/\Q (.str ⟨#[c]⟩) H
theorem CL:IxR X (Fv X.K):=by
 intro value slice pins s σ H x y v u Q I rx ry h hs;obtain⟨p,xs,i,z,rfl,rfl,hq,he,q⟩:=h;cases rx;obtain⟨t,rfl⟩:=ry;obtain⟨its,r,pl,hz⟩:=I.list hq;obtain⟨j,h1,h2,h3,h4,h5⟩:=qy he;obtain⟨w,ew,rw'⟩:=r.get h2;have hl:=r.length;have hn:=kZ;have fin:EP X pins σ Q w s:=⟨z,H,I,rw',q⟩;by_cases h0:0<=i
 ·have hj:i.toNat=j:=by
   rw[seqIndex_of h0 h5] at h1;exact Option.some.inj h1
  exact item_listR pl.isList h0 (by omega) (by rw[hj];simpa using ew) fin hs
 ·have hj:(i+(its.toArray.size:Int)).toNat=j:=by
   rw[seqIndex_neg (by omega) h4] at h1
   rw[List.size_toArray,←hl]
   exact Option.some.inj h1
  exact subscriptTail_builtinR (x:=w) pl.isList.typeIs slot_list_getitem.lookup
   (wpAny_getItem_list_neg (Q:=fun r s'=>r=w/\EP X pins σ Q r s') pl.isList (by omega) (by rw[List.size_toArray]<;>omega) (by omega) (by rw[hj];simpa using ew) ⟨rfl,fin⟩) hs
theorem EL:IxR X (FZ X.K):=by
 intro value slice pins s σ H x y v u Q I rx ry h hs;obtain⟨p,xs,i,z,rfl,rfl,hq,he,q⟩:=h;cases rx;obtain⟨t,rfl⟩:=ry;obtain⟨its,r,pl,hz⟩:=I.tuple hq;obtain⟨j,h1,h2,h3,h4,h5⟩:=qy he;obtain⟨w,ew,rw'⟩:=r.get h2;have hl:=r.length;have hn:=kZ;have fin:EP X pins σ Q w s:=⟨z,H,I,rw',q⟩
 exact subscriptTail_builtinR (x:=w) pl.typeIs slot_tuple_getitem.lookup
  (getItem_tuple (j:=j) (Q:=fun r s'=>r=w/\EP X pins σ Q r s') pl (by omega) (by omega) (by rw[List.size_toArray,←hl];exact h1) (by simpa using ew) ⟨rfl,fin⟩) hs
theorem EW:IxR X Hq:=by
 intro value slice pins s σ H x y v u Q I rx ry h hs;obtain⟨z,i,c,rfl,rfl,hz,he,q⟩:=h;obtain⟨t,rfl⟩:=rx;obtain⟨t',rfl⟩:=ry;obtain⟨j,h1,h2,h3,h4,h5⟩:=qy he;have hl:z.cps.toList.length=z.length:=by simp[Str.length]
 rw[hl] at h1 h4 h5;have hn:=kZ
 exact tail_any (typeIs_str s z t) slot_str_getitem.lookup (getItem_str (c:=c) (by
  have e1:decide (i < -(2^63:Int))=false:=decide_eq_false (by omega)
  have e2:decide (i ≥ 2^63)=false:=decide_eq_false (by omega)
  rw[e1,e2,Bool.or_false]) (by rw[h1];simpa using h2) ⟨.str ⟨#[c]⟩,H,I.tok _,⟨_,rfl⟩,q⟩) hs
noncomputable def rIx(K:W.Frag):R2:=fun x y H Q=>Fv K x y H Q\/FZ K x y H Q\/Hq x y H Q
theorem FP:IxR X (rIx X.K):=CL.or (EL.or EW)
theorem vx(its:List Value)(n j:Nat)(u:Value):Obj.mapSeq (·.setIfInBounds j u) { cls:=.type "list",data:=.seq its.toArray n }={ cls:=.type "list",data:=.seq (its.set j u).toArray n }:=by
 simp[Obj.mapSeq]
theorem Inv.lst{pins:List (Addr×Obj)}{σ:St}{H:Hp}{s:Shared}{p:Addr}{xs:List V}(I:Inv X pins σ H s)(h:H p=some (.lst xs)):
  ∃(its:List Value)(n:Nat),aT xs its/\s.heap.get? p=some { cls:=.type "list",data:=.seq its.toArray n }/\xs.length<=sizeLine:=by
 obtain⟨z,its,n,r,e⟩:=I.hok p _ h;exact⟨its,n,r,e,z⟩
theorem Inv.IS{pins:List (Addr×Obj)}{σ:St}{H:Hp}{s:Shared}{p:Addr}{xs ys:List V}{its its':List Value}{n n':Nat}{f:Obj->Obj}(I:Inv X pins σ H s)(h:H p=some (.lst xs))(ho:s.heap.get? p=some { cls:=.type "list",data:=.seq its.toArray n })(hf:f { cls:=.type "list",data:=.seq its.toArray n }={ cls:=.type "list",data:=.seq its'.toArray n' })(r:aT ys its')(hz:ys.length<=sizeLine)(t:Nat):
  Inv X pins σ (upd H p (.lst ys)) { s with heap:=s.heap.update p f,toks:=t }:=by
 have e:(s.heap.update p f).get? p=some { cls:=.type "list",data:=.seq its'.toArray n' }:=by
  rw[Heap.get?_update_self f ho (by rw[hf]<;>rfl),hf]
 refine I.write (x:=p) (e:=p) (by rw[h];trivial) (.inl rfl) (fun b u hb q=>(Heap.get?_update_other _ _ (Ne.symm hb)).trans q) ⟨_,e⟩ ?_
 exact⟨hz,its',n',r,e⟩
noncomputable def Dt:V->V->V->Hp->(Hp->Prop)->Prop:=fun o i v H Q=>∃p xs k j,o=.ref p/\i=.int k/\H p=some (.lst xs)/\ixN xs.length k=some j/\Q (upd H p (.lst (xs.set j v)))
theorem iS:GP X Dt:=by
 intro pins s σ H o i v ov iv u Q I ro ri rv h;obtain⟨p,xs,k,j,rfl,rfl,hp,hj,q⟩:=h;cases ro;obtain⟨t,rfl⟩:=ri;obtain⟨its,n,r,ho,hz⟩:=I.lst hp;obtain⟨h1,h2,h3,h4⟩:=vZ hj;have hl:=r.length;have hn:=kZ
 have I':Inv X pins σ (upd H p (.lst (xs.set j v))) { s with heap:=s.heap.update p (Obj.mapSeq (·.setIfInBounds j u)) }:=
  I.IS hp ho (vx its n j u) (r.set rv j) (by rw[List.length_set];exact hz) s.toks
 by_cases h0:0<=k
 ·have hk:k.toNat=j:=by
   rw[seqIndex_of h0 h4] at h1;exact Option.some.inj h1
  exact W.ki_setAt ho h0 (by omega) (by rw[List.size_toArray,←hl];exact h4) (by rw[hk];exact⟨_,I',q⟩)
 ·have hk:(k+(its.toArray.size:Int)).toNat=j:=by
   rw[seqIndex_neg (by omega) h3] at h1
   rw[List.size_toArray,←hl]
   exact Option.some.inj h1
  exact W.ki_setBack ho (by omega) (by rw[List.size_toArray,←hl];exact h3) (by omega) (by rw[hk];exact⟨_,I',q⟩)
theorem qd(lo hi:Option Int)(n:Nat):(sliceBounds lo hi none n).1=((HT.sIx n 0 lo:Nat):Int)/\(sliceBounds lo hi none n).2.1=((HT.sIx n n hi:Nat):Int)/\(sliceBounds lo hi none n).2.2=1:=by
 refine⟨?_,?_,rfl⟩
 ·cases lo with
  |none=>simp[sliceBounds,HT.sIx]
  |some i=>
   simp only[sliceBounds,HT.sIx,Option.getD_none,show (1:Int)>0 by decide,if_true]
   by_cases h:i<0
   ·simp only[h,if_true]<;>omega
   ·simp only[h,if_false]<;>omega
 ·cases hi with
  |none=>simp[sliceBounds,HT.sIx]
  |some i=>
   simp only[sliceBounds,HT.sIx,Option.getD_none,show (1:Int)>0 by decide,if_true]
   by_cases h:i<0
   ·simp only[h,if_true]<;>omega
   ·simp only[h,if_false]<;>omega
theorem oU(its:List Value)(lo hi:Option Int):slicePick its.toArray lo hi none=((its.drop (HT.sIx its.length 0 lo)).take (HT.sIx its.length its.length hi-HT.sIx its.length 0 lo)).toArray:=by
 obtain⟨h1,h2,h3⟩:=qd lo hi its.toArray.size;unfold slicePick;rw[h1,h2,h3];simp only[sliceRange_one,pick_run,List.size_toArray]<;>rfl
noncomputable def G7(K:W.Frag):V->Option Int->Option Int->Hp->VK->Prop:=fun x lo hi H Q=>∃a xs,x=.ref a/\SqL K H a xs/\∀p,H p=none->Q (.ref p) (upd H p (.lst (lJ xs lo hi)))
theorem Ct:SlR X (G7 X.K):=by
 intro pins s σ H x v vl vu lo hi sl Q I rx hs pl pu h;obtain⟨a,xs,rfl,hx,q⟩:=h;cases rx;obtain⟨its,r,ht,hz⟩:=I.list hx;have hlen:=r.length;refine⟨"list",_,slot_list_getitem.lookup,ht.isList.typeIs,?_⟩;refine wpAny_getItem_list_slice ht.isList hs pl pu .none (by simp) ?_ (by rw[List.size_toArray]<;>omega)
 rw[oU,←hlen]
 refine⟨.ref s.heap.objs.size,_,I.laid (t':=s.toks) (o:=.lst (lJ xs lo hi)) (fun b ob q=>Heap.get?_push_of_some _ q) (Nat.le_refl _) ?_,rfl,q _ (I.hok.fresh (Nat.le_refl _))⟩;exact⟨Nat.le_trans (l4 xs lo hi) hz,_,0,(r.drop (HT.sIx xs.length 0 lo)).take (HT.sIx xs.length xs.length hi-HT.sIx xs.length 0 lo),Heap.get?_push_size _ rfl⟩
theorem oP:c6 X (.type "tuple") (fun xs H Q=>∃p ys,xs=[.ref p]/\((SqL X.K H p ys/\∀l,H l=none->Q (.ref l) (upd H l (.tup ys)))\/(SqT X.K H p ys/\Q (.ref p) H))):=by
 intro pins s σ H xs us Q I r h;obtain⟨p,ys,rfl,h⟩:=h;obtain⟨u,rfl,rx⟩:=gi r;cases rx;rcases h with⟨hq,q⟩|⟨hq,q⟩
 ·obtain⟨its,r',pl,hz⟩:=I.list hq
  have hlen:=r'.length;refine call_tuple_list pl.isList (fun h' kp=>?_) (by simp only[List.size_toArray]<;>omega)
  have I1:Inv X pins σ H { s with heap:=h' }:=I.kept (t':=s.toks) kp
  have I2:Inv X pins σ (upd H h'.objs.size (.tup ys)) { s with heap:=h'.push { cls:=.type "tuple",data:=.seq its.toArray } }:=
   I1.laid (t':=s.toks) (fun b o e=>Heap.get?_push_of_some _ e) (Nat.le_refl _) (show cE X.prog X.w _ _ _ (.tup ys) from ⟨hz,its,r',rL.new _ _⟩)
  exact⟨.ref h'.objs.size,_,I2,rfl,q _ (I1.hok.fresh (Nat.le_refl _))⟩
 ·obtain⟨its,r',pl,hz⟩:=I.tuple hq
  exact call_tuple_same pl ⟨.ref p,H,I,rfl,q⟩
noncomputable def tyV(K:W.Frag)(T:String)(x:V)(H:Hp):Prop:=match x with
 |.str _=>T="str"
 |.int _=>T="int"
 |.ref p=>(T="list"/\∃xs,SqL K H p xs)\/(T="tuple"/\∃o,K.lookup p=some o/\o.cls=.type "tuple"/\o.dict=none) \/
   (T="dict"/\((∃kvs,H p=some (.dK kvs))\/∃kvs,H p=some (.dT kvs)))\/(T="set"/\∃S n,H p=some (.set S n))
 |_=>False
theorem zG{pins:List (Addr×Obj)}{σ:St}{H:Hp}{s:Shared}{T:String}{x:V}{v:Value}(I:Inv X pins σ H s)(r:bq x v)(ty:tyV X.K T x H):
  s.TypeIs v T/\∀a,v=.ref a->∃ob,s.heap.get? a=some ob/\ob.dict=none:=by
 cases x with
 |str z=>
  obtain⟨t,rfl⟩:=r;cases (show T="str" from ty)
  exact⟨typeIs_str s z t,fun _ e=>nomatch e⟩
 |int i=>
  obtain⟨t,rfl⟩:=r;cases (show T="int" from ty)
  exact⟨typeIs_int s i t,fun _ e=>nomatch e⟩
 |ref p=>
  cases r;rcases ty with⟨rfl,xs,hq⟩|⟨rfl,o,hk,hc,hd⟩|⟨rfl,hk⟩|⟨rfl,S,n,hk⟩
  ·obtain⟨its,_,pl,_⟩:=I.list hq
   refine⟨pl.isList.typeIs,fun a e=>?_⟩;cases e;obtain⟨o,n,e,c,hd,_⟩:=pl;exact⟨o,e,hd⟩
  ·refine⟨⟨o,I.kIn p o hk,hc⟩,fun a e=>?_⟩
   cases e;exact⟨o,I.kIn _ o hk,hd⟩
  ·have z:∃o,s.heap.get? p=some o/\o.ExactDict:=by
    rcases hk with⟨kvs,hk⟩|⟨kvs,hk⟩
    ·obtain⟨_,_,_,_,o,_,_,e,ex,_⟩:=I.hok p _ hk
     exact⟨o,e,ex⟩
    ·obtain⟨_,_,_,_,o,_,_,e,ex,_⟩:=I.hok p _ hk
     exact⟨o,e,ex⟩
   obtain⟨o,e,ex⟩:=z;refine⟨⟨o,e,ex.1⟩,fun a e2=>?_⟩;cases e2;exact⟨o,e,ex.2.1⟩
  ·obtain⟨o,_,_,_,e,ex,_⟩:=I.hok p _ hk
   refine⟨⟨o,e,ex.1⟩,fun a e2=>?_⟩;cases e2;exact⟨o,e,ex.2.1⟩
 |_=>exact False.elim ty
noncomputable def Fg(K:W.Frag)(T:String)(r:V->List V->Hp->VK->Prop)(to:TE):TE:=fun σ H Q=>to σ H fun x H1=>tyV K T x H1/\r x [] H1 Q
noncomputable def tBM(K:W.Frag)(T:String)(r:V->List V->Hp->VK->Prop)(to:TE)(t:TA):TE:=fun σ H Q=>to σ H fun x H1=>tyV K T x H1/\t σ H1 fun xs H2=>r x xs H2 Q
variable{o e:Expr}{es:List Expr}{to:TE}{t:TA}{name:Str}{apos cpos:Pos}{T id:String}{r:V->List V->Hp->VK->Prop}
theorem ic(pa:PlainAttrs T)(slot:Slot T name id)(hty:typeOf (.builtin id)=pure (.type "method_descriptor"))(hm:MtR X id r)(ho:PE X o to)(hbase:attributeBase o name X.env (eval o X.env)=eval o X.env:=by rfl)(hline:(apos.endLine == cpos.line)=true:=by rfl):PE X (.Call (.Attribute o name apos) [] [] cpos) (Fg X.K T r to):=.mk <| by
 intro pins s σ H Q I h;refine wpAny_Call_method0_late hbase hline (thn (ho pins s σ H _ I h) fun v s1 ⟨x,H1,I1,r1,ty,q1⟩=>?_);obtain⟨h1,h2⟩:=zG I1 r1 ty;exact⟨T,id,pa,slot,hty,h1,h2,Calls.callWith_builtin rfl (PySem.evalArgs_none (hm pins s1 σ H1 x [] v [] Q I1 r1 .nil q1))⟩
theorem fx(pa:PlainAttrs T)(slot:Slot T name id)(hty:typeOf (.builtin id)=pure (.type "method_descriptor"))(hm:MtR X id r)(ho:PE X o to)(ha:PA X (e::es) t)(hbase:attributeBase o name X.env (eval o X.env)=eval o X.env:=by rfl)
  (hfew:((backTo cpos (starEach (e::es) X.env)).all (fun x=>!x.1) && (backToKw cpos (keywordEach [] X.env)).all (fun x=>x.1.isSome)
   && decide ((e::es).length+([]:List Keyword).length+(if ([]:List Keyword).isEmpty then 0 else 1)<30))=true:=by rfl)
  (hline:(apos.endLine == cpos.line)=true:=by rfl) (hs:starEach (e::es) X.env=(false,eval e X.env)::starEach es X.env:=by rfl) (hplain:(backTo cpos (starEach es X.env)).any (·.1)=false:=by rfl) :
  PE X (.Call (.Attribute o name apos) (e::es) [] cpos) (tBM X.K T r to t):=.mk <| by
 intro pins s σ H Q I h;refine wpAny_Call_method_late hbase hfew hline rfl (thn (ho pins s σ H _ I h) fun v s1 ⟨x,H1,I1,r1,ty,q1⟩=>?_);obtain⟨h1,h2⟩:=zG I1 r1 ty;refine⟨T,id,pa,slot,hty,h1,h2,?_⟩;have hA:=ha cpos pins s1 σ H1 _ I1 q1;rw[hs] at hA ⊢;refine Calls.callWith_builtin (by show (false || (backTo cpos (starEach es X.env)).any (·.1))=false;rw[hplain]<;>rfl) (Calls.evalArgs_plain ?_)
 exact thn hA fun us s2 ⟨vs,H2,I2,r2,q2⟩=>hm pins s2 σ H2 x vs v us Q I2 r1 r2 q2
end
noncomputable def MtM(X:Cx)(id:String)(r:V->List V->Hp->VK->Prop):Prop:=
 ∀(pins:List (Addr×Obj)) (s:Shared) (σ:St) (H:Hp) (x:V) (xs:List V) (v:Value) (us:List Value) (Q:VK),Inv X pins σ H s->bq x v->aT xs us->r x xs H Q ->
  wpAny (model X.prog X.w) X.A (call (.builtin id) (v::us)) (EP X pins σ Q) X.xe s
theorem aT.one:∀ {x:V} {us:List Value},aT [x] us->∃u,us=[u]/\bq x u
 |_,_,.cons r .nil=>⟨_,rfl,r⟩
theorem aT.two:∀ {x y:V} {us:List Value},aT [x,y] us->∃u v,us=[u,v]/\bq x u/\bq y v
 |_,_,_,.cons r (.cons q .nil)=>⟨_,_,rfl,r,q⟩
theorem aT.zero:∀ {us:List Value},aT [] us->us=[]
 |_,.nil=>rfl
theorem aT.dropLast{xs:List V}{us:List Value}(h:aT xs us):aT xs.dropLast us.dropLast:=by
 induction h with
 |nil=>exact .nil
 |cons r t ih=>
  cases t with
  |nil=>exact .nil
  |cons q t'=>exact .cons r ih
theorem aT.rep{xs:List V}{us:List Value}(h:aT xs us):∀k:Nat,aT (List.replicate k xs).flatten (List.replicate k us).flatten
 |0=>.nil
 |k+1=>by
  rw[List.replicate_succ,List.replicate_succ,List.flatten_cons,List.flatten_cons];exact aT.append h (aT.rep h k)
theorem uI{α:Type}(l:List α):l.eraseIdx (l.length-1)=l.dropLast:=by
 induction l with
 |nil=>rfl
 |cons a r ih=>
  cases r with
  |nil=>rfl
  |cons b r=>
   have e:(a::b::r).length-1=((b::r).length-1)+1:=by
    have h1:(a::b::r).length=r.length+2:=rfl;have h2:(b::r).length=r.length+1:=rfl;omega
   rw[e,List.eraseIdx_cons_succ,ih]
   all_goals rfl
theorem o8(its:List Value):∀(k:Nat)(acc:List Value),
  List.foldl (fun x1 x2=>x1++x2) acc.toArray (List.replicate k its.toArray)=(acc++(List.replicate k its).flatten).toArray
 |0,acc=>by simp
 |k+1,acc=>by
  have e:acc.toArray++its.toArray=(acc++its).toArray:=by simp
  have e2:(acc++its)++(List.replicate k its).flatten=acc++(List.replicate (k+1) its).flatten:=by
   rw[List.replicate_succ,List.flatten_cons,List.append_assoc]
  rw[←e2,←o8 its k (acc++its),←e,List.replicate_succ,List.foldl_cons]
section
variable{X:Cx}{pins:List (Addr×Obj)}{σ:St}{H:Hp}{s:Shared}{l b:Addr}{xs ys zs:List V}
theorem Inv.lset{its its':List Value}{n:Nat}{f:Array Value->Array Value}{t':Nat}(I:Inv X pins σ H s)(hH:H l=some (.lst xs))(e:s.heap.get? l=some { cls:=.type "list",data:=.seq its.toArray n })(hf:f its.toArray=its'.toArray)(hv:aT ys its')(hz:ys.length<=sizeLine):
  Inv X pins σ (upd H l (.lst ys)) { s with heap:=s.heap.update l (Obj.mapSeq f),toks:=t' }:=by
 have q:=PySem.IsL.update e f;rw[hf] at q;refine I.write (x:=l) (e:=l) (by rw[hH];exact trivial) (.inl rfl) (fun b' u hb hu=>(Heap.get?_update_other s.heap (Obj.mapSeq f) (Ne.symm hb)).trans hu) ⟨_,q⟩ ?_
 exact⟨hz,its',_,hv,q⟩
theorem Inv.lnew{its:List Value}{t':Nat}(I:Inv X pins σ H s)(hv:aT ys its)(hz:ys.length<=sizeLine):
  Inv X pins σ (upd H s.heap.objs.size (.lst ys)) { s with heap:=s.heap.push { cls:=.type "list",data:=.seq its.toArray },toks:=t' }:=
 I.laid (fun _ _ q=>Heap.get?_push_of_some _ q) (Nat.le_refl _) ⟨hz,its,0,hv,Heap.get?_push_size _ rfl⟩
theorem Inv.fresh(I:Inv X pins σ H s):H s.heap.objs.size=none:=I.hok.fresh (Nat.le_refl _)
theorem Inv.IN(I:Inv X pins σ H s)(hH:H l=some (.lst xs)):xs.length<=sizeLine/\∃(its:List Value)(n:Nat),aT xs its/\xs.length=its.length/\s.heap.get? l=some { cls:=.type "list",data:=.seq its.toArray n }:=by
 obtain⟨z,its,n,r,e⟩:=I.hok l _ hH;exact⟨z,its,n,r,r.length,e⟩
theorem rF{n:Nat}(h:n<=sizeLine):Builtin.List.listTooLong n=false:=by
 unfold Builtin.List.listTooLong;exact decide_eq_false (by omega)
end
section
variable{X:Cx}
noncomputable def xf:V->List V->Hp->VK->Prop:=fun x vs H Q=>∃l xs y,x=.ref l/\vs=[y]/\H l=some (.lst xs)/\xs.length<sizeLine/\Q .non (upd H l (.lst (xs++[y])))
theorem cP:MtM X "list.append" xf:=by
 intro pins s σ H x vs v us Q I rx rv h;obtain⟨l,xs,y,rfl,rfl,hH,hz,q⟩:=h;cases rx;obtain⟨u,rfl,ru⟩:=rv.one;obtain⟨z,its,n,r,hl,e⟩:=I.IN hH;refine call_meets F.slot_list_append ⟨_,e,rfl⟩ F.entry_list_append (F.args_list_append_2 _ _) (PySem.list_append l its.toArray n u (by rw[List.size_toArray];omega)) ⟨e,?_⟩
 refine⟨.non,_,I.lset (its':=its++[u]) hH e (by simp) (r.append (.cons ru .nil)) ?_,rfl,q⟩
 rw[List.length_append,List.length_singleton];omega
noncomputable def GK:V->List V->Hp->VK->Prop:=fun x vs H Q=>∃l xs y,x=.ref l/\vs=[]/\H l=some (.lst xs)/\xs[xs.length-1]?=some y/\Q y (upd H l (.lst xs.dropLast))
theorem iW:MtM X "list.pop" GK:=by
 intro pins s σ H x vs v us Q I rx rv h;obtain⟨l,xs,y,rfl,rfl,hH,hy,q⟩:=h;cases rx;have hus:=rv.zero;subst hus;obtain⟨z,its,n,r,hl,e⟩:=I.IN hH;obtain⟨u,hu,ru⟩:=r.get hy
 have hy':its.toArray[its.toArray.size-1]?=some u:=by
  show its.toArray[its.length-1]?=some u;rw[←Array.getElem?_toList,←hl]
  exact hu
 refine call_meets F.slot_list_pop ⟨_,e,rfl⟩ F.entry_list_pop (F.args_list_pop_1 _) (MeetsSeq.list_pop_last l its.toArray n u hy' (by rw[List.size_toArray];omega)) ⟨e,?_⟩
 refine⟨y,_,I.lset (its':=its.dropLast) hH e ?_ r.dropLast ?_,ru,q⟩
 ·show its.toArray.eraseIdxIfInBounds (its.toArray.size-1)=its.dropLast.toArray
  rw[List.size_toArray,List.eraseIdxIfInBounds_toArray,uI]
 ·rw[List.length_dropLast]
  omega
noncomputable def CP:R2:=fun x y H Q=>∃l b xs zs,x=.ref l/\y=.ref b/\H l=some (.lst xs)/\H b=some (.lst zs)/\xs.length+zs.length<=sizeLine/\∀p,H p=none->Q (.ref p) (upd H p (.lst (xs++zs)))
theorem bu:OpR X (binaryOp .Add) CP:=by
 intro pins s σ H x y v u Q I rx ry h;obtain⟨l,b,xs,zs,rfl,rfl,hH,hB,hz,q⟩:=h;cases rx;cases ry;obtain⟨z,its,n,r,hl,e⟩:=I.IN hH;obtain⟨z2,its2,n2,r2,hl2,e2⟩:=I.IN hB;refine PySem.P.add_list e e2 ?_ (by rw[List.size_toArray,List.size_toArray];omega)
 have ea:its.toArray++its2.toArray=(its++its2).toArray:=by simp
 rw[ea];exact⟨.ref _,_,I.lnew (t':=s.toks) (r.append r2) (by rw[List.length_append];omega),rfl,q _ I.fresh⟩
noncomputable def BZ:R2:=fun x y H Q=>∃l k xs,x=.ref l/\y=.int k/\H l=some (.lst xs)/\-(2^63)<=k/\k<2^63/\xs.length*k.toNat<=sizeLine /\
 ∀p,H p=none->Q (.ref p) (upd H p (.lst (List.replicate k.toNat xs).flatten))
theorem ra{α:Type}(xs:List α)(k:Nat):(List.replicate k xs).flatten.length=k*xs.length:=by
 induction k with
 |zero=>simp
 |succ k ih=>rw[List.replicate_succ,List.flatten_cons,List.length_append,ih,Nat.succ_mul,Nat.add_comm]
theorem kl:OpR X (binaryOp .Mult) BZ:=by
 intro pins s σ H x y v u Q I rx ry h;obtain⟨l,k,xs,rfl,rfl,hH,h1,h2,hz,q⟩:=h;cases rx;obtain⟨t,rfl⟩:=ry;obtain⟨z,its,n,r,hl,e⟩:=I.IN hH;have hlen:its.toArray.size*k.toNat<=sizeLine:=by rw[List.size_toArray,←hl];exact hz
 have hcap:¬ its.toArray.size*k.toNat>(2^63-1) / 8:=by
  have:(sizeLine:Nat)<=(2^63-1) / 8:=by decide
  omega
 have hfit:¬ (!Builtin.List.listFitsIndex k)=true:=by
  rw[fitsIndex_both h1 h2];exact Bool.false_ne_true
 have hlong:¬ Builtin.List.listTooLong (its.toArray.size*k.toNat)=true:=by
  rw[rF hlen];exact Bool.false_ne_true
 have hnew:List.foldl (fun x1 x2=>x1++x2) #[] (List.replicate (if its.toArray.isEmpty=true then 0 else k.toNat) its.toArray)=(List.replicate k.toNat its).flatten.toArray:=by
  have f0:∀m:Nat,List.foldl (fun x1 x2=>x1++x2) #[] (List.replicate m its.toArray)=(List.replicate m its).flatten.toArray:=fun m=>by
   have:=o8 its m [];rw[List.nil_append] at this;exact this
  rw[f0]
  cases its with
  |nil=>simp
  |cons a r'=>rw[if_neg (by simp)]
 refine wpAny_binaryOp_repeat_ref (T:="list") (U:="int") (by decide) ⟨_,e,rfl⟩ (fun s'=>typeIs_int s' k t) noFill_list_mul F.fills_int_mul F.slot_int_rmul repeat_list F.slot_int_index.lookup
  (call_meets F.slot_int_rmul (typeIs_int s k t) F.entry_int_rmul (F.args_int_rmul_2 _ _) (int___rmul___int_list k t l its.toArray n)
   ⟨e,rfl,⟨_,e,rfl⟩,call_meets F.slot_list_mul ⟨_,e,rfl⟩ F.entry_list_mul (F.args_list_mul_2 _ _) (AutoListH.list___mul___list_int_3 l its.toArray n k t hfit hcap hlong) ⟨e,?_⟩⟩)
 rw[hnew];exact⟨.ref _,_,I.lnew (t':=s.toks) (r.rep k.toNat) (by rw[ra,Nat.mul_comm];exact hz),rfl,q _ I.fresh⟩
end
section
variable{prog:Program}{w:World}{A:Around}{E:Value->Shared->Prop}{s:Shared}
set_option maxRecDepth 100000 in
end
noncomputable def Hn(i:Expr):Prop:=∀ov iv,subscripted i false ov iv=operate [ov,iv] (getItem ov iv)
theorem B2{prog:Program}{w:World}{A:Around}{E:Value->Shared->Prop}{s:Shared}{env:Env}{value slice:Expr}{pos:Pos}{T id:String}{Q:Value->Shared->Prop}(hl:typeLookup (.type T) "__getitem__"=pure (some (.builtin id)))(hs:Hn slice)(h:wpAny (model prog w) A (eval value env) (fun o s₁=>wpAny (model prog w) A (eval slice env) (fun i s₂=>s₂.TypeIs o T/\wpAny (model prog w) A (getItem o i) Q E s₂) E s₁) E s):
  wpAny (model prog w) A (eval (.Subscript value slice pos) env) Q E s:=by
 refine Subscript_ (wpAny_mono h (fun o s₁ h₁=>wpAny_mono h₁ (fun i s₂ h₂=>?_) fun _ _ x=>x) fun _ _ x=>x);obtain⟨hT,h₂⟩:=h₂;unfold subscriptTail;refine wpAny_bind ?_;rw[getitemInPython_of_ne hT.not_modules];refine wpAny_bind (wpAny_specialOf hT hl ?_)
 have fin:wpAny (model prog w) A (subscripted slice false o i) (fun r s₃=>wpAny (model prog w) A (letTemporaryGo value o r >>= fun _=>pure r) Q E s₃) E s₂:=by
  rw[hs o i];exact wpAny_operating (wpAny_mono h₂ (fun r s₃ h₃=>wpAny_bind (wpAny_letTemporaryGo (wpAny_pure h₃))) fun _ _ x=>x)
 first
  |exact wpAny_pure (wpAny_bind fin)
  |exact wpAny_bind (wpAny_pure (wpAny_bind fin))
  |exact wpAny_bind fin
structure M1(X:Cx)(o:Expr)(m:Str)(apos:Pos)(e:Expr)(cpos:Pos):Prop where
 base:attributeBase o m X.env (eval o X.env)=eval o X.env
 few:((backTo cpos (starEach [e] X.env)).all (fun x=>!x.1) && (backToKw cpos (keywordEach [] X.env)).all (fun x=>x.1.isSome)
  && decide (([e]:List Expr).length+([]:List Keyword).length+(if ([]:List Keyword).isEmpty then 0 else 1)<30))=true
 line:(apos.endLine == cpos.line)=true
 trees:backTo cpos (starEach [e] X.env)=[(false,eval e X.env)]
structure M2(X:Cx)(o:Expr)(m:Str)(apos:Pos)(e f:Expr)(cpos:Pos):Prop where
 base:attributeBase o m X.env (eval o X.env)=eval o X.env
 few:((backTo cpos (starEach [e,f] X.env)).all (fun x=>!x.1) && (backToKw cpos (keywordEach [] X.env)).all (fun x=>x.1.isSome)
  && decide (([e,f]:List Expr).length+([]:List Keyword).length+(if ([]:List Keyword).isEmpty then 0 else 1)<30))=true
 line:(apos.endLine == cpos.line)=true
 trees:backTo cpos (starEach [e,f] X.env)=[(false,eval e X.env),(false,eval f X.env)]
end L2
namespace Att
open PySem PySem.W PySem.Calls PyProof.Rows
theorem mt{P:Params}{h:Heap}:∀(ns:List Int)(vs:List Value),WellAll P h vs (ns.map WData.int)->IntsAre vs ns:=by
 intro ns
 induction ns with
 |nil=>
  intro vs w;rw[List.map_nil] at w;cases w;exact .nil
 |cons n ns ih=>
  intro vs w;rw[List.map_cons] at w
  cases w with
  |cons a b=>
   cases a;exact .cons _ _ (ih _ b)
theorem yD{l:OpenLaw}{n:Nat}(hn:l.most=some n){P:Params}{h:Heap}{args:List WData}{vals:List Value}(hpre:l.row.toRowW.claim.pre args=true)(hwl:WellAll P h vals args):
  ∃a vs ns,vals=[Value.ref a]/\args=[WData.list (ns.map WData.int)]/\h.get? a=some { cls:=.type "list",data:=.seq vs.toArray }/\IntsAre vs ns/\ns.length<=n:=by
 have hsh:WShape.hasAll [] args [.list .int]=true:=(pre_splitW hpre).1;have hc:l.pre.holds [] { args:=args }=true:=(pre_splitW hpre).2;obtain⟨d,r,rfl,h1,h2⟩:=hasAllW_cons hsh;obtain rfl:=hasAllW_nil h2;obtain⟨xs,rfl,h3⟩:=hasW_list h1;obtain⟨ns,rfl⟩:=items_int h3
 have hlen:ns.length<=n:=by
  unfold OpenLaw.pre at hc
  have h4:(WTm.not (.lt (.lit (.int (n:Int))) (.len (.arg 0)))).holds [] { args:=[.list (ns.map .int)] }=true:=by
   have h4:=(holds_andW hc).1;rw[hn] at h4;exact h4
  have h5:=condW_of h4 (w_not (w_lt w_lit (w_len_list (w_arg rfl))));rw[List.length_map] at h5;refine Nat.le_of_not_lt fun q=>?_;have q':(n:Int)<((ns.length:Nat):Int):=by omega
  first
   |(rw[decide_eq_true q'] at h5;exact absurd h5 (by decide))
   |(simp at h5;omega)
 cases hwl with
 |cons w1 w2=>
  cases w2
  cases w1 with
  |list ho hall=>exact⟨_,_,ns,rfl,rfl,ho,mt ns _ hall,hlen⟩
theorem yE(l:OpenLaw)(args:List WData):l.row.toRowW.claim.post args (.bool true) args=true:=
 postW_of (r:=l.row.toRowW) (X:=(true == true))
  (show WShape.has [] (.bool true) .bool=true by first|rfl|decide|simp[WShape.has,WShape.arms,WShape.armsAll])
  (show (WTm.eq .res (.lit (.bool true))).value [] { args:=args,res:=some (.bool true),after:=args }=some (.bool (true == true)) from w_eq_bool (w_res rfl) w_lit) rfl
theorem sW{l:OpenLaw}{n:Nat}{q:Program}{loose:List Str}{XP:(Str->Option Value)->Heap->Prop}{YP:World->Heap->Prop}{d:DefRec}(hn:l.most=some n)(hdf:d.params.defaults=[])
  (call:∀(w:World)(s₀ s₁:Shared)(mg mb:Str->Option Value)(fa:Addr)(o:Obj)(pm cd doc:Value)(a:Addr)(vs:List Value)(ns:List Int),
   Ground q loose [] XP w s₀ mg mb s₁.heap->YP w s₁.heap ->
   s₁.heap.get? fa=some o->o.data=.func (docDef d.name d.params d.body d.scope pm cd doc)->s₁.heap.CodeRec cd d.name->mg d.name=some (.ref fa) ->
   s₁.heap.get? a=some { cls:=.type "list",data:=.seq vs.toArray }->IntsAre vs ns->ns.length<=n->s₁.gens=#[] ->
   codeAny (model l.prog w) callerA (.call (.ref fa) ⟨[.ref a],[]⟩) (fun r s'=>r=.ok (.ret (.bool true))/\OldK s₁.heap s'.heap/\s'.os=s₁.os/\AllBare s'.gens) s₁) :
  WalkO q loose XP YP l.row.toRowW d [] (fun f vs=>PySem.call f vs):=by
 intro w s₀ s₁ mg mb G Y fa o pm cd doc dV kV ho hd hcd hD hmg hg args vals as hpre hlay hrd hwl hlo;obtain rfl:dV=.none:=Dflts.none hD hdf;obtain rfl:kV=.none:=Dflts.noKw hD;obtain⟨a,vs,ns,rfl,rfl,hobj,hints,hlen⟩:=yD hn hpre hwl;refine enter_call (codeAny_mono (call w s₀ s₁ mg mb fa o pm cd doc a vs ns G Y ho (fd_plain hd) hcd hmg hobj hints hlen hg) fun r s' hq=>?_);obtain⟨rfl,h2,h3,h4⟩:=hq
 exact⟨.inl ⟨.bool true,.bool true,[],rfl,fun _=>rfl,.bool true,yE l _,fun _=>⟨List.Pairwise.nil,fun _ hm=>(nomatch hm)⟩⟩,h2,h3,h4⟩
end Att
namespace L2
open PySem PySem.Spec PyProof.Rows
theorem pN:∀ {vs:List Value} {ns:List Int},IntsAre vs ns->aT (ns.map V.int) vs
 |_,_,.nil=>.nil
 |_,_,.cons n t h=>.cons ⟨t,rfl⟩ (pN h)
noncomputable def Hm(_:Hp):Prop:=True
noncomputable abbrev KOf{K:W.Frag}{h:Heap}(_:K.In h):W.Frag:=K
noncomputable def defArgs(s:Stmt):Arguments:=match s with
 |.FunctionDef _ a _ _ _ _ _ _ _ _=>a
 |_=>{ posonlyargs:=[],args:=[],vararg:=none,kwonlyargs:=[],kw_defaults:=[],kwarg:=none,defaults:=[] }
noncomputable def defBody(s:Stmt):List Stmt:=match s with
 |.FunctionDef _ _ b _ _ _ _ _ _ _=>b
 |_=>[]
noncomputable def defScope(s:Stmt):Scope:=match s with
 |.FunctionDef _ _ _ _ _ _ sc _ _ _=>sc
 |_=>{ kind:=.function,names:=[],isGenerator:=false,isCoroutine:=false }
noncomputable abbrev CX0:CXT:=fun _ _ _ _ _ _=>False
noncomputable abbrev E0:XK:=fun _ _ _=>False
theorem ay{X:Cx}:uq CX0 X E0:=fun _ _ _ _ _ _ _ h=>h.elim
structure Fun(K:W.Frag)(x qual:Str)(st:Stmt)(f:Addr)(fd:FuncData):Prop where
 ex:∃(oc:Value)(od:Option Addr)(kV doc pm:Value)(an:Option Addr)(cdv ct:Value) (osl:Array (Option Value)),
  fd=W.fnOf x qual (defArgs st) (defBody st) (defScope st) .none kV doc pm an cdv ct/\K.lookup f=some ⟨oc,od,.func fd,osl⟩/\W.codeIn K cdv qual=true
 kp:W.keepIn K (.ref f)=true
section
variable{P:Program}{w:World}{K:W.Frag}{mg:Str->Option Value}{base:Heap}
theorem Fun.ok{x qual:Str}{st:Stmt}{f:Addr}{fd:FuncData}{N ps:List Str}{k:Nat}{sp:Sp}(F:Fun K x qual st f fd)(S:aM N ps (defScope st))(len:∀vs H Q E,sp vs H Q E->vs.length=ps.length)
  (hbody:∀(cdv:Value)(A:Around)(outer:List Env)(s:Shared)(H:Hp)(vs:List V)(Q:VK)(E:XK),eZ k (A.deeper (envOfC qual (defScope st) s.heap.objs.size f cdv))->sp vs H Q E ->
   ∃t,PSs (oQ CX0 P w K mg base N qual (defScope st) f cdv A outer s H E).nox (defBody st) t/\t { nx:=fun _ H'=>Q .non H',rt:=Q } (start N vs) H):aD P w K mg base CX0 (k+1) f fd ps sp:=by
 obtain⟨oc,od,kV,doc,pm,an,cdv,ct,osl,rfl,lk,hcd⟩:=F.ex;refine C7 lk hcd S len fun A outer s H vs Q E hr hsp=>?_;obtain⟨t,h,q⟩:=hbody cdv A outer s H vs Q E hr hsp;exact⟨t,h.nox,q⟩
theorem Fun.binds{x qual:Str}{st:Stmt}{f:Addr}{fd:FuncData}{ps:List Str}(F:Fun K x qual st f fd)(h:∀(kV doc pm:Value)(an:Option Addr)(cdv ct:Value)(us:List Value),us.length=ps.length->bindArgs (W.fnOf x qual (defArgs st) (defBody st) (defScope st) .none kV doc pm an cdv ct) ⟨us,[]⟩=pure (ps.zip us)):bo K fd ps []:=by
 obtain⟨oc,od,kV,doc,pm,an,cdv,ct,osl,rfl,lk,hcd⟩:=F.ex;exact .all (h kV doc pm an cdv ct)
theorem Bn{x qual:Str}{st:Stmt}{f:Addr}{oc:Value}{od an:Option Addr}{osl:Array (Option Value)}{kV doc pm cdv ct:Value}(l:K.lookup f=some ⟨oc,od,.func (W.fnOf x qual (defArgs st) (defBody st) (defScope st) .none kV doc pm an cdv ct),osl⟩)(c:W.codeIn K cdv qual=true)(k:W.keepIn K (.ref f)=true):Fun K x qual st f (W.fnOf x qual (defArgs st) (defBody st) (defScope st) .none kV doc pm an cdv ct):=⟨⟨oc,od,kV,doc,pm,an,cdv,ct,osl,rfl,l,c⟩,k⟩
end
theorem aS{n:Nat}(h:n<=1000):n<sizeLine:=Nat.lt_of_le_of_lt h (by decide)
section
variable{X:Cx}
theorem pv(i:Nat){x:Str}{pos:Pos}(hN:X.N[i]?=some x:=by rfl)(hv:Vis X.env.scope x:=by first|exact Or.inl rfl|exact Or.inr (Or.inl rfl)|exact Or.inr (Or.inr rfl))(hd:(x == ("__debug__":Str))=false:=by decide)(hcd:(x == ("__classdict__":Str))=false:=by decide):PE X (.Name x pos) (FM i):=ze hN hv hd hcd
end
theorem kR{c A B:Prop}[Decidable c](h1:c->A)(h2:¬ c->B):if c then A else B:=by
 by_cases h:c
 ·rw[if_pos h]
  exact h1 h
 ·rw[if_neg h]
  exact h2 h
noncomputable def dq(H H':Hp):Prop:=∀b o,H b=some o->H' b=some o
theorem dq.refl(H:Hp):dq H H:=fun _ _ h=>h
theorem dq.trans{H H1 H2:Hp}(a:dq H H1)(b:dq H1 H2):dq H H2:=fun c o h=>b c o (a c o h)
end L2
set_option maxHeartbeats 1000000
namespace L2
open PySem PySem.Spec PyProof.Rows
section
variable{prog:Program}{w:World}{A:Around}{E:Value->Shared->Prop}{R:Result->Shared->Prop}{s:Shared}
noncomputable def i7(elt:Expr)(gens:List Comprehension)(scope:Scope)(pos:Pos)(d:Nat)(acc:Value)(env:Env):Sem Unit:=
 match gens[d+1]? with
 |some g'=>do
  let x ← eval g'.iter env
  standAt g'.iter.pos
  let x ← if g'.is_async != 0 then foldedIterable g'.iter x else foldedSetIterable g'.iter env x
  let _ ← runOwn (.compStart (.ListComp elt gens scope pos) (d+1) (← holding [x] (if g'.is_async != 0 then asyncIter x else pyIter x)) acc env) env
 |none=>do let _ ← call (.builtin "list.append") [acc,←eval elt env]
theorem qA{elt target iter:Expr}{gens:List Comprehension}{ifs:List Expr}{scope:Scope}{pos:Pos}{d:Nat}{it acc:Value}{env:Env}(I:Nat->Shared->Prop)(hg:gens[d]?=some ⟨target,iter,ifs,0⟩)(ha:∀g',gens[d+1]?=some g'->g'.is_async=0)
  (turn:∀n s,I n s->wpAny (model prog w) A (pyNext it) (fun r s₁=>match r with
   |none=>R (.ok .next) s₁
   | some v=>wpAny (model prog w) A (letOwnedTupleGo target it v) (fun _ s₁'=>wpAny (model prog w) A (assign target env v) (fun _ s₂ =>
     wpAny (model prog w) A (forIn ifs true fun c r=>if r=true then do let ok ← isTrue c env (eval c env);pure (ForInStep.yield ok) else pure (ForInStep.yield r)) (fun ok s₃=>
      if ok=true then wpAny (model prog w) A (i7 elt gens scope pos d acc env) (fun _ s₅=>∃m,m<n/\I m s₅) (fun _ _=>False) s₃
      else ∃m,m<n/\I m s₃) (fun _ _=>False) s₂) (fun _ _=>False) s₁') (fun _ _=>False) s₁) (fun _ _=>False) s)
  (n:Nat) (h:I n s) :
  codeAny (model prog w) A (.compLoop (.ListComp elt gens scope pos) d it acc env) R s:=by
 refine codeAny_loop rfl I (fun n s hI=>?_) n h;show wpAny _ A ((compTurn (.ListComp elt gens scope pos) d it acc env).onRaise (fun x=>do noteFrame x env;theTreesLotGoes x)) _ _ s
 refine wpAny_noted ?_;unfold compTurn;simp only[hg];refine wpAny_bind (wpAny_standAt (wpAny_bind (wpAny_mono (turn n s hI) (fun r s₁ h₁=>?_) fun _ _ x=>x.elim)))
 cases r with
 |none=>exact wpAny_pure h₁
 |some v=>
  refine wpAny_bind (wpAny_mono h₁ (fun _ s₁' h₁'=>?_) fun _ _ x=>x.elim);refine wpAny_bind (wpAny_mono h₁' (fun _ s₂ h₂=>wpAny_bind (wpAny_mono h₂ (fun ok s₃ h₃=>?_) fun _ _ x=>x.elim)) fun _ _ x=>x.elim)
  cases ok with
  |false=>exact wpAny_pure ⟨rfl,h₃⟩
  |true=>
   have h₃':wpAny (model prog w) A (i7 elt gens scope pos d acc env) (fun _ s₅=>∃m,m<n/\I m s₅) (fun _ _=>False) s₃:=h₃;unfold i7 at h₃';rw[if_pos rfl]
   cases hd:gens[d+1]? with
   |none=>
    rw[hd] at h₃';exact wpAny_bind (wpAny_mono h₃' (fun _ s₅ h₅=>wpAny_pure ⟨rfl,h₅⟩) fun _ _ x=>x.elim)
   |some g'=>
    rw[hd] at h₃';have h0:=ha g' hd;have e0:(g'.is_async != 0)=false:=by rw[h0];rfl
    dsimp only at h₃' ⊢;simp only[e0,Bool.false_eq_true,if_false] at h₃' ⊢;intro Γ p hΓ;have q:=h₃' Γ p hΓ;simp only[Sem.wp_bind'] at q ⊢;refine Sem.wp_mono _ Γ _ (fun x p₁ s₄ q₁=>?_) (fun _ _ _ z=>z.elim) _ _ q;refine Sem.wp_mono _ Γ _ (fun _ p₂ s₄ q₂=>?_) (fun _ _ _ z=>z.elim) _ _ q₁;refine Sem.wp_mono _ Γ _ (fun x p₂ s₄ q₂=>?_) (fun _ _ _ z=>z.elim) _ _ q₂;refine Sem.wp_mono _ Γ _ (fun x p₂ s₄ q₂=>?_) (fun _ _ _ z=>z.elim) _ _ q₂
    refine Sem.wp_mono _ Γ _ (fun x p₂ s₄ q₂=>?_) (fun _ _ _ z=>z.elim) _ _ q₂;exact⟨rfl,q₂⟩
end
section
variable{prog:Program}{w:World}{A:Around}{E:Value->Shared->Prop}{R:Result->Shared->Prop}{s:Shared}
theorem oO{elt target iter:Expr}{gens:List Comprehension}{ifs:List Expr}{scope:Scope}{pos:Pos}{d:Nat}{it acc:Value}{env:Env}(hg:gens[d]?=some ⟨target,iter,ifs,0⟩)(h0:codeAny (model prog w) A (.compLoop (.ListComp elt gens scope pos) d it acc env) R s)(h:wpAny (model prog w) A (pyIter it) (fun it' s'=>codeAny (model prog w) A (.compLoop (.ListComp elt gens scope pos) d it' acc env) R s') (fun _ _=>False) s):
  codeAny (model prog w) A (.compStart (.ListComp elt gens scope pos) d it acc env) R s:=by
 refine codeAny_of_tree ?_;show wpAny _ _ ((compStart (.ListComp elt gens scope pos) d it acc env).onRaise (fun x=>do noteFrame x env;standAt theWindowsPlace)) _ _ s
 refine wpAny_notedAt ?_;unfold compStart;have hcl:clausesOf (.ListComp elt gens scope pos)=gens:=rfl;simp only[hcl,hg,Option.elim];refine wpAny_ite ?_;rw[if_neg (by decide)]
 refine wpAny_bind (wpAny_askSetting (wpAny_ite ?_));split
 ·first
   |exact wpAny_bind (wpAny_pure (wpAny_pure (And.intro rfl h0)))
   |exact wpAny_pure (And.intro rfl h0)
 ·exact wpAny_bind (wpAny_rule (wpAny_bind (wpAny_standAt (wpAny_bind (wpAny_mono h (fun it' s' h'=>wpAny_pure (And.intro rfl h')) fun _ _ x=>x.elim)))))
end
noncomputable abbrev TL:=Addr->St->Hp->(St->Hp->Prop)->Prop
noncomputable def PL(X:Cx)(elt:Expr)(gens:List Comprehension)(scope:Scope)(pos:Pos)(d:Nat)(t:TL):Prop:=
 ∀(pins:List (Addr×Obj)) (s:Shared) (σ:St) (H:Hp) (acc:Addr) (K:St->Hp->Prop),Inv X pins σ H s->t acc σ H K ->
  wpAny (model X.prog X.w) X.A (i7 elt gens scope pos d (.ref acc) X.env) (fun _ s'=>∃σ' H',Inv X pins σ' H' s'/\K σ' H') (fun _ _=>False) s
noncomputable def PTs(X:Cx)(ifs:List Expr)(t:TT):Prop:=
 ∀(pins:List (Addr×Obj)) (s:Shared) (σ:St) (H:Hp) (Q:Bool->Hp->Prop),Inv X pins σ H s->t σ H Q ->
  wpAny (model X.prog X.w) X.A (forIn ifs true fun c r=>if r=true then do let ok ← isTrue c X.env (eval c X.env);pure (ForInStep.yield ok) else pure (ForInStep.yield r)) (TP X pins σ Q) X.xe s
noncomputable def vK:TT:=fun _ H Q=>Q true H
noncomputable def DY(te:TE):TL:=fun acc σ H K=>te σ H fun y H1=>∃xs,H1 acc=some (.lst xs)/\xs.length<sizeLine/\K σ (upd H1 acc (.lst (xs++[y])))
noncomputable def BC(J:It)(g:TG)(tc:TT)(l:TL):TL:=fun acc σ H K=>∃W:Nat->Nat->St->Hp->Prop,(∃m,W 0 m σ H)/\∀i m σ H,W i m σ H ->
 (J.stop i H/\K σ H)\/(J.go i H/\∀x H',J.yld i H x H'->g x σ H' fun σ2 H2=>tc σ2 H2 fun b H3=>
  if b=true then l acc σ2 H3 (fun σ3 H4=>∃m',m'<m/\W (i+1) m' σ3 H4) else ∃m',m'<m/\W (i+1) m' σ2 H3)
section
variable{X:Cx}{elt:Expr}{gens:List Comprehension}{scope:Scope}{pos:Pos}{d:Nat}{te:TE}{l:TL}{tg iter:Expr}{ifs:List Expr}{wi:TI}{g:TG}{tc:TT}
theorem cu:PTs X [] vK:=fun pins s σ H Q I h=>wpAny_tests_nil ⟨H,I,h⟩
theorem mG{c:Expr}(hc:PT X c tc):PTs X [c] tc:=fun pins s σ H Q I h=>wpAny_tests_one (hc pins s σ H Q I h)
theorem bS(hx:X.xe=fun _ _=>False)(hd:gens[d+1]?=none)(he:PE X elt te):PL X elt gens scope pos d (DY te):=by
 intro pins s σ H acc K I h;unfold i7;rw[hd];have he':=he pins s σ H _ I h;rw[hx] at he';refine wpAny_bind (thn he' fun u s1 ⟨y,H1,I1,r1,xs,e1,z1,k1⟩=>?_);have ha:=cP pins s1 σ H1 (.ref acc) [y] (.ref acc) [u] (fun v H2=>v=.non/\H2=upd H1 acc (.lst (xs++[y]))) I1 rfl (.cons r1 .nil) ⟨acc,xs,y,rfl,rfl,e1,z1,rfl,rfl⟩;rw[hx] at ha;refine wpAny_bind (thn ha fun v s2 ⟨v',H2,I2,r2,e2,e3⟩=>wpAny_pure ⟨σ,H2,I2,by rw[e3];exact k1⟩)
theorem yG(hx:X.xe=fun _ _=>False)(hc:X.calm=true)(hd:gens[d]?=some ⟨tg,iter,ifs,0⟩)(ha:∀g',gens[d+1]?=some g'->g'.is_async=0)(hg:PG X tg g)(ht:PTs X ifs tc)(hl:PL X elt gens scope pos d l){pins:List (Addr×Obj)}{s:Shared}{σ:St}{H:Hp}{acc it:Addr}{fp:List Addr}{tn:Nat->Heap->Prop}{J:It}{K:St->Hp->Prop}{R:Result->Shared->Prop}(I:Inv X pins σ H s)(T:yF X.prog X.w X.K tg J fp it tn)(st:tn 0 s.heap)(f2:∀b∈fp,lC X pins H b)(h:BC J g tc l acc σ H K)(hR:∀σ' H' s',Inv X pins σ' H' s'->K σ' H'->R (.ok .next) s'):
  codeAny (model X.prog X.w) X.A (.compLoop (.ListComp elt gens scope pos) d (.ref it) (.ref acc) X.env) R s:=by
 obtain⟨W,⟨m0,w0⟩,turn⟩:=h;have stat:∀ {H':Hp},(∀b∈fp,H' b=none)->∀b∈fp,lC X pins H' b:=fun hn b hb=>⟨hn b hb,(f2 b hb).2⟩;refine qA (fun n s'=>∃i σ' H',Inv X pins σ' H' s'/\tn i s'.heap/\(∀b∈fp,H' b=none)/\W i n σ' H') hd ha ?_ m0 ⟨0,σ,H,I,st,fun b hb=>(f2 b hb).1,w0⟩;rintro n s3 ⟨i,σ3,H3,I3,st3,fr3,w3⟩;rcases turn i n σ3 H3 w3 with⟨stop,qn⟩|⟨go,step⟩
 ·refine thn (T.done X rfl rfl rfl hc i pins s3 σ3 H3 _ I3 (stat fr3) st3 stop) fun r s4 ⟨hr,I4⟩=>?_
  subst hr;exact hR σ3 H3 s4 I4 qn
 ·refine thn (T.item X rfl rfl rfl hc i pins s3 σ3 H3 _ I3 (stat fr3) st3 go) fun r s4 ⟨u,hr,h4⟩=>?_
  subst hr;refine thn h4 fun _ s5 ⟨x,H5,I5,r5,y5,st5,fr5⟩=>?_;have I5':=I5.pinned (stat fr5) (T.obj _ _ st5)
  have again:∀ {σ7:St} {H7:Hp} {s7:Shared} {m':Nat},Inv X (pins++mV fp s5.heap) σ7 H7 s7->m'<n->W (i+1) m' σ7 H7->∃m,m<n/\∃i σ' H',Inv X pins σ' H' s7/\tn i s7.heap/\(∀b∈fp,H' b=none)/\W i m σ' H':=fun {σ7 H7 s7 m'} I7 hm w7=>by
   refine⟨m',hm,i+1,σ7,H7,I7.unpinned,T.keep _ _ _ st5 fun b hb o e=>(I7.pin (b,o) (List.mem_append_right _ (List.mem_append_right _ (iy hb e)))).1,fun b hb=>?_,w7⟩;obtain⟨o,e,d⟩:=T.obj _ _ st5 b hb;exact(I7.pin (b,o) (List.mem_append_right _ (List.mem_append_right _ (iy hb e)))).2.1
  have hg':=hg _ s5 σ3 H5 x u _ I5' r5 (step x H5 y5);rw[hx] at hg';refine thn hg' fun _ s6 ⟨σ6,H6,I6,q6⟩=>?_;have ht':=ht _ s6 σ6 H6 _ I6 q6;rw[hx] at ht';refine thn ht' fun ok s7 ⟨H7,I7,q7⟩=>?_
  cases ok with
  |false=>
   rw[if_neg Bool.false_ne_true] at q7 ⊢;obtain⟨m',hm,w7⟩:=q7;exact again I7 hm w7
  |true=>
   rw[if_pos rfl] at q7 ⊢;refine thn (hl _ s7 σ6 H7 acc _ I7 q7) fun _ s8 ⟨σ8,H8,I8,m',hm,w8⟩=>?_;exact again I8 hm w8
end
noncomputable def iJ(env:Env):List (Str×NameKind)->List (Str×Addr)->List (Str×Addr)
 | [],acc=>acc
 |(n,k)::r,acc=>if k == .free then iJ env r ((n,(env.cells.lookup n).getD 0)::acc) else iJ env r acc
theorem uu{scope:Scope}{env:Env}(h:∀y∈scope.names,y.2=.free->∃c,env.cells.lookup y.1=some c):closureFor scope env=pure (iJ env scope.names []):=by
 have gen:∀(names:List (Str×NameKind)) (acc:List (Str×Addr)),(∀y∈names,y.2=.free->∃c,env.cells.lookup y.1=some c) ->
   (forIn names acc fun(x:Str×NameKind) (r:List (Str×Addr))=>(if (x.2 == NameKind.free)=true then do let a ← cellOf env x.1;pure (ForInStep.yield ((x.1,a)::r)) else pure (ForInStep.yield r):Sem _))=pure (iJ env names acc):=by
  intro names
  induction names with
  |nil=>intro acc _;rfl
  |cons y r ih=>
   intro acc hy;obtain⟨n,k⟩:=y;rw[List.forIn_cons];unfold iJ
   cases hk:k == NameKind.free with
   |true=>
    obtain⟨c,hc⟩:=hy (n,k) (List.mem_cons_self ..) (by simpa using hk)
    simp only[hk,if_true,cellOf,hc,Option.getD_some];exact ih _ fun y hy'=>hy y (List.mem_cons_of_mem _ hy')
   |false=>
    simp only[hk,Bool.false_eq_true,if_false];exact ih _ fun y hy'=>hy y (List.mem_cons_of_mem _ hy')
 have:=gen scope.names [] h;unfold closureFor;show ((forIn scope.names ([]:List (Str×Addr)) fun(x:Str×NameKind) (r:List (Str×Addr))=>(if (x.2 == NameKind.free)=true then do let a ← cellOf env x.1;pure (ForInStep.yield ((x.1,a)::r)) else pure (ForInStep.yield r):Sem _)) >>= fun z=>pure z)=_
 rw[this];rfl
theorem gH{env:Env}:∀ {names:List (Str×NameKind)} {acc:List (Str×Addr)} {n:Str} {c:Addr},(n,c)∈iJ env names acc->(n,c)∈acc\/((n,NameKind.free)∈names/\c=(env.cells.lookup n).getD 0)
 | [],_,_,_,h=>.inl h
 |(m,k)::r,acc,n,c,h=>by
  unfold iJ at h;split at h
  ·rename_i hk
   rcases gH h with h|⟨h1,h2⟩
   ·rcases List.mem_cons.mp h with e|e
    ·cases e
     have:k=.free:=by simpa using hk
     subst this;exact .inr ⟨List.mem_cons_self ..,rfl⟩
    ·exact .inl e
   ·exact .inr ⟨List.mem_cons_of_mem _ h1,h2⟩
  ·rcases gH h with h|⟨h1,h2⟩
   ·exact .inl h
   ·exact .inr ⟨List.mem_cons_of_mem _ h1,h2⟩
theorem kz{env:Env}:∀ {names:List (Str×NameKind)} {acc:List (Str×Addr)} {n:Str},((n,NameKind.free)∈names\/∃c,(n,c)∈acc)->∃c,(n,c)∈iJ env names acc
 | [],_,_,h=>by
  rcases h with h|h
  ·cases h
  ·exact h
 |(m,k)::r,acc,n,h=>by
  unfold iJ;split
  ·rename_i hk
   apply kz;rcases h with h|⟨c,h⟩
   ·rcases List.mem_cons.mp h with e|e
    ·cases e;exact .inr ⟨_,List.mem_cons_self ..⟩
    ·exact .inl e
   ·exact .inr ⟨c,List.mem_cons_of_mem _ h⟩
  ·rename_i hk
   apply kz;rcases h with h|h
   ·rcases List.mem_cons.mp h with e|e
    ·cases e;simp at hk
    ·exact .inl e
   ·exact .inr h
theorem gD:∀ {names:List (Str×NameKind)} {h:Heap} {acc:List (Str×Addr)} {n:Str} {c:Addr},(n,c)∈cellsFrom h.objs.size names acc ->
  (n,c)∈acc\/((n,NameKind.cell)∈names/\h.objs.size<=c/\(pushCells h names).IsCell c none)
 | [],_,_,_,_,m=>.inl m
 |(x,k)::r,h,acc,n,c,m=>by
  unfold cellsFrom at m;unfold pushCells;split at m
  ·rename_i hk
   rw[if_pos hk];have sz:(h.push { cls:=.type "cell",data:=.cell none }).objs.size=h.objs.size+1:=Heap.size_push ..;rw[←sz] at m
   rcases gD m with m|⟨m1,m2,m3⟩
   ·rcases List.mem_cons.mp m with e|e
    ·cases e
     have:k=.cell:=by simpa using hk
     subst this;exact .inr ⟨List.mem_cons_self ..,Nat.le_refl _,⟨_,pushCells_keeps _ _ _ _ (Heap.get?_push_size _ rfl),rfl⟩⟩
    ·exact .inl e
   ·exact .inr ⟨List.mem_cons_of_mem _ m1,by omega,m3⟩
  ·rename_i hk
   rw[if_neg hk];rcases gD m with m|⟨m1,m2,m3⟩
   ·exact .inl m
   ·exact .inr ⟨List.mem_cons_of_mem _ m1,m2,m3⟩
theorem dB:∀ {names:List (Str×NameKind)} {k:Nat} {acc:List (Str×Addr)} {n:Str},((n,NameKind.cell)∈names\/∃c,(n,c)∈acc)->∃c,(n,c)∈cellsFrom k names acc
 | [],_,_,_,h=>by
  rcases h with h|h
  ·cases h
  ·exact h
 |(m,k)::r,j,acc,n,h=>by
  unfold cellsFrom;split
  ·rename_i hk
   apply dB;rcases h with h|⟨c,h⟩
   ·rcases List.mem_cons.mp h with e|e
    ·cases e;exact .inr ⟨_,List.mem_cons_self ..⟩
    ·exact .inl e
   ·exact .inr ⟨c,List.mem_cons_of_mem _ h⟩
  ·rename_i hk
   apply dB;rcases h with h|h
   ·rcases List.mem_cons.mp h with e|e
    ·cases e;simp at hk
    ·exact .inl e
   ·exact .inr h
theorem gr:∀ {names:List (Str×NameKind)} {k:Nat} {acc:List (Str×Addr)},(∀n c,(n,c)∈acc->c<k)->(∀n m c,(n,c)∈acc->(m,c)∈acc->n=m) ->
  ∀n m c,(n,c)∈cellsFrom k names acc->(m,c)∈cellsFrom k names acc->n=m
 | [],_,_,_,h2,n,m,c,a,b=>h2 n m c a b
 |(x,kd)::r,k,acc,h1,h2,n,m,c,a,b=>by
  unfold cellsFrom at a b;split at a
  ·rename_i hk
   rw[if_pos hk] at b;refine gr (k:=k+1) ?_ ?_ n m c a b
   ·intro n c h
    rcases List.mem_cons.mp h with e|e
    ·cases e;exact Nat.lt_succ_self _
    ·exact Nat.lt_succ_of_lt (h1 n c e)
   ·intro n m c h h'
    rcases List.mem_cons.mp h with e|e<;>rcases List.mem_cons.mp h' with e'|e'
    ·cases e;cases e';rfl
    ·cases e;exact absurd (h1 _ _ e') (Nat.lt_irrefl _)
    ·cases e';exact absurd (h1 _ _ e) (Nat.lt_irrefl _)
    ·exact h2 n m c e e'
  ·rename_i hk
   rw[if_neg hk] at b;exact gr h1 h2 n m c a b
theorem dG{α:Type}:∀ {l:List (Str×α)} {n:Str},(∃c,(n,c)∈l)->∃c,l.lookup n=some c
 | [],_,⟨_,h⟩=>by cases h
 |(k,v)::r,n,⟨c,h⟩=>by
  rw[List.lookup_cons]
  cases hb:n == k with
  |true=>exact⟨v,rfl⟩
  |false=>
   rcases List.mem_cons.mp h with e|e
   ·cases e;simp at hb
   ·exact dG ⟨c,e⟩
noncomputable def c0(scope osc:Scope)(N:List Str)(src:List (Option Nat))(ON:List Str):Bool:=
 (scope.kind == .function) && (osc.kind == .function) && decide (src.length=N.length) &&
 (scope.names.all fun y=>(scope.names.lookup y.1 == some y.2) && (if y.2 == .free then osc.names.lookup y.1 == some .cell else true)) &&
 ((N.zip src).all fun p=>match p.2 with|none=>true|some j=>(ON[j]? == some p.1) && (scope.names.lookup p.1 == some .free))
noncomputable def t9(src:List (Option Nat))(σ:St):St:=src.map fun o=>match o with|none=>none|some j=>(σ[j]?).join
noncomputable def Cx.blk(X:Cx)(scope:Scope)(N:List Str)(cs:List (Str×Addr))(C:Addr)(s:Shared)(H:Hp)(ex:List Addr)(pn:List (Addr×Obj)):Cx:=
 { X with N:=N,s₀:=s,H₀:=H,env:=compEnvC scope cs C X.env,outer:=X.stack,stack:=X.stack,ex:=ex,fn:=fun x=>decide (scope.names.lookup x=some .cell),pn:=pn,xe:=fun _ _=>False }
section
variable{X:Cx}{pins:List (Addr×Obj)}{σ:St}{H:Hp}{s:Shared}{scope:Scope}{N:List Str}{src:List (Option Nat)}
theorem px{osc:Scope}{ON:List Str}(h:c0 scope osc N src ON=true):scope.kind=.function/\osc.kind=.function/\src.length=N.length /\
  (∀y∈scope.names,scope.names.lookup y.1=some y.2)/\(∀y∈scope.names,y.2=.free->osc.names.lookup y.1=some .cell) /\
  (∀(i:Nat)(x:Str)(j:Nat),N[i]?=some x->src[i]?=some (some j)->ON[j]?=some x/\scope.names.lookup x=some .free):=by
 unfold c0 at h;simp only[Bool.and_eq_true,decide_eq_true_eq,beq_iff_eq,List.all_eq_true] at h;obtain⟨⟨⟨⟨h1,h2⟩,h3⟩,h4⟩,h5⟩:=h;refine⟨h1,h2,h3,fun y hy=>(h4 y hy).1,fun y hy e=>?_,fun i x j e1 e2=>?_⟩
 ·have:=(h4 y hy).2
  rw[e] at this;simpa using this
 ·have hm:(x,some j)∈N.zip src:=by
   apply List.mem_of_getElem? (i:=i);rw[List.getElem?_zip_eq_some];exact⟨e1,e2⟩
  have:=h5 _ hm;simpa using this
theorem jg{env:Env}(hk:env.scope.kind=.function):∀ {names:List (Str×NameKind)} {x:Str} {k:NameKind},names.lookup x=some k->(k=.free->env.kindOf x=some .cell) ->
  (names.map fun(n,k)=>if (k == NameKind.free && env.scope.kind == .function && env.kindOf n == some .cell) then (n,NameKind.cell) else (n,k)).lookup x=some (if k=.free then .cell else k)
 | [],_,_,h,_=>by simp at h
 |(n,k')::r,x,k,h,hf=>by
  have ih:=@jg env hk r x k;show List.lookup x ((if (k' == NameKind.free && env.scope.kind == .function && env.kindOf n == some .cell)=true then (n,NameKind.cell) else (n,k'))::_)=_
  cases hx:x == n with
  |true=>
   simp only[List.lookup_cons,hx] at h;have e:x=n:=by simpa using hx
   subst e;cases h;by_cases hfr:k'=.free
   ·have:=hf hfr
    subst hfr;rw[if_pos (by rw[this,hk];rfl)]
    simp[List.lookup_cons]
   ·have hfr':(k' == NameKind.free)=false:=by simpa using hfr
    rw[if_neg (by rw[hfr'];simp),if_neg hfr]
    simp[List.lookup_cons]
  |false=>
   simp only[List.lookup_cons,hx] at h;by_cases hc:(k' == NameKind.free && env.scope.kind == .function && env.kindOf n == some .cell)=true
   ·rw[if_pos hc];simp only[List.lookup_cons,hx];exact ih h hf
   ·rw[if_neg hc];simp only[List.lookup_cons,hx];exact ih h hf
theorem t7{env:Env}{names:List (Str×NameKind)}{x:Str}(h:(names.map fun(n,k)=>if (k == NameKind.free && env.scope.kind == .function && env.kindOf n == some .cell) then (n,NameKind.cell) else (n,k)).lookup x=some .cell):
  (x,NameKind.cell)∈names\/(x,NameKind.free)∈names:=by
 have hm:=mem_of_lookup h;obtain⟨⟨n,k⟩,hy,e⟩:=List.mem_map.mp hm;dsimp only at e;split at e
 ·rename_i hc
  cases e;simp only[Bool.and_eq_true,beq_iff_eq] at hc;rw[hc.1.1] at hy;exact .inr hy
 ·cases e;exact .inl hy
theorem qK{env:Env}{names:List (Str×NameKind)}{x:Str}(hk:env.scope.kind=.function)(hfr:∀y∈names,y.2=.free->env.kindOf y.1=some .cell)(h:(names.map fun(n,k)=>if (k == NameKind.free && env.scope.kind == .function && env.kindOf n == some .cell) then (n,NameKind.cell) else (n,k)).lookup x=some .free):False:=by
 have hm:=mem_of_lookup h;obtain⟨⟨n,k⟩,hy,e⟩:=List.mem_map.mp hm;dsimp only at e;split at e
 ·cases e
 ·rename_i hc
  cases e;have:=hfr _ hy rfl;exact hc (by rw[this,hk];rfl)
theorem xS{fp:List Addr}(I:Inv X pins σ H s)(hb:c0 scope X.env.scope N src X.N=true)(f2:∀b∈fp,lC X pins H b)(fo:∀b∈fp,∃o,s.heap.get? b=some o){t:Nat}:
  Inv (X.blk scope N (cellsFrom (s.heap.objs.size+1) scope.names (iJ X.env scope.names [])) s.heap.objs.size s H fp (X.pn++pins)) [] (t9 src σ) H { s with heap:=pushCells (s.heap.push { cls:=.type "dict",data:=.dict #[] }) scope.names,toks:=t }:=by
 obtain⟨hk,hok,hlen,hnd,hfr,hsrc⟩:=px hb;have keep:∀b o,s.heap.get? b=some o->(pushCells (s.heap.push { cls:=.type "dict",data:=.dict #[] }) scope.names).get? b=some o:=fun b o e=>pushCells_keeps _ _ b o (Heap.get?_push_of_some _ e);have hfr':∀y∈scope.names,y.2=.free->X.env.kindOf y.1=some .cell:=hfr;have sz:(s.heap.push { cls:=.type "dict",data:=.dict #[] }).objs.size=s.heap.objs.size+1:=Heap.size_push ..
 have cell:∀n c,(n,c)∈cellsFrom (s.heap.objs.size+1) scope.names (iJ X.env scope.names []) ->
   (X.env.cells.lookup n=some c/\(n,NameKind.free)∈scope.names)\/((n,NameKind.cell)∈scope.names/\s.heap.objs.size<c/\(pushCells (s.heap.push { cls:=.type "dict",data:=.dict #[] }) scope.names).IsCell c none):=by
  intro n c h;rw[←sz] at h
  rcases gD h with h|⟨h1,h2,h3⟩
  ·rcases gH h with h|⟨h1,h2⟩
   ·cases h
   ·obtain⟨c',hc'⟩:=I.ok.has n (.inl (hfr' _ h1 rfl))
    rw[hc'] at h2;exact .inl ⟨by rw[hc',h2];rfl,h1⟩
  ·exact .inr ⟨h1,by rw[sz] at h2;exact h2,h3⟩
 have oldc:∀n c,X.env.cells.lookup n=some c->c<s.heap.objs.size:=fun n c e=>by
  obtain⟨v,o,ho,_⟩:=I.cell n c e;exact Heap.lt_size ho
 have hH:H s.heap.objs.size=none:=I.hok.fresh (Nat.le_refl _)
 have ok:(X.blk scope N (cellsFrom (s.heap.objs.size+1) scope.names (iJ X.env scope.names [])) s.heap.objs.size s H fp (X.pn++pins)).Ok:={
  mod:=I.ok.mod
  kind:=hk
  glob:=I.ok.glob
  blt:=I.ok.blt
  above:=Nat.le_refl _
  inj:=fun x y c a b=>by
   refine gr (k:=s.heap.objs.size+1) (acc:=iJ X.env scope.names []) ?_ ?_ x y c (mem_of_lookup a) (mem_of_lookup b)
   ·intro n c h
    rcases gH h with h|⟨h1,h2⟩
    ·cases h
    ·obtain⟨c',hc'⟩:=I.ok.has n (.inl (hfr' _ h1 rfl))
     rw[hc'] at h2;rw[h2];exact Nat.lt_succ_of_lt (oldc n c' hc')
   ·intro n m c h h'
    rcases gH h with h|⟨h1,h2⟩
    ·cases h
    ·rcases gH h' with h'|⟨h1',h2'⟩
     ·cases h'
     ·obtain⟨c1,hc1⟩:=I.ok.has n (.inl (hfr' _ h1 rfl))
      obtain⟨c2,hc2⟩:=I.ok.has m (.inl (hfr' _ h1' rfl));rw[hc1] at h2;rw[hc2] at h2';have e1:c=c1:=h2;have e2:c=c2:=h2';exact I.ok.inj n m c (by rw[e1];exact hc1) (by rw[e2];exact hc2)
  has:=fun x h=>by
   have hm:(x,NameKind.cell)∈scope.names\/(x,NameKind.free)∈scope.names:=by
    rcases h with h|h
    ·exact t7 (env:=X.env) h
    ·exact(qK (env:=X.env) hok hfr' h).elim
   have:∃c,(x,c)∈cellsFrom (s.heap.objs.size+1) scope.names (iJ X.env scope.names []):=by
    rcases hm with hm|hm
    ·exact dB (.inl hm)
    ·exact dB (.inr (kz (.inl hm)))
   exact dG this
  cab:=fun x c hf e=>by
   have hf':scope.names.lookup x=some .cell:=of_decide_eq_true hf;rcases cell x c (mem_of_lookup e) with⟨_,h⟩|⟨_,h,_⟩
   ·have:=hnd _ h
    rw[hf'] at this;cases this
   ·exact Nat.le_of_lt h
  hd:=I.ok.hd
  frames:=I.ok.frames
  stk:=.inl rfl
  exf:=fun b hb=>by
   obtain⟨o,ho⟩:=fo b hb;have hlt:=Heap.lt_size ho;refine⟨Nat.ne_of_lt hlt,fun x c e=>?_⟩;rcases cell x c (mem_of_lookup e) with⟨h,_⟩|⟨_,h,_⟩
   ·exact(f2 b hb).2.2.2.2.1 x c h
   ·exact Nat.ne_of_gt (Nat.lt_trans hlt h)
  bs:=I.bs
  bsz:=Nat.le_trans I.ok.bsz I.sz
  noex:=fun b o e hb=>by
   rcases(f2 b hb).2.2.2.1 with h|h
   ·exact I.ok.noex b o e h
   ·exact absurd (Nat.lt_of_lt_of_le (Heap.lt_size e) (Nat.le_trans I.ok.bsz h)) (Nat.lt_irrefl _)
  exfs:=fun b hb hm=>by
   rcases List.mem_cons.mp (I.IH b hm) with h|h
   ·exact(f2 b hb).2.1 h
   ·exact(f2 b hb).2.2.1 h
  funs:=I.stack
  frf:=I.IK
  tt:=I.ok.tt.mono I.base.tbls }
 refine⟨ok,rfl,I.bare,Un.kept keep,⟨fun _=>none,(Heap.Ns.new s.heap (.type "dict")).keeps (pushCells_keeps _ _),fun i x v e1 e2 e3=>?_⟩,fun x c e=>?_,hH,fun x c e=>?_,fun p hp=>?_,I.hok.kept keep,?_⟩
 ·-- a captured name
  have e2':(src.map fun o=>match o with|none=>none|some j=>(σ[j]?).join)[i]?=some (some v):=e2
  rw[List.getElem?_map] at e2'
  cases hs:src[i]? with
  |none=>rw[hs] at e2';cases e2'
  |some o=>
   rw[hs] at e2'
   cases o with
   |none=>cases e2'
   |some j=>
    have ej:(σ[j]?).join=some v:=by simpa using e2'
    have ej':σ[j]?=some (some v):=by
     cases hq:σ[j]? with
     |none=>rw[hq] at ej;cases ej
     |some z=>rw[hq] at ej;simpa using ej
    obtain⟨n1,n2⟩:=hsrc i x j e1 hs;have hfree:X.env.kindOf x=some .cell:=hfr' (x,.free) (mem_of_lookup n2) rfl;obtain⟨m,hn,hl⟩:=I.loc;obtain⟨u,r,l⟩:=hl j x v n1 ej' (.inr (.inl hfree));refine⟨u,r,.inr ⟨.inl ?_,?_⟩⟩
    ·have:=jg (env:=X.env) hok n2 (fun _=>hfree)
     exact this
    ·rcases l with⟨h,_⟩|⟨_,c,hc,hcell⟩
     ·rw[hfree] at h;cases h
     ·have:∃c',(x,c')∈cellsFrom (s.heap.objs.size+1) scope.names (iJ X.env scope.names []):=dB (.inr (kz (.inl (mem_of_lookup n2))))
      obtain⟨c',hc'⟩:=dG this;refine⟨c',hc',?_⟩;rcases cell x c' (mem_of_lookup hc') with⟨h,_⟩|⟨h,_,_⟩
      ·rw[hc] at h
       cases h;obtain⟨oc,ho,hd⟩:=hcell;exact⟨oc,keep _ _ ho,hd⟩
      ·have:=hnd _ h
       rw[n2] at this;cases this
 ·rcases cell x c (mem_of_lookup e) with⟨h,_⟩|⟨_,_,h⟩
  ·obtain⟨v,o,ho,hd⟩:=I.cell x c h
   exact⟨v,o,keep _ _ ho,hd⟩
  ·exact⟨_,h⟩
 ·rcases cell x c (mem_of_lookup e) with⟨h,_⟩|⟨_,h,_⟩
  ·exact I.freeC x c h
  ·exact I.hok.fresh (Nat.le_of_lt h)
 ·rw[List.append_nil] at hp
  obtain⟨e,n,ne,nf,d⟩:=I.pin p hp;refine⟨keep _ _ e,n,Nat.ne_of_lt (Heap.lt_size e),fun hm=>?_,d⟩;rcases List.mem_cons.mp (I.IH _ hm) with h|h
  ·exact ne h
  ·exact nf h
 ·show (src.map _).length=N.length
  rw[List.length_map];exact hlen
theorem Cn{fp:List Addr}{cs:List (Str×Addr)}{C:Addr}{σ':St}{H':Hp}{s':Shared}{pins':List (Addr×Obj)}(I:Inv X pins σ H s)(f2:∀b∈fp,lC X pins H b)(I':Inv (X.blk scope N cs C s H fp (X.pn++pins)) pins' σ' H' s'):Inv X pins σ H' s':=
 I.call' (ch:=fp) I'.os I'.base I'.hok I'.bare fun b hb=>⟨(f2 b hb).2.2.2.1,(f2 b hb).2.1,(f2 b hb).2.2.2.2.1,(f2 b hb).2.2.2.2.2⟩
theorem Af{C:Addr}{h':Heap}(I:Inv X pins σ H s)(hC:H C=none)(hL:C≠X.env.locals)(h1:X.s₀.heap.objs.size<=C)(h2:∀x c,X.env.cells.lookup x=some c->c≠C)(h3:∀p∈X.pn++pins,p.1≠C)(hs:Heap.SameBut C s.heap h'):Inv X pins σ H { s with heap:=h' }:=
 I.turned (t':=s.toks) (fun b o hb e=>(hs.2 b hb).trans e) hC hL (.inr h1) h2 h3
end
section
variable{M:Model}{A:Around}{E:Value->Shared->Prop}{s:Shared}
theorem rM{scope:Scope}{globals:Addr}{cl:List (Str×Addr)}{qual:Str}{env:Env}{Q:Env->Shared->Prop}(hQ:Q (newEnv scope s.heap.objs.size globals (cellsFrom (s.heap.objs.size+1) scope.names cl) qual none .none (some env) builtinsNs) { s with heap:=pushCells (s.heap.push { cls:=.type "dict",data:=.dict #[] }) scope.names }):
  wpAny M A (newFunctionEnv scope globals cl [] qual none .none (some env)) Q E s:=by
 simp only[newFunctionEnv,Option.isSome_some,if_true];refine wpAny_bind (wpAny_alloc ?_);refine wpAny_bind (wpAny_layCells _ (fun name kind cells=>by cases hkc:kind == NameKind.cell<;>simp[hkc]) _ _ _ _ ?_)
 rw[show ({ s with heap:=s.heap.push { cls:=.type "dict",data:=.dict #[] } }:Shared).heap.objs.size=s.heap.objs.size+1 from Heap.size_push ..]
 simp only[List.forIn_nil];exact wpAny_bind (wpAny_pure (wpAny_pure hQ))
end
section
variable{X:Cx}{elt tg iter:Expr}{ifs:List Expr}{cq:List Comprehension}{scope:Scope}{pos:Pos}{N:List Str}{src:List (Option Nat)}{wi:TI}{g:TG}{tc:TT}{l:TL}
noncomputable def rE(src:List (Option Nat))(wi:TI)(g:TG)(tc:TT)(l:TL):TE:=fun σ H Q=>wi σ H fun J H1=>∀acc,H1 acc=none->BC J g tc l acc (t9 src σ) (upd H1 acc (.lst [])) fun _ H'=>Q (.ref acc) H'
theorem Br{use:Option (Value->Sem Unit)}{pins:List (Addr×Obj)}{s:Shared}{σ:St}{H:Hp}{Q:Value->Shared->Prop}{Q':VK}(hc:X.calm=true)(hb:c0 scope X.env.scope N src X.N=true)(ha:∀g',cq[0]?=some g'->g'.is_async=0)(hi:PI X tg iter wi)(hg:∀cs C s H ex pn,PG (X.blk scope N cs C s H ex pn) tg g)(ht:∀cs C s H ex pn,PTs (X.blk scope N cs C s H ex pn) ifs tc)(hl:∀cs C s H ex pn,PL (X.blk scope N cs C s H ex pn) elt (⟨tg,iter,ifs,0⟩::cq) scope pos 0 l)(hs:∀x,foldedSetIterable iter X.env x=pure x)(I:Inv X pins σ H s)(h:rE src wi g tc l σ H Q')
  (hQ:∀(acc C:Addr)(H':Hp)(s':Shared)(m:Str->Option Value),Inv X pins σ H' s'->Q' (.ref acc) H'->s'.heap.Ns C m->H' C=none->C≠X.env.locals->X.s₀.heap.objs.size<=C->(∀x c,X.env.cells.lookup x=some c->c≠C)->(∀p∈X.pn++pins,p.1≠C) ->
   compPost (model X.prog X.w) X.A X.xe use Q (.ref acc) C (.ok .next) s') :
  wpAny (model X.prog X.w) X.A (comprehension (.ListComp elt (⟨tg,iter,ifs,0⟩::cq) scope pos) scope X.env (firstIterPos (⟨tg,iter,ifs,0⟩::cq) pos) (newList []) false (firstIter (⟨tg,iter,ifs,0⟩::cq) X.env) use) Q X.xe s:=by
 obtain⟨hk,hok,hlen,hnd,hfr,hsrc⟩:=px hb;refine wpAny_comprehension_free (g:=⟨tg,iter,ifs,0⟩) (gs:=cq) rfl hs (uu fun y hy e=>I.ok.has y.1 (.inl (hfr y hy e))) hk (fun y hy e=>by have:=hnd y hy;rw[e] at this;exact this) ?_
 refine thn (hi pins s σ H _ I h) fun v s1 h1=>thn h1 fun itv s2 h2=>?_;obtain⟨it,fp,tn,J,H2,e,I2,T,st2,f2,q⟩:=h2;subst e;have hfresh:H2 s2.heap.objs.size=none:=I2.hok.fresh (Nat.le_refl _);refine wpAny_newObj_type (rM ?_);dsimp only;have old:∀b o,s2.heap.get? b=some o->(s2.heap.push { cls:=.type "list",dict:=none,data:=.seq ([]:List Value).toArray }).get? b=some o:=fun b o e=>Heap.get?_push_of_some _ e
 have I3:Inv X pins σ (upd H2 s2.heap.objs.size (.lst [])) { s2 with heap:=s2.heap.push { cls:=.type "list",dict:=none,data:=.seq ([]:List Value).toArray } }:=
  I2.lnew (its:=[]) (t':=s2.toks) .nil (by decide)
 have f3:∀b∈fp,lC X pins (upd H2 s2.heap.objs.size (.lst [])) b:=fun b hb=>by
  obtain⟨o,ho,_⟩:=T.obj _ _ st2 b hb;exact⟨by rw[aV (Nat.ne_of_lt (Heap.lt_size ho))];exact(f2 b hb).1,(f2 b hb).2⟩
 have fo3:∀b∈fp,∃o,({ s2 with heap:=s2.heap.push { cls:=.type "list",dict:=none,data:=.seq ([]:List Value).toArray } }:Shared).heap.get? b=some o:=fun b hb=>by
  obtain⟨o,ho,_⟩:=T.obj _ _ st2 b hb;exact⟨o,old b o ho⟩
 generalize hs3:({ s2 with heap:=s2.heap.push { cls:=.type "list",dict:=none,data:=.seq ([]:List Value).toArray } }:Shared)=s3 at I3 fo3 ⊢
 have st3:tn 0 s3.heap:=by
  rw[←hs3]
  exact T.keep _ _ _ st2 fun b _ o e=>old b o e
 have IB:=xS (t:=s3.toks) I3 hb f3 fo3;have stB:tn 0 (pushCells (s3.heap.push { cls:=.type "dict",data:=.dict #[] }) scope.names):=T.keep _ _ _ st3 fun b _ o e=>pushCells_keeps _ _ b o (Heap.get?_push_of_some _ e)
 have fB:∀b∈fp,lC (X.blk scope N (cellsFrom (s3.heap.objs.size+1) scope.names (iJ X.env scope.names [])) s3.heap.objs.size s3 (upd H2 s2.heap.objs.size (.lst [])) fp (X.pn++pins)) [] (upd H2 s2.heap.objs.size (.lst [])) b:=fun b hb=>by
  obtain⟨n0,n1,n2,n3,n4,n5⟩:=f3 b hb;refine⟨n0,(IB.ok.exf b hb).1,IB.ok.exfs b hb,.inl hb,(IB.ok.exf b hb).2,fun p hp=>?_⟩;rw[List.append_nil] at hp;exact n5 p hp
 have loop:codeAny (model X.prog X.w) X.A (.compLoop (.ListComp elt (⟨tg,iter,ifs,0⟩::cq) scope pos) 0 (.ref it) (.ref s2.heap.objs.size) (compEnvC scope (cellsFrom (s3.heap.objs.size+1) scope.names (iJ X.env scope.names [])) s3.heap.objs.size X.env))
   (compPost (model X.prog X.w) X.A X.xe use Q (.ref s2.heap.objs.size) s3.heap.objs.size) { s3 with heap:=pushCells (s3.heap.push { cls:=.type "dict",data:=.dict #[] }) scope.names }:=by
  refine yG (X:=X.blk scope N (cellsFrom (s3.heap.objs.size+1) scope.names (iJ X.env scope.names [])) s3.heap.objs.size s3 (upd H2 s2.heap.objs.size (.lst [])) fp (X.pn++pins)) rfl hc rfl (by simpa using ha) (hg _ _ _ _ _ _) (ht _ _ _ _ _ _) (hl _ _ _ _ _ _) IB T stB fB (q _ hfresh) fun σ' H' s' I' k'=>?_
  obtain⟨m,hn,_⟩:=I'.loc;refine hQ _ _ H' s' m (Cn I3 f3 I') k' hn I'.free ?_ I3.sz ?_ ?_
  ·exact Nat.ne_of_gt I3.lt
  ·intro x c e
   obtain⟨v,o,ho,_⟩:=I3.cell x c e;exact Nat.ne_of_lt (Heap.lt_size ho)
  ·intro p hp
   exact Nat.ne_of_lt (Heap.lt_size (I3.pin p hp).1)
 subst hs3;exact oO (d:=0) rfl loop (T.self X.A 0 _ _ _ stB loop)
theorem bR(hc:X.calm=true)(hb:c0 scope X.env.scope N src X.N=true)(ha:∀g',cq[0]?=some g'->g'.is_async=0)(hi:PI X tg iter wi)(hg:∀cs C s H ex pn,PG (X.blk scope N cs C s H ex pn) tg g)(ht:∀cs C s H ex pn,PTs (X.blk scope N cs C s H ex pn) ifs tc)(hl:∀cs C s H ex pn,PL (X.blk scope N cs C s H ex pn) elt (⟨tg,iter,ifs,0⟩::cq) scope pos 0 l)(hs:∀x,foldedSetIterable iter X.env x=pure x:=by intro _;rfl):PE X (.ListComp elt (⟨tg,iter,ifs,0⟩::cq) scope pos) (rE src wi g tc l):=.mk <| by
 intro pins s σ H Q I h;rw[eval_ListComp];refine Br (use:=none) hc hb ha hi hg ht hl hs I h fun acc C H' s' m I' q' hn hC hL h1 h2 h3=>?_;exact⟨m,hn,fun h' hs'=>⟨.ref acc,H',Af I' hC hL h1 h2 h3 hs',rfl,q'⟩⟩
end
section
variable{X:Cx}
noncomputable def fw(H:Hp):V->Option String
 |.non=>some "NoneType"
 |.bl _=>some "bool"
 |.int _=>some "int"
 |.str _=>some "str"
 |.ref a=>match H a with
  |some (.lst _)=>some "list"
  |some (.tup _)=>some "tuple"
  |some (.dK _)=>some "dict"
  |some (.dT _)=>some "dict"
  |some (.frz _ (.lst _))=>some "list"
  |_=>none
 |_=>none
noncomputable def isA(H:Hp)(x:V)(T:String):Bool:=match fw H x with
 |some t=>t == T || (t == "bool" && T == "int")
 |none=>false
theorem yo{K:W.Frag}{H:Hp}{x:V}{t:String}(h:fw H x=some t):lg K H x (.type t):=by
 cases x with
 |non=>cases h;exact .non
 |bl b=>cases h;exact .bl b
 |int i=>cases h;exact .int i
 |str z=>cases h;exact .str z
 |byt b=>cases h
 |flt b=>cases h
 |ty n=>cases h
 |ref a=>
  unfold fw at h;dsimp only at h;split at h
  ·rename_i e;cases h;exact .lst e
  ·rename_i e;cases h;exact .tup e
  ·rename_i e;cases h;exact .dK e
  ·rename_i e;cases h;exact .dT e
  ·rename_i e;cases h;exact .frz e
  ·cases h
noncomputable def jP:List String:=["NoneType","bool","int","str","list","tuple","dict"]
theorem lQ{H:Hp}{x:V}{t:String}(h:fw H x=some t):t∈jP:=by
 cases x with
 |non=>cases h;decide
 |bl b=>cases h;decide
 |int i=>cases h;decide
 |str z=>cases h;decide
 |byt b=>cases h
 |flt b=>cases h
 |ty n=>cases h
 |ref a=>
  unfold fw at h;dsimp only at h;split at h<;>first|(cases h;decide)|cases h
theorem EM(K:W.Frag){t T:String}(ht:t∈jP)(hT:T∈jP):W.kitOne K (.type t) (.type T)=some (t == T || (t == "bool" && T == "int")):=by
 simp only[jP,List.mem_cons,List.not_mem_nil,or_false] at ht hT;rcases ht with rfl|rfl|rfl|rfl|rfl|rfl|rfl<;>rcases hT with rfl|rfl|rfl|rfl|rfl|rfl|rfl<;>with_unfolding_all rfl
theorem iR:c6 X (.builtin "isinstance") (fun xs H Q=>∃x T,xs=[x,.ty T]/\T∈jP/\(fw H x).isSome=true/\Q (.bl (isA H x T)) H):=by
 intro pins s σ H xs us Q I r h;obtain⟨x,T,rfl,hT,hs,q⟩:=h;obtain⟨u,w',rfl,rx,rT⟩:=HC r;cases (show w'=Value.type T from rT)
 obtain⟨t,ht⟩:=Option.isSome_iff_exists.mp hs;refine yP I rx (yo ht) (EM X.K (lQ ht) hT) fun tk=>⟨.bl (isA H x T),H,I.tok tk,?_,q⟩;show _=Value.bool (isA H x T);unfold isA;rw[ht]
theorem qb:∀ {bs:List Bool} {its:List Value},aT (bs.map V.bl) its->its=bs.map Value.bool
 | [],_,.nil=>rfl
 |_::_,_,.cons r t=>by
  have e:_=Value.bool _:=r;rw[e,qb t];rfl
theorem xU(bs:List Bool):(List.range bs.length).all (fun i=>bs.getD i false)=bs.all id:=by
 rw[Bool.eq_iff_iff];simp only[List.all_eq_true,List.mem_range,id];constructor
 ·intro h b hb
  obtain⟨i,hi,e⟩:=List.getElem_of_mem hb;have:=h i hi;rw[List.getD_eq_getElem?_getD,List.getElem?_eq_getElem hi] at this;rw[←e];exact this
 ·intro h i hi
  rw[List.getD_eq_getElem?_getD,List.getElem?_eq_getElem hi];exact h _ (List.getElem_mem hi)
theorem yh(bs:List Bool):(List.range bs.length).any (fun i=>bs.getD i false)=bs.any id:=by
 rw[Bool.eq_iff_iff];simp only[List.any_eq_true,List.mem_range,id];constructor
 ·rintro⟨i,hi,h⟩
  rw[List.getD_eq_getElem?_getD,List.getElem?_eq_getElem hi] at h;exact⟨_,List.getElem_mem hi,h⟩
 ·rintro⟨b,hb,h⟩
  obtain⟨i,hi,e⟩:=List.getElem_of_mem hb;refine⟨i,hi,?_⟩;rw[List.getD_eq_getElem?_getD,List.getElem?_eq_getElem hi,e];exact h
theorem zp(hc:X.calm=true):c6 X (.builtin "all") (fun xs H Q=>∃(a:Addr)(bs:List Bool),xs=[.ref a]/\SqL X.K H a (bs.map V.bl)/\Q (.bl (bs.all id)) H):=by
 intro pins s σ H xs us Q I r h;obtain⟨a,bs,rfl,hq,q⟩:=h;obtain⟨u,rfl,rx⟩:=gi r;cases rx;obtain⟨its,rv,p,hz⟩:=I.list hq;have e:=qb rv;subst e
 have hlt:a<s.heap.objs.size:=by
  obtain⟨o,ho,_⟩:=p.isList;exact Heap.lt_size ho
 refine call_all_walk (wpAny_pyIter_list p.isList ?_);refine⟨s.heap.objs.size,_,_,_,_,_,fun i=>bs.getD i false,rfl,Walks.list (A:=X.A.in1) (I.ok.hd hc) _ a (Nat.ne_of_lt hlt) _,⟨⟨_,Heap.get?_push_size _ rfl,rfl,rfl⟩,p.isList.push _⟩,?_,fun h' tk hk=>?_⟩
 ·intro i v s' Q' E' hP hQ'
  have:(bs.map Value.bool)[i]?=some v:=by simpa using hP
  rw[List.getElem?_map] at this
  cases e:bs[i]? with
  |none=>rw[e] at this;cases this
  |some b=>
   rw[e] at this;cases this;refine wpAny_truthy_bool ?_;dsimp only at hQ';rw[List.getD_eq_getElem?_getD,e] at hQ';exact hQ'
 ·refine⟨.bl (bs.all id),H,I.kept (t':=tk) fun b o e=>hk b o (fun hm=>?_) (Heap.get?_push_of_some _ e),?_,q⟩
  ·have:b=s.heap.objs.size:=by simpa using hm
   exact absurd (this ▸ Heap.lt_size e) (Nat.lt_irrefl _)
  ·show _=Value.bool _
   rw[←xU]
   simp
theorem z7(hc:X.calm=true):c6 X (.builtin "any") (fun xs H Q=>∃(a:Addr)(bs:List Bool),xs=[.ref a]/\SqL X.K H a (bs.map V.bl)/\Q (.bl (bs.any id)) H):=by
 intro pins s σ H xs us Q I r h;obtain⟨a,bs,rfl,hq,q⟩:=h;obtain⟨u,rfl,rx⟩:=gi r;cases rx;obtain⟨its,rv,p,hz⟩:=I.list hq;have e:=qb rv;subst e
 have hlt:a<s.heap.objs.size:=by
  obtain⟨o,ho,_⟩:=p.isList;exact Heap.lt_size ho
 refine call_any_walk (wpAny_pyIter_list p.isList ?_);refine⟨s.heap.objs.size,_,_,_,_,_,fun i=>bs.getD i false,rfl,Walks.list (A:=X.A.in1) (I.ok.hd hc) _ a (Nat.ne_of_lt hlt) _,⟨⟨_,Heap.get?_push_size _ rfl,rfl,rfl⟩,p.isList.push _⟩,?_,fun h' tk hk=>?_⟩
 ·intro i v s' Q' E' hP hQ'
  have:(bs.map Value.bool)[i]?=some v:=by simpa using hP
  rw[List.getElem?_map] at this
  cases e:bs[i]? with
  |none=>rw[e] at this;cases this
  |some b=>
   rw[e] at this;cases this;refine wpAny_truthy_bool ?_;dsimp only at hQ';rw[List.getD_eq_getElem?_getD,e] at hQ';exact hQ'
 ·refine⟨.bl (bs.any id),H,I.kept (t':=tk) fun b o e=>hk b o (fun hm=>?_) (Heap.get?_push_of_some _ e),?_,q⟩
  ·have:b=s.heap.objs.size:=by simpa using hm
   exact absurd (this ▸ Heap.lt_size e) (Nat.lt_irrefl _)
  ·show _=Value.bool _
   rw[←yh]
   simp
end
end L2
set_option autoImplicit false
namespace L2
open PySem PySem.Spec PyProof.Rows
inductive D where
 |non|bl (b:Bool)|int (i:Int)|str (x:Str)|tup (ds:List D)|lst (ds:List D)
 |dk (ks:List Int)|dt (ks:List (List Int))
noncomputable def dkO(ks:List Int):List (Key×V):=ks.map fun k=>(Sum.inl k,V.int 1)
noncomputable def dtO(ks:List (List Int)):List (List Key×V):=ks.map fun k=>(k.map Sum.inl,V.int 1)
theorem xo:∀ {a b:List Int},dkO a=dkO b->a=b
 | [],[],_=>rfl
 |x::a,y::b,h=>by
  simp only[dkO,List.map_cons,List.cons.injEq,Prod.mk.injEq,Sum.inl.injEq,and_true] at h;rw[h.1,xo h.2]
 | [],_::_,h=>by simp[dkO] at h
 |_::_,[],h=>by simp[dkO] at h
theorem wr:∀ {a b:List Int},(a.map Sum.inl:List Key)=b.map Sum.inl->a=b
 | [],[],_=>rfl
 |x::a,y::b,h=>by
  simp only[List.map_cons,List.cons.injEq,Sum.inl.injEq] at h;rw[h.1,wr h.2]
 | [],_::_,h=>by simp at h
 |_::_,[],h=>by simp at h
theorem wG:∀ {a b:List (List Int)},dtO a=dtO b->a=b
 | [],[],_=>rfl
 |x::a,y::b,h=>by
  simp only[dtO,List.map_cons,List.cons.injEq,Prod.mk.injEq,and_true] at h;rw[wr h.1,wG h.2]
 | [],_::_,h=>by simp[dtO] at h
 |_::_,[],h=>by simp[dtO] at h
mutual
noncomputable def Dat(H:Hp):D->V->Prop
 |.non,v=>v=.non
 |.bl b,v=>v=.bl b
 |.int i,v=>v=.int i
 |.str x,v=>v=.str x
 |.tup ds,v=>∃a xs,v=.ref a/\H a=some (.tup xs)/\aG H ds xs
 |.lst ds,v=>∃a xs,v=.ref a/\H a=some (.lst xs)/\aG H ds xs
 |.dk ks,v=>∃a xs,v=.ref a/\H a=some (.dK (dkO xs))/\xs=ks
 |.dt ks,v=>∃a xs,v=.ref a/\H a=some (.dT (dtO xs))/\xs=ks
noncomputable def aG(H:Hp):List D->List V->Prop
 | [],xs=>xs=[]
 |d::ds,xs=>∃x r,xs=x::r/\Dat H d x/\aG H ds r
end
mutual
noncomputable def dep:D->Nat
 |.tup ds=>dY ds+1
 |.lst ds=>dY ds+1
 |.dk _=>1000000
 |.dt _=>1000000
 |_=>0
noncomputable def dY:List D->Nat
 | []=>0
 |d::ds=>max (dep d) (dY ds)
end
mutual
noncomputable def eqD:D->D->Bool
 |.non,.non=>true
 |.bl a,.bl b=>a == b
 |.bl a,.int b=>(if a then 1 else 0) == b
 |.int a,.bl b=>a == (if b then 1 else 0)
 |.int a,.int b=>a == b
 |.str a,.str b=>a == b
 |.tup a,.tup b=>fD a b
 |.lst a,.lst b=>fD a b
 |.dk a,.dk b=>a == b
 |.dt a,.dt b=>a == b
 |_,_=>false
noncomputable def fD:List D->List D->Bool
 | [],[]=>true
 |x::xs,y::ys=>eqD x y && fD xs ys
 |_,_=>false
end
theorem nu:∀ {ds:List D} {d:D},d∈ds->dep d<=dY ds
 |d::ds,e,h=>by
  unfold dY;rcases List.mem_cons.mp h with rfl|h
  ·exact Nat.le_max_left _ _
  ·exact Nat.le_trans (nu h) (Nat.le_max_right _ _)
theorem aG.length:∀ {H:Hp} {ds:List D} {xs:List V},aG H ds xs->xs.length=ds.length
 |H,[],xs,h=>by
  have e:xs=[]:=by simpa[aG] using h
  rw[e];rfl
 |H,d::ds,xs,h=>by
  obtain⟨x,r,rfl,_,t⟩:∃x r,xs=x::r/\Dat H d x/\aG H ds r:=by simpa only[aG] using h
  rw[List.length_cons,List.length_cons,aG.length t]
theorem aG.get:∀ {H:Hp} {ds:List D} {xs:List V} {i:Nat} {d:D},aG H ds xs->ds[i]?=some d->∃x,xs[i]?=some x/\Dat H d x
 |H,[],xs,i,d,h,e=>by simp at e
 |H,d'::ds,xs,i,d,h,e=>by
  obtain⟨x,r,rfl,hx,t⟩:∃x r,xs=x::r/\Dat H d' x/\aG H ds r:=by simpa only[aG] using h
  cases i with
  |zero=>simp at e;subst e;exact⟨x,rfl,hx⟩
  |succ i=>simpa using aG.get t (i:=i) (by simpa using e)
theorem aG.of_get:∀ {H:Hp} {ds:List D} {xs:List V},xs.length=ds.length->(∀(i:Nat)(d:D)(x:V),ds[i]?=some d->xs[i]?=some x->Dat H d x)->aG H ds xs
 |H,[],[],_,_=>by simp[aG]
 |H,d::ds,x::xs,hl,h=>by
  simp only[aG];exact⟨x,xs,rfl,h 0 d x rfl rfl,aG.of_get (by simpa using hl) fun i d x e1 e2=>h (i+1) d x (by simpa using e1) (by simpa using e2)⟩
 |H,[],_::_,hl,_=>by simp at hl
 |H,_::_,[],hl,_=>by simp at hl
theorem aG.append:∀ {H:Hp} {ds es:List D} {xs ys:List V},aG H ds xs->aG H es ys->aG H (ds++es) (xs++ys)
 |H,[],es,xs,ys,h,h'=>by
  have e:xs=[]:=by simpa[aG] using h
  rw[e];exact h'
 |H,d::ds,es,xs,ys,h,h'=>by
  obtain⟨x,r,rfl,hx,t⟩:∃x r,xs=x::r/\Dat H d x/\aG H ds r:=by simpa only[aG] using h
  show aG H (d::(ds++es)) (x::(r++ys));simp only[aG];exact⟨x,r++ys,rfl,hx,aG.append t h'⟩
mutual
theorem Dat.same{H H':Hp}(e:dq H H'):∀ {d:D} {v:V},Dat H d v->Dat H' d v
 |.non,v,h=>by simpa only[Dat] using h
 |.bl b,v,h=>by simpa only[Dat] using h
 |.int i,v,h=>by simpa only[Dat] using h
 |.str x,v,h=>by simpa only[Dat] using h
 |.tup ds,v,h=>by
  simp only[Dat] at h ⊢;obtain⟨a,xs,rfl,h1,h2⟩:=h;exact⟨a,xs,rfl,e a _ h1,aG.same e h2⟩
 |.lst ds,v,h=>by
  simp only[Dat] at h ⊢;obtain⟨a,xs,rfl,h1,h2⟩:=h;exact⟨a,xs,rfl,e a _ h1,aG.same e h2⟩
 |.dk ks,v,h=>by
  simp only[Dat] at h ⊢;obtain⟨a,xs,rfl,h1,h2⟩:=h;exact⟨a,xs,rfl,e a _ h1,h2⟩
 |.dt ks,v,h=>by
  simp only[Dat] at h ⊢;obtain⟨a,xs,rfl,h1,h2⟩:=h;exact⟨a,xs,rfl,e a _ h1,h2⟩
theorem aG.same{H H':Hp}(e:dq H H'):∀ {ds:List D} {xs:List V},aG H ds xs->aG H' ds xs
 | [],xs,h=>by simpa only[aG] using h
 |d::ds,xs,h=>by
  simp only[aG] at h ⊢;obtain⟨x,r,rfl,h1,h2⟩:=h;exact⟨x,r,rfl,Dat.same e h1,aG.same e h2⟩
end
mutual
theorem Dat.inj{H:Hp}:∀ {d e:D} {v:V},Dat H d v->Dat H e v->d=e
 |.non,e,v,h,h'=>by
  simp only[Dat] at h;subst h;cases e<;>simp only[Dat] at h'<;>first|rfl|(obtain⟨_,_,h',_⟩:=h';cases h';done)|(cases h';done)
 |.bl b,e,v,h,h'=>by
  simp only[Dat] at h;subst h;cases e<;>simp only[Dat] at h'<;>first|(obtain⟨_,_,h',_⟩:=h';cases h';done)|(cases h';rfl)|(cases h';done)
 |.int i,e,v,h,h'=>by
  simp only[Dat] at h;subst h;cases e<;>simp only[Dat] at h'<;>first|(obtain⟨_,_,h',_⟩:=h';cases h';done)|(cases h';rfl)|(cases h';done)
 |.str x,e,v,h,h'=>by
  simp only[Dat] at h;subst h;cases e<;>simp only[Dat] at h'<;>first|(obtain⟨_,_,h',_⟩:=h';cases h';done)|(cases h';rfl)|(cases h';done)
 |.tup ds,e,v,h,h'=>by
  simp only[Dat] at h;obtain⟨a,xs,rfl,h1,h2⟩:=h
  cases e with
  |tup es=>
   simp only[Dat] at h';obtain⟨b,ys,e1,h3,h4⟩:=h';cases e1;rw[h1] at h3;cases h3;rw[aG.inj h2 h4]
  |lst es=>
   simp only[Dat] at h';obtain⟨b,ys,e1,h3,h4⟩:=h';cases e1;rw[h1] at h3;cases h3
  |dk es=>
   simp only[Dat] at h';obtain⟨b,ys,e1,h3,h4⟩:=h';cases e1;rw[h1] at h3;cases h3
  |dt es=>
   simp only[Dat] at h';obtain⟨b,ys,e1,h3,h4⟩:=h';cases e1;rw[h1] at h3;cases h3
  |_=>simp only[Dat] at h';cases h'
 |.lst ds,e,v,h,h'=>by
  simp only[Dat] at h;obtain⟨a,xs,rfl,h1,h2⟩:=h
  cases e with
  |lst es=>
   simp only[Dat] at h';obtain⟨b,ys,e1,h3,h4⟩:=h';cases e1;rw[h1] at h3;cases h3;rw[aG.inj h2 h4]
  |tup es=>
   simp only[Dat] at h';obtain⟨b,ys,e1,h3,h4⟩:=h';cases e1;rw[h1] at h3;cases h3
  |dk es=>
   simp only[Dat] at h';obtain⟨b,ys,e1,h3,h4⟩:=h';cases e1;rw[h1] at h3;cases h3
  |dt es=>
   simp only[Dat] at h';obtain⟨b,ys,e1,h3,h4⟩:=h';cases e1;rw[h1] at h3;cases h3
  |_=>simp only[Dat] at h';cases h'
 |.dk ds,e,v,h,h'=>by
  simp only[Dat] at h;obtain⟨a,xs,rfl,h1,rfl⟩:=h
  cases e with
  |tup es=>
   simp only[Dat] at h';obtain⟨b,ys,e1,h3,h4⟩:=h';cases e1;rw[h1] at h3;cases h3
  |lst es=>
   simp only[Dat] at h';obtain⟨b,ys,e1,h3,h4⟩:=h';cases e1;rw[h1] at h3;cases h3
  |dk es=>
   simp only[Dat] at h';obtain⟨b,ys,e1,h3,h4⟩:=h';cases e1;rw[h1] at h3;rw[←h4,xo (a:=xs) (b:=ys)]
   simpa using h3
  |dt es=>
   simp only[Dat] at h';obtain⟨b,ys,e1,h3,h4⟩:=h';cases e1;rw[h1] at h3;cases h3
  |_=>simp only[Dat] at h';cases h'
 |.dt ds,e,v,h,h'=>by
  simp only[Dat] at h;obtain⟨a,xs,rfl,h1,rfl⟩:=h
  cases e with
  |tup es=>
   simp only[Dat] at h';obtain⟨b,ys,e1,h3,h4⟩:=h';cases e1;rw[h1] at h3;cases h3
  |lst es=>
   simp only[Dat] at h';obtain⟨b,ys,e1,h3,h4⟩:=h';cases e1;rw[h1] at h3;cases h3
  |dk es=>
   simp only[Dat] at h';obtain⟨b,ys,e1,h3,h4⟩:=h';cases e1;rw[h1] at h3;cases h3
  |dt es=>
   simp only[Dat] at h';obtain⟨b,ys,e1,h3,h4⟩:=h';cases e1;rw[h1] at h3;rw[←h4,wG (a:=xs) (b:=ys)]
   simpa using h3
  |_=>simp only[Dat] at h';cases h'
theorem aG.inj{H:Hp}:∀ {ds es:List D} {xs:List V},aG H ds xs->aG H es xs->ds=es
 | [],[],_,_,_=>rfl
 | [],e::es,xs,h,h'=>by
  simp only[aG] at h h';obtain⟨x,r,rfl,_⟩:=h';cases h
 |d::ds,[],xs,h,h'=>by
  simp only[aG] at h h';obtain⟨x,r,rfl,_⟩:=h;cases h'
 |d::ds,e::es,xs,h,h'=>by
  simp only[aG] at h h';obtain⟨x,r,rfl,h1,h2⟩:=h;obtain⟨x',r',e1,h3,h4⟩:=h';cases e1;rw[Dat.inj h1 h3,aG.inj h2 h4]
end
mutual
theorem sF:∀d:D,eqD d d=true
 |.non=>by simp[eqD]
 |.bl b=>by simp[eqD]
 |.int i=>by simp[eqD]
 |.str x=>by simp[eqD]
 |.tup ds=>by simp only[eqD];exact gL ds
 |.lst ds=>by simp only[eqD];exact gL ds
 |.dk ks=>by simp[eqD]
 |.dt ks=>by simp[eqD]
theorem gL:∀ds:List D,fD ds ds=true
 | []=>by simp[fD]
 |d::ds=>by simp only[fD,sF d,gL ds,Bool.and_self]
end
theorem n8:∀ {ds es:List D},ds.length≠es.length->fD ds es=false
 | [],[],h=>absurd rfl h
 | [],_::_,_=>by simp[fD]
 |_::_,[],_=>by simp[fD]
 |d::ds,e::es,h=>by
  simp only[fD,n8 (ds:=ds) (es:=es) (by simpa using h),Bool.and_false]
theorem km:∀ {ds es:List D},ds.length=es.length->(List.range ds.length).all (fun j=>eqD (ds.getD j .non) (es.getD j .non))=fD ds es
 | [],[],_=>by simp[fD]
 | [],_::_,h=>by simp at h
 |_::_,[],h=>by simp at h
 |d::ds,e::es,h=>by
  have ih:=km (ds:=ds) (es:=es) (by simpa using h)
  rw[List.length_cons,List.range_succ_eq_map,List.all_cons,List.all_map];simp only[fD,←ih]
  rfl
end L2
namespace L2
open PySem PySem.Spec PyProof.Rows AutoSeq1
noncomputable def tI(h:Heap)(l:Addr):Prop:=∃es ep,h.get? l=some { cls:=.type "dict",data:=.dict es ep }
theorem kw:isSubtype (.type "NoneType") (.type "dict")=pure false:=by rw[isSubtype_type];kernel_rfl
theorem mh:isSubtype (.type "bool") (.type "dict")=pure false:=by rw[isSubtype_type];kernel_rfl
theorem l0:isSubtype (.type "int") (.type "dict")=pure false:=by rw[isSubtype_type];kernel_rfl
theorem md:isSubtype (.type "str") (.type "dict")=pure false:=by rw[isSubtype_type];kernel_rfl
theorem lY:isSubtype (.type "tuple") (.type "dict")=pure false:=by rw[isSubtype_type];kernel_rfl
theorem lN:isSubtype (.type "list") (.type "dict")=pure false:=by rw[isSubtype_type];kernel_rfl
theorem ud:isSubtype (.type "dict") (.type "NoneType")=pure false:=by rw[isSubtype_type];kernel_rfl
theorem wM:isSubtype (.type "dict") (.type "bool")=pure false:=by rw[isSubtype_type];kernel_rfl
theorem jA:isSubtype (.type "dict") (.type "int")=pure false:=by rw[isSubtype_type];kernel_rfl
theorem mN:isSubtype (.type "dict") (.type "str")=pure false:=by rw[isSubtype_type];kernel_rfl
theorem mw:isSubtype (.type "dict") (.type "tuple")=pure false:=by rw[isSubtype_type];kernel_rfl
theorem my:isSubtype (.type "dict") (.type "list")=pure false:=by rw[isSubtype_type];kernel_rfl
section
variable(l b:Addr)(es:Array DictEntry)(ep:Nat)
noncomputable abbrev DO(es:Array DictEntry)(ep:Nat):Obj:={ cls:=.type "dict",data:=.dict es ep }
theorem E1:Meets (Builtin.«dict.__eq__» ⟨[.ref l,.none],[]⟩) (fun _ R s=>s.heap.get? l=some (DO es ep)/\R (.ok (.ret .notImplemented)) s):=
 .of_wp fun prog w A R s h=>by obtain⟨hp,g,d,tk,os⟩:=s;obtain⟨hl,h⟩:=h;have f1:=kw;wp_walk using wpAny_loadPart' hl,wpAny_load hl;exact⟨_,rfl,h⟩
theorem E5:Meets (Builtin.«dict.__ne__» ⟨[.ref l,.none],[]⟩) (fun _ R s=>s.heap.get? l=some (DO es ep)/\R (.ok (.ret .notImplemented)) s):=
 .of_wp fun prog w A R s h=>by obtain⟨hp,g,d,tk,os⟩:=s;obtain⟨hl,h⟩:=h;have f1:=kw;wp_walk using wpAny_loadPart' hl,wpAny_load hl;exact⟨_,rfl,h⟩
theorem Hs(c:Bool):Meets (Builtin.«dict.__eq__» ⟨[.ref l,.bool c],[]⟩) (fun _ R s=>s.heap.get? l=some (DO es ep)/\R (.ok (.ret .notImplemented)) s):=
 .of_wp fun prog w A R s h=>by obtain⟨hp,g,d,tk,os⟩:=s;obtain⟨hl,h⟩:=h;have f1:=mh;wp_walk using wpAny_loadPart' hl,wpAny_load hl;exact⟨_,rfl,h⟩
theorem GI(c:Bool):Meets (Builtin.«dict.__ne__» ⟨[.ref l,.bool c],[]⟩) (fun _ R s=>s.heap.get? l=some (DO es ep)/\R (.ok (.ret .notImplemented)) s):=
 .of_wp fun prog w A R s h=>by obtain⟨hp,g,d,tk,os⟩:=s;obtain⟨hl,h⟩:=h;have f1:=mh;wp_walk using wpAny_loadPart' hl,wpAny_load hl;exact⟨_,rfl,h⟩
theorem GN(c:Int)(u:Tok):Meets (Builtin.«dict.__eq__» ⟨[.ref l,.int c u],[]⟩) (fun _ R s=>s.heap.get? l=some (DO es ep)/\R (.ok (.ret .notImplemented)) s):=
 .of_wp fun prog w A R s h=>by obtain⟨hp,g,d,tk,os⟩:=s;obtain⟨hl,h⟩:=h;have f1:=l0;wp_walk using wpAny_loadPart' hl,wpAny_load hl;exact⟨_,rfl,h⟩
theorem Hk(c:Int)(u:Tok):Meets (Builtin.«dict.__ne__» ⟨[.ref l,.int c u],[]⟩) (fun _ R s=>s.heap.get? l=some (DO es ep)/\R (.ok (.ret .notImplemented)) s):=
 .of_wp fun prog w A R s h=>by obtain⟨hp,g,d,tk,os⟩:=s;obtain⟨hl,h⟩:=h;have f1:=l0;wp_walk using wpAny_loadPart' hl,wpAny_load hl;exact⟨_,rfl,h⟩
theorem GA(c:Str)(u:Tok):Meets (Builtin.«dict.__eq__» ⟨[.ref l,.str c u],[]⟩) (fun _ R s=>s.heap.get? l=some (DO es ep)/\R (.ok (.ret .notImplemented)) s):=
 .of_wp fun prog w A R s h=>by obtain⟨hp,g,d,tk,os⟩:=s;obtain⟨hl,h⟩:=h;have f1:=md;wp_walk using wpAny_loadPart' hl,wpAny_load hl;exact⟨_,rfl,h⟩
theorem Gj(c:Str)(u:Tok):Meets (Builtin.«dict.__ne__» ⟨[.ref l,.str c u],[]⟩) (fun _ R s=>s.heap.get? l=some (DO es ep)/\R (.ok (.ret .notImplemented)) s):=
 .of_wp fun prog w A R s h=>by obtain⟨hp,g,d,tk,os⟩:=s;obtain⟨hl,h⟩:=h;have f1:=md;wp_walk using wpAny_loadPart' hl,wpAny_load hl;exact⟨_,rfl,h⟩
theorem Gq(its:Array Value)(n:Nat)(dd:Option Addr)(sl:Array (Option Value)):Meets (Builtin.«dict.__eq__» ⟨[.ref l,.ref b],[]⟩) (fun _ R s=>s.heap.get? l=some (DO es ep)/\s.heap.get? b=some ⟨.type "tuple",dd,.seq its n,sl⟩/\R (.ok (.ret .notImplemented)) s):=
 .of_wp fun prog w A R s h=>by obtain⟨hp,g,d,tk,os⟩:=s;obtain⟨hl,hb,h⟩:=h;have f1:=lY;wp_walk using wpAny_loadPart' hl,wpAny_load hl,wpAny_loadPart' hb,wpAny_load hb;exact⟨_,rfl,h⟩
theorem Go(its:Array Value)(n:Nat)(dd:Option Addr)(sl:Array (Option Value)):Meets (Builtin.«dict.__ne__» ⟨[.ref l,.ref b],[]⟩) (fun _ R s=>s.heap.get? l=some (DO es ep)/\s.heap.get? b=some ⟨.type "tuple",dd,.seq its n,sl⟩/\R (.ok (.ret .notImplemented)) s):=
 .of_wp fun prog w A R s h=>by obtain⟨hp,g,d,tk,os⟩:=s;obtain⟨hl,hb,h⟩:=h;have f1:=lY;wp_walk using wpAny_loadPart' hl,wpAny_load hl,wpAny_loadPart' hb,wpAny_load hb;exact⟨_,rfl,h⟩
theorem He(its:Array Value)(n:Nat)(dd:Option Addr)(sl:Array (Option Value)):Meets (Builtin.«dict.__eq__» ⟨[.ref l,.ref b],[]⟩) (fun _ R s=>s.heap.get? l=some (DO es ep)/\s.heap.get? b=some ⟨.type "list",dd,.seq its n,sl⟩/\R (.ok (.ret .notImplemented)) s):=
 .of_wp fun prog w A R s h=>by obtain⟨hp,g,d,tk,os⟩:=s;obtain⟨hl,hb,h⟩:=h;have f1:=lN;wp_walk using wpAny_loadPart' hl,wpAny_load hl,wpAny_loadPart' hb,wpAny_load hb;exact⟨_,rfl,h⟩
theorem Hh(its:Array Value)(n:Nat)(dd:Option Addr)(sl:Array (Option Value)):Meets (Builtin.«dict.__ne__» ⟨[.ref l,.ref b],[]⟩) (fun _ R s=>s.heap.get? l=some (DO es ep)/\s.heap.get? b=some ⟨.type "list",dd,.seq its n,sl⟩/\R (.ok (.ret .notImplemented)) s):=
 .of_wp fun prog w A R s h=>by obtain⟨hp,g,d,tk,os⟩:=s;obtain⟨hl,hb,h⟩:=h;have f1:=lN;wp_walk using wpAny_loadPart' hl,wpAny_load hl,wpAny_loadPart' hb,wpAny_load hb;exact⟨_,rfl,h⟩
theorem Gm(c:Bool):Meets (Builtin.«int.__eq__» ⟨[.bool c,.ref l],[]⟩) (fun _ R s=>s.heap.get? l=some (DO es ep)/\R (.ok (.ret .notImplemented)) s):=
 .of_wp fun prog w A R s h=>by obtain⟨hp,g,d,tk,os⟩:=s;obtain⟨hl,h⟩:=h;have f1:=jA;wp_walk using wpAny_loadPart' hl,wpAny_load hl;exact⟨_,rfl,h⟩
theorem GG(c:Bool):Meets (Builtin.«int.__ne__» ⟨[.bool c,.ref l],[]⟩) (fun _ R s=>s.heap.get? l=some (DO es ep)/\R (.ok (.ret .notImplemented)) s):=
 .of_wp fun prog w A R s h=>by obtain⟨hp,g,d,tk,os⟩:=s;obtain⟨hl,h⟩:=h;have f1:=jA;wp_walk using wpAny_loadPart' hl,wpAny_load hl;exact⟨_,rfl,h⟩
theorem Gv(c:Int)(u:Tok):Meets (Builtin.«int.__eq__» ⟨[.int c u,.ref l],[]⟩) (fun _ R s=>s.heap.get? l=some (DO es ep)/\R (.ok (.ret .notImplemented)) s):=
 .of_wp fun prog w A R s h=>by obtain⟨hp,g,d,tk,os⟩:=s;obtain⟨hl,h⟩:=h;have f1:=jA;wp_walk using wpAny_loadPart' hl,wpAny_load hl;exact⟨_,rfl,h⟩
theorem Gb(c:Int)(u:Tok):Meets (Builtin.«int.__ne__» ⟨[.int c u,.ref l],[]⟩) (fun _ R s=>s.heap.get? l=some (DO es ep)/\R (.ok (.ret .notImplemented)) s):=
 .of_wp fun prog w A R s h=>by obtain⟨hp,g,d,tk,os⟩:=s;obtain⟨hl,h⟩:=h;have f1:=jA;wp_walk using wpAny_loadPart' hl,wpAny_load hl;exact⟨_,rfl,h⟩
theorem HN(c:Str)(u:Tok):Meets (Builtin.«str.__eq__» ⟨[.str c u,.ref l],[]⟩) (fun _ R s=>s.heap.get? l=some (DO es ep)/\R (.ok (.ret .notImplemented)) s):=
 .of_wp fun prog w A R s h=>by obtain⟨hp,g,d,tk,os⟩:=s;obtain⟨hl,h⟩:=h;have f1:=mN;wp_walk using wpAny_loadPart' hl,wpAny_load hl;exact⟨_,rfl,h⟩
theorem HS(c:Str)(u:Tok):Meets (Builtin.«str.__ne__» ⟨[.str c u,.ref l],[]⟩) (fun _ R s=>s.heap.get? l=some (DO es ep)/\R (.ok (.ret .notImplemented)) s):=
 .of_wp fun prog w A R s h=>by obtain⟨hp,g,d,tk,os⟩:=s;obtain⟨hl,h⟩:=h;have f1:=mN;wp_walk using wpAny_loadPart' hl,wpAny_load hl;exact⟨_,rfl,h⟩
theorem Ic(its:Array Value)(n:Nat)(dd:Option Addr)(sl:Array (Option Value)):Meets (Builtin.«tuple.__eq__» ⟨[.ref b,.ref l],[]⟩) (fun _ R s=>s.heap.get? l=some (DO es ep)/\s.heap.get? b=some ⟨.type "tuple",dd,.seq its n,sl⟩/\R (.ok (.ret .notImplemented)) s):=
 .of_wp fun prog w A R s h=>by obtain⟨hp,g,d,tk,os⟩:=s;obtain⟨hl,hb,h⟩:=h;have f1:=mw;wp_walk using wpAny_loadPart' hl,wpAny_load hl,wpAny_loadPart' hb,wpAny_load hb;exact⟨_,rfl,h⟩
theorem HU(its:Array Value)(n:Nat)(dd:Option Addr)(sl:Array (Option Value)):Meets (Builtin.«tuple.__ne__» ⟨[.ref b,.ref l],[]⟩) (fun _ R s=>s.heap.get? l=some (DO es ep)/\s.heap.get? b=some ⟨.type "tuple",dd,.seq its n,sl⟩/\R (.ok (.ret .notImplemented)) s):=
 .of_wp fun prog w A R s h=>by obtain⟨hp,g,d,tk,os⟩:=s;obtain⟨hl,hb,h⟩:=h;have f1:=mw;wp_walk using wpAny_loadPart' hl,wpAny_load hl,wpAny_loadPart' hb,wpAny_load hb;exact⟨_,rfl,h⟩
theorem HL(its:Array Value)(n:Nat)(dd:Option Addr)(sl:Array (Option Value)):Meets (Builtin.«list.__eq__» ⟨[.ref b,.ref l],[]⟩) (fun _ R s=>s.heap.get? l=some (DO es ep)/\s.heap.get? b=some ⟨.type "list",dd,.seq its n,sl⟩/\R (.ok (.ret .notImplemented)) s):=
 .of_wp fun prog w A R s h=>by obtain⟨hp,g,d,tk,os⟩:=s;obtain⟨hl,hb,h⟩:=h;have f1:=my;wp_walk using wpAny_loadPart' hl,wpAny_load hl,wpAny_loadPart' hb,wpAny_load hb;exact⟨_,rfl,h⟩
theorem H9(its:Array Value)(n:Nat)(dd:Option Addr)(sl:Array (Option Value)):Meets (Builtin.«list.__ne__» ⟨[.ref b,.ref l],[]⟩) (fun _ R s=>s.heap.get? l=some (DO es ep)/\s.heap.get? b=some ⟨.type "list",dd,.seq its n,sl⟩/\R (.ok (.ret .notImplemented)) s):=
 .of_wp fun prog w A R s h=>by obtain⟨hp,g,d,tk,os⟩:=s;obtain⟨hl,hb,h⟩:=h;have f1:=my;wp_walk using wpAny_loadPart' hl,wpAny_load hl,wpAny_loadPart' hb,wpAny_load hb;exact⟨_,rfl,h⟩
end
noncomputable def Eq3(A:Around)(s:Shared)(v u:Value)(b:Bool):Prop:=SeqAt.RcAt A s v u b/\SeqAt.EqAt A s v u b/\SeqAt.RcNeAt A s v u (!b)
section
variable{A:Around}{s:Shared}{l:Addr}
theorem gQ{v:Value}(hne:v≠.ref l)(h:SeqAt.RcAt A s v (.ref l) false):SeqAt.EqAt A s v (.ref l) false:=fun prog w E Q q=>by
 unfold eqBool;refine wpAny_holding ?_;refine wpAny_ite_split (fun hab=>absurd (eq_of_beq hab) hne) (fun _=>?_);cases v<;>exact wpAny_bind (h prog w E _ (wpAny_truthy_bool q))
theorem z5(d:tI s.heap l)(hu:A.units<cLine):Eq3 A s .none (.ref l) false:=by
 obtain⟨es,ep,ho⟩:=d
 have a:SeqAt.RcAt A s .none (.ref l) false:=fun prog w E Q h=>SeqAt.rc_eq_decline_or (k:=false) rfl ⟨_,ho,rfl⟩ (by decide) ud F.slot_NoneType_eq F.slot_dict_eq_refl
  (fun _ hq=>call_gives F.slot_NoneType_eq rfl F.entry_NoneType_eq (F.args_NoneType_eq_2 _ _) (SeqAt.NoneType___eq___none_ref_0 l) hq)
  (fun _ hq=>call_meets F.slot_dict_eq_refl ⟨_,ho,rfl⟩ F.entry_dict_eq (F.args_dict_eq_2 _ _) (E1 l es ep) ⟨ho,hq⟩)
  (fun _ hq=>wpAny_of_eq (rfl:isSame .none (.ref l)=pure false) hq) (.inr hu) h
 exact⟨a,gQ nofun a,fun prog w E Q h=>SeqAt.rc_ne_decline_or (k:=false) rfl ⟨_,ho,rfl⟩ (by decide) ud F.slot_NoneType_ne F.slot_dict_ne_refl
  (fun _ hq=>call_gives F.slot_NoneType_ne rfl F.entry_NoneType_ne (F.args_NoneType_ne_2 _ _) (SeqAt.NoneType___ne___none_ref_0 l) hq)
  (fun _ hq=>call_meets F.slot_dict_ne_refl ⟨_,ho,rfl⟩ F.entry_dict_ne (F.args_dict_ne_2 _ _) (E5 l es ep) ⟨ho,hq⟩)
  (fun _ hq=>wpAny_of_eq (rfl:isSame .none (.ref l)=pure false) hq) (.inr hu) h⟩
theorem Df(c:Bool)(d:tI s.heap l)(hu:A.units<cLine):Eq3 A s (.bool c) (.ref l) false:=by
 obtain⟨es,ep,ho⟩:=d
 have a:SeqAt.RcAt A s (.bool c) (.ref l) false:=fun prog w E Q h=>SeqAt.rc_eq_decline_or (k:=false) rfl ⟨_,ho,rfl⟩ (by decide) wM F.slot_bool_eq F.slot_dict_eq_refl
  (fun _ hq=>call_meets F.slot_bool_eq rfl F.entry_int_eq (F.args_int_eq_2 _ _) (Gm l es ep c) ⟨ho,hq⟩)
  (fun _ hq=>call_meets F.slot_dict_eq_refl ⟨_,ho,rfl⟩ F.entry_dict_eq (F.args_dict_eq_2 _ _) (Hs l es ep c) ⟨ho,hq⟩)
  (fun _ hq=>wpAny_of_eq (rfl:isSame (.bool c) (.ref l)=pure false) hq) (.inr hu) h
 exact⟨a,gQ nofun a,fun prog w E Q h=>SeqAt.rc_ne_decline_or (k:=false) rfl ⟨_,ho,rfl⟩ (by decide) wM F.slot_bool_ne F.slot_dict_ne_refl
  (fun _ hq=>call_meets F.slot_bool_ne rfl F.entry_int_ne (F.args_int_ne_2 _ _) (GG l es ep c) ⟨ho,hq⟩)
  (fun _ hq=>call_meets F.slot_dict_ne_refl ⟨_,ho,rfl⟩ F.entry_dict_ne (F.args_dict_ne_2 _ _) (GI l es ep c) ⟨ho,hq⟩)
  (fun _ hq=>wpAny_of_eq (rfl:isSame (.bool c) (.ref l)=pure false) hq) (.inr hu) h⟩
theorem DP(c:Int)(u:Tok)(d:tI s.heap l)(hu:A.units<cLine):Eq3 A s (.int c u) (.ref l) false:=by
 obtain⟨es,ep,ho⟩:=d
 have a:SeqAt.RcAt A s (.int c u) (.ref l) false:=fun prog w E Q h=>SeqAt.rc_eq_decline_or (k:=false) (typeIs_int s c u) ⟨_,ho,rfl⟩ (by decide) jA F.slot_int_eq F.slot_dict_eq_refl
  (fun _ hq=>call_meets F.slot_int_eq (typeIs_int s c u) F.entry_int_eq (F.args_int_eq_2 _ _) (Gv l es ep c u) ⟨ho,hq⟩)
  (fun _ hq=>call_meets F.slot_dict_eq_refl ⟨_,ho,rfl⟩ F.entry_dict_eq (F.args_dict_eq_2 _ _) (GN l es ep c u) ⟨ho,hq⟩)
  (fun _ hq=>wpAny_of_eq (rfl:isSame (.int c u) (.ref l)=pure false) hq) (.inr hu) h
 exact⟨a,gQ nofun a,fun prog w E Q h=>SeqAt.rc_ne_decline_or (k:=false) (typeIs_int s c u) ⟨_,ho,rfl⟩ (by decide) jA F.slot_int_ne F.slot_dict_ne_refl
  (fun _ hq=>call_meets F.slot_int_ne (typeIs_int s c u) F.entry_int_ne (F.args_int_ne_2 _ _) (Gb l es ep c u) ⟨ho,hq⟩)
  (fun _ hq=>call_meets F.slot_dict_ne_refl ⟨_,ho,rfl⟩ F.entry_dict_ne (F.args_dict_ne_2 _ _) (Hk l es ep c u) ⟨ho,hq⟩)
  (fun _ hq=>wpAny_of_eq (rfl:isSame (.int c u) (.ref l)=pure false) hq) (.inr hu) h⟩
theorem D5(c:Str)(u:Tok)(d:tI s.heap l)(hu:A.units<cLine):Eq3 A s (.str c u) (.ref l) false:=by
 obtain⟨es,ep,ho⟩:=d
 have a:SeqAt.RcAt A s (.str c u) (.ref l) false:=fun prog w E Q h=>SeqAt.rc_eq_decline_or (k:=false) (typeIs_str s c u) ⟨_,ho,rfl⟩ (by decide) mN F.slot_str_eq F.slot_dict_eq_refl
  (fun _ hq=>call_meets F.slot_str_eq (typeIs_str s c u) F.entry_str_eq (F.args_str_eq_2 _ _) (HN l es ep c u) ⟨ho,hq⟩)
  (fun _ hq=>call_meets F.slot_dict_eq_refl ⟨_,ho,rfl⟩ F.entry_dict_eq (F.args_dict_eq_2 _ _) (GA l es ep c u) ⟨ho,hq⟩)
  (fun _ hq=>wpAny_of_eq (rfl:isSame (.str c u) (.ref l)=pure false) hq) (.inr hu) h
 exact⟨a,gQ nofun a,fun prog w E Q h=>SeqAt.rc_ne_decline_or (k:=false) (typeIs_str s c u) ⟨_,ho,rfl⟩ (by decide) mN F.slot_str_ne F.slot_dict_ne_refl
  (fun _ hq=>call_meets F.slot_str_ne (typeIs_str s c u) F.entry_str_ne (F.args_str_ne_2 _ _) (HS l es ep c u) ⟨ho,hq⟩)
  (fun _ hq=>call_meets F.slot_dict_ne_refl ⟨_,ho,rfl⟩ F.entry_dict_ne (F.args_dict_ne_2 _ _) (Gj l es ep c u) ⟨ho,hq⟩)
  (fun _ hq=>wpAny_of_eq (rfl:isSame (.str c u) (.ref l)=pure false) hq) (.inr hu) h⟩
theorem mT{b:Addr}{ob ol:Obj}{Q:Bool->Shared->Prop}{M:Model}{E:Value->Shared->Prop}(h1:s.heap.get? b=some ob)(h2:s.heap.get? l=some ol)(hb:ob.cls≠ol.cls)(hl:ol.cls≠.type "tuple")(q:Q false s):wpAny M A (isSame (.ref b) (.ref l)) Q E s:=
 SeqAt.wpAny_isSame_ref_other' (fun e=>by subst e;rw[h1] at h2;cases h2;exact hb rfl) h1 h2 hl q
theorem DT{b:Addr}{its:Array Value}(hb:s.heap.IsTuple b its)(d:tI s.heap l)(hu:A.units<cLine):Eq3 A s (.ref b) (.ref l) false:=by
 obtain⟨es,ep,ho⟩:=d;obtain⟨⟨cls,dd,data,sl⟩,hp,hc,n,hd⟩:=id hb;simp only at hc hd;subst hc hd;have ne:Value.ref b≠Value.ref l:=fun e=>by cases e;exact absurd (congrArg (fun o:Obj=>o.cls) (Option.some.inj (hp.symm.trans ho))) (by simp)
 have a:SeqAt.RcAt A s (.ref b) (.ref l) false:=fun prog w E Q h=>SeqAt.rc_eq_decline_or (k:=false) ⟨_,hp,rfl⟩ ⟨_,ho,rfl⟩ (by decide) mw F.slot_tuple_eq F.slot_dict_eq_refl
  (fun _ hq=>call_meets F.slot_tuple_eq ⟨_,hp,rfl⟩ F.entry_tuple_eq (F.args_tuple_eq_2 _ _) (Ic l b es ep _ _ _ _) ⟨ho,hp,hq⟩)
  (fun _ hq=>call_meets F.slot_dict_eq_refl ⟨_,ho,rfl⟩ F.entry_dict_eq (F.args_dict_eq_2 _ _) (Gq l b es ep _ _ _ _) ⟨ho,hp,hq⟩)
  (fun _ hq=>mT hp ho (by simp) (by simp) hq) (.inr hu) h
 exact⟨a,gQ ne a,fun prog w E Q h=>SeqAt.rc_ne_decline_or (k:=false) ⟨_,hp,rfl⟩ ⟨_,ho,rfl⟩ (by decide) mw F.slot_tuple_ne F.slot_dict_ne_refl
  (fun _ hq=>call_meets F.slot_tuple_ne ⟨_,hp,rfl⟩ F.entry_tuple_ne (F.args_tuple_ne_2 _ _) (HU l b es ep _ _ _ _) ⟨ho,hp,hq⟩)
  (fun _ hq=>call_meets F.slot_dict_ne_refl ⟨_,ho,rfl⟩ F.entry_dict_ne (F.args_dict_ne_2 _ _) (Go l b es ep _ _ _ _) ⟨ho,hp,hq⟩)
  (fun _ hq=>mT hp ho (by simp) (by simp) hq) (.inr hu) h⟩
theorem DW{b:Addr}{its:Array Value}(hb:s.heap.IsList b its)(d:tI s.heap l)(hu:A.units<cLine):Eq3 A s (.ref b) (.ref l) false:=by
 obtain⟨es,ep,ho⟩:=d;obtain⟨⟨cls,dd,data,sl⟩,hp,hc,n,hd⟩:=id hb;simp only at hc hd;subst hc hd;have ne:Value.ref b≠Value.ref l:=fun e=>by cases e;exact absurd (congrArg (fun o:Obj=>o.cls) (Option.some.inj (hp.symm.trans ho))) (by simp)
 have a:SeqAt.RcAt A s (.ref b) (.ref l) false:=fun prog w E Q h=>SeqAt.rc_eq_decline_or (k:=false) ⟨_,hp,rfl⟩ ⟨_,ho,rfl⟩ (by decide) my F.slot_list_eq F.slot_dict_eq_refl
  (fun _ hq=>call_meets F.slot_list_eq ⟨_,hp,rfl⟩ F.entry_list_eq (F.args_list_eq_2 _ _) (HL l b es ep _ _ _ _) ⟨ho,hp,hq⟩)
  (fun _ hq=>call_meets F.slot_dict_eq_refl ⟨_,ho,rfl⟩ F.entry_dict_eq (F.args_dict_eq_2 _ _) (He l b es ep _ _ _ _) ⟨ho,hp,hq⟩)
  (fun _ hq=>mT hp ho (by simp) (by simp) hq) (.inr hu) h
 exact⟨a,gQ ne a,fun prog w E Q h=>SeqAt.rc_ne_decline_or (k:=false) ⟨_,hp,rfl⟩ ⟨_,ho,rfl⟩ (by decide) my F.slot_list_ne F.slot_dict_ne_refl
  (fun _ hq=>call_meets F.slot_list_ne ⟨_,hp,rfl⟩ F.entry_list_ne (F.args_list_ne_2 _ _) (H9 l b es ep _ _ _ _) ⟨ho,hp,hq⟩)
  (fun _ hq=>call_meets F.slot_dict_ne_refl ⟨_,ho,rfl⟩ F.entry_dict_ne (F.args_dict_ne_2 _ _) (Hh l b es ep _ _ _ _) ⟨ho,hp,hq⟩)
  (fun _ hq=>mT hp ho (by simp) (by simp) hq) (.inr hu) h⟩
end
end L2
namespace L2
open PySem PySem.Spec PyProof.Rows
section
variable{X:Cx}{pins:List (Addr×Obj)}{σ:St}{H:Hp}{s:Shared}
theorem wx:∀ {xs:List V} {us:List Value} {j:Nat} {x:V},aT xs us->xs[j]?=some x->∀(h:j<us.toArray.size),bq x us.toArray[j]:=fun {xs us j x} r e h=>by
 obtain⟨u,h1,h2⟩:=r.get e
 have:us[j]?=some us.toArray[j]:=by
  rw[List.getElem?_eq_getElem (by simpa using h)]
  simp
 rw[h1] at this;cases this;exact h2
theorem f9(I:Inv X pins σ H s){a:Addr}{xs:List V}(h:H a=some (.tup xs)):∃its:List Value,aT xs its/\s.heap.IsTuple a its.toArray:=by
 obtain⟨its,r,p,_⟩:=I.tuple (SqT.of (K:=X.K) h);exact⟨its,r,p⟩
theorem j5(I:Inv X pins σ H s){a:Addr}{xs:List V}(h:H a=some (.lst xs)):∃its:List Value,aT xs its/\s.heap.IsList a its.toArray:=by
 obtain⟨its,r,p,_⟩:=I.list (SqL.of (K:=X.K) h);exact⟨its,r,p.isList⟩
theorem p5(I:Inv X pins σ H s){a:Addr}{kvs:List (Key×V)}(h:H a=some (.dK kvs)):tI s.heap a:=by
 obtain⟨_,_,vs,_,o,es,ep,e1,⟨c1,c2,c3⟩,e2,_⟩:=I.hok _ _ h;obtain⟨cls,dd,data,sl⟩:=o;simp only at c1 c2 c3 e2;subst c1 c2 c3 e2;exact⟨_,_,e1⟩
theorem nE(I:Inv X pins σ H s){a:Addr}{kvs:List (List Key×V)}(h:H a=some (.dT kvs)):tI s.heap a:=by
 obtain⟨_,_,vs,_,o,es,ep,e1,⟨c1,c2,c3⟩,e2,_⟩:=I.hok _ _ h;obtain⟨cls,dd,data,sl⟩:=o;simp only at c1 c2 c3 e2;subst c1 c2 c3 e2;exact⟨_,_,e1⟩
theorem zm{ds es:List D}:((List.range (min ds.length es.length)).all (fun j=>eqD (ds.getD j .non) (es.getD j .non)) && ds.length == es.length)=fD ds es:=by
 by_cases h:ds.length=es.length
 ·rw[←km h]
  have:min ds.length es.length=ds.length:=by omega
  rw[this];simp[h]
 ·rw[n8 h]
  have:(ds.length == es.length)=false:=by simpa using h
  rw[this,Bool.and_false]
theorem kj(I:Inv X pins σ H s)(n:Nat):∀(d e:D)(x y:V)(v u:Value)(A:Around),dep d<=n->A.units+n<cLine->Dat H d x->Dat H e y->bq x v->bq y u ->
  SeqAt.RcAt A s v u (eqD d e)/\SeqAt.EqAt A s v u (eqD d e)/\SeqAt.RcNeAt A s v u (!eqD d e):=by
 induction n with
 |zero=>
  intro d e x y v u A hd hu hx hy rx ry;have hu':A.units<cLine:=by omega
  cases d with
  |tup ds=>simp only[dep] at hd;omega
  |lst ds=>simp only[dep] at hd;omega
  |dk ds=>simp only[dep] at hd;omega
  |dt ds=>simp only[dep] at hd;omega
  |non=>
   simp only[Dat] at hx;subst hx;cases rx
   cases e with
   |non=>simp only[Dat] at hy;subst hy;cases ry;exact⟨SeqAt.RcAt.none_none,SeqAt.EqAt.same _,SeqAt.RcNeAt.none_none⟩
   |bl b=>simp only[Dat] at hy;subst hy;cases ry;exact⟨SeqAt.RcAt.none_bool b,SeqAt.EqAt.none_bool b,SeqAt.RcNeAt.none_bool b⟩
   |int b=>simp only[Dat] at hy;subst hy;obtain⟨t,rfl⟩:=ry;exact⟨SeqAt.RcAt.none_int b t,SeqAt.EqAt.none_int b t,SeqAt.RcNeAt.none_int b t⟩
   |str b=>simp only[Dat] at hy;subst hy;obtain⟨t,rfl⟩:=ry;exact⟨SeqAt.RcAt.none_str b t,SeqAt.EqAt.none_str b t,SeqAt.RcNeAt.none_str b t⟩
   |tup es=>
    simp only[Dat] at hy;obtain⟨b,ys,rfl,hb,_⟩:=hy;cases ry;obtain⟨its,_,p⟩:=f9 I hb;exact⟨SeqAt.RcAt.none_tuple p hu',SeqAt.EqAt.none_tuple p hu',SeqAt.RcNeAt.none_tuple p hu'⟩
   |lst es=>
    simp only[Dat] at hy;obtain⟨b,ys,rfl,hb,_⟩:=hy;cases ry;obtain⟨its,_,p⟩:=j5 I hb;exact⟨SeqAt.RcAt.none_list p hu',SeqAt.EqAt.none_list p hu',SeqAt.RcNeAt.none_list p hu'⟩
   |dk es=>
    simp only[Dat] at hy;obtain⟨b,ys,rfl,hb,_⟩:=hy;cases ry;exact z5 (p5 I hb) hu'
   |dt es=>
    simp only[Dat] at hy;obtain⟨b,ys,rfl,hb,_⟩:=hy;cases ry;exact z5 (nE I hb) hu'
  |bl a=>
   simp only[Dat] at hx;subst hx;cases rx
   cases e with
   |non=>simp only[Dat] at hy;subst hy;cases ry;exact⟨SeqAt.RcAt.bool_none a,SeqAt.EqAt.bool_none a,SeqAt.RcNeAt.bool_none a⟩
   |bl b=>simp only[Dat] at hy;subst hy;cases ry;exact⟨SeqAt.RcAt.bool_bool a b,SeqAt.EqAt.bool_bool a b,SeqAt.RcNeAt.bool_bool a b⟩
   |int b=>simp only[Dat] at hy;subst hy;obtain⟨t,rfl⟩:=ry;exact⟨SeqAt.RcAt.bool_int a b t,SeqAt.EqAt.bool_int a b t,SeqAt.RcNeAt.bool_int a b t⟩
   |str b=>simp only[Dat] at hy;subst hy;obtain⟨t,rfl⟩:=ry;exact⟨SeqAt.RcAt.bool_str a b t,SeqAt.EqAt.bool_str a b t,SeqAt.RcNeAt.bool_str a b t⟩
   |tup es=>
    simp only[Dat] at hy;obtain⟨b,ys,rfl,hb,_⟩:=hy;cases ry;obtain⟨its,_,p⟩:=f9 I hb;exact⟨SeqAt.RcAt.bool_tuple a p hu',SeqAt.EqAt.bool_tuple a p hu',SeqAt.RcNeAt.bool_tuple a p hu'⟩
   |lst es=>
    simp only[Dat] at hy;obtain⟨b,ys,rfl,hb,_⟩:=hy;cases ry;obtain⟨its,_,p⟩:=j5 I hb;exact⟨SeqAt.RcAt.bool_list a p hu',SeqAt.EqAt.bool_list a p hu',SeqAt.RcNeAt.bool_list a p hu'⟩
   |dk es=>
    simp only[Dat] at hy;obtain⟨b,ys,rfl,hb,_⟩:=hy;cases ry;exact Df a (p5 I hb) hu'
   |dt es=>
    simp only[Dat] at hy;obtain⟨b,ys,rfl,hb,_⟩:=hy;cases ry;exact Df a (nE I hb) hu'
  |int a=>
   simp only[Dat] at hx;subst hx;obtain⟨t',rfl⟩:=rx
   cases e with
   |non=>simp only[Dat] at hy;subst hy;cases ry;exact⟨SeqAt.RcAt.int_none a t',SeqAt.EqAt.int_none a t',SeqAt.RcNeAt.int_none a t'⟩
   |bl b=>simp only[Dat] at hy;subst hy;cases ry;exact⟨SeqAt.RcAt.int_bool a t' b,SeqAt.EqAt.int_bool a t' b,SeqAt.RcNeAt.int_bool a t' b⟩
   |int b=>simp only[Dat] at hy;subst hy;obtain⟨t,rfl⟩:=ry;exact⟨SeqAt.RcAt.int_int a t' b t,SeqAt.EqAt.int_int a t' b t,SeqAt.RcNeAt.int_int a t' b t⟩
   |str b=>simp only[Dat] at hy;subst hy;obtain⟨t,rfl⟩:=ry;exact⟨SeqAt.RcAt.int_str a t' b t,SeqAt.EqAt.int_str a t' b t,SeqAt.RcNeAt.int_str a t' b t⟩
   |tup es=>
    simp only[Dat] at hy;obtain⟨b,ys,rfl,hb,_⟩:=hy;cases ry;obtain⟨its,_,p⟩:=f9 I hb;exact⟨SeqAt.RcAt.int_tuple a t' p hu',SeqAt.EqAt.int_tuple a t' p hu',SeqAt.RcNeAt.int_tuple a t' p hu'⟩
   |lst es=>
    simp only[Dat] at hy;obtain⟨b,ys,rfl,hb,_⟩:=hy;cases ry;obtain⟨its,_,p⟩:=j5 I hb;exact⟨SeqAt.RcAt.int_list a t' p hu',SeqAt.EqAt.int_list a t' p hu',SeqAt.RcNeAt.int_list a t' p hu'⟩
   |dk es=>
    simp only[Dat] at hy;obtain⟨b,ys,rfl,hb,_⟩:=hy;cases ry;exact DP a t' (p5 I hb) hu'
   |dt es=>
    simp only[Dat] at hy;obtain⟨b,ys,rfl,hb,_⟩:=hy;cases ry;exact DP a t' (nE I hb) hu'
  |str a=>
   simp only[Dat] at hx;subst hx;obtain⟨t',rfl⟩:=rx
   cases e with
   |non=>simp only[Dat] at hy;subst hy;cases ry;exact⟨SeqAt.RcAt.str_none a t',SeqAt.EqAt.str_none a t',SeqAt.RcNeAt.str_none a t'⟩
   |bl b=>simp only[Dat] at hy;subst hy;cases ry;exact⟨SeqAt.RcAt.str_bool a t' b,SeqAt.EqAt.str_bool a t' b,SeqAt.RcNeAt.str_bool a t' b⟩
   |int b=>simp only[Dat] at hy;subst hy;obtain⟨t,rfl⟩:=ry;exact⟨SeqAt.RcAt.str_int a t' b t,SeqAt.EqAt.str_int a t' b t,SeqAt.RcNeAt.str_int a t' b t⟩
   |str b=>simp only[Dat] at hy;subst hy;obtain⟨t,rfl⟩:=ry;exact⟨SeqAt.RcAt.str_str a t' b t,SeqAt.EqAt.str_str a t' b t,SeqAt.RcNeAt.str_str a t' b t⟩
   |tup es=>
    simp only[Dat] at hy;obtain⟨b,ys,rfl,hb,_⟩:=hy;cases ry;obtain⟨its,_,p⟩:=f9 I hb;exact⟨SeqAt.RcAt.str_tuple a t' p hu',SeqAt.EqAt.str_tuple a t' p hu',SeqAt.RcNeAt.str_tuple a t' p hu'⟩
   |lst es=>
    simp only[Dat] at hy;obtain⟨b,ys,rfl,hb,_⟩:=hy;cases ry;obtain⟨its,_,p⟩:=j5 I hb;exact⟨SeqAt.RcAt.str_list a t' p hu',SeqAt.EqAt.str_list a t' p hu',SeqAt.RcNeAt.str_list a t' p hu'⟩
   |dk es=>
    simp only[Dat] at hy;obtain⟨b,ys,rfl,hb,_⟩:=hy;cases ry;exact D5 a t' (p5 I hb) hu'
   |dt es=>
    simp only[Dat] at hy;obtain⟨b,ys,rfl,hb,_⟩:=hy;cases ry;exact D5 a t' (nE I hb) hu'
 |succ n ih=>
  intro d e x y v u A hd hu hx hy rx ry;have hu':A.units<cLine:=by omega
  by_cases h0:dep d<=n
  ·exact ih d e x y v u A h0 (by omega) hx hy rx ry
  have hin:A.in1.units+n<cLine:=by show A.units+1+n<cLine;omega
  have items:∀(ds es:List D)(xs ys:List V)(its its2:List Value),dY ds<=n->aG H ds xs->aG H es ys->aT xs its->aT ys its2 ->
    ∀j (h1:j<its.toArray.size) (h2:j<its2.toArray.size),SeqAt.EqAt A.in1 s its.toArray[j] its2.toArray[j] (eqD (ds.getD j .non) (es.getD j .non)):=by
   intro ds es xs ys its its2 hdp hxs hys r1 r2 j h1 h2;have l1:j<ds.length:=by rw[←hxs.length,r1.length];simpa using h1
   have l2:j<es.length:=by rw[←hys.length,r2.length];simpa using h2
   obtain⟨x',ex,hx'⟩:=hxs.get (List.getElem?_eq_getElem l1);obtain⟨y',ey,hy'⟩:=hys.get (List.getElem?_eq_getElem l2);have g1:ds.getD j .non=ds[j]:=by rw[List.getD_eq_getElem?_getD,List.getElem?_eq_getElem l1];rfl
   have g2:es.getD j .non=es[j]:=by rw[List.getD_eq_getElem?_getD,List.getElem?_eq_getElem l2];rfl
   rw[g1,g2];exact(ih ds[j] es[j] x' y' _ _ A.in1 (Nat.le_trans (nu (List.getElem_mem l1)) hdp) hin hx' hy' (wx r1 ex h1) (wx r2 ey h2)).2.1
  cases d with
  |non=>simp only[dep] at h0;omega
  |bl a=>simp only[dep] at h0;omega
  |int a=>simp only[dep] at h0;omega
  |str a=>simp only[dep] at h0;omega
  |dk ds=>simp only[dep] at hd;have:cLine=9900:=rfl;omega
  |dt ds=>simp only[dep] at hd;have:cLine=9900:=rfl;omega
  |tup ds=>
   simp only[dep] at hd;have hx0:=hx;simp only[Dat] at hx;obtain⟨a,xs,rfl,ha,hxs⟩:=hx;cases rx;obtain⟨its,r1,p⟩:=f9 I ha
   cases e with
   |non=>simp only[Dat] at hy;subst hy;cases ry;exact⟨SeqAt.RcAt.tuple_none p hu',SeqAt.EqAt.tuple_none p hu',SeqAt.RcNeAt.tuple_none p hu'⟩
   |bl b=>simp only[Dat] at hy;subst hy;cases ry;exact⟨SeqAt.RcAt.tuple_bool b p hu',SeqAt.EqAt.tuple_bool b p hu',SeqAt.RcNeAt.tuple_bool b p hu'⟩
   |int b=>simp only[Dat] at hy;subst hy;obtain⟨t,rfl⟩:=ry;exact⟨SeqAt.RcAt.tuple_int b t p hu',SeqAt.EqAt.tuple_int b t p hu',SeqAt.RcNeAt.tuple_int b t p hu'⟩
   |str b=>simp only[Dat] at hy;subst hy;obtain⟨t,rfl⟩:=ry;exact⟨SeqAt.RcAt.tuple_str b t p hu',SeqAt.EqAt.tuple_str b t p hu',SeqAt.RcNeAt.tuple_str b t p hu'⟩
   |lst es=>
    simp only[Dat] at hy;obtain⟨b,ys,rfl,hb,_⟩:=hy;cases ry;obtain⟨its2,_,p2⟩:=j5 I hb;exact⟨SeqAt.RcAt.tuple_list p p2 hu',SeqAt.EqAt.tuple_list p p2 hu',SeqAt.RcNeAt.tuple_list p p2 hu'⟩
   |dk es=>
    simp only[Dat] at hy;obtain⟨b,ys,rfl,hb,_⟩:=hy;cases ry;exact DT p (p5 I hb) hu'
   |dt es=>
    simp only[Dat] at hy;obtain⟨b,ys,rfl,hb,_⟩:=hy;cases ry;exact DT p (nE I hb) hu'
   |tup es=>
    have hy0:=hy;simp only[Dat] at hy;obtain⟨b,ys,rfl,hb,hys⟩:=hy;cases ry;obtain⟨its2,r2,p2⟩:=f9 I hb;have it:=items ds es xs ys its its2 (by omega) hxs hys r1 r2
    have z1:its.toArray.size=ds.length:=by rw[←hxs.length,r1.length];simp
    have z2:its2.toArray.size=es.length:=by rw[←hys.length,r2.length];simp
    have e0:=zm (ds:=ds) (es:=es)
    have rc:SeqAt.RcAt A s (.ref a) (.ref b) (fD ds es):=by
     have:=SeqAt.RcAt.tuples p p2 hu' it;rw[z1,z2,e0] at this;exact this
    have rn:SeqAt.RcNeAt A s (.ref a) (.ref b) (!fD ds es):=by
     have:=SeqAt.RcNeAt.tuples p p2 hu' it;rw[z1,z2,e0] at this;exact this
    simp only[eqD];refine⟨rc,?_,rn⟩;by_cases hab:a=b
    ·subst hab
     have:D.tup ds=D.tup es:=hx0.inj hy0;cases this;rw[gL];exact SeqAt.EqAt.same _
    ·exact .of_refs hab rc
  |lst ds=>
   simp only[dep] at hd;have hx0:=hx;simp only[Dat] at hx;obtain⟨a,xs,rfl,ha,hxs⟩:=hx;cases rx;obtain⟨its,r1,p⟩:=j5 I ha
   cases e with
   |non=>simp only[Dat] at hy;subst hy;cases ry;exact⟨SeqAt.RcAt.list_none p hu',SeqAt.EqAt.list_none p hu',SeqAt.RcNeAt.list_none p hu'⟩
   |bl b=>simp only[Dat] at hy;subst hy;cases ry;exact⟨SeqAt.RcAt.list_bool b p hu',SeqAt.EqAt.list_bool b p hu',SeqAt.RcNeAt.list_bool b p hu'⟩
   |int b=>simp only[Dat] at hy;subst hy;obtain⟨t,rfl⟩:=ry;exact⟨SeqAt.RcAt.list_int b t p hu',SeqAt.EqAt.list_int b t p hu',SeqAt.RcNeAt.list_int b t p hu'⟩
   |str b=>simp only[Dat] at hy;subst hy;obtain⟨t,rfl⟩:=ry;exact⟨SeqAt.RcAt.list_str b t p hu',SeqAt.EqAt.list_str b t p hu',SeqAt.RcNeAt.list_str b t p hu'⟩
   |tup es=>
    simp only[Dat] at hy;obtain⟨b,ys,rfl,hb,_⟩:=hy;cases ry;obtain⟨its2,_,p2⟩:=f9 I hb;exact⟨SeqAt.RcAt.list_tuple p p2 hu',SeqAt.EqAt.list_tuple p p2 hu',SeqAt.RcNeAt.list_tuple p p2 hu'⟩
   |dk es=>
    simp only[Dat] at hy;obtain⟨b,ys,rfl,hb,_⟩:=hy;cases ry;exact DW p (p5 I hb) hu'
   |dt es=>
    simp only[Dat] at hy;obtain⟨b,ys,rfl,hb,_⟩:=hy;cases ry;exact DW p (nE I hb) hu'
   |lst es=>
    have hy0:=hy;simp only[Dat] at hy;obtain⟨b,ys,rfl,hb,hys⟩:=hy;cases ry;obtain⟨its2,r2,p2⟩:=j5 I hb;have it:=items ds es xs ys its its2 (by omega) hxs hys r1 r2
    have z1:its.toArray.size=ds.length:=by rw[←hxs.length,r1.length];simp
    have z2:its2.toArray.size=es.length:=by rw[←hys.length,r2.length];simp
    have both:SeqAt.RcAt A s (.ref a) (.ref b) (fD ds es)/\SeqAt.RcNeAt A s (.ref a) (.ref b) (!fD ds es):=by
     by_cases hl:ds.length=es.length
     ·have r:=SeqAt.RcAt.lists p p2 (by rw[z1,z2];exact hl) hu' it
      have q:=SeqAt.RcNeAt.lists p p2 (by rw[z1,z2];exact hl) hu' it
      rw[z1,km hl] at r q;exact⟨r,q⟩
     ·have hne:(its.toArray.size != its2.toArray.size)=true:=by rw[z1,z2];simpa using hl
      rw[n8 hl];exact⟨SeqAt.RcAt.lists_lengths p p2 hne hu',SeqAt.RcNeAt.lists_lengths p p2 hne hu'⟩
    simp only[eqD];refine⟨both.1,?_,both.2⟩;by_cases hab:a=b
    ·subst hab
     have:D.lst ds=D.lst es:=hx0.inj hy0;cases this;rw[gL];exact SeqAt.EqAt.same _
    ·exact .of_refs hab both.1
noncomputable def Fy(neg:Bool):R2:=fun x y H Q=>∃d e,Dat H d x/\Dat H e y/\dep d<=100/\Q (.bl (if neg then !eqD d e else eqD d e)) H
theorem bA(hu:X.A.units+100<cLine):OpR X (compareOp .Eq) (Fy false):=by
 intro pins s σ H x y v u Q I rx ry h;obtain⟨d,e,hx,hy,hd,q⟩:=h;exact(kj I 100 d e x y v u X.A hd hu hx hy rx ry).1 X.prog X.w _ _ ⟨.bl _,H,I,rfl,q⟩
theorem uH(hu:X.A.units+100<cLine):OpR X (compareOp .NotEq) (Fy true):=by
 intro pins s σ H x y v u Q I rx ry h;obtain⟨d,e,hx,hy,hd,q⟩:=h;exact(kj I 100 d e x y v u X.A hd hu hx hy rx ry).2.2 X.prog X.w _ _ ⟨.bl _,H,I,rfl,q⟩
end
theorem nQ{H:Hp}{p:Addr}{o:HO}(h:H p=none):dq H (upd H p o):=fun b u e=>by
 rw[aV (bC e h)];exact e
theorem lD(H:Hp):∀ns:List Int,aG H (ns.map D.int) (ns.map V.int)
 | []=>by simp[aG]
 |n::r=>by
  simp only[List.map_cons,aG];exact⟨_,_,rfl,by simp[Dat],lD H r⟩
theorem d8{H:Hp}:∀ {ns:List Int} {xs:List V},aG H (ns.map D.int) xs->xs=ns.map V.int
 | [],xs,h=>by simpa[aG] using h
 |n::r,xs,h=>by
  simp only[List.map_cons,aG] at h;obtain⟨x,t,rfl,h1,h2⟩:=h;rw[d8 h2];simp only[Dat] at h1;rw[h1];rfl
theorem sU{e k y:Int}(h:0<k)(h2:k<=2^64):o6 (e%k) y:=by
 have h1:=Int.emod_nonneg e (Int.ne_of_gt h);have h3:=Int.emod_lt_of_pos e h;exact .inl ⟨by omega,by omega⟩
theorem vd{x y:Int}(h:-(2^64)<x/\x<2^64):o6 x y:=.inl h
theorem Bl{x y:Int}(h:-(2^64)<y/\y<2^64):o6 x y:=.inr h
section
variable{X:Cx}{tg a b l:Expr}{ta tb tl:TE}{pos:Pos}
theorem aJ(K:W.Frag)(h:X.K=K):IxR X (rIx K):=h ▸ FP
theorem bH(K:W.Frag)(h:X.K=K):c6 X (.builtin "len") (fun xs H Q=>∃x n,xs=[x]/\B6 K x H n/\Q (.int n) H):=h ▸ Ba
theorem eU(K:W.Frag)(h:X.K=K)(hc:X.calm=true):c6 X (.builtin "all") (fun xs H Q=>∃(a:Addr)(bs:List Bool),xs=[.ref a]/\SqL K H a (bs.map V.bl)/\Q (.bl (bs.all id)) H):=h ▸ zp hc
theorem xP(K:W.Frag)(h:X.K=K)(hc:X.calm=true):c6 X (.builtin "any") (fun xs H Q=>∃(a:Addr)(bs:List Bool),xs=[.ref a]/\SqL K H a (bs.map V.bl)/\Q (.bl (bs.any id)) H):=h ▸ z7 hc
theorem be(K:W.Frag)(h:X.K=K)(ha:PE X a ta)(he:∀whole,isTrue a X.env whole=(do let v ← whole;standAt a.pos;holding [v] (truthy v))):
  PT X a (fun σ H Q=>ta σ H fun x H'=>∃k,sB K x H' k/\Q k H'):=h ▸ yU ha he
theorem bj(K:W.Frag)(h:X.K=K):c6 X (.type "tuple") (fun xs H Q=>∃p ys,xs=[.ref p]/\((SqL K H p ys/\∀l,H l=none->Q (.ref l) (upd H l (.tup ys)))\/(SqT K H p ys/\Q (.ref p) H))):=h ▸ oP
end
noncomputable def HR(J:It)(g:TG)(tb:TS)(D:jL)(σ:St)(H:Hp):Prop:=∃W:Nat->Nat->St->Hp->Prop,(∃m,W 0 m σ H)/\∀i m σ H,W i m σ H ->
 (J.stop i H/\D.nx σ H)\/(J.go i H/\∃N:St->Hp->Prop,(∀σ' H',N σ' H'->∃m',m'<m/\W (i+1) m' σ' H')/\∀x H',J.yld i H x H'->g x σ H' fun σ2 H2=>tb { D with nx:=N,ct:=N,bk:=D.nx } σ2 H2)
theorem CK(wi:TI)(g:TG)(tb:TS)(D:jL)(σ:St)(H:Hp):Ep wi g tb D σ H=wi σ H fun J H1=>HR J g tb D σ H1:=rfl
noncomputable def zH(H H':Hp):Prop:=∀b xs,H b=some (.tup xs)->H' b=some (.tup xs)
mutual
noncomputable def noL:D->Bool
 |.lst _=>false
 |.dk _=>false
 |.dt _=>false
 |.tup ds=>IE ds
 |_=>true
noncomputable def IE:List D->Bool
 | []=>true
 |d::ds=>noL d && IE ds
end
mutual
theorem Dat.t{H H':Hp}(e:zH H H'):∀ {d:D} {v:V},noL d=true->Dat H d v->Dat H' d v
 |.non,v,_,h=>by simpa only[Dat] using h
 |.bl b,v,_,h=>by simpa only[Dat] using h
 |.int i,v,_,h=>by simpa only[Dat] using h
 |.str x,v,_,h=>by simpa only[Dat] using h
 |.tup ds,v,n,h=>by
  simp only[Dat] at h ⊢;simp only[noL] at n;obtain⟨a,xs,rfl,h1,h2⟩:=h;exact⟨a,xs,rfl,e a _ h1,aG.t e n h2⟩
 |.lst ds,v,n,h=>by simp[noL] at n
 |.dk ds,v,n,h=>by simp[noL] at n
 |.dt ds,v,n,h=>by simp[noL] at n
theorem aG.t{H H':Hp}(e:zH H H'):∀ {ds:List D} {xs:List V},IE ds=true->aG H ds xs->aG H' ds xs
 | [],xs,_,h=>by simpa only[aG] using h
 |d::ds,xs,n,h=>by
  simp only[aG] at h ⊢;simp only[IE,Bool.and_eq_true] at n;obtain⟨x,r,rfl,h1,h2⟩:=h;exact⟨x,r,rfl,Dat.t e n.1 h1,aG.t e n.2 h2⟩
end
theorem kH:∀ {ds:List D},(∀d∈ds,noL d=true)->IE ds=true
 | [],_=>by simp[IE]
 |d::ds,h=>by
  simp only[IE,Bool.and_eq_true];exact⟨h d (List.mem_cons_self ..),kH fun e he=>h e (List.mem_cons_of_mem _ he)⟩
theorem yy(ns:List Int):IE (ns.map D.int)=true:=kH fun d hd=>by
 obtain⟨n,_,rfl⟩:=List.mem_map.mp hd;simp[noL]
end L2
namespace L2
end L2
namespace L2
open PySem
theorem eZ.IC{k:Nat}{A:Around}(r:eZ k A):A.units+100<cLine:=by have:=r.un;omega
theorem qz:∀ {ds:List D} {n:Nat},(∀d∈ds,dep d<=n)->dY ds<=n
 | [],n,_=>by simp[dY]
 |d::ds,n,h=>by
  simp only[dY];exact Nat.max_le.mpr ⟨h d (List.mem_cons_self ..),qz fun e he=>h e (List.mem_cons_of_mem _ he)⟩
theorem lc(ns:List Int):dY (ns.map D.int)=0:=by
 have:dY (ns.map D.int)<=0:=qz fun d hd=>by
  obtain⟨n,_,rfl⟩:=List.mem_map.mp hd;simp[dep]
 omega
end L2
namespace L2
open PySem PySem.Spec PyProof.Rows
end L2
namespace L2
open PySem
theorem aG.take{H:Hp}:∀ {ds:List D} {xs:List V} (n:Nat),aG H ds xs->aG H (ds.take n) (xs.take n):=fun {ds xs} n h=>by
 refine aG.of_get (by rw[List.length_take,List.length_take,h.length]) fun i d x e1 e2=>?_
 rw[List.getElem?_take] at e1 e2;split at e1
 ·rename_i hi
  rw[if_pos hi] at e2;obtain⟨x',h1,h2⟩:=h.get e1;rw[e2] at h1;cases h1;exact h2
 ·cases e1
theorem aG.drop{H:Hp}:∀ {ds:List D} {xs:List V} (n:Nat),aG H ds xs->aG H (ds.drop n) (xs.drop n):=fun {ds xs} n h=>by
 refine aG.of_get (by rw[List.length_drop,List.length_drop,h.length]) fun i d x e1 e2=>?_
 rw[List.getElem?_drop] at e1 e2;obtain⟨x',h1,h2⟩:=h.get e1;rw[e2] at h1;cases h1;exact h2
end L2
namespace L2
open PySem PySem.Spec PyProof.Rows
noncomputable def LD(H:Hp)(l:Addr)(ds:List D):Prop:=IE ds=true/\∃xs,H l=some (.lst xs)/\aG H ds xs
theorem sT{ds es:List D}:IE (ds++es)=(IE ds && IE es):=by
 induction ds with
 |nil=>simp[IE]
 |cons d ds ih=>simp[IE,ih,Bool.and_assoc]
inductive Tr where
 |lf (x:List D)
 |nd (x:List D) (l r:Tr)
namespace Tr
noncomputable def d:Tr->D
 |.lf x=>.tup x
 |.nd x l r=>.tup (x++[l.d,r.d])
noncomputable def size:Tr->Nat
 |.lf _=>1
 |.nd _ l r=>l.size+r.size+1
noncomputable def lvs:Tr->Nat
 |.lf _=>1
 |.nd _ l r=>l.lvs+r.lvs
noncomputable def dp:Tr->Nat
 |.lf _=>0
 |.nd _ l r=>1+max l.dp r.dp
noncomputable def post:Tr->List Tr
 |.lf x=>[.lf x]
 |.nd x l r=>l.post++r.post++[.nd x l r]
noncomputable def pre:Tr->List Tr
 |.lf x=>[.lf x]
 |.nd x l r=>.nd x l r::(r.pre++l.pre)
noncomputable def ok(lw:Str):Tr->Prop
 |.lf x=>x[0]?=some (.str lw)/\IE x=true
 |.nd x l r=>(∃w,x[0]?=some (.str w)/\w≠lw)/\IE x=true/\l.ok lw/\r.ok lw
theorem g7:∀t:Tr,t.size+1=2*t.lvs
 |.lf x=>rfl
 |.nd x l r=>by
  have:=g7 l;have:=g7 r;simp only[size,lvs];omega
theorem ok.noL{lw:Str}:∀ {t:Tr},t.ok lw->noL t.d=true
 |.lf x,h=>by simp only[d,L2.noL];exact h.2
 |.nd x l r,h=>by
  obtain⟨_,h1,h2,h3⟩:=h;simp only[d,L2.noL,sT,Bool.and_eq_true];exact⟨h1,by simp[IE,ok.noL h2,ok.noL h3]⟩
theorem ok.post{lw:Str}:∀ {t:Tr},t.ok lw->∀u∈t.post,u.ok lw
 |.lf x,h,u,hu=>by simp only[Tr.post,List.mem_singleton] at hu;subst hu;exact h
 |.nd x l r,h,u,hu=>by
  simp only[Tr.post,List.mem_append,List.mem_singleton] at hu;rcases hu with(hu|hu)|hu
  ·exact ok.post h.2.2.1 u hu
  ·exact ok.post h.2.2.2 u hu
  ·subst hu;exact h
theorem ok.IE{lw:Str}{ts:List Tr}(h:∀t∈ts,t.ok lw):IE (ts.map d)=true:=kH fun e he=>by
 obtain⟨t,ht,rfl⟩:=List.mem_map.mp he;exact(h t ht).noL
end Tr
section
variable{X:Cx}
theorem iu:∀ {ns:List Int} {its:List Value},aT (ns.map V.int) its->∀(i:Nat)(v:Value),its[i]?=some v->∃t,v=.int (ns.getD i 0) t
 | [],_,.nil,i,v,h=>by simp at h
 |n::ns,_,.cons r t,0,v,h=>by
  simp at h;subst h;obtain⟨t',e⟩:=r;exact⟨t',by rw[e];rfl⟩
 |n::ns,_,.cons r t,i+1,v,h=>by
  obtain⟨t',e⟩:=iu t i v (by simpa using h)
  exact⟨t',by rw[e];rfl⟩
theorem lp(ns:List Int):∀j,j<=ns.length->preSum (fun i=>ns.getD i 0) j=(ns.take j).sum
 |0,_=>by simp[preSum]
 |j+1,h=>by
  have hj:j<ns.length:=by omega
  have e:ns.getD j 0=ns[j]:=by
   rw[List.getD_eq_getElem?_getD,List.getElem?_eq_getElem hj];rfl
  rw[preSum,lp ns j (by omega),e,List.take_succ,List.getElem?_eq_getElem hj,List.sum_append]
  simp
theorem Ar(hc:X.calm=true):c6 X (.builtin "sum") (fun xs H Q=>∃(a:Addr)(ns:List Int),xs=[.ref a]/\SqL X.K H a (ns.map V.int)/\Q (.int ns.sum) H):=by
 intro pins s σ H xs us Q I r h;obtain⟨a,ns,rfl,hq,q⟩:=h;obtain⟨u,rfl,rx⟩:=gi r;cases rx;obtain⟨its,rv,p,hz⟩:=I.list hq
 have hlt:a<s.heap.objs.size:=by
  obtain⟨o,ho,_⟩:=p.isList;exact Heap.lt_size ho
 have hlen:its.length=ns.length:=by rw[←rv.length,List.length_map]
 refine call_sum_walkG (wpAny_pyIter_list p.isList ?_);refine⟨s.heap.objs.size,_,_,_,_,_,fun i=>ns.getD i 0,rfl,Walks.list (A:=X.A.in1) (I.ok.hd hc) _ a (Nat.ne_of_lt hlt) _,⟨⟨_,Heap.get?_push_size _ rfl,rfl,rfl⟩,p.isList.push _⟩,?_,?_,fun h' tk t' hk=>?_⟩
 ·intro b hb
  show b<(s.heap.push _).objs.size;rw[Heap.size_push];simp only[List.mem_cons,List.not_mem_nil,or_false] at hb;rcases hb with e|e
  ·rw[e];exact Nat.lt_succ_self _
  ·rw[e];exact Nat.lt_succ_of_lt hlt
 ·intro i v hP
  exact iu rv i v (by simpa using hP)
 ·refine⟨.int ns.sum,H,I.kept (t':=tk) fun b o e=>hk b o (fun hm=>?_) (Heap.get?_push_of_some _ e),⟨t',?_⟩,q⟩
  ·have:b=s.heap.objs.size:=by simpa using hm
   exact absurd (this ▸ Heap.lt_size e) (Nat.lt_irrefl _)
  ·rw[List.size_toArray,hlen,lp ns _ (Nat.le_refl _),List.take_length]
theorem jD{prog:Program}{w:World}{A:Around}{E:Value->Shared->Prop}{s:Shared}{t sl:Addr}{items:Array Value}{vl vu:Value}{lo hi:Option Int}{Q:Value->Shared->Prop}(ht:IsTup s.heap t items)(hs:s.heap.IsSliceOf sl vl vu .none)(pl:IsPart vl lo)(pu:IsPart vu hi)(hw:HT.sIx items.size 0 lo=0/\HT.sIx items.size items.size hi=items.size)(h:Q (.ref t) s):wpAny (model prog w) A (getItem (.ref t) (.ref sl)) Q E s:=by
 obtain⟨os,hos,hcs,hds⟩:=id hs;have hTs:s.TypeIs (.ref sl) "slice":=⟨os,hos,hcs⟩;unfold getItem
 try with_reducible refine wpAny_holding ?_
 first|refine wpAny_bind (wpAny_pure ?_)|skip
 refine wpAny_bind (wpAny_sequenceKey ht.typeIs (by decide) ?_)
 refine wpAny_bind (wpAny_callSpecial?_slot (name:=Str.ofString "__getitem__") ht.typeIs PyProof.Rows.slot_tuple_getitem
  (wpAny_call_entry PyProof.Rows.slot_tuple_getitem ht.typeIs PyProof.Rows.entry_tuple_getitem ?_ (PyProof.Rows.args_tuple_getitem _ _)))
 show wpAny _ _ (Builtin.Tuple.tupleItemsOf (.ref t) >>= _) _ _ s;refine wpAny_bind (tupleItemsOf_ ht ?_);refine wpAny_bind (wpAny_typeOf hTs ?_);rw[if_pos (by decide)]
 refine wpAny_bind (HT.sliceApplied_gen hs pl pu ?_)
 have hyes:(((HT.sIx items.size 0 lo:Nat):Int) == 0 && (1:Int) == 1 && (HT.sIx items.size items.size hi-HT.sIx items.size 0 lo) == items.size)=true:=by
  rw[hw.1,hw.2];simp
 show wpAny _ _ (if (((HT.sIx items.size 0 lo:Nat):Int) == 0 && (1:Int) == 1 && (HT.sIx items.size items.size hi-HT.sIx items.size 0 lo) == items.size)=true then _ else _) _ _ s
 rw[if_pos hyes];unfold Builtin.Tuple.tupleIsExact;refine wpAny_bind (wpAny_bind (wpAny_typeOf ht.typeIs (wpAny_pure ?_)));rw[if_pos (by decide)]
 exact wpAny_bind (wpAny_rule (wpAny_pure ⟨_,rfl,wpAny_pure h⟩))
noncomputable def wS(K:W.Frag):V->Option Int->Option Int->Hp->VK->Prop:=fun x lo hi H Q=>∃a xs,x=.ref a/\SqT K H a xs /\
 if HT.sIx xs.length 0 lo=0/\HT.sIx xs.length xs.length hi=xs.length then Q (.ref a) H else ∀p,H p=none->Q (.ref p) (upd H p (.tup (lJ xs lo hi)))
theorem wC:SlR X (wS X.K):=by
 intro pins s σ H x v vl vu lo hi sl Q I rx hs pl pu h;obtain⟨a,xs,rfl,hx,h⟩:=h;by_cases hw:HT.sIx xs.length 0 lo=0/\HT.sIx xs.length xs.length hi=xs.length
 ·rw[if_pos hw] at h
  cases rx;obtain⟨its,r,ht,hz⟩:=I.tuple hx;have hlen:its.toArray.size=xs.length:=by rw[List.size_toArray];exact r.length.symm
  exact⟨"tuple",_,PyProof.Rows.slot_tuple_getitem.lookup,ht.typeIs,jD ht hs pl pu (by rw[hlen];exact hw) ⟨.ref a,H,I,rfl,h⟩⟩
 ·rw[if_neg hw] at h
  exact Fh pins s σ H (.ref a) v vl vu lo hi sl Q I rx hs pl pu ⟨a,xs,rfl,hx,hw,h⟩
theorem Au(K:W.Frag)(h:X.K=K):SlR X (wS K):=h ▸ wC
theorem uW{xs:List V}{lo hi:Option Int}(h:HT.sIx xs.length 0 lo=0/\HT.sIx xs.length xs.length hi=xs.length):lJ xs lo hi=xs:=by
 unfold lJ;rw[h.1,h.2];simp
end
noncomputable def wdD(w:List Int):D:=.tup (w.map D.int)
noncomputable def csD(pl:Nat)(ys ns:List (List Int)):D:=.tup [.int pl,.tup (ys.map wdD),.tup (ns.map wdD)]
theorem Fc(w:List Int):noL (wdD w)=true:=by simp only[wdD,noL];exact yy w
theorem tP(ws:List (List Int)):IE (ws.map wdD)=true:=kH fun d hd=>by
 obtain⟨w,_,rfl⟩:=List.mem_map.mp hd;exact Fc w
structure SN(n:Nat)(H:Hp)(S:Addr)(ad:Nat->Addr)(fs:Nat->List D):Prop where
 s:H S=some (.lst ((List.range n).map fun i=>.ref (ad i)))
 l:∀i,i<n->LD H (ad i) (fs i)
noncomputable def StE(w:World)(e:DictEntry)(p:Str×V):Prop:=e.hash=PyData.keyHash w.params p.1/\(∃t,e.key=.str p.1 t)/\bq p.2 e.val
noncomputable def StD(w:World)(K:W.Frag)(a:Addr)(kvs:List (Str×V)):Prop:=∃(o:Obj)(es:List DictEntry)(ep:Nat),K.lookup a=some o/\o.ExactDict/\o.data=.dict es.toArray ep/\Paired (StE w) es kvs
noncomputable def jI(kvs:List (Str×V))(x:Str):Option V:=(kvs.find? fun p=>decide (p.1=x)).map (·.2)
theorem StE.find{P:Program}{w:World}:∀ {es:List DictEntry} {kvs:List (Str×V)} {x:Str} {v:V},Paired (StE w) es kvs->jI kvs x=some v->∃u,findBy (bG P w).is es.toArray (Sum.inr x)=some u/\bq v u:=by
 intro es
 induction es with
 |nil=>intro kvs x v h hv;cases h;cases hv
 |cons e es ih=>
  intro kvs x v h hv
  cases h with
  | @cons _ p _ kvs r t=>
   obtain⟨h1,⟨tk,h2⟩,h3⟩:=r
   have hf:findBy (bG P w).is (e::es).toArray (Sum.inr x)=if iF (Sum.inr x) e.key=true then some e.val else findBy (bG P w).is es.toArray (Sum.inr x):=by
    unfold findBy;simp only[List.find?_toArray,List.find?_cons,oE];cases iF (Sum.inr x) e.key<;>simp
   by_cases hx:p.1=x
   ·have hk:iF (Sum.inr x) e.key=true:=by rw[h2,←hx];exact p6 _ _
    rw[hf,if_pos hk];unfold jI at hv;rw[List.find?_cons_of_pos (by simp[hx])] at hv
    cases hv;exact⟨_,rfl,h3⟩
   ·have hk:¬ iF (Sum.inr x) e.key=true:=by
     rw[h2];intro z;rcases bI z with⟨i,t',e1,e2⟩|⟨y,t',e1,e2⟩
     ·cases e2
     ·injection e2 with e2 _
      injection e1 with e1;exact hx (e2.trans e1.symm)
    rw[hf,if_neg hk];unfold jI at hv;rw[List.find?_cons_of_neg (by simp[hx])] at hv
    exact ih t hv
theorem StE.keys{P:Program}{w:World}:∀ {es:List DictEntry} {kvs:List (Str×V)},Paired (StE w) es kvs->∀e∈es,∃k,(bG P w).is k e.key=true/\e.hash=(bG P w).hash k
 |_,_,.nil,e,h=>by cases h
 |_,_,.cons (a:=e0) (b:=p) r t,e,h=>by
  rcases List.mem_cons.mp h with rfl|h
  ·obtain⟨h1,⟨tk,h2⟩,_⟩:=r
   exact⟨Sum.inr p.1,by rw[h2];exact iO _ _ _ _,h1⟩
  ·exact StE.keys t e h
section
variable{X:Cx}{o i:Expr}{ty:TE}{pos:Pos}{a:Addr}{kvs:List (Str×V)}
noncomputable def DG(kvs:List (Str×V))(td ty:TE):TE:=fun σ H Q=>td σ H fun _ H0=>ty σ H0 fun y H1=>∃x v,y=.str x/\jI kvs x=some v/\Q v H1
theorem xa(hd:StD X.w X.K a kvs)(ho:PE X o (tC (.ref a)))(hi:PE X i ty)(hs:Hn i):PE X (.Subscript o i pos) (DG kvs (tC (.ref a)) ty):=.mk <| by
 intro pins s σ H Q I h;obtain⟨ob,es,ep,hk,hx,hdat,hp⟩:=hd;refine B2 PySem.F.slot_dict_getitem.lookup hs (thn (ho pins s σ H (fun x H1=>x=.ref a/\ty σ H1 fun y H1=>∃x v,y=.str x/\jI kvs x=some v/\Q v H1) I ⟨rfl,h⟩) fun u s1 ⟨x,H1,I1,rx,ex,q1⟩=>thn (hi pins s1 σ H1 _ I1 q1) fun iv s2 ⟨y,H2,I2,ry,k,v,ey,hv,q2⟩=>?_);subst ex;subst ey;obtain rfl:u=Value.ref a:=rx;obtain⟨t,rfl⟩:=ry;obtain⟨u',hf,ru⟩:=StE.find (P:=X.prog) hp hv
 have hg:s2.heap.get? a=some ob:=I2.kIn a ob hk;have hm:s2.heap.MapOf (bG X.prog X.w) a (findBy (bG X.prog X.w).is es.toArray):=⟨ob,es.toArray,ep,hg,hx,hdat,fun e he=>StE.keys hp e (by simpa using he),fun _=>rfl⟩
 exact⟨⟨ob,hg,hx.1⟩,wpAny_getItem_of (knd:=bG X.prog X.w) (iO _ _ _ _) hm hf ⟨v,H2,I2.tok _,ru,q2⟩⟩
end
open Classical in
noncomputable def eqF(H:Hp)(dx:D)(u:Value):Bool:=if h:∃d,∃x,bq x u/\Dat H d x then eqD (Classical.choose h) dx else false
theorem m5{H:Hp}{dx d:D}{x:V}{u:Value}(r:bq x u)(h:Dat H d x):eqF H dx u=eqD d dx:=by
 have hex:∃d,∃x,bq x u/\Dat H d x:=⟨d,x,r,h⟩;unfold eqF;rw[dif_pos hex];obtain⟨x',r',h'⟩:=Classical.choose_spec hex;have:x'=x:=r'.inj r;subst this;rw[Dat.inj h' h]
theorem gc{H:Hp}{dx:D}:∀ {ds:List D} {xs:List V} {its:List Value},aG H ds xs->aT xs its->its.any (eqF H dx)=ds.any fun d=>eqD d dx
 | [],xs,its,h,r=>by
  simp only[aG] at h;subst h;cases r;rfl
 |d::ds,xs,its,h,r=>by
  simp only[aG] at h;obtain⟨x,xr,rfl,h1,h2⟩:=h
  cases r with
  |cons r1 r2=>rw[List.any_cons,List.any_cons,m5 r1 h1,gc h2 r2]
theorem i4{H:Hp}:∀ {ds:List D} {xs:List V} {its:List Value},aG H ds xs->aT xs its->∀u∈its,∃d x,d∈ds/\bq x u/\Dat H d x
 | [],xs,its,h,r,u,hu=>by simp only[aG] at h;subst h;cases r;cases hu
 |d::ds,xs,its,h,r,u,hu=>by
  simp only[aG] at h;obtain⟨x,xr,rfl,h1,h2⟩:=h
  cases r with
  |cons r1 r2=>
   rcases List.mem_cons.mp hu with rfl|hu
   ·exact⟨d,x,List.mem_cons_self ..,r1,h1⟩
   ·obtain⟨d',x',m,q⟩:=i4 h2 r2 u hu
    exact⟨d',x',List.mem_cons_of_mem _ m,q⟩
theorem qU:∀ {ds:List D} {d:D},d∈ds->dep d<=dY ds
 |e::ds,d,h=>by
  simp only[dY];rcases List.mem_cons.mp h with rfl|h
  ·omega
  ·have:=qU h;omega
noncomputable def inD(dx:D)(ds:List D):Bool:=ds.any fun d=>eqD d dx
noncomputable def Fp(neg:Bool):R2:=fun x y H Q=>∃dx ds,Dat H dx x/\(Dat H (.lst ds) y\/Dat H (.tup ds) y)/\dY ds<=90/\Q (.bl (if neg then !inD dx ds else inD dx ds)) H
section
variable{X:Cx}
theorem u9(hu:X.A.units+100<cLine):OpR X (compareOp .In) (Fp false):=by
 intro pins s σ H x y v u Q I rx ry h;obtain⟨dx,ds,hx,hy,hdp,q⟩:=h
 have he:∀ {xs:List V} {its:List Value},aG H ds xs->aT xs its->∀w,w∈its.toArray->SeqAt.EqAt X.A.in1 s w v (eqF H dx w):=fun hd r w hw=>by
  obtain⟨d,z,hm,rz,hz⟩:=i4 hd r w (by simpa using hw)
  rw[m5 rz hz];exact(kj I 90 d dx z x w v X.A.in1 (Nat.le_trans (qU hm) hdp) (by show X.A.units+1+90<cLine;omega) hz hx rz rx).2.1
 rcases hy with hy|hy
 ·simp only[Dat] at hy
  obtain⟨a,xs,rfl,ha,hd⟩:=hy;cases ry;obtain⟨its,r,pl,_⟩:=I.list (SqL.of ha);refine SeqAt.in_listAt (eqF H dx) pl.isList (he hd r) ⟨.bl _,H,I,rfl,?_⟩;rw[show its.toArray.any (eqF H dx)=its.any (eqF H dx) by simp,gc hd r]
  exact q
 ·simp only[Dat] at hy
  obtain⟨a,xs,rfl,ha,hd⟩:=hy;cases ry;obtain⟨its,r,pl,_⟩:=I.tuple (SqT.of ha);refine SeqAt.in_tupleAt (eqF H dx) pl (he hd r) ⟨.bl _,H,I,rfl,?_⟩;rw[show its.toArray.any (eqF H dx)=its.any (eqF H dx) by simp,gc hd r]
  exact q
theorem pf(hu:X.A.units+100<cLine):OpR X (compareOp .NotIn) (Fp true):=by
 intro pins s σ H x y v u Q I rx ry h;obtain⟨dx,ds,hx,hy,hdp,q⟩:=h
 have he:∀ {xs:List V} {its:List Value},aG H ds xs->aT xs its->∀w,w∈its.toArray->SeqAt.EqAt X.A.in1 s w v (eqF H dx w):=fun hd r w hw=>by
  obtain⟨d,z,hm,rz,hz⟩:=i4 hd r w (by simpa using hw)
  rw[m5 rz hz];exact(kj I 90 d dx z x w v X.A.in1 (Nat.le_trans (qU hm) hdp) (by show X.A.units+1+90<cLine;omega) hz hx rz rx).2.1
 rcases hy with hy|hy
 ·simp only[Dat] at hy
  obtain⟨a,xs,rfl,ha,hd⟩:=hy;cases ry;obtain⟨its,r,pl,_⟩:=I.list (SqL.of ha);refine SeqAt.notIn_listAt (eqF H dx) pl.isList (he hd r) ⟨.bl _,H,I,rfl,?_⟩;rw[show its.toArray.any (eqF H dx)=its.any (eqF H dx) by simp,gc hd r]
  exact q
 ·simp only[Dat] at hy
  obtain⟨a,xs,rfl,ha,hd⟩:=hy;cases ry;obtain⟨its,r,pl,_⟩:=I.tuple (SqT.of ha);refine SeqAt.notIn_tupleAt (eqF H dx) pl (he hd r) ⟨.bl _,H,I,rfl,?_⟩;rw[show its.toArray.any (eqF H dx)=its.any (eqF H dx) by simp,gc hd r]
  exact q
theorem yd(hc:X.calm=true):c6 X (.builtin "sum") (fun xs H Q=>∃(a:Addr)(ns:List Int),xs=[.ref a]/\SqT X.K H a (ns.map V.int)/\Q (.int ns.sum) H):=by
 intro pins s σ H xs us Q I r h;obtain⟨a,ns,rfl,hq,q⟩:=h;obtain⟨u,rfl,rx⟩:=gi r;cases rx;obtain⟨its,rv,p,hz⟩:=I.tuple hq
 have hlt:a<s.heap.objs.size:=by
  obtain⟨o,ho,_⟩:=p;exact Heap.lt_size ho
 have hlen:its.length=ns.length:=by rw[←rv.length,List.length_map]
 have p':s.heap.IsTuple a its.toArray:=p;refine call_sum_walkG (wpAny_pyIter_tuple p' ?_);refine⟨s.heap.objs.size,_,_,_,_,_,fun i=>ns.getD i 0,rfl,Walks.tuple (A:=X.A.in1) (I.ok.hd hc) _ a (Nat.ne_of_lt hlt) _,⟨⟨_,Heap.get?_push_size _ rfl,rfl,rfl⟩,p'.push _⟩,?_,?_,fun h' tk t' hk=>?_⟩
 ·intro b hb
  show b<(s.heap.push _).objs.size;rw[Heap.size_push];simp only[List.mem_cons,List.not_mem_nil,or_false] at hb;rcases hb with e|e
  ·rw[e];exact Nat.lt_succ_self _
  ·rw[e];exact Nat.lt_succ_of_lt hlt
 ·intro i v hP
  exact iu rv i v (by simpa using hP)
 ·refine⟨.int ns.sum,H,I.kept (t':=tk) fun b o e=>hk b o (fun hm=>?_) (Heap.get?_push_of_some _ e),⟨t',?_⟩,q⟩
  ·have:b=s.heap.objs.size:=by simpa using hm
   exact absurd (this ▸ Heap.lt_size e) (Nat.lt_irrefl _)
  ·rw[List.size_toArray,hlen,lp ns _ (Nat.le_refl _),List.take_length]
end
end L2
namespace L2
open PySem PySem.Spec PyProof.Rows
mutual
noncomputable def pyD:D->PyData
 |.non=>.none
 |.bl b=>.bool b
 |.int i=>.int i
 |.str x=>.str x
 |.tup ds=>.tuple (iI ds)
 |.lst ds=>.list (iI ds)
 |.dk ks=>.dict (ks.map fun k=>(.int k,.int 1))
 |.dt ks=>.dict (ks.map fun k=>(.tuple (k.map .int),.int 1))
noncomputable def iI:List D->List PyData
 | []=>[]
 |d::ds=>pyD d::iI ds
end
noncomputable def qR(d:D):Str:=(pyD d).shown
theorem rG{P:Program}{w:World}{h:Heap}:∀ {ks:List Int} {vs:List (Key×Value)} {es:List DictEntry},KV (dkO ks) vs->Pairs (bG P w) es vs ->
  ReadsAll h (es.map (·.key)) (ks.map PyData.int) []/\ReadsAll h (es.map (·.val)) (ks.map fun _=>PyData.int 1) []
 | [],vs,es,r,p=>by
  cases r;cases p;exact⟨.nil,.nil⟩
 |k::ks,vs,es,r,p=>by
  cases r with
  |cons r1 r2=>
   cases p with
   |cons hk hv p2=>
    obtain⟨e1,e2⟩:=r1;obtain⟨q1,q2⟩:=rG r2 p2;dsimp only at e1 e2;rw[←e1] at hk
    rcases bI (k:=Sum.inl k) hk with⟨i,t,e3,e4⟩|⟨x,t,e3,e4⟩
    ·cases e3
     obtain⟨u,e2⟩:=e2;refine⟨?_,?_⟩
     ·show ReadsAll h (_::_) (_::_) ([]++[])
      refine .cons ?_ q1;dsimp only;rw[e4];exact .int k t
     ·show ReadsAll h (_::_) (_::_) ([]++[])
      refine .cons ?_ q2;dsimp only;rw[hv,e2];exact .int 1 u
    ·cases e3
theorem oq{h:Heap}:∀ {k:List Int} {its:List Value},aT ((k.map Sum.inl).map kV) its->ReadsAll h its (k.map PyData.int) []
 | [],its,r=>by cases r;exact .nil
 |i::k,its,r=>by
  cases r with
  |cons r1 r2=>
   obtain⟨u,rfl⟩:=r1;exact ReadsAll.cons (as:=[]) (bs:=[]) (.int i u) (oq r2)
section
variable{X:Cx}{pins:List (Addr×Obj)}{σ:St}{H:Hp}{s:Shared}
theorem s0(I:Inv X pins σ H s):∀ {ks:List (List Int)} {xs:List (List Key×Addr×Value)},Paired (fun(p:List Key×V) (q:List Key×Addr×Value)=>p.1=q.1/\H q.2.1=some (.tup (p.1.map kV))/\bq p.2 q.2.2) (dtO ks) xs ->
  ReadsAll s.heap ((xs.map (entryOfKey (tupleKind (bG X.prog X.w)))).map (·.key)) (ks.map fun k=>PyData.tuple (k.map .int)) []/\ReadsAll s.heap ((xs.map (entryOfKey (tupleKind (bG X.prog X.w)))).map (·.val)) (ks.map fun _=>PyData.int 1) []
 | [],xs,r=>by cases r;exact⟨.nil,.nil⟩
 |k::ks,xs,r=>by
  cases r with
  |cons r1 r2=>
   obtain⟨e1,e2,e3⟩:=r1;obtain⟨q1,q2⟩:=s0 I r2;obtain⟨its,rv,⟨o,h1,h2,n,h3⟩,_⟩:=I.tuple (SqT.of (K:=X.K) e2);obtain⟨u,e3⟩:=e3;refine⟨?_,?_⟩
   ·show ReadsAll s.heap (_::_) (_::_) ([]++[])
    refine .cons ?_ q1;show Reads s.heap (.ref _) (.tuple _) [];exact .tuple h1 h2 h3 (by simpa using oq rv)
   ·show ReadsAll s.heap (_::_) (_::_) ([]++[])
    refine .cons ?_ q2;dsimp only[entryOfKey];rw[e3];exact .int 1 u
mutual
theorem rA(I:Inv X pins σ H s):∀ {d:D} {v:V} {u:Value},Dat H d v->bq v u->∃as,Reads s.heap u (pyD d) as/\∀b∈as,∃o,H b=some o
 |.non,v,u,h,r=>by
  simp only[Dat] at h;subst h;cases r;exact⟨_,.none,by simp⟩
 |.bl b,v,u,h,r=>by
  simp only[Dat] at h;subst h;cases r;exact⟨_,.bool b,by simp⟩
 |.int i,v,u,h,r=>by
  simp only[Dat] at h;subst h;obtain⟨t,rfl⟩:=r;exact⟨_,.int i t,by simp⟩
 |.str x,v,u,h,r=>by
  simp only[Dat] at h;subst h;obtain⟨t,rfl⟩:=r;exact⟨_,.str x t,by simp⟩
 |.tup ds,v,u,h,r=>by
  simp only[Dat] at h;obtain⟨a,xs,rfl,ha,hd⟩:=h;cases r;obtain⟨its,rv,⟨o,h1,h2,n,h3⟩,_⟩:=I.tuple (SqT.of ha);obtain⟨as,hr,hm⟩:=iU I hd rv;exact⟨_,.tuple h1 h2 h3 (by simpa using hr),hm⟩
 |.lst ds,v,u,h,r=>by
  simp only[Dat] at h;obtain⟨a,xs,rfl,ha,hd⟩:=h;cases r;obtain⟨its,rv,⟨o,n,h1,h2,h3,h4⟩,_⟩:=I.list (SqL.of ha);obtain⟨as,hr,hm⟩:=iU I hd rv;refine⟨_,.list h1 h2 h4 (by simpa using hr),fun b hb=>?_⟩
  rcases List.mem_cons.mp hb with rfl|hb
  ·exact⟨_,ha⟩
  ·exact hm b hb
 |.dk ks,v,u,h,r=>by
  simp only[Dat] at h;obtain⟨a,xs,rfl,ha,rfl⟩:=h;cases r;obtain⟨_,_,vs,kv,o,es,ep,e1,⟨c1,_,_⟩,e2,_,p,_⟩:=I.hok _ _ ha;obtain⟨q1,q2⟩:=rG (h:=s.heap) kv p;refine⟨_,.dict (kvs:=xs.map fun k=>(PyData.int k,PyData.int 1)) e1 c1 e2 (by simpa[List.map_map,Function.comp_def] using q1) (by simpa[List.map_map,Function.comp_def] using q2),fun b hb=>?_⟩
  simp only[List.append_nil,List.mem_singleton] at hb;subst hb;exact⟨_,ha⟩
 |.dt ks,v,u,h,r=>by
  simp only[Dat] at h;obtain⟨a,xs,rfl,ha,rfl⟩:=h;cases r;obtain⟨_,_,ys,pr,o,es,ep,e1,⟨c1,_,_⟩,e2,e3,_⟩:=I.hok _ _ ha;obtain⟨q1,q2⟩:=s0 I pr;rw[←e3] at q1 q2
  refine⟨_,.dict (kvs:=xs.map fun k:List Int=>(PyData.tuple (k.map PyData.int),PyData.int 1)) e1 c1 e2 (by simpa[List.map_map,Function.comp_def] using q1) (by simpa[List.map_map,Function.comp_def] using q2),fun b hb=>?_⟩
  simp only[List.append_nil,List.mem_singleton] at hb;subst hb;exact⟨_,ha⟩
theorem iU(I:Inv X pins σ H s):∀ {ds:List D} {xs:List V} {us:List Value},aG H ds xs->aT xs us->∃as,ReadsAll s.heap us (iI ds) as/\∀b∈as,∃o,H b=some o
 | [],xs,us,h,r=>by
  simp only[aG] at h;subst h;cases r;exact⟨_,.nil,by simp⟩
 |d::ds,xs,us,h,r=>by
  simp only[aG] at h;obtain⟨x,xr,rfl,h1,h2⟩:=h
  cases r with
  |cons r1 r2=>
   obtain⟨as,a1,m1⟩:=rA I h1 r1;obtain⟨bs,b1,m2⟩:=iU I h2 r2;exact⟨_,.cons a1 b1,fun b hb=>(List.mem_append.mp hb).elim (m1 b) (m2 b)⟩
end
end
mutual
noncomputable def wt:D->Nat
 |.non=>4
 |.bl _=>5
 |.int i=>i.natAbs.log2+3
 |.str x=>(reprText x).length
 |.tup ds=>wts ds+3
 |.lst ds=>wts ds+2
 |.dk ks=>(ks.map fun k=>k.natAbs.log2+10).sum+2
 |.dt ks=>(ks.map fun k=>(k.map fun i=>i.natAbs.log2+5).sum+10).sum+2
noncomputable def wts:List D->Nat
 | []=>0
 |d::ds=>wt d+2+wts ds
end
mutual
noncomputable def fit:D->Bool
 |.int i=>decide (i.natAbs.log2<1920)
 |.tup ds=>jE ds
 |.lst ds=>jE ds
 |.dk ks=>ks.all fun i=>decide (i.natAbs.log2<1920)
 |.dt ks=>ks.all fun k=>k.all fun i=>decide (i.natAbs.log2<1920)
 |_=>true
noncomputable def jE:List D->Bool
 | []=>true
 |d::ds=>fit d && jE ds
end
theorem pp:∀ {k:List Int},(k.all fun i=>decide (i.natAbs.log2<1920))=true->PyData.showableAll (k.map .int)=true
 | [],_=>rfl
 |i::k,h=>by
  simp only[List.all_cons,Bool.and_eq_true] at h;simp only[List.map_cons,PyData.showableAll,PyData.showable,Bool.and_eq_true];exact⟨h.1,pp h.2⟩
theorem xO:∀ {ks:List Int},(ks.all fun i=>decide (i.natAbs.log2<1920))=true->PyData.showableKv (ks.map fun k=>(PyData.int k,PyData.int 1))=true
 | [],_=>rfl
 |i::k,h=>by
  simp only[List.all_cons,Bool.and_eq_true] at h;simp only[List.map_cons,PyData.showableKv,PyData.showable,Bool.and_eq_true];exact⟨⟨h.1,by decide⟩,xO h.2⟩
theorem vM:∀ {ks:List (List Int)},(ks.all fun k=>k.all fun i=>decide (i.natAbs.log2<1920))=true->PyData.showableKv (ks.map fun k=>(PyData.tuple (k.map .int),PyData.int 1))=true
 | [],_=>rfl
 |i::k,h=>by
  simp only[List.all_cons,Bool.and_eq_true] at h;simp only[List.map_cons,PyData.showableKv,PyData.showable,Bool.and_eq_true];exact⟨⟨pp h.1,by decide⟩,vM h.2⟩
mutual
theorem sf:∀ {d:D},fit d=true->(pyD d).showable=true
 |.non,h=>rfl
 |.bl b,h=>rfl
 |.int i,h=>h
 |.str x,h=>rfl
 |.tup ds,h=>lm (ds:=ds) (by simpa only[fit] using h)
 |.lst ds,h=>lm (ds:=ds) (by simpa only[fit] using h)
 |.dk ks,h=>xO (ks:=ks) (by simpa only[fit] using h)
 |.dt ks,h=>vM (ks:=ks) (by simpa only[fit] using h)
theorem lm:∀ {ds:List D},jE ds=true->PyData.showableAll (iI ds)=true
 | [],h=>rfl
 |d::ds,h=>by
  simp only[jE,Bool.and_eq_true] at h;simp only[iI,PyData.showableAll,Bool.and_eq_true];exact⟨sf h.1,lm h.2⟩
end
mutual
theorem xk:∀(d:D),dep d<=1000->(pyD d).hasDict=false/\(pyD d).depth=dep d
 |.non,_=>by simp[pyD,PyData.depth,PyData.hasDict,dep]
 |.bl b,_=>by simp[pyD,PyData.depth,PyData.hasDict,dep]
 |.int i,_=>by simp[pyD,PyData.depth,PyData.hasDict,dep]
 |.str x,_=>by simp[pyD,PyData.depth,PyData.hasDict,dep]
 |.tup ds,h=>by
  simp only[dep] at h;obtain⟨a,b⟩:=nF ds (by omega)
  simp only[pyD,PyData.depth,PyData.hasDict,dep,a,b,true_and]
 |.lst ds,h=>by
  simp only[dep] at h;obtain⟨a,b⟩:=nF ds (by omega)
  simp only[pyD,PyData.depth,PyData.hasDict,dep,a,b,true_and]
 |.dk ks,h=>by simp[dep] at h
 |.dt ks,h=>by simp[dep] at h
theorem nF:∀(ds:List D),dY ds<=1000->PyData.hasDictAll (iI ds)=false/\PyData.depthAll (iI ds)=dY ds
 | [],_=>by simp[iI,PyData.depthAll,PyData.hasDictAll,dY]
 |d::ds,h=>by
  simp only[dY] at h;obtain⟨a,b⟩:=xk d (by omega)
  obtain⟨a',b'⟩:=nF ds (by omega)
  simp only[iI,PyData.hasDictAll,PyData.depthAll,dY,a,a',b,b',Bool.or_self,true_and]
end
theorem l7:∀(ts:List Str)(k:Nat)(acc:Str),(textFrom k acc ts).length<=acc.length+(ts.map fun t=>t.length+2).sum
 | [],k,acc=>by simp[textFrom]
 |t::ts,k,acc=>by
  have ih:=l7 ts (k+1) (acc++(if k>0 then ", " else "":String)++t)
  have e:(acc++(if k>0 then ", " else "":String)++t).length<=acc.length+2+t.length:=by
   rw[strLen_append,strLen_append];have:(((if k>0 then ", " else "":String):Str)).length<=2:=by split<;>decide
   omega
  simp only[textFrom,List.map_cons,List.sum_cons];omega
theorem ku:∀ts:List Str,(Str.join ", " ts).length<=(ts.map fun t=>t.length+2).sum
 | []=>by simp[Str.join];decide
 | [x]=>by
  show x.length<=_;simp
 |x::y::r=>by
  have ih:=ku (y::r);show (x ++ ", "++Str.join ", " (y::r)).length<=_;rw[strLen_append,strLen_append];have e2:((", ":String):Str).length=2:=rfl;simp only[List.map_cons,List.sum_cons] at ih ⊢;omega
theorem mP(i:Int):((toString i:String):Str).length<=i.natAbs.log2+3:=by
 have h:=int_text_length_le (a:=i) (k:=i.natAbs.log2+1) (Nat.succ_pos _) (Nat.lt_succ_self _);rw[show ((toString i:String):Str).length=(toString i).length from PySem.ofString_length _]
 omega
theorem se:∀(k:List Int),((PyData.shownAll (k.map .int)).map fun t=>t.length+2).sum<=(k.map fun i=>i.natAbs.log2+5).sum
 | []=>by simp[PyData.shownAll]
 |i::k=>by
  have h1:=mP i;have h2:=se k;simp only[List.map_cons,PyData.shownAll,PyData.shown,List.sum_cons];omega
theorem sJ(ps:List Str):(dictText ps).length<=(ps.map fun t=>t.length+2).sum+2:=by
 unfold dictText;rw[strLen_append,strLen_append];have h1:=ku ps;have h2:(("{":String):Str).length=1:=rfl;have h3:(("}":String):Str).length=1:=rfl;omega
theorem D8:∀(ks:List Int),((PyData.shownKv (ks.map fun k=>(PyData.int k,PyData.int 1))).map fun t=>t.length+2).sum<=(ks.map fun k=>k.natAbs.log2+10).sum
 | []=>by simp[PyData.shownKv]
 |i::k=>by
  have h1:=mP i;have h2:=D8 k;have h3:=mP 1;have h4:((1:Int).natAbs).log2=0:=by decide
  have h5:((": ":String):Str).length=2:=rfl;simp only[List.map_cons,PyData.shownKv,PyData.shown,List.sum_cons,strLen_append];have h6:((toString (1:Int):String):Str).length=1:=rfl;omega
theorem Ej:∀(ks:List (List Int)),((PyData.shownKv (ks.map fun k=>(PyData.tuple (k.map .int),PyData.int 1))).map fun t=>t.length+2).sum<=(ks.map fun k=>(k.map fun i=>i.natAbs.log2+5).sum+10).sum
 | []=>by simp[PyData.shownKv]
 |i::k=>by
  have h1:=se i;have h2:=Ej k;have h5:((": ":String):Str).length=2:=rfl
  have h7:(tupleText (PyData.shownAll (i.map .int))).length<=(i.map fun i=>i.natAbs.log2+5).sum+3:=by
   unfold tupleText;rw[strLen_append,strLen_append];have h1:=ku (PyData.shownAll (i.map .int));have h2:(("(":String):Str).length=1:=rfl;have h3:(((if (PyData.shownAll (i.map .int)).length == 1 then ",)" else ")":String)):Str).length<=2:=by split<;>decide
   omega
  simp only[List.map_cons,PyData.shownKv,PyData.shown,List.sum_cons,strLen_append];have h6:((toString (1:Int):String):Str).length=1:=rfl;omega
mutual
theorem Dj:∀(d:D),(pyD d).shown.length<=wt d
 |.non=>by show (("None":String):Str).length<=4;decide
 |.bl b=>by cases b<;>(show (_:Str).length<=5)<;>decide
 |.int i=>mP i
 |.str x=>Nat.le_refl _
 |.tup ds=>by
  have h:=uT ds;show (tupleText (PyData.shownAll (iI ds))).length<=wts ds+3;unfold tupleText;rw[strLen_append,strLen_append];have h1:=ku (PyData.shownAll (iI ds));have h2:(("(":String):Str).length=1:=rfl;have h3:(((if (PyData.shownAll (iI ds)).length == 1 then ",)" else ")":String)):Str).length<=2:=by split<;>decide
  omega
 |.lst ds=>by
  have h:=uT ds;show (listText (PyData.shownAll (iI ds))).length<=wts ds+2;unfold listText;rw[strLen_append];have h1:=l7 (PyData.shownAll (iI ds)) 0 "[";have h2:(("[":String):Str).length=1:=rfl;have h3:(("]":String):Str).length=1:=rfl;omega
 |.dk ks=>Nat.le_trans (sJ _) (Nat.add_le_add_right (D8 ks) 2)
 |.dt ks=>Nat.le_trans (sJ _) (Nat.add_le_add_right (Ej ks) 2)
theorem uT:∀(ds:List D),((PyData.shownAll (iI ds)).map fun t=>t.length+2).sum<=wts ds
 | []=>by simp[iI,PyData.shownAll,wts]
 |d::ds=>by
  have h1:=Dj d;have h2:=uT ds;simp only[iI,PyData.shownAll,List.map_cons,List.sum_cons,wts];omega
end
section
variable{X:Cx}
theorem nn(hg:X.A.guards=some [])(hu:X.A.units+100<cLine):c6 X (.builtin "repr") (fun xs H Q=>∃(a:Addr)(d:D),xs=[.ref a]/\Dat H d (.ref a)/\dep d<=90/\fit d=true/\wt d<=1000000/\Q (.str (qR d)) H):=by
 intro pins s σ H xs us Q I r h;obtain⟨a,d,rfl,hd,hdp,hf,hw,q⟩:=h;obtain⟨u,rfl,rx⟩:=gi r;have ru:=rx;cases rx;obtain⟨as,hr,_⟩:=rA I hd ru;obtain⟨nd,dp⟩:=xk d (by omega)
 refine repr_of_reads' hr (sf hf) (fun z=>by rw[nd] at z;cases z) hg (by rw[dp];omega) (fun _ _ e=>e) (fun h' t tk hk=>?_) (Nat.le_trans (Dj d) (Nat.le_trans hw (by decide)))
 exact⟨.str (qR d),H,I.kept (t':=tk) hk,⟨t,rfl⟩,q⟩
end
section
variable{prog:Program}{w:World}{A:Around}{E:Value->Shared->Prop}
theorem G9{it a:Addr}{vs:Array Value}(ha:a≠it)(n:Nat):∀(i:Nat)(s:Shared)(Q:List Value->Shared->Prop),s.heap.IsListIter it a i->s.heap.IsList a vs->i+n<=vs.size ->
  (∀h',h'.IsListIter it a (i+n)->Heap.SameBut it s.heap h'->Q ((vs.toList.drop i).take n) { s with heap:=h' })->wpAny (model prog w) A (draw (.ref it) n) Q E s:=by
 induction n with
 |zero=>
  intro i s Q st ls le q;refine wpAny_pure ?_;have:=q s.heap st (Heap.SameBut.refl ..);simpa using this
 |succ n ih=>
  intro i s Q st ls le q;have lt:i<vs.size:=by omega
  refine wpAny_bind (m:=pyNext (.ref it)) (wpAny_pyNext_list_item st ls (x:=vs[i]) (by simp[lt]) fun h1 st1 sb1=>?_)
  refine wpAny_bind (wpAny_holding (ih (i+1) _ _ st1 (ls.extBut sb1.extBut ha) (by omega) fun h2 st2 sb2=>wpAny_pure ?_))
  have e1:vs.toList.drop i=vs[i]::vs.toList.drop (i+1):=by simp[List.drop_eq_getElem_cons,lt]
  have q2:=q h2 (by rw[←Nat.add_assoc,Nat.add_right_comm];exact st2) (sb1.trans sb2)
  rwa [e1,List.take_succ_cons] at q2
theorem Cz{a:Addr}{vs:Array Value}{s:Shared}{Q:List Value->Shared->Prop}(hh:A.handled=none)(ls:s.heap.IsList a vs)(q:∀h',Heap.ExtBut s.heap.objs.size s.heap h'->Q vs.toList { s with heap:=h' }):wpAny (model prog w) A (unpackItems (.ref a) vs.size none) Q E s:=by
 have ne:a≠s.heap.objs.size:=by
  obtain⟨o,ho,_⟩:=ls;exact Nat.ne_of_lt (Heap.lt_size ho)
 unfold unpackItems notIterableAtAll;refine wpAny_bind (wpAny_bind (wpAny_specialOf ls.typeIs PySem.F.slot_list_iter.lookup (wpAny_pure ?_)));simp only[Option.isNone_some,Bool.false_eq_true,if_false];refine wpAny_bind (wpAny_holding (wpAny_pyIter_list ls (wpAny_bind (wpAny_holding (G9 ne vs.size 0 _ _ ⟨_,Heap.get?_push_size _ rfl,rfl,rfl⟩ (ls.push _) (by omega) fun h1 st1 sb1=>?_)))))
 have eall:List.take vs.size (List.drop 0 vs.toList)=vs.toList:=by rw[List.drop_zero,List.take_of_length_le (by simp)]
 rw[eall,if_neg (by simp)]
 refine wpAny_bind (wpAny_holding (wpAny_pyNext_list_end hh st1 ((ls.push _).extBut sb1.extBut ne) (by simp) fun h2 eb=>?_))
 simp only[Option.isSome_none,Bool.false_eq_true,if_false];exact wpAny_pure (q h2 fun b o hb e=>eb b o hb (sb1.extBut b o hb (Heap.get?_push_of_some _ e)))
end
section
variable{X:Cx}{pos:Pos}
noncomputable def GC(K:W.Frag)(n:Nat)(t:TGs):TG:=fun v σ H Q=>∃a xs,v=.ref a/\SqL K H a xs/\xs.length=n/\t xs σ H Q
theorem E4{es:List Expr}{k:Nat}{t:TGs}{n:Nat}(hc:X.calm=true)(h:PGs X es t)(hn:(assignEach es X.env).length=n:=by rfl)(hst:(assignEach es X.env).findIdx? (·.1)=none:=by rfl):PG X (.Tuple es k pos) (GC X.K n t):=by
 intro pins s σ H v u Q I r hw;obtain⟨a,xs,e1,hq,hl,hw⟩:=hw;subst e1;cases r;obtain⟨its,rv,ht,hz⟩:=I.list hq;have hlen:(assignEach es X.env).length=its.toArray.size:=by simp[hn,←hl,rv.length]
 rw[assign_Tuple];refine wpAny_bind (wpAny_standAt ?_);unfold unpack;rw[hlen,hst];refine wpAny_bind (wpAny_holding (Cz (I.ok.hd hc) ht.isList fun h' hx=>?_));have I1:Inv X pins σ H { s with heap:=h' }:=I.kept (t':=s.toks) fun b o e=>hx b o (Nat.ne_of_lt (Heap.lt_size e)) e;exact h pins _ σ H xs _ Q I1 (by simpa using rv) hw
end
section
variable{X:Cx}
theorem bP{es fs x1 pos te t}(ha:PE X (.Tuple fs x1 pos) te)(hr:PA X es t):PA X (.Tuple fs x1 pos::es) (gO te t):=aa ha hr (by rfl)
theorem rC{es fs pos te t}(ha:PE X (.List fs pos) te)(hr:PA X es t):PA X (.List fs pos::es) (gO te t):=aa ha hr (by rfl)
theorem ao{es c j pos te t}(ha:PE X (.Constant c j pos) te)(hr:PA X es t):PA X (.Constant c j pos::es) (gO te t):=aa ha hr (by rfl)
end
end L2
namespace L2
open PySem PySem.Spec PySem.Calls PyProof.Rows
noncomputable def Frz(H H':Hp):Prop:=∀b o u,H b=some (.frz o u)->H' b=some (.frz o u)
theorem Frz.trans{H H1 H2:Hp}(a:Frz H H1)(b:Frz H1 H2):Frz H H2:=fun c o u h=>b c o u (a c o u h)
noncomputable def nS(H:Hp)(f:Addr)(q:Str)(params:Arguments)(body:Expr)(scope:Scope)(clos:List (Str×Addr)):Prop:=
 ∃(pm:Value)(c:Addr)(ctv:Value)(oc:Obj)(vs:Array Value)(t:Tok)(u u':HO),H f=some (.frz (W.kla_obj "<lambda>" q params body scope clos pm c ctv) u)/\H c=some (.frz oc u')/\oc.data=.fields vs/\vs[1]?=some (.str q t)
theorem nS.frz{H H':Hp}{f:Addr}{q:Str}{params:Arguments}{body:Expr}{scope:Scope}{clos:List (Str×Addr)}(x:nS H f q params body scope clos)(k:Frz H H'):nS H' f q params body scope clos:=
 let ⟨pm,c,ctv,oc,vs,t,u,u',h1,h2,r⟩:=x;⟨pm,c,ctv,oc,vs,t,u,u',k _ _ _ h1,k _ _ _ h2,r⟩
noncomputable def ye(K:W.Frag)(c P:Addr):Bool:=match K.lookup c with
 | some o=>(o.cls == .type "code") && c != P && (match o.data with
  | .fields vs=>(vs[11]? == some (.ref P)) && (match vs.getD 18 .none,vs.getD 7 .none,vs.getD 9 .none,vs.getD 10 .none with
   |.str _ _,.int _ _,.bool _,.int _ _=>true
   |_,_,_,_=>false)
  |_=>false)
 |none=>false
theorem yT{K:W.Frag}{h:Heap}{c P:Addr}(X:K.In h)(e:ye K c P=true):W.CodeHd h c P:=by
 unfold ye at e
 cases q:K.lookup c with
 |none=>rw[q] at e;cases e
 |some o=>
  rw[q] at e;simp only[Bool.and_eq_true] at e;obtain⟨⟨e1,e2⟩,e3⟩:=e
  cases d:o.data with
  |fields vs=>
   rw[d] at e3;simp only[Bool.and_eq_true] at e3;obtain⟨e4,e5⟩:=e3;have e4':vs[11]?=some (.ref P):=eq_of_beq e4;split at e5
   ·rename_i f tf g tg b x tt h18 h7 h9 h10
    refine⟨o,vs,f,tf,g,tg,b,x,tt,X _ _ q,eq_of_beq e1,d,e4',?_,h18,h7,h9,h10,by simpa using e2⟩
    simp[Array.getD_eq_getD_getElem?,e4']
   ·cases e5
  |_=>rw[d] at e3;cases e3
theorem u4{pos:Pos}{a b:Int}{c cv:Value}(l:List Value)(h:TriplesOk l)(e:codeAmong pos (l++[rawInt a,rawInt b,c])=some cv):codeAmong pos l=some cv\/cv=c:=by
 fun_induction TriplesOk l with
 |case1=>
  simp only[List.nil_append,rawInt,codeAmong] at e;split at e
  ·exact .inr (Option.some.inj e).symm
  ·cases e
 |case2 a' t b' u x cq ih=>
  simp only[List.cons_append,codeAmong] at e ⊢;split at e
  ·rename_i hc
   rw[if_pos hc];exact .inl e
  ·rename_i hc
   rw[if_neg hc];exact ih h e
 |case3 l h1 h2=>exact h.elim
section
variable{P:Program}{w:World}{H H':Hp}{h h':Heap}{p:Addr}{ps:Array Value}
theorem Un.lam{fs:List Addr}(hok:HOk P w H h)(hP:H p=some (.tbl ps))(k:∀b o,b≠p->h.get? b=some o->h'.get? b=some o)(hp':∃o,h'.get? p=some o)(same:∀b,b<h.objs.size->H' b=H b):Un fs [] H H' h h':=by
 have ne:∀b,H b=none->b≠p:=fun b n z=>by rw[z,hP] at n;cases n
 refine⟨fun b o q n _ _=>k b o (ne b n) q,fun b o q n _ _=>⟨o.slots,k b o (ne b n) q⟩,fun b o q n _=>(same b (Heap.lt_size q)).trans n,fun b o q _=>?_,fun b xs q=>(same b (hok.lt q)).trans q,fun b o u q=>(same b (hok.lt q)).trans q,fun b xs q=>⟨#[],?_⟩⟩
 ·by_cases hb:b=p
  ·rw[hb];exact hp'
  ·exact⟨o,k b o hb q⟩
 ·rw[(same b (hok.lt q)).trans q];simp
theorem HOk.lam(hok:HOk P w H h)(hP:H p=some (.tbl ps))(k:∀b o,b≠p->h.get? b=some o->h'.get? b=some o)(same:∀b,b<h.objs.size->H' b=H b)(newP:cE P w H' h' p (.tbl ps))(new:∀b u,h.objs.size<=b->H' b=some u->cE P w H' h' b u):HOk P w H' h':=fun b u e=>by
 rcases Nat.lt_or_ge b h.objs.size with hb|hb
 ·rw[same b hb] at e
  by_cases hp:b=p
  ·subst hp
   rw[hP] at e;cases e;exact newP
  ·refine(hok b u e).stay (fun c v hc q=>k c v ?_ q) (fun c q=>(same c (hok.lt q)).trans q) (fun c xs q=>(same c (hok.lt q)).trans q) fun c o u q=>(same c (hok.lt q)).trans q
   rcases hc with rfl|hc
   ·exact hp
   ·rintro rfl
    rw[hP] at hc;cases hc
 ·exact new b u hb e
end
noncomputable def Ht(q:Str)(args:Arguments)(body:Expr)(scope:Scope)(clos:List (Str×Addr)):TE:=fun _ H Q=>∀f H',dq H H'->H f=none->nS H' f q args body scope clos->Q (.ref f) H'
section
variable{X:Cx}{args:Arguments}{body:Expr}{scope:Scope}{pos:Pos}{x:Str}{c p:Addr}{clos:List (Str×Addr)}
theorem p7(hcode:X.env.code=.ref c)(hq:X.env.qual=x ++ ".<locals>.")(hm:(x,c,p)∈j9 X.K)(hh:ye X.K c p=true)(hcl:closureFor scope X.env=pure clos)(hdef:defaultsOf args X.env=([],[]):=by rfl):
  PE X (.Lambda args body scope pos) (Ht (x ++ ".<locals>." ++ "<lambda>") args body scope clos):=.mk <| by
 intro pins s σ H Q I h;refine W.kla_eval hdef ?_;rw[hq];obtain⟨ps,eP,z0⟩:=(I.ok.tt.mono I.base.tbls) _ hm;obtain⟨qs,hP,tr,codes⟩:=I.hok _ _ eP;dsimp only at eP z0 hP;have C:W.CodeHd s.heap c p:=(yT I.ok.mod.kin hh).keeps I.bk;have hg:s.heap.Ns mainGlobals X.mg:=I.ok.mod.glob.keeps I.bk;obtain⟨bm,ob,b1,b2,b3,b4,b5,b6⟩:=I.ok.mod.bm
 have hgP:mainGlobals≠p:=fun q=>by
  obtain⟨o,es,ep,e,hd,_⟩:=hg;rw[q,hP] at e;cases e;cases hd
 have hbP:bm≠p:=fun q=>by
  have e:=I.bk _ _ b3;rw[q,hP] at e;cases e;cases b4
 have hbG:bm≠mainGlobals:=fun q=>by
  obtain⟨o,es,ep,e,hd,_⟩:=I.ok.mod.glob;rw[q,e] at b3;cases b3;rw[hd] at b6;cases b6
 have hB:s.heap.BuiltinsAt X.mg p:=⟨bm,ob,b1,b2,hbG,hbP,I.bk _ _ b3,b4,b5,b6⟩;have hps:p<s.heap.objs.size:=Heap.lt_size hP
 cases e:codeAmong pos qs.toList with
 |none=>
  refine W.kla_makeFunction (mg:=X.mg) hcl I.ok.glob hg hcode C hP tr e hgP hB fun c' ctv h' tk hx hge hlt hrec htb=>?_;obtain⟨c₂,oc,vs,t,e2,hoc,hd,hv⟩:=hrec;cases e2;have hps':p<h'.objs.size:=Heap.lt_size htb
  let H':Hp:=upd (upd H c' (.frz oc (.own p))) h'.objs.size (.frz (W.kla_obj "<lambda>" (x ++ ".<locals>." ++ "<lambda>") args body scope clos ((X.mg "__name__").getD .none) c' ctv) (.own h'.objs.size))
  have ef:H' h'.objs.size=some (.frz (W.kla_obj "<lambda>" (x ++ ".<locals>." ++ "<lambda>") args body scope clos ((X.mg "__name__").getD .none) c' ctv) (.own h'.objs.size)):=b9;have ec:H' c'=some (.frz oc (.own p)):=(aV (Nat.ne_of_lt hlt)).trans b9
  have same:∀b,b<s.heap.objs.size->H' b=H b:=fun b hb=>by
   have h1:b≠h'.objs.size:=Nat.ne_of_lt (Nat.lt_trans (Nat.lt_of_lt_of_le hb hge) hlt);have h2:b≠c':=Nat.ne_of_lt (Nat.lt_of_lt_of_le hb hge);exact(aV h1).trans (aV h2)
  have k:∀b o,b≠p->s.heap.get? b=some o->(h'.push (W.kla_obj "<lambda>" (x ++ ".<locals>." ++ "<lambda>") args body scope clos ((X.mg "__name__").getD .none) c' ctv)).get? b=some o:=fun b o n q=>Heap.get?_push_of_some _ (hx b o n q);have htb':=Heap.get?_push_of_some (W.kla_obj "<lambda>" (x ++ ".<locals>." ++ "<lambda>") args body scope clos ((X.mg "__name__").getD .none) c' ctv) htb;refine⟨.ref h'.objs.size,H',I.un (Un.lam I.hok eP k ⟨_,htb'⟩ same) (I.hok.lam eP k same ⟨_,htb',?_,?_⟩ ?_),rfl,h _ _ (fun b o q=>(same b (I.hok.lt q)).trans q) (I.hok.fresh (Nat.le_trans hge (Nat.le_of_lt hlt))) ⟨_,c',ctv,oc,vs,t,_,_,ef,ec,hd,hv⟩⟩
  ·rw[Array.toList_append]
   exact TriplesOk_snoc _ _ _ _ tr
  ·intro pos' cv q
   rw[Array.toList_append] at q;rcases u4 _ tr q with q|rfl
   ·obtain⟨c1,o1,v1,t1,q1,a1,a2,a3,a4,a5⟩:=codes pos' cv q
    exact⟨c1,o1,v1,t1,q1,a1,(same c1 (I.hok.lt a2)).trans a2,a3,a4,a5⟩
   ·exact⟨c',oc,vs,t,_,rfl,ec,hd,hv,z0⟩
  ·intro b u hb q
   by_cases hbf:b=h'.objs.size
   ·subst hbf
    rw[ef] at q;cases q;exact⟨Heap.get?_push_size _ rfl,_,Heap.get?_push_size _ rfl⟩
   ·have q':upd H c' (.frz oc (.own p)) b=some u:=(aV hbf).symm.trans q
    by_cases hbc:b=c'
    ·subst hbc
     rw[b9] at q';cases q';exact⟨Heap.get?_push_of_some _ hoc,_,Heap.get?_push_of_some _ hoc⟩
    ·rw[aV hbc,I.hok.fresh hb] at q';cases q'
 |some cv=>
  obtain⟨c',oc,vs,t,q,rfl,ec,hd,hv,hq0⟩:=codes pos cv e
  have hqq:q=x ++ ".<locals>." ++ "<lambda>":=by
   rw[hq0] at z0;injection z0 with z0;injection z0
  subst hqq;refine W.kla_makeFunctionHit (mg:=X.mg) hcl I.ok.glob hg hcode C hP tr e hB fun ctv h' tk hk hsz=>?_;have hne:∀b u,H b=some u->b≠h'.objs.size:=fun b u q z=>absurd (Nat.lt_of_lt_of_le (I.hok.lt q) hsz) (by rw[z];exact Nat.lt_irrefl _)
  refine⟨.ref h'.objs.size,upd H h'.objs.size (.frz (W.kla_obj "<lambda>" (x ++ ".<locals>." ++ "<lambda>") args body scope clos ((X.mg "__name__").getD .none) c' ctv) (.own h'.objs.size)),I.laid (fun b u q=>Heap.get?_push_of_some _ (hk b u q)) hsz ?_,rfl,h _ _ (fun b o q=>(aV (hne b o q)).trans q) (I.hok.fresh hsz) ⟨_,c',ctv,oc,vs,t,_,_,b9,(aV (hne _ _ ec)).trans ec,hd,hv⟩⟩;exact⟨Heap.get?_push_size _ rfl,_,Heap.get?_push_size _ rfl⟩
end
structure Clo(P:Program)(w:World)(K:W.Frag)(mg:Str->Option Value)(base:Heap)(H₀:Hp)(k:Nat)(f:Addr)(n:Nat)(sp:Sp):Prop where
 fn:(∃(oc:Value)(od:Option Addr)(fd:FuncData) (sl:Array (Option Value)) (u:HO),H₀ f=some (.frz ⟨oc,od,.func fd,sl⟩ u))\/∃(oc:Value)(od:Option Addr)(fd:FuncData) (sl:Array (Option Value)),K.lookup f=some ⟨oc,od,.func fd,sl⟩
 len:∀vs H Q E,sp vs H Q E->vs.length=n
 run:∀(A:Around)(outer:List Env)(s:Shared)(H:Hp)(us:List Value)(vs:List V)(Q:VK)(E:XK),eZ k A->ut P w K mg base A outer s H->Frz H₀ H->aT vs us->sp vs H Q E ->
  codeAny (model P w) A (.call (.ref f) ⟨us,[]⟩) (CR CX0 outer P w H s Q E) s
noncomputable def zW(X:Cx)(k n i:Nat)(t:TA):TE:=fun σ H Q=>∃f sp,σ[i]?=some (some (.ref f))/\Clo X.prog X.w X.K X.mg X.base X.H₀ k f n sp/\t σ H fun vs H1=>sp vs H1 Q E0
section
variable{X:Cx}{k n i:Nat}{x:Str}{p pos:Pos}{e:Expr}{es:List Expr}{t:TA}
theorem AR(hr:eZ k X.A)(hN:X.N[i]?=some x)(hv:Vis X.env.scope x)(ha:PA X (e::es) t)(hd:(x == ("__debug__":Str))=false:=by decide)(hcd:(x == ("__classdict__":Str))=false:=by decide)(he:starEach (e::es) X.env=(false,eval e X.env)::starEach es X.env:=by rfl)(hpl:(backTo pos (starEach es X.env)).any (·.1)=false:=by rfl):
  PE X (.Call (.Name x p) (e::es) [] pos) (zW X k n i t):=.mk <| by
 intro pins s σ H Q I h;obtain⟨f,sp,ev,C,h⟩:=h
 have at':∀ {σ1:St} {H1:Hp} {s1:Shared},Inv X pins σ1 H1 s1->W.FnAt f s1.heap:=fun {σ1 H1 s1} J=>by
  rcases C.fn with⟨oc,od,fd,sl,u,q⟩|⟨oc,od,fd,sl,q⟩
  ·exact⟨oc,od,fd,sl,(J.hok _ _ (J.base.frzs _ _ _ q)).1⟩
  ·exact⟨oc,od,fd,sl,J.kIn _ _ q⟩
 refine wpAny_Call_Name_kw (thn (ze (X:=X) hN hv hd hcd pins s σ H (fun v H1=>v=.ref f/\H1=H) I ⟨_,ev,rfl,rfl⟩) fun u s1 ⟨v,H1,I1,r,e1,e2⟩=>?_);subst e1 e2;obtain rfl:u=Value.ref f:=r;refine W.callWith_F (at' I1) (thn (ha pos pins s1 σ H1 _ I1 h) fun us s2 ⟨vs,H2,I2,r2,q2⟩=>⟨at' I2,?_⟩) he hpl;refine wpAny_call (codeAny_mono (C.run X.A X.stack s2 H2 us vs Q E0 hr I2.env0 (fun b o u q=>I2.base.frzs b o u q) r2 q2) fun r s' hq=>?_)
 cases r with
 |error e=>exact False.elim hq
 |ok fl=>
  cases fl with
  |ret u=>exact I2.after hq
  |next=>exact False.elim hq
  |brk=>exact False.elim hq
  |cont=>exact False.elim hq
end
theorem Mod.mono{K:W.Frag}{mg:Str->Option Value}{b b':Heap}(m:Mod K mg b)(k:∀a o,b.get? a=some o->b'.get? a=some o):Mod K mg b':=
 ⟨m.kin.keeps k,m.glob.keeps k,let ⟨mb,h1,h2⟩:=m.blt;⟨mb,h1.keeps k,h2⟩,m.nolimit.keeps k,let ⟨bm,ob,h1,h2,h3,r⟩:=m.bm;⟨bm,ob,h1,h2,k _ _ h3,r⟩⟩
noncomputable def BK(X:Cx)(σ:St)(b:Heap):Prop:=∀(i:Nat)(x:Str)(v:V),X.N[i]?=some x->σ[i]?=some (some v)->X.env.scope.names.lookup x=some .cell->X.fn x=true->∃c u,X.env.cells.lookup x=some c/\b.IsCell c (some u)/\bq v u
theorem lP{h b b':Heap}:∀ {l:List Env},h.FunFrames b l->(∀a∈frs l,b'.get? a=none)->h.FunFrames b' l
 | [],_,_=>trivial
 |env::r,x,k=>by
  obtain⟨hk,⟨L,o,hf,hn,ho,hd⟩,hr⟩:=x;have hL:L∈frs (env::r):=by unfold frs;rw[List.filterMap_cons,hf];exact List.mem_cons_self
  refine⟨hk,⟨L,o,hf,k L hL,ho,hd⟩,lP hr fun a ha=>k a ?_⟩;unfold frs at ha ⊢;rw[List.filterMap_cons,hf];exact List.mem_cons_of_mem _ ha
theorem Inv.grow{X:Cx}{pins:List (Addr×Obj)}{σ:St}{H:Hp}{s:Shared}(I:Inv X pins σ H s):
  ∃b',(∀a o,X.base.get? a=some o->b'.get? a=some o)/\ut X.prog X.w X.K X.mg b' X.A X.stack s H/\BK X σ b':=by
 have keep:∀a o,s.heap.get? a=some o->H a=none->a ∉ frs X.stack->(W.hideAll s.heap (trk s.heap H++frs X.stack)).get? a=some o:=fun a o e n hf=>W.hideAll_get _ e fun hm=>by
  rcases List.mem_append.mp hm with z|z
  ·have q:(H a).isSome=true:=(List.mem_filter.mp z).2
   rw[n] at q;simp at q
  ·exact hf z
 have sub:∀a o,X.base.get? a=some o->(W.hideAll s.heap (trk s.heap H++frs X.stack)).get? a=some o:=fun a o e=>keep a o (I.bs a o e).1 (I.bs a o e).2 fun hm=>by
  have:=(I.stack.mem hm).1;rw[e] at this;cases this
 have e0:=I.env0;refine⟨W.hideAll s.heap (trk s.heap H++frs X.stack),sub,⟨e0.frames,e0.mod.mono sub,fun a o e=>⟨W.of_hideAll _ e,?_⟩,Nat.le_of_eq (W.hideAll_size _ _),lP e0.funs fun a ha=>W.hideAll_none _ (List.mem_append_right _ ha),e0.frf,e0.tt,e0.hok,e0.bare⟩,?_⟩
 ·cases q:H a with
  |none=>rfl
  |some u=>
   have hm:a∈trk s.heap H:=List.mem_filter.mpr ⟨List.mem_range.mpr (I.hok.lt q),by simp[q]⟩
   rw[W.hideAll_none _ (List.mem_append_left _ hm)] at e;cases e
 ·intro i x v h1 h2 h3 h4
  obtain⟨m,hn,hl⟩:=I.loc;obtain⟨u,r,l⟩:=hl i x v h1 h2 (.inr (.inl h3));rcases l with⟨k,_⟩|⟨_,c,hc,o,ho,hd⟩
  ·have k':X.env.scope.names.lookup x=some .local:=k
   rw[h3] at k';cases k'
  ·refine⟨c,u,hc,⟨o,keep c o ho (I.freeC x c hc) fun hm=>?_,hd⟩,r⟩
   rcases List.mem_cons.mp (I.IH c hm) with z|z
   ·exact I.cne x c hc z
   ·obtain⟨_,o',ho',_⟩:=I.ok.funs.mem z
    exact absurd (Nat.lt_of_lt_of_le (Heap.lt_size ho') (I.ok.cab x c h4 hc)) (Nat.lt_irrefl _)
noncomputable def uC(X:Cx)(spf:Heap->Sp)(t:TA):TE:=fun σ H Q=>t σ H fun vs H1=>∀b',(∀a o,X.base.get? a=some o->b'.get? a=some o)->BK X σ b'->spf b' vs H1 Q E0
section
variable{X:Cx}{k:Nat}{f:Addr}{fd:FuncData}{ps:List Str}{x:Str}{p pos:Pos}{e:Expr}{es:List Expr}{t:TA}{spf:Heap->Sp}
theorem gI(F:∀b',aD X.prog X.w X.K X.mg b' CX0 k f fd ps (spf b'))(hr:eZ k X.A)(hg:Gl X x)(hm:X.mg x=some (.ref f))(hk:W.keepIn X.K (.ref f)=true)(hb:bo X.K fd ps [])(ha:PA X (e::es) t)(hdb:(x == ("__debug__":Str))=false:=by decide)(he:starEach (e::es) X.env=(false,eval e X.env)::starEach es X.env:=by rfl)(hpl:(backTo pos (starEach es X.env)).any (·.1)=false:=by rfl):
  PE X (.Call (.Name x p) (e::es) [] pos) (uC X spf t):=.mk <| by
 intro pins s σ H Q I h;refine wpAny_Call_Name_kw (qm I hg hm ?_ hdb);refine W.callWith_K (h₀:=X.base) I.ok.mod.kin hk (thn (ha pos pins s σ H _ I h) fun us s1 ⟨vs,H1,I1,r,q⟩=>⟨I1.kIn,?_⟩) he hpl;obtain⟨b',sub,e0,cb⟩:=I1.grow;have q:=q b' sub cb;have hl:(us++[]).length=ps.length:=by rw[List.append_nil,←r.length];exact(F b').len _ _ _ _ q
 have hbb:=hb s1 us I1.kIn hl;rw[List.append_nil] at hbb;refine wpAny_call (codeAny_mono ((F b').run X.A X.stack s1 H1 ⟨us,[]⟩ us vs Q E0 hr e0 hbb r q) fun r s' hq=>?_)
 cases r with
 |error e=>exact False.elim hq
 |ok fl=>
  cases fl with
  |ret u=>exact I1.after hq
  |next=>exact False.elim hq
  |brk=>exact False.elim hq
  |cont=>exact False.elim hq
end
noncomputable def vO(P:Program)(w:World)(K:W.Frag)(mg:Str->Option Value)(base:Heap)(N:List Str)(qual:Str)(scope:Scope)(f:Addr)(cd:Value)(cl:List (Str×Addr))(A:Around)(outer:List Env)(s:Shared)(H:Hp):Cx where
 prog:=P
 w:=w
 K:=K
 mg:=mg
 base:=base
 A:=A.deeper (W.envX qual scope s.heap.objs.size f cd cl)
 N:=N
 s₀:=s
 H₀:=H
 env:=W.envX qual scope s.heap.objs.size f cd cl
 outer:=outer
 stack:=W.envX qual scope s.heap.objs.size f cd cl::outer
 ex:=[]
 calm:=true
 fn:=fun _=>false
 pn:=[]
 xe:=fun _ _=>False
structure sR(ps cs:List Str)(sc:Scope):Prop where
 kind:sc.kind=.function
 co:sc.isCoroutine=false
 gen:sc.isGenerator=false
 nd:(ps++cs).Nodup
 par:∀x∈ps,sc.names.lookup x=some .local
 free:∀x∈cs,sc.names.lookup x=some .free
 has:∀y∈sc.names,y.2≠.cell/\(y.2=.free->y.1∈cs)
noncomputable def vI(b:Heap)(cl:List (Str×Addr))(cs:List Str)(caps:List V):Prop:=caps.length=cs.length/\(∀x c,cl.lookup x=some c->x∈cs)/\(∀x y c,cl.lookup x=some c->cl.lookup y=some c->x=y) /\
 ∀(j:Nat)(x:Str)(v:V),cs[j]?=some x->caps[j]?=some v->∃c u,cl.lookup x=some c/\b.IsCell c (some u)/\bq v u
theorem n6{α:Type}:∀ {ps:List Str} {us:List α} {i:Nat} {x:Str} {u:α},ps.Nodup->ps[i]?=some x->us[i]?=some u->(ps.zip us).reverse.lookup x=some u:=by
 intro ps
 induction ps with
 |nil=>intro us i x u _ h;simp at h
 |cons p ps ih=>
  intro us i x u nd h1 h2
  cases us with
  |nil=>simp at h2
  |cons w us=>
   obtain⟨n1,n2⟩:=List.nodup_cons.mp nd;rw[List.zip_cons_cons,List.reverse_cons,List.lookup_append]
   cases i with
   |zero=>
    simp at h1 h2;subst h1 h2
    have:(ps.zip us).reverse.lookup p=none:=by
     rw[List.lookup_eq_none_iff];intro q hq;rw[List.mem_reverse] at hq;have:=(List.of_mem_zip (a:=q.1) (b:=q.2) hq).1;simp only[beq_eq_false_iff_ne,ne_eq,bne_iff_ne];intro z;exact n1 (z ▸ this)
    rw[this];simp[List.lookup]
   |succ i=>
    rw[ih n2 (by simpa using h1) (by simpa using h2)]
    rfl
theorem FO{P:Program}{w:World}{K:W.Frag}{mg:Str->Option Value}{base:Heap}{H₀:Hp}{k:Nat}{f:Addr}{q:Str}{params:Arguments}{body:Expr}{scope:Scope}{cl:List (Str×Addr)}{ps cs:List Str}{caps:List V}{sp:Sp}(L:nS H₀ f q params body scope cl)(S:sR ps cs scope)(C:vI base cl cs caps)(hb:∀(pm:Value)(c:Addr)(ctv:Value)(us:List Value),us.length=ps.length->bindArgs (W.kla_fn "<lambda>" q params body scope cl pm (.ref c) ctv) ⟨us,[]⟩=pure (ps.zip us))(len:∀vs H Q E,sp vs H Q E->vs.length=ps.length)
  (hbody:∀(cd:Value)(A:Around)(outer:List Env)(s:Shared)(H:Hp)(vs:List V)(Q:VK)(E:XK),eZ k (A.deeper (W.envX q scope s.heap.objs.size f cd cl))->sp vs H Q E ->
   ∃t,PE (vO P w K mg base (ps++cs) q scope f cd cl A outer s H) body t/\t ((vs++caps).map some) H Q):Clo P w K mg base H₀ (k+1) f ps.length sp:=by
 obtain⟨pm,c,ctv,oc,vc,tc,u1,u2,e1,e2,e3,e4⟩:=L;refine⟨.inl ⟨_,_,_,_,_,e1⟩,len,fun A outer s H us vs Q E hr e0 hF r hsp=>?_⟩;have hl:=len _ _ _ _ hsp;have hlu:us.length=ps.length:=r.length.symm.trans hl;have f1:=(e0.hok _ _ (hF _ _ _ e1)).1;have f2:=(e0.hok _ _ (hF _ _ _ e2)).1;have lim:s.heap.NoLimit:=e0.mod.nolimit.keeps fun b o e=>(e0.bs b o e).1;have nps:ps.Nodup:=S.nd.sublist (List.sublist_append_left _ _)
 refine W.kla_callFunE hr.depth f1 rfl S.co S.gen rfl ⟨c,oc,vc,tc,rfl,f2,e3,e4⟩ ?_;rw[hb pm c ctv us hlu];refine wpAny_pure (wpAny_newFunctionEnv (fun y hy=>(S.has y hy).1) (fun y hy=>S.par y.1 (List.of_mem_zip (a:=y.1) (b:=y.2) hy).1) (fun h₁ hns hsb=>⟨lim.fresh _ hsb,?_⟩) S.kind);show codeAny _ _ (.expr body (W.envX q scope s.heap.objs.size f (.ref c) cl)) _ _;have hk₁:∀b o,s.heap.get? b=some o->h₁.get? b=some o:=fun b o e=>hsb.extBut b o (Nat.ne_of_lt (Heap.lt_size e)) (Heap.get?_push_of_some _ e)
 obtain⟨c1,c2,c3,c4⟩:=C;obtain⟨t,ht,hq⟩:=hbody (.ref c) A outer s H vs Q E (hr.deeper _) hsp
 have capC:∀x c,cl.lookup x=some c->∃v,base.IsCell c v:=fun x c e=>by
  obtain⟨j,hj⟩:=List.getElem?_of_mem (c2 x c e);have hj2:j<caps.length:=by rw[c1];exact(List.getElem?_eq_some_iff.mp hj).1
  obtain⟨c',u,z1,z2,_⟩:=c4 j x caps[j] hj (List.getElem?_eq_getElem hj2);rw[e] at z1;cases z1;exact⟨_,z2⟩
 have noA:∀b:Addr,b ∉ (vO P w K mg base (ps++cs) q scope f (.ref c) cl A outer s H).ex:=fun b z=>absurd (show b∈([]:List Addr) from z) (by simp)
 have I:Inv (vO P w K mg base (ps++cs) q scope f (.ref c) cl A outer s H) [] ((vs++caps).map some) H { s with heap:=h₁,toks:=s.toks+(ps.zip us).length }:=by
  refine⟨⟨e0.mod,S.kind,rfl,rfl,Nat.le_refl _,c3,fun y hy=>?_,fun y c h=>(nomatch h),fun _=>hr.hd,Around.frames_deeper e0.frames,.inr ⟨rfl,rfl⟩,fun b z=>absurd z (noA b),e0.bs,e0.bsz,fun b _ _=>noA b,fun b z=>absurd z (noA b),e0.funs,e0.frf,e0.tt⟩,
   rfl,e0.bare,Un.kept hk₁,⟨_,hns,fun i y v h1 h2 h3=>?_⟩,fun y c h=>?_,e0.hok.fresh (Nat.le_refl _),fun y c h=>?_,fun p hp=>absurd (show p∈([]:List (Addr×Obj)) from hp) (by simp),e0.hok.kept hk₁,?_⟩
  ·have hy:scope.names.lookup y=some .cell\/scope.names.lookup y=some .free:=hy
   rcases hy with hy|hy
   ·exact absurd rfl (S.has _ (PySem.mem_of_lookup hy)).1
   ·have hm:=(S.has _ (PySem.mem_of_lookup hy)).2 rfl
    obtain⟨j,hj⟩:=List.getElem?_of_mem hm;have hj2:j<caps.length:=by rw[c1];exact(List.getElem?_eq_some_iff.mp hj).1
    obtain⟨c',u,z1,z2,_⟩:=c4 j y caps[j] hj (List.getElem?_eq_getElem hj2);exact⟨c',z1⟩
  ·have h1:(ps++cs)[i]?=some y:=h1
   rw[List.getElem?_map] at h2
   cases hv:(vs++caps)[i]? with
   |none=>rw[hv] at h2;cases h2
   |some v'=>
    rw[hv] at h2;cases h2;rcases Nat.lt_or_ge i ps.length with hi|hi
    ·rw[List.getElem?_append_left hi] at h1
     rw[List.getElem?_append_left (by rw[hl];exact hi)] at hv
     obtain⟨u,hu,ru⟩:=r.get hv;exact⟨u,ru,.inl ⟨S.par y (List.mem_of_getElem? h1),n6 nps h1 hu⟩⟩
    ·rw[List.getElem?_append_right hi] at h1
     rw[List.getElem?_append_right (by rw[hl];exact hi),hl] at hv
     obtain⟨c',u,z1,z2,z3⟩:=c4 _ y v h1 hv;refine⟨u,z3,.inr ⟨.inr (S.free y (List.mem_of_getElem? h1)),c',z1,?_⟩⟩;obtain⟨o,ho,hd⟩:=z2;exact⟨o,hk₁ _ _ (e0.bs _ _ ho).1,hd⟩
  ·obtain⟨v,o,ho,hd⟩:=capC y c h
   exact⟨v,o,hk₁ _ _ (e0.bs _ _ ho).1,hd⟩
  ·obtain⟨v,o,ho,hd⟩:=capC y c h
   exact(e0.bs _ _ ho).2
  ·show ((vs++caps).map some).length=(ps++cs).length
   rw[List.length_map,List.length_append,List.length_append,hl,c1]
 refine W.kla_codeExpr (wpAny_mono (ht [] _ _ H _ I hq) (fun v s' ⟨v',H',J,rv,q'⟩=>?_) fun e s' hs=>False.elim hs);exact⟨v',H',J.os,J.bare,J.base,J.hok,rv,q'⟩
structure yO(K:W.Frag)(x qual:Str)(st:Stmt)(f:Addr)(fd:FuncData)(c p:Addr):Prop where
 ex:∃(oc:Value)(od:Option Addr)(kV doc pm:Value)(an:Option Addr)(ct:Value) (osl:Array (Option Value)),
  fd=W.fnOf x qual (defArgs st) (defBody st) (defScope st) .none kV doc pm an (.ref c) ct/\K.lookup f=some ⟨oc,od,.func fd,osl⟩/\W.codeIn K (.ref c) qual=true
 tab:(x,c,p)∈j9 K
 hd:ye K c p=true
theorem yO.ok{P:Program}{w:World}{K:W.Frag}{mg:Str->Option Value}{base:Heap}{x qual:Str}{st:Stmt}{f c p:Addr}{fd:FuncData}{N ps:List Str}{k:Nat}{sp:Sp}(F:yO K x qual st f fd c p)(S:aM N ps (defScope st))(len:∀vs H Q E,sp vs H Q E->vs.length=ps.length)
  (hbody:∀(A:Around)(outer:List Env)(s:Shared)(H:Hp)(vs:List V)(Q:VK)(E:XK),eZ k (A.deeper (envOfC qual (defScope st) s.heap.objs.size f (.ref c)))->sp vs H Q E ->
   ∃t,PSs (oQ CX0 P w K mg base N qual (defScope st) f (.ref c) A outer s H E).nox (defBody st) t/\t { nx:=fun _ H'=>Q .non H',rt:=Q } (start N vs) H):aD P w K mg base CX0 (k+1) f fd ps sp:=by
 obtain⟨oc,od,kV,doc,pm,an,ct,osl,rfl,lk,hcd⟩:=F.ex;refine C7 lk hcd S len fun A outer s H vs Q E hr hsp=>?_;obtain⟨t,h,q⟩:=hbody A outer s H vs Q E hr hsp;exact⟨t,h.nox,q⟩
theorem Cb{K:W.Frag}{x qual:Str}{st:Stmt}{f c p:Addr}{oc:Value}{od an:Option Addr}{osl:Array (Option Value)}{kV doc pm cdv ct:Value}(l:K.lookup f=some ⟨oc,od,.func (W.fnOf x qual (defArgs st) (defBody st) (defScope st) .none kV doc pm an cdv ct),osl⟩)(hc:W.codeIn K cdv qual=true)(e:cdv=.ref c)(t:(j9 K).contains (x,c,p)=true)(h:ye K c p=true):yO K x qual st f (W.fnOf x qual (defArgs st) (defBody st) (defScope st) .none kV doc pm an cdv ct) c p:=by
 subst e;exact⟨⟨oc,od,kV,doc,pm,an,ct,osl,rfl,l,hc⟩,by simpa using t,h⟩
noncomputable def ndB:List Nat->Bool
 | []=>true
 |a::r=>!(r.contains a) && ndB r
theorem wZ{α:Type}(f:α->Nat):∀ {l:List α} {q:α},ndB (l.map f)=true->q∈l->l.find? (fun t=>f t == f q)=some q
 | [],_,_,m=>nomatch m
 |a::r,q,h,m=>by
  rw[List.map_cons,ndB,Bool.and_eq_true] at h;obtain⟨h1,h2⟩:=h;rcases List.mem_cons.mp m with e|m
  ·subst e
   rw[List.find?_cons_of_pos (by simp)]
  ·have ne:(f a == f q)=false:=by
    cases z:f a == f q with
    |false=>rfl
    |true=>
     have z':f a=f q:=eq_of_beq z
     have:(r.map f).contains (f a)=true:=by
      rw[z'];simpa using⟨q,m,rfl⟩
     rw[this] at h1;cases h1
   rw[List.find?_cons_of_neg (by rw[ne];simp)]
   exact wZ f h2 m
noncomputable def oW(K:W.Frag)(b:Addr):Option HO:=((j9 K).find? fun t=>t.2.2 == b).map fun t=>HO.tbl #[.str (t.1 ++ ".<locals>." ++ "<lambda>") 0]
theorem oD{K:W.Frag}{b:Addr}{o:HO}(e:oW K b=some o):∃t∈j9 K,t.2.2=b/\o=HO.tbl #[.str (t.1 ++ ".<locals>." ++ "<lambda>") 0]:=by
 unfold oW at e
 cases q:(j9 K).find? (fun t=>t.2.2 == b) with
 |none=>rw[q] at e;cases e
 |some t=>
  rw[q] at e;cases e;have:=List.find?_some q;exact⟨t,List.mem_of_find?_eq_some q,eq_of_beq this,rfl⟩
noncomputable def Ac(K:W.Frag)(names:List Str):Bool:=W.noTabs K && ndB ((j9 K).map fun t=>t.2.2) && (j9 K).all fun t=>names.contains t.1
theorem BS{K:W.Frag}{t:Str×Addr×Addr}(h:t∈j9 K):W.tabIn K t.1=some t.2:=by
 unfold j9 at h;split at h
 ·obtain⟨e,_,q⟩:=List.mem_filterMap.mp h
  split at q
  ·rename_i x tk hx
   cases z:W.tabIn K x with
   |none=>rw[z] at q;cases q
   |some r=>rw[z] at q;cases q;exact z
  ·cases q
 ·cases h
theorem yL{P:Program}{w:World}{K:W.Frag}{mg mb:Str->Option Value}{CX:CXT}{k:Nat}{fa a:Addr}{fd:FuncData}{x:Str}{sp:Sp}{s₁:Shared}{vs:List Value}{ns:List Int}(KX:K.In s₁.heap)(hns:s₁.heap.Ns mainGlobals mg)(hb:s₁.heap.Ns builtinsNs mb)(hbb:∀x:Str,x≠"__name__"->mb x=bootBuiltins x)(hlim:s₁.heap.NoLimit)(hg:s₁.gens=#[])(hbm:∃bm ob,mg "__builtins__"=some (.ref bm)/\bm≠builtinsNs/\s₁.heap.get? bm=some ob/\ob.cls=.type "module"/\ob.dict=some builtinsNs/\ob.data=.plain)(hT:∀t∈j9 K,W.CodeHd s₁.heap t.2.1 t.2.2/\s₁.heap.get? t.2.2=some (W.tabObj #[]))(nt:W.noTabs K=true)(nd:ndB ((j9 K).map fun t=>t.2.2)=true)(ha:s₁.heap.get? a=some { cls:=.type "list",data:=.seq vs.toArray })(hi:IntsAre vs ns)(hl:ns.length<=sizeLine)(hr:eZ k callerA)(F:∀base:Heap,aD P w K mg base CX k fa fd [x] sp)(hbind:∀(s:Shared)(u:Value),BindsTo s fd ⟨[u],[]⟩ [(x,u)])(hsp:∀H:Hp,SqL K H a (ns.map V.int)->sp [.ref a] H (fun v _=>v=.bl true) fun _ _ _=>False)(hCX:∀H e s',CX [] H s₁ (fun _ _ _=>False) e s'->False):
  codeAny (model P w) callerA (.call (.ref fa) ⟨[.ref a],[]⟩) (fun r s'=>r=.ok (.ret (.bool true))/\OldK s₁.heap s'.heap/\s'.os=s₁.os/\AllBare s'.gens) s₁:=by
 have rv:=pN hi;have lenV:=hi.length
 have tabNot:∀b o,K.lookup b=some o->oW K b=none:=fun b o e=>by
  cases q:oW K b with
  |none=>rfl
  |some u=>
   obtain⟨t,ht,rfl,_⟩:=oD q;have e1:=(hT t ht).2;rw[KX _ _ e] at e1;cases e1;have h2:=List.all_eq_true.mp nt _ (W.mem_of_lookupK e);exact absurd (show false=true from h2) Bool.false_ne_true
 have tabA:oW K a=none:=by
  cases q:oW K a with
  |none=>rfl
  |some u=>
   obtain⟨t,ht,e,_⟩:=oD q;have e1:=(hT t ht).2;rw[e,ha] at e1;cases e1
 have core:∀H:Hp,(∀b,b≠a->H b=oW K b)->(H a=none\/(K.lookup a=none/\H a=some (.frz { cls:=.type "list",data:=.seq vs.toArray } (.lst (ns.map V.int)))))->SqL K H a (ns.map V.int) ->
   codeAny (model P w) callerA (.call (.ref fa) ⟨[.ref a],[]⟩) (fun r s'=>r=.ok (.ret (.bool true))/\OldK s₁.heap s'.heap/\s'.os=s₁.os/\AllBare s'.gens) s₁:=by
  intro H hH hA hS
  have what:∀b u,H b=some u->(b=a/\K.lookup a=none/\u=.frz { cls:=.type "list",data:=.seq vs.toArray } (.lst (ns.map V.int)))\/∃t∈j9 K,t.2.2=b/\u=HO.tbl #[.str (t.1 ++ ".<locals>." ++ "<lambda>") 0]:=fun b u e=>by
   by_cases hb:b=a
   ·subst hb
    rcases hA with z|⟨z1,z2⟩
    ·rw[z] at e;cases e
    ·rw[z2] at e;cases e
     exact .inl ⟨rfl,z1,rfl⟩
   ·rw[hH b hb] at e
    exact .inr (oD e)
  have hok:HOk P w H s₁.heap:=fun b u e=>by
   rcases what b u e with⟨rfl,_,rfl⟩|⟨t,ht,rfl,rfl⟩
   ·exact⟨ha,by rw[List.length_map];exact hl,vs,_,rv,ha⟩
   ·exact⟨#[],(hT t ht).2,trivial,fun pos cv q=>by cases q⟩
  have tt:yM K H:=fun t ht=>by
   refine⟨#[.str (t.1 ++ ".<locals>." ++ "<lambda>") 0],?_,rfl⟩
   have ne:t.2.2≠a:=fun z=>by
    have e1:=(hT t ht).2;rw[z,ha] at e1;cases e1
   rw[hH _ ne];unfold oW;rw[wZ (fun t:Str×Addr×Addr=>t.2.2) nd ht];rfl
  have base_of:∀ {b:Addr} {o:Obj},s₁.heap.get? b=some o->H b=none->(qo s₁.heap H).get? b=some o:=fun e n=>zP e n
  have freeB:∀ {b:Addr} {o:Obj},s₁.heap.get? b=some o->o.cls≠.none->o.cls≠.type "list"->H b=none:=fun {b o} e c1 c2=>by
   cases q:H b with
   |none=>rfl
   |some u=>
    rcases what b u q with⟨rfl,_,_⟩|⟨t,ht,rfl,_⟩
    ·rw[ha] at e;cases e;exact absurd rfl c2
    ·rw[(hT t ht).2] at e;cases e;exact absurd rfl c1
  have noD:∀ {b:Addr} {o:Obj} {es:Array DictEntry} {ep:Nat},s₁.heap.get? b=some o->o.data=.dict es ep->H b=none:=fun {b o es ep} e d=>by
   cases q:H b with
   |none=>rfl
   |some u=>
    rcases what b u q with⟨rfl,_,_⟩|⟨t,ht,rfl,_⟩
    ·rw[ha] at e;cases e;cases d
    ·rw[(hT t ht).2] at e;cases e;cases d
  have nsK:∀ {b:Addr} {m:Str->Option Value},s₁.heap.Ns b m->(qo s₁.heap H).Ns b m:=fun {b m} ⟨o,es,ep,e,d,r⟩=>⟨o,es,ep,base_of e (noD e d),d,r⟩
  have hKb : K.In (qo s₁.heap H):=fun b o e=>base_of (KX b o e) (by
   cases q:H b with
   |none=>rfl
   |some u=>
    by_cases hb:b=a
    ·subst hb
     rcases hA with z|⟨z1,_⟩
     ·rw[z] at q;cases q
     ·rw[e] at z1;cases z1
    ·rw[hH b hb,tabNot b o e] at q;cases q)
  have hM:Mod K mg (qo s₁.heap H):=⟨hKb,nsK hns,⟨mb,nsK hb,hbb⟩,let ⟨mc,h1,h2⟩:=hlim;⟨mc,nsK h1,h2⟩,
   let ⟨bm,ob,b1,b2,b3,b4,b5,b6⟩:=hbm;⟨bm,ob,b1,b2,base_of b3 (freeB b3 (by rw[b4];nofun) (by rw[b4];decide)),b4,b5,b6⟩⟩
  have e0:ut P w K mg (qo s₁.heap H) callerA [] s₁ H:=⟨rfl,hM,fun b o e=>BX e,Nat.le_of_eq (yC _ _),trivial,fun b hb=>absurd (show b∈([]:List Addr) from hb) (by simp),tt,hok,.of_eq hg⟩
  refine codeAny_mono ((F _).run callerA [] s₁ H ⟨[.ref a],[]⟩ [.ref a] [.ref a] _ _ hr e0 (hbind s₁ (.ref a)) (.cons rfl .nil) (hsp H hS)) fun r s' h=>?_
  cases r with
  |error e=>exact(hCX H e s' h).elim
  |ok fl=>
   cases fl with
   |next=>exact False.elim h
   |brk=>exact False.elim h
   |cont=>exact False.elim h
   |ret u=>
    obtain⟨v,H',os,bare,un,hok',r',q⟩:=h;have q':v=.bl true:=q;subst q';obtain rfl:u=Value.bool true:=r';refine⟨rfl,⟨fun b o e=>?_,fun b o e=>un.there b o e (by simp)⟩,os,bare⟩
    cases q:H b with
    |none=>exact .inl (un.keep b o e q (by intro z;exact absurd (show b∈([]:List Addr) from z) (by simp)) (by simp))
    |some u=>
     rcases what b u q with⟨rfl,_,rfl⟩|⟨t,ht,rfl,rfl⟩
     ·have z2:=un.frzs _ _ _ q
      obtain⟨e1,_⟩:=hok _ _ q;obtain⟨e2,_⟩:=hok' _ _ z2;rw[e] at e1;cases e1;exact .inl e2
     ·obtain⟨more,z2⟩:=un.tbls _ _ q
      obtain⟨qs,e2,_⟩:=hok' _ _ z2;have e1:=(hT t ht).2;rw[e] at e1;obtain rfl:=Option.some.inj e1;exact .inr (.inl ⟨((hT t ht).1.tab (hT t ht).2).isCodeTable,rfl,#[],qs,rfl,by rw[Array.empty_append];exact e2⟩)
 cases hk:K.lookup a with
 |some o=>
  have e:=KX a o hk;rw[ha] at e;cases e;exact core (fun b=>oW K b) (fun _ _=>rfl) (.inl tabA) (.inr ⟨_,vs.toArray,_,hk,rfl,rfl,rfl,by rw[List.size_toArray,lenV];exact hl,by simpa using rv⟩)
 |none=>
  refine core (fun b=>if b=a then some (.frz { cls:=.type "list",data:=.seq vs.toArray } (.lst (ns.map V.int))) else oW K b) (fun b hb=>if_neg hb) (.inr ⟨hk,if_pos rfl⟩) (.inl (.inr ⟨_,if_pos rfl⟩))
theorem zn{l:W.OpenLaw}{n k:Nat}{q:Program}{loose:List Str}{XP:(Str->Option Value)->Heap->Prop}{YP:World->Heap->Prop}{d:DefRec}{K:Params->W.Frag}{CX:CXT}{sp:W.Frag->Sp}{x:Str}(hn:l.most=some n)(hn2:n<=sizeLine)(hdf:d.params.defaults=[])(hr:eZ k callerA)(hY:∀(w:World)(h:Heap),YP w h->(K w.params).In h)(tabs:∀w:World,Ac (K w.params) ((recsOf q).map (·.name))=true)
  (F:∀(w:World)(mg:Str->Option Value)(fa:Addr)(h:Heap),(K w.params).In h->h.Ns mainGlobals mg->mg d.name=some (.ref fa) ->
   ∃fd:FuncData,(∀(s:Shared)(u:Value),BindsTo s fd ⟨[u],[]⟩ [(x,u)])/\∀base:Heap,aD l.prog w (K w.params) mg base CX k fa fd [x] (sp (K w.params)))
  (hsp:∀(K:W.Frag)(H:Hp)(a:Addr)(ns:List Int),ns.length<=n->Hm H->SqL K H a (ns.map V.int)->sp K [.ref a] H (fun v _=>v=.bl true) fun _ _ _=>False)
  (hCX:∀(H:Hp)(s:Shared)(e:Value)(s':Shared),CX [] H s (fun _ _ _=>False) e s'->False) :
  W.WalkO q loose XP YP l.row.toRowW d [] (fun f vs=>PySem.call f vs):=by
 refine Att.sW hn hdf fun w s₀ s₁ mg mb fa o pm cd doc a vs ns G Y ho hd hcd hmg hobj hints hlen hg=>?_;have KX:=hY w _ Y;have tb:=tabs w;unfold Ac at tb;rw[Bool.and_eq_true,Bool.and_eq_true] at tb;obtain⟨⟨t1,t2⟩,t3⟩:=tb;obtain⟨fd,hb,hF⟩:=F w mg fa _ KX G.T.g hmg;refine yL KX G.T.g G.T.b G.T.builtins G.T.nolimit hg G.T.bmain (fun t ht=>?_) t1 t2 hobj hints (Nat.le_trans hlen hn2) hr hF hb (fun H hS=>hsp _ H a ns hlen trivial hS) fun H e s'=>hCX H s₁ e s'
 have hc:=List.all_eq_true.mp t3 t ht;have hm:t.1∈(recsOf q).map (·.name):=by simpa using hc
 obtain⟨r,hr1,hr2⟩:=List.mem_map.mp hm
 cases z:(recsOf q).find? (fun e=>e.name == t.1) with
 |none=>
  have:=List.find?_eq_none.mp z r hr1;rw[hr2] at this;simp at this
 |some d'=>exact W.tab_of G.T KX z (BS ht)
end L2
namespace L2
open PySem PySem.Spec PySem.Calls PyProof.Rows
open AutoSeq1 (wpAny_loadPart')
section
variable{prog:Program}{w:World}{A:Around}{E:Value->Shared->Prop}{S:Shared}
set_option maxHeartbeats 2000000 in
end
end L2
namespace L2
open PySem PySem.Spec PySem.Calls PyProof.Rows
structure Src(prog:Program)(w:World)(A:Around)(j q:Addr)(its:Array Value)(It1:Nat->Heap->Prop)(Sq1:Heap->Prop):Prop where
 item:∀(n:Nat)(v:Value)(S:Shared)(Q:Value->Shared->Prop)(E:Value->Shared->Prop),It1 n S.heap->Sq1 S.heap->its[n]?=some v->(∀h1,It1 (n+1) h1->Heap.SameBut j S.heap h1->Q v { S with heap:=h1 })->wpAny (model prog w) A (Builtin.SmallTypes.nextOf (.ref j)) Q E S
 stop:∀(n:Nat)(S:Shared)(Q:Value->Shared->Prop)(E:Value->Shared->Prop),It1 n S.heap->Sq1 S.heap->its[n]?=none->(∀h1 e,Heap.ExtBut j S.heap h1->(∃o,h1.get? e=some o/\o.cls=.type "StopIteration")->E (.ref e) { S with heap:=h1 })->wpAny (model prog w) A (Builtin.SmallTypes.nextOf (.ref j)) Q E S
 mv:∀(n:Nat)(h h1:Heap),It1 n h->(∀o,h.get? j=some o->h1.get? j=some o)->It1 n h1
 sv:∀(h h1:Heap),Sq1 h->(∀o,h.get? q=some o->h1.get? q=some o)->Sq1 h1
 live:∀(n:Nat)(h:Heap),It1 n h->∃o vs,h.get? j=some o/\o.data=.fields vs
structure Kd(cls:String)(Sa:W.Frag->Hp->Addr->List V->Prop)(Iti:Heap->Addr->Addr->Nat->Prop)(Is:Heap->Addr->Array Value->Prop):Prop where
 got:∀ {X:Cx} {pins:List (Addr×Obj)} {σ:St} {H:Hp} {s:Shared} {a:Addr} {xs:List V},Inv X pins σ H s->Sa X.K H a xs->∃its:List Value,aT xs its/\Is s.heap a its.toArray
 inj:∀ {X:Cx} {pins:List (Addr×Obj)} {σ:St} {H:Hp} {s:Shared} {a:Addr} {xs ys:List V},Inv X pins σ H s->Sa X.K H a xs->Sa X.K H a ys->xs=ys
 src:∀(prog:Program)(w:World)(A:Around)(j q:Addr)(its:Array Value),A.handled=none->Src prog w A j q its (fun n h=>Iti h j q n) (fun h=>Is h q its)
 seq:∀ {h:Heap} {a:Addr} {its:Array Value},Is h a its->∃o n,h.get? a=some o/\o.data=.seq its n
 ne:∀ {X:Cx} {pins:List (Addr×Obj)} {σ:St} {H:Hp} {s:Shared} {a b:Addr} {xs:List V},Inv X pins σ H s->Sa X.K H a xs->lC X pins H b->a≠b
 itr:∀ {prog:Program} {w:World} {A:Around} {E:Value->Shared->Prop} {S:Shared} {a:Addr} {its:Array Value} {Q:Value->Shared->Prop},Is S.heap a its->Q (.ref S.heap.objs.size) { S with heap:=S.heap.push { cls:=.type cls,data:=.fields #[.ref a,.int 0 0] } }->wpAny (model prog w) A (pyIter (.ref a)) Q E S
 sv:∀ {h h1:Heap} {a:Addr} {its:Array Value},Is h a its->(∀ob,h.get? a=some ob->h1.get? a=some ob)->Is h1 a its
 new:∀ {h:Heap} {j q:Addr},h.get? j=some { cls:=.type cls,data:=.fields #[.ref q,.int 0 0] }->Iti h j q 0
theorem qw{X:Cx}(K:W.Frag)(h:X.K=K){ts:List Expr}{k n:Nat}{pos:Pos}{t:TGs}(hc:X.calm=true)(hts:PGs X ts t)(hn:(assignEach ts X.env).length=n:=by rfl)(hst:(assignEach ts X.env).findIdx? (·.1)=none:=by rfl):PG X (.Tuple ts k pos) (Eu K n t):=h ▸ Fk hc hts hn hst
noncomputable def bB{α:Type}(c:Nat->Nat->Bool):W.KasT α->α
 |.ret a=>a
 |.ask i j k=>bB c (k (c i j))
noncomputable def KG{α:Type}(n:Nat)(R:α->Prop):W.KasT α->Prop
 |.ret a=>R a
 |.ask i j k=>i<n/\j<n/\∀b,KG n R (k b)
theorem KG.fin{α:Type}{n:Nat}{R:α->Prop}(c:Nat->Nat->Bool):∀ {t:W.KasT α},KG n R t->R (bB c t)
 |.ret _,h=>h
 |.ask i j k,h=>KG.fin c (t:=k (c i j)) (h.2.2 (c i j))
theorem KG.mono{α:Type}{n:Nat}{R S:α->Prop}(q:∀a,R a->S a):∀ {t:W.KasT α},KG n R t->KG n S t
 |.ret a,h=>q a h
 |.ask _ _ k,h=>⟨h.1,h.2.1,fun b=>KG.mono q (t:=k b) (h.2.2 b)⟩
theorem KG.bind{α β:Type}{n:Nat}{R:β->Prop}{f:α->W.KasT β}:∀ {t:W.KasT α},KG n (fun a=>KG n R (f a)) t->KG n R (t.bind f)
 |.ret _,h=>h
 |.ask _ _ k,h=>⟨h.1,h.2.1,fun b=>KG.bind (t:=k b) (h.2.2 b)⟩
theorem KG.wp{α:Type}{n:Nat}{R:α->Prop}{c:Nat->Nat->Bool}{cmp:Nat->Nat->(Bool->Shared->Prop)->Shared->Prop}{Q:α->Shared->Prop}{s:Shared}(hc:∀i j C,i<n->j<n->C (c i j) s->cmp i j C s):
  ∀ {t:W.KasT α},KG n R t->Q (bB c t) s->t.kasWp cmp Q s
 |.ret _,_,q=>q
 |.ask i j k,h,q=>hc i j _ h.1 h.2.1 (KG.wp hc (t:=k (c i j)) (h.2.2 (c i j)) q)
noncomputable def Ord(n:Nat)(p:Array Nat):Prop:=p.Perm (List.range n).toArray
theorem Ord.lt{n:Nat}{p:Array Nat}(hn:0<n)(h:Ord n p)(k:Nat):p.getD k 0<n:=by
 by_cases hk:k<p.size
 ·have hm:p[k]∈p:=Array.getElem_mem hk
  have h2:=(h.mem_iff (a:=p[k])).mp hm;simp at h2;simp[Array.getD,hk];exact h2
 ·simp[Array.getD,hk]
  exact hn
theorem Ord.rev{n i j:Nat}{p:Array Nat}(h:Ord n p):Ord n (W.kas_rev p i j):=(mirror_perm p i j _).trans h
theorem Ord.bub{n i j:Nat}{p:Array Nat}(h:Ord n p):Ord n (bubble p i j):=(bubble_perm p i j).trans h
section
variable{n:Nat}(hn:0<n)
include hn
theorem vv{p:Array Nat}(hp:Ord n p):∀f k,KG n (fun _=>True) (W.kas_asc p f k)
 |0,_=>trivial
 |f+1,k=>⟨hp.lt hn _,hp.lt hn _,fun b=>by
  cases b
  ·exact vv hp f (k+1)
  ·exact trivial⟩
theorem mJ:∀f (p:Array Nat) k q,Ord n p->KG n (fun r=>Ord n r.1) (W.kas_desc f p k q)
 |0,_,_,_,hp=>hp
 |f+1,p,k,q,hp=>by
  refine⟨hp.lt hn _,hp.lt hn _,fun b=>?_⟩;cases b
  ·refine⟨hp.lt hn _,hp.lt hn _,fun d=>?_⟩
   cases d
   ·exact mJ f _ _ _ hp
   ·exact hp
  ·show KG n _ (if q>0 then _ else _)
   split
   ·exact mJ f _ _ _ hp.rev
   ·exact mJ f _ _ _ hp
theorem um{p:Array Nat}(hp:Ord n p)(a b:Nat):KG n (fun r=>Ord n r.2) (W.kas_tail3 a b p):=KG.bind ((vv hn hp.rev _ _).mono fun _ _=>hp.rev)
theorem lO{p:Array Nat}(hp:Ord n p)(a b:Nat):KG n (fun r=>Ord n r.2) (W.kas_descPart a b p):=KG.bind ((mJ hn _ _ _ _ hp).mono fun r hr=>by
 split
 ·exact um hn hr.rev _ _
 ·exact um hn hr _ _)
theorem AW{p:Array Nat}(hp:Ord n p)(a:Nat):KG n (fun r=>Ord n r.2) (W.kas_count a p):=KG.bind ((vv hn hp _ _).mono fun k _=>by
 split
 ·exact hp
 ·split
  ·refine⟨hp.lt hn _,hp.lt hn _,fun b=>?_⟩
   cases b
   ·exact lO hn hp.rev _ _
   ·exact hp
  ·exact lO hn hp _ _)
theorem nX{p:Array Nat}(hp:Ord n p)(k:Nat):∀f l r,KG n (fun _=>True) (W.kas_place p k f l r)
 |0,_,_=>trivial
 |f+1,l,r=>by
  show KG n _ (if l ≥ r then _ else _)
  split
  ·exact trivial
  ·refine⟨hp.lt hn _,hp.lt hn _,fun b=>?_⟩
   cases b
   ·exact nX hp k f _ _
   ·exact nX hp k f _ _
theorem AU:∀f (p:Array Nat) k,Ord n p->KG n (Ord n) (W.kas_bin f p k)
 |0,_,_,hp=>hp
 |f+1,_,k,hp=>KG.bind ((nX hn hp _ _ _ _).mono fun _ _=>AU f _ _ hp.bub)
theorem vT:KG n (Ord n) (W.kas_sort n):=KG.bind ((AW hn (.refl _) n).mono fun r hr=>by
 split
 ·exact AU hn _ _ _ hr
 ·exact hr)
end
noncomputable def Zs:List Value->List Int->Prop
 | [],[]=>True
 |v::vs,n::ns=>(∃t,v=.int n t)/\Zs vs ns
 |_,_=>False
noncomputable def ltF(e:Bool):List Int->List Int->Bool
 |x::xs,y::ys=>if x=y then ltF e xs ys else decide (x<y)
 |_,_=>e
noncomputable def ltZ(x y:List Int):Bool:=ltF (decide (x.length<y.length)) x y
theorem Zs.len:∀ {vs:List Value} {ns:List Int},Zs vs ns->vs.length=ns.length
 | [],[],_=>rfl
 |_::_,_::_,h=>congrArg (·+1) (Zs.len h.2)
 | [],_::_,h=>h.elim
 |_::_,[],h=>h.elim
section
variable{prog:Program}{w:World}{A:Around}{E:Value->Shared->Prop}{s:Shared}
theorem Cv{b:Bool}{x y:Int}{t u:Tok}{Q:Bool->Shared->Prop}(h:Q (decide (x<y)) s):wpAny (model prog w) A (oneLt' b (.int x t) (.int y u)) Q E s:=by
 cases b
 ·exact W.kat_one _ _ (wpAny_lt_int h)
 ·exact oneLt_int h
theorem vJ{b e:Bool}{Q:Bool->Shared->Prop}:∀ {xs ys:List Value} {ns ms:List Int} (i:Nat),Zs xs ns->Zs ys ms->Q (ltF e ns ms) s->W.KatLex prog w A b e Q (xs.zip ys) i s
 | [],_,[],_,_,_,_,q=>W.kat_nil (by simpa[ltF] using q)
 |_::_,[],_::_,[],_,_,_,q=>W.kat_nil (by simpa[ltF] using q)
 |x::xs,y::ys,n::ns,m::ms,i,hx,hy,q=>by
  obtain⟨⟨t,rfl⟩,hx⟩:=hx;obtain⟨⟨u,rfl⟩,hy⟩:=hy;refine W.kat_cons (wpAny_eqBool_int ?_);unfold ltF at q;by_cases h:n=m
  ·rw[if_pos h] at q
   rw[show (n == m)=true by simpa using h]
   exact W.kat_yes (vJ (i+1) hx hy q)
  ·rw[if_neg h] at q
   rw[show (n == m)=false by simpa using h]
   exact W.kat_no (Cv q)
 | [],_,_::_,_,_,h,_,_=>h.elim
 |_::_,_,[],_,_,h,_,_=>h.elim
 |_::_,[],_,_::_,_,_,h,_=>h.elim
 |_::_,_::_,_,[],_,_,h,_=>h.elim
end
noncomputable def TW(h:Heap):List Value->List (List Int)->Prop
 | [],[]=>True
 |v::vs,x::xs=>(∃a o its n,v=.ref a/\h.get? a=some o/\o.cls=.type "tuple"/\o.data=.seq its n/\Zs its.toList x)/\TW h vs xs
 |_,_=>False
theorem TW.len{h:Heap}:∀ {vs:List Value} {W:List (List Int)},TW h vs W->vs.length=W.length
 | [],[],_=>rfl
 |_::_,_::_,q=>congrArg (·+1) (TW.len q.2)
 | [],_::_,q=>q.elim
 |_::_,[],q=>q.elim
theorem TW.keep{h h':Heap}(k:∀b o,h.get? b=some o->o.cls=.type "tuple"->h'.get? b=some o):∀ {vs:List Value} {W:List (List Int)},TW h vs W->TW h' vs W
 | [],[],_=>trivial
 |_::_,_::_,⟨⟨a,o,its,n,e1,e2,e3,e4⟩,q⟩=>⟨⟨a,o,its,n,e1,k _ _ e2 e3,e3,e4⟩,TW.keep k q⟩
 | [],_::_,q=>q.elim
 |_::_,[],q=>q.elim
theorem TW.at{h:Heap}:∀ {vs:List Value} {W:List (List Int)} {i:Nat},TW h vs W->i<vs.length->∃a o its n,vs.getD i Value.none=.ref a/\h.get? a=some o/\o.data=.seq its n/\Zs its.toList (W.getD i [])
 |_::_,_::_,0,⟨⟨a,o,its,n,e1,e2,e3,e4,e5⟩,_⟩,_=>⟨a,o,its,n,by simpa using e1,e2,e4,by simpa using e5⟩
 |_::_,_::_,i+1,⟨_,q⟩,hi=>by
  obtain⟨a,o,its,n,e1,e2,e3,e4⟩:=TW.at (i:=i) q (by simpa using hi)
  exact⟨a,o,its,n,by simpa using e1,e2,e3,by simpa using e4⟩
 | [],_,_,_,hi=>absurd hi (by simp)
 |_::_,[],_,q,_=>q.elim
theorem TW.tups{h:Heap}:∀ {vs:List Value} {W:List (List Int)},TW h vs W->(∀x∈W,x≠[])->∃fs,PySem.W.KatTups h vs fs/\fs.length=vs.length/\∀v∈fs,∃n t,v=.int n t
 | [],[],_,_=>⟨[],trivial,rfl,by simp⟩
 |_::vs,x::xs,⟨⟨a,o,its,n,rfl,e2,e3,e4,e5⟩,q⟩,ne=>by
  obtain⟨fs,g1,g2,g3⟩:=TW.tups q fun y hy=>ne y (List.mem_cons_of_mem _ hy);have e6:=ne x List.mem_cons_self
  match hi:its.toList,x,e5,e6 with
  | [],[],_,e6=>exact absurd rfl e6
  | [],_::_,e5,_=>exact e5.elim
  |_::_,[],e5,_=>exact e5.elim
  |f::r,m::ms,e5,_=>
   obtain⟨t,ht⟩:=e5.1;refine⟨f::fs,PySem.W.KatTups.cons e2 e3 e4 ?_ g1,by simp[g2],?_⟩
   ·rw[←Array.getElem?_toList,hi];rfl
   ·intro v hv
    rcases List.mem_cons.mp hv with rfl|hv
    ·exact⟨m,t,ht⟩
    ·exact g3 v hv
 | [],_::_,q,_=>q.elim
 |_::_,[],q,_=>q.elim
noncomputable def fz(W:List (List Int)):Array Nat:=if W.length<2 then (List.range W.length).toArray else bB (fun i j=>ltZ (W.getD i []) (W.getD j [])) (PySem.W.kas_sort W.length)
theorem fL(W:List (List Int)):Ord W.length (fz W):=by
 unfold fz;split
 ·exact .refl _
 ·exact KG.fin _ (vT (by omega))
section
variable{prog:Program}{w:World}{A:Around}{E:Value->Shared->Prop}{s:Shared}
noncomputable def qV(vs:List Value)(W:List (List Int)):Array Value:=List.toArray ((fz W).toList.map fun i=>vs.getD i Value.none)
theorem yz{h:Heap}{vs:List Value}{W:List (List Int)}(tw:TW h vs W):(qV vs W).size=vs.length:=by
 have a:=(fL W).size_eq;have b:=tw.len;simp[qV];simp at a;omega
theorem ya{vs:List Value}{W:List (List Int)}{b:Bool}{s:Shared}(tw:TW s.heap vs W){Q:Array Nat->Shared->Prop}(h2:0<vs.length)(q:Q (bB (fun i j=>ltZ (W.getD i []) (W.getD j [])) (PySem.W.kas_sort vs.length)) s):
  (PySem.W.kas_sort vs.length).kasWp (PySem.W.kas_ask prog w A (tuples' b) vs) Q s:=by
 refine KG.wp (fun i j C hi hj hC=>?_) (vT h2) q;obtain⟨a1,o1,i1,n1,e1,e2,e3,e4⟩:=tw.at hi;obtain⟨a2,o2,i2,n2,f1,f2,f3,f4⟩:=tw.at hj;show wpAny (model prog w) A (keyLt' (tuples' b) (vs.getD i Value.none) (vs.getD j Value.none)) C _ s;rw[e1,f1];refine PySem.W.kat_lt e2 e3 f2 f3 (vJ 0 e4 f4 ?_);have g1:=e4.len;have g2:=f4.len;rw[Array.length_toList] at g1 g2;rw[g1,g2];exact hC
theorem yS:∀(vs:List Value),vs.length<2->Array.map (·.2) (vs.toArray.zip vs.toArray)=List.toArray ((List.range vs.length).map fun i=>vs.getD i Value.none)
 | [],_=>by simp
 | [v],_=>by simp
 |_::_::_,h=>absurd h (by simp)
theorem yK{a:Addr}{vs:List Value}{W:List (List Int)}{k:Nat}{P:PySem.Fin->Shared->Prop}(g:s.heap.get? a=some (seqObj "list" vs.toArray k))(tw:TW s.heap vs W)(ne:2<=W.length->∀x∈W,x≠[])(hs:vs.length<64)(q:P (.done (.ret .none)) { s with heap:=sortedHeap s.heap a vs (qV vs W) }):wpAny (model prog w) A (Builtin.«list.sort» ⟨[.ref a],[]⟩) P E s:=by
 have line:64<=sizeLine:=by rw[sizeLine_eq];omega
 have room:vs.toArray.size<=sizeLine:=by rw[List.size_toArray];omega
 have la:a<s.heap.objs.size:=Heap.lt_size g;have osz:=yz tw;rw[list_sort_plain];obtain⟨e1,g1⟩:∃e1,(s.heap.update a (Obj.mapSeq fun _=>(#[]:Array Value))).get? a=some (seqObj "list" #[] e1):=⟨_,get?_update_seq g fun _=>#[]⟩;refine wpAny_bind (listItems_at g rfl (wpAny_bind (listUpdate_at g rfl (wpAny_bind (seqEpoch_at g1 rfl (wpAny_bind (wpAny_newTuple (wpAny_bind (wpAny_newList (wpAny_holding ?_) (Nat.zero_le _))) ?_)))) room (Nat.zero_le _))))
 case refine_2=>show vs.length<=_;omega
 have g3:(((s.heap.update a (Obj.mapSeq fun _=>(#[]:Array Value))).push (seqObj "tuple" vs.toArray 0)).push (seqObj "list" #[] 0)).get? a=some (seqObj "list" #[] e1):=Heap.get?_push_of_some _ (Heap.get?_push_of_some _ g1)
 have tw3:TW (((s.heap.update a (Obj.mapSeq fun _=>(#[]:Array Value))).push (seqObj "tuple" vs.toArray 0)).push (seqObj "list" #[] 0)) vs W:=tw.keep fun b o e c=>by
  have nb:b≠a:=fun z=>by
   subst z;rw[g] at e;cases e;exact absurd (show Value.type "list"=Value.type "tuple" from c) (fun z=>by injection z with z;exact absurd z (by decide))
  exact Heap.get?_push_of_some _ (Heap.get?_push_of_some _ ((Heap.get?_update_ne _ _ _ _ nb).trans e))
 show wpAny (model prog w) A _ P E { s with heap:=((s.heap.update a (Obj.mapSeq fun _=>(#[]:Array Value))).push (seqObj "tuple" vs.toArray 0)).push (seqObj "list" #[] 0) }
 have fin:∀out:Array Value,out=qV vs W->P (.done (.ret .none)) { s with heap:=(((s.heap.update a (Obj.mapSeq fun _=>(#[]:Array Value))).push (seqObj "tuple" vs.toArray 0)).push (seqObj "list" #[] 0)).update a (Obj.mapSeq fun _=>out) }:=fun out e=>by
  subst e;exact q
 generalize hh:((s.heap.update a (Obj.mapSeq fun _=>(#[]:Array Value))).push (seqObj "tuple" vs.toArray 0)).push (seqObj "list" #[] 0)=hp at g3 tw3 fin ⊢;dsimp only;by_cases h2:vs.toArray.size<2
 ·rw[if_pos h2,if_pos h2]
  refine wpAny_bind (wpAny_pure ?_);rw[StateT.run_pure];refine wpAny_bind (wpAny_pure ?_);dsimp only
  have same:(arrOf (SortSt.mk' general' (vs.toArray.zip vs.toArray) #[] 7 none)).map (·.2)=qV vs W:=by
   have hl:=tw.len;rw[List.size_toArray] at h2;unfold qV fz;rw[if_pos (by omega),←hl]
   exact yS vs h2
  rw[same];refine wpAny_bind (seqEpoch_at g3 rfl (wpAny_bind (listUpdate_at g3 rfl ?_ (Nat.zero_le _) (by omega))))
  simp only[bne_self_eq_false,Bool.false_eq_true,if_false];exact wpAny_pure (fin _ rfl)
 ·rw[if_neg h2,if_neg h2]
  rw[List.size_toArray] at h2;obtain⟨fs,t1,t2,t3⟩:=tw3.tups (ne (by have:=tw.len;omega))
  refine wpAny_bind (PySem.W.kat_kind (T:=.type "int") t1 (by omega) (fun v hv=>?_) rfl ?_)
  ·obtain⟨n,t,rfl⟩:=t3 v hv
   exact PySem.W.Looks.now
  refine wpAny_bind (wpAny_mono (PySem.W.kat_run (E:=E) (Q:=fun st' s'=>failedOf st'=none/\(arrOf st').map (·.2)=qV vs W/\s'={ s with heap:=hp }) (G:=fun p s'=>p=fz W/\s'={ s with heap:=hp }) rfl (by omega) hs (fun p st' s' _ b1 b2 b3=>⟨b2,?_,b3.2⟩) (ya tw3 (by omega) ⟨?_,rfl⟩)) ?_ fun _ _ e=>e)
  ·rw[PySem.W.kat_snds rfl b1,b3.1]
   rfl
  ·have hl:=tw.len
   unfold fz;rw[if_neg (by omega),←hl]
  ·rintro⟨⟨⟩,st'⟩ s' ⟨b1,b2,rfl⟩
   dsimp only at b1 b2 ⊢;rw[b2];refine wpAny_bind (seqEpoch_at g3 rfl (wpAny_bind (listUpdate_at g3 rfl ?_ (Nat.zero_le _) (by omega))))
   rw[b1];simp only[bne_self_eq_false,Bool.false_eq_true,if_false];exact wpAny_pure (fin _ rfl)
theorem tY{l:Addr}{vs:List Value}{W:List (List Int)}{Q:Value->Shared->Prop}(g:s.heap.IsList l vs.toArray)(tw:TW s.heap vs W)(ne:2<=W.length->∀x∈W,x≠[])(hs:vs.length<64)(q:Q (.ref (s.heap.objs.size+1)) { s with heap:=sortedAll s.heap vs (qV vs W) }):wpAny (model prog w) A (call (.builtin "sorted") [.ref l]) Q E s:=by
 have line:64<=sizeLine:=by rw[sizeLine_eq];omega
 refine Calls.call_function_entry kind_sorted plain_sorted entry_sorted (args_sorted1 _) ?_;unfold Builtin.«sorted»;have n1:((s.heap.push (seqObj "list" #[] 0)).update s.heap.objs.size (Obj.mapSeq (·++vs.toArray))).objs.size=s.heap.objs.size+1:=by rw[Heap.size_update,size_push']
 refine wpAny_bind (m:=checkCount "sorted" 1 1 _) (wpAny_pure (wpAny_bind (collect_list g (wpAny_bind (wpAny_newList ?_ (by omega))) (by omega))))
 have g2:(((s.heap.push (seqObj "list" #[] 0)).update s.heap.objs.size (Obj.mapSeq (·++vs.toArray))).push (seqObj "list" vs.toArray 0)).get? (s.heap.objs.size+1)=some (seqObj "list" vs.toArray 0):=by
  rw[←n1];exact Heap.get?_push_size _ rfl
 have tw2:TW (((s.heap.push (seqObj "list" #[] 0)).update s.heap.objs.size (Obj.mapSeq (·++vs.toArray))).push (seqObj "list" vs.toArray 0)) vs W:=tw.keep fun b o e _=>by
  have lt:=Heap.lt_size e;exact Heap.get?_push_of_some _ ((Heap.get?_update_ne _ _ _ _ (Nat.ne_of_lt lt)).trans (Heap.get?_push_of_some _ e))
 show wpAny _ _ _ _ _ { s with heap:=((s.heap.push (seqObj "list" #[] 0)).update s.heap.objs.size (Obj.mapSeq (·++vs.toArray))).push (seqObj "list" vs.toArray 0) }
 rw[n1];exact wpAny_bind (wpAny_holding (wpAny_call_entry slot_list_sort ⟨_,g2,rfl⟩ entry_list_sort (yK g2 tw2 ne hs ⟨_,rfl,wpAny_pure ⟨_,rfl,q⟩⟩) (args_list_sort _)))
end
noncomputable def srt(xs:List V)(W:List (List Int)):List V:=(fz W).toList.map fun i=>xs.getD i .non
noncomputable def TWv(H:Hp):List V->List (List Int)->Prop
 | [],[]=>True
 |v::vs,x::xs=>(∃a,v=.ref a/\H a=some (.tup (x.map V.int)))/\TWv H vs xs
 |_,_=>False
section
variable{X:Cx}
theorem Zs.of:∀ {ns:List Int} {its:List Value},aT (ns.map V.int) its->Zs its ns
 | [],[],_=>trivial
 |n::ns,v::vs,h=>by
  cases h with
  |cons r rr=>
   exact⟨r,Zs.of rr⟩
 | [],_::_,h=>by cases h
 |_::_,[],h=>by cases h
theorem TWv.tw{pins:List (Addr×Obj)}{σ:St}{H:Hp}{s:Shared}(I:Inv X pins σ H s):∀ {xs:List V} {W:List (List Int)} {us:List Value},TWv H xs W->aT xs us->TW s.heap us W
 | [],[],[],_,_=>trivial
 |v::vs,x::ys,u::us,⟨⟨a,e1,e2⟩,q⟩,h=>by
  subst e1
  cases h with
  |cons r rr=>
   cases r;obtain⟨_,its,e4,⟨o,e5,e6,n,e7⟩,_⟩:=I.hok a _ e2;exact⟨⟨a,o,its.toArray,n,rfl,e5,e6,e7,Zs.of e4⟩,TWv.tw I q rr⟩
 | [],[],_::_,_,h=>by cases h
 |_::_,_,[],_,h=>by cases h
 | [],_::_,_,q,_=>q.elim
 |_::_,[],_,q,_=>q.elim
theorem tj{α:Type}{f:α->V}{g:α->Value}:∀ {l:List α},(∀i∈l,bq (f i) (g i))->aT (l.map f) (l.map g)
 | [],_=>.nil
 |_::_,h=>.cons (h _ (List.mem_cons_self ..)) (tj fun j hj=>h j (List.mem_cons_of_mem _ hj))
theorem Ord.mem{n:Nat}{p:Array Nat}(h:Ord n p){i:Nat}(hi:i∈p.toList):i<n:=by
 have:=(h.mem_iff (a:=i)).mp (Array.mem_toList_iff.mp hi);simpa using this
theorem p9:c6 X (.builtin "sorted") (fun xs H Q=>∃p ys W,xs=[.ref p]/\SqL X.K H p ys/\TWv H ys W/\(2<=W.length->∀x∈W,x≠[])/\W.length<64/\∀l,H l=none->Q (.ref l) (upd H l (.lst (srt ys W)))):=by
 intro pins s σ H xs us Q I r h;obtain⟨p,ys,W,rfl,hq,hT,hne,hW,q⟩:=h;obtain⟨u,rfl,rx⟩:=gi r;cases rx;obtain⟨its,r',pl,hz⟩:=I.list hq;have tw:=TWv.tw I hT r';have e1:=tw.len;have e2:=r'.length;obtain⟨e,he⟩:=sortedAll_at s.heap its (qV its W)
 have hv:aT (srt ys W) ((fz W).toList.map fun i=>its.getD i Value.none):=tj fun i hi=>by
  have hi':=(fL W).mem hi;obtain⟨u,hu,ru⟩:=r'.get (List.getElem?_eq_getElem (by omega:i<ys.length))
  rw[List.getD_eq_getElem?_getD,List.getD_eq_getElem?_getD,hu,List.getElem?_eq_getElem (by omega:i<ys.length)]
  exact ru
 have hl:(srt ys W).length<=sizeLine:=by
  have a:=(fL W).size_eq;have b:64<=sizeLine:=by rw[sizeLine_eq];omega
  simp[srt] at a ⊢;omega
 exact tY pl.isList tw hne (by omega) ⟨.ref (s.heap.objs.size+1),_,I.laid (t':=s.toks) (fun b o e=>sortedAll_old e) (Nat.le_succ _) (show cE X.prog X.w _ _ _ (.lst (srt ys W)) from ⟨hl,_,e,hv,he⟩),rfl,q _ (I.hok.fresh (Nat.le_succ _))⟩
end
noncomputable def fZ(W:List (List Int)):List (List Int):=(fz W).toList.map fun i=>W.getD i []
theorem jB(W:List (List Int)):(fZ W).Perm W:=by
 have h:(fz W).toList.Perm (List.range W.length):=by
  have:=(fL W).toList;simpa using this
 have:=h.map fun i=>W.getD i [];refine this.trans (.of_eq ?_);apply List.ext_getElem?;intro i;by_cases hi:i<W.length
 ·rw[List.getElem?_map,List.getElem?_range hi,List.getElem?_eq_getElem hi]
  simp[hi]
 ·rw[List.getElem?_eq_none (by simpa using hi),List.getElem?_eq_none (by simpa using hi)]
theorem wL{H:Hp}:∀ {ns:List Int} {xs:List V},aG H (ns.map D.int) xs->xs=ns.map V.int
 | [],xs,h=>by simpa[aG] using h
 |n::ns,xs,h=>by
  simp only[List.map_cons,aG,Dat] at h;obtain⟨x,r,rfl,rfl,h2⟩:=h;rw[wL h2];rfl
theorem TWv.of{H:Hp}:∀ {W:List (List Int)} {xs:List V},aG H (W.map wdD) xs->TWv H xs W
 | [],xs,h=>by
  have:xs=[]:=by simpa[aG] using h
  subst this;exact trivial
 |x::W,xs,h=>by
  simp only[List.map_cons,aG] at h;obtain⟨v,r,rfl,hv,h2⟩:=h;simp only[wdD,Dat] at hv;obtain⟨a,ys,rfl,ha,hy⟩:=hv;rw[wL hy] at ha;exact⟨⟨a,rfl,ha⟩,TWv.of h2⟩
theorem pq{H:Hp}{W:List (List Int)}{xs:List V}(h:aG H (W.map wdD) xs):∀ {l:List Nat},(∀i∈l,i<W.length)->aG H ((l.map fun i=>W.getD i []).map wdD) (l.map fun i=>xs.getD i .non)
 | [],_=>by simp[aG]
 |i::l,q=>by
  simp only[List.map_cons,aG];have hi:=q i (List.mem_cons_self ..);obtain⟨x,e,hx⟩:=h.get (i:=i) (d:=wdD (W.getD i [])) (by rw[List.getElem?_map,List.getD_eq_getElem?_getD,List.getElem?_eq_getElem hi];rfl)
  refine⟨_,_,rfl,?_,pq h fun j hj=>q j (List.mem_cons_of_mem _ hj)⟩;rw[show xs.getD i V.non=x by rw[List.getD_eq_getElem?_getD,e];rfl]
  exact hx
theorem zE{H:Hp}{W:List (List Int)}{xs:List V}(h:aG H (W.map wdD) xs):aG H ((fZ W).map wdD) (srt xs W):=pq h fun i hi=>(fL W).mem hi
theorem kG(W:List (List Int)):(fZ W).length=W.length:=(jB W).length_eq
theorem rK{W:List (List Int)}{x:List Int}:x∈fZ W↔x∈W:=(jB W).mem_iff
section
variable{X:Cx}
theorem tV:c6 X (.builtin "sorted") (fun xs H Q=>∃p W,xs=[.ref p]/\LD H p (W.map wdD)/\(∀x∈W,x≠[])/\W.length<64/\∀l H',H l=none->dq H H'->LD H' l ((fZ W).map wdD)->Q (.ref l) H'):=by
 intro pins s σ H xs us Q I r h;obtain⟨p,W,rfl,⟨hn,ys,hy,hd⟩,ne,hl,q⟩:=h;exact p9 pins s σ H _ us Q I r ⟨p,ys,W,rfl,SqL.of hy,TWv.of hd,fun _=>ne,hl,fun l hl=>q l _ hl (nQ hl) ⟨tP _,_,b9,(zE hd).same (nQ hl)⟩⟩
end
structure CW(c:Nat->Nat->Bool):Prop where
 as:∀i j,c i j=true->c j i=false
 tr:∀i j k,c j i=false->c k j=false->c k i=false
theorem fG{α β:Type}(c:Nat->Nat->Bool){f:α->W.KasT β}:∀t:W.KasT α,bB c (t.bind f)=bB c (f (bB c t))
 |.ret _=>rfl
 |.ask i j k=>fG c (k (c i j))
section
variable{c:Nat->Nat->Bool}(L:CW c)
noncomputable def Up(c:Nat->Nat->Bool)(p:Array Nat)(k:Nat):Prop:=∀i j,i<=j->j<k->c (p.getD j 0) (p.getD i 0)=false
noncomputable def Dn(c:Nat->Nat->Bool)(p:Array Nat)(k:Nat):Prop:=∀i j,i<=j->j<k->c (p.getD i 0) (p.getD j 0)=false
include L
theorem CW.rf(i:Nat):c i i=false:=by
 cases h:c i i with
 |false=>rfl
 |true=>rw[L.as i i h] at h;cases h
theorem Fx(p:Array Nat):Up c p 1:=fun i j h1 h2=>by
 have:i=j:=by omega
 subst this;exact L.rf _
theorem Cp{p:Array Nat}{k:Nat}(h:Up c p k)(hk:1<=k)(q:c (p.getD k 0) (p.getD (k-1) 0)=false):Up c p (k+1):=fun i j h1 h2=>by
 by_cases hj:j<k
 ·exact h i j h1 hj
 ·have:j=k:=by omega
  subst this;by_cases hi:i=j
  ·subst hi;exact L.rf _
  ·exact L.tr _ (p.getD (j-1) 0) _ (h i (j-1) (by omega) (by omega)) q
theorem kP{p:Array Nat}{k:Nat}(h:Dn c p k)(hk:1<=k)(q:c (p.getD (k-1) 0) (p.getD k 0)=false):Dn c p (k+1):=fun i j h1 h2=>by
 by_cases hj:j<k
 ·exact h i j h1 hj
 ·have:j=k:=by omega
  subst this;by_cases hi:i=j
  ·subst hi;exact L.rf _
  ·exact L.tr _ (p.getD (j-1) 0) _ q (h i (j-1) (by omega) (by omega))
theorem u5{p:Array Nat}:∀f k,1<=k->Up c p k->Up c p (bB c (W.kas_asc p f k))/\k<=bB c (W.kas_asc p f k)/\bB c (W.kas_asc p f k)<=k+f
 |0,k,_,h=>⟨h,Nat.le_refl _,Nat.le_refl _⟩
 |f+1,k,hk,h=>by
  unfold W.kas_asc;simp only[bB]
  cases q:c (p.getD k 0) (p.getD (k-1) 0) with
  |true=>exact⟨h,Nat.le_refl _,by simp[bB]⟩
  |false=>
   have:=u5 f (k+1) (by omega) (Cp L h hk q)
   simp only[Bool.false_eq_true,if_false];exact⟨this.1,by omega,by omega⟩
end
theorem dw{p:Array Nat}{i j:Nat}(hj:j<=p.size)(k:Nat):(W.kas_rev p i j).getD k 0=if i<=k/\k<j then p.getD (i+j-1-k) 0 else p.getD k 0:=by
 have:=getElem?_mirror_all (xs:=p) (i:=i) hj k;simp only[Array.getD_eq_getD_getElem?];unfold W.kas_rev;rw[this];split<;>rfl
theorem sM{p:Array Nat}{s d:Nat}(hs:s<p.size)(hd:d<=s)(k:Nat):(bubble p s d).getD k 0=if k=s-d then p.getD s 0 else if s-d<k/\k<=s then p.getD (k-1) 0 else p.getD k 0:=by
 have:=getElem?_bubble hs d hd k;simp only[Array.getD_eq_getD_getElem?];rw[this];split
 ·rfl
 ·split<;>rfl
section
variable{c:Nat->Nat->Bool}(L:CW c)
include L
theorem CT{p:Array Nat}{k:Nat}(hk:k<=p.size)(h:Dn c p k):Up c (W.kas_rev p 0 k) k:=fun i j h1 h2=>by
 rw[dw hk,dw hk,if_pos (by omega),if_pos (by omega)]
 exact h _ _ (by omega) (by omega)
theorem mU{p:Array Nat}{k:Nat}(hu:Up c p k):∀f l r,r-l<=f->l<=r->r<=k->(∀i,i<l->c (p.getD k 0) (p.getD i 0)=false)->(∀i,r<=i->i<k->c (p.getD k 0) (p.getD i 0)=true) ->
  bB c (W.kas_place p k f l r)<=k/\(∀i,i<bB c (W.kas_place p k f l r)->c (p.getD k 0) (p.getD i 0)=false)/\(∀i,bB c (W.kas_place p k f l r)<=i->i<k->c (p.getD k 0) (p.getD i 0)=true)
 |0,l,r,hf,hl,hr,h1,h2=>by
  have:l=r:=by omega
  subst this;exact⟨hr,h1,h2⟩
 |f+1,l,r,hf,hl,hr,h1,h2=>by
  unfold W.kas_place;by_cases h:l ≥ r
  ·rw[if_pos h]
   have:l=r:=by omega
   subst this;exact⟨hr,h1,h2⟩
  ·rw[if_neg h]
   simp only[bB]
   cases q:c (p.getD k 0) (p.getD ((l+r) / 2) 0) with
   |true=>
    simp only[if_true];refine mU hu f l ((l+r) / 2) (by omega) (by omega) (by omega) h1 fun i hi hik=>?_
    cases e:c (p.getD k 0) (p.getD i 0) with
    |true=>rfl
    |false=>
     have:=L.tr (p.getD ((l+r) / 2) 0) (p.getD i 0) (p.getD k 0) (hu _ _ hi hik) e;rw[this] at q;cases q
   |false=>
    simp only[Bool.false_eq_true,if_false];refine mU hu f ((l+r) / 2+1) r (by omega) (by omega) hr (fun i hi=>?_) h2
    exact L.tr (p.getD i 0) (p.getD ((l+r) / 2) 0) (p.getD k 0) (hu _ _ (by omega) (by omega)) q
theorem Bx:∀f (p:Array Nat) k,k+f<=p.size->Up c p k->Up c (bB c (W.kas_bin f p k)) (k+f)
 |0,_,_,_,h=>h
 |f+1,p,k,hz,h=>by
  unfold W.kas_bin;rw[fG];obtain⟨h1,h2,h3⟩:=mU L h k 0 k (by omega) (by omega) (Nat.le_refl _) (fun i hi=>absurd hi (by omega)) (fun i hi hik=>absurd hik (by omega))
  generalize bB c (W.kas_place p k k 0 k)=l at h1 h2 h3 ⊢
  have:=Bx f (bubble p k (k - l)) (k + 1) (by rw [bubble_size];omega) (fun i j hij hj=>by
   rw[sM (by omega) (by omega),sM (by omega) (by omega),show k-(k-l)=l by omega]
   by_cases j1:j=l
   ·rw[if_pos j1]
    by_cases i1:i=l
    ·rw[if_pos i1];exact L.rf _
    ·rw[if_neg i1,if_neg (by omega)];exact h2 i (by omega)
   ·rw[if_neg j1]
    by_cases j2:l<j/\j<=k
    ·rw[if_pos j2]
     by_cases i1:i=l
     ·rw[if_pos i1];exact L.as _ _ (h3 (j-1) (by omega) (by omega))
     ·rw[if_neg i1]
      by_cases i2:l<i/\i<=k
      ·rw[if_pos i2];exact h _ _ (by omega) (by omega)
      ·rw[if_neg i2];exact h _ _ (by omega) (by omega)
    ·rw[if_neg j2,if_neg (by omega),if_neg (by omega)];exact h _ _ hij (by omega))
  rw[show k+(f+1)=k+1+f by omega]
  exact this
noncomputable def xN(c:Nat->Nat->Bool)(p:Array Nat)(a b:Nat):Prop:=∀i j,a<=i->i<b->a<=j->j<b->c (p.getD i 0) (p.getD j 0)=false
theorem zD{p:Array Nat}{a k:Nat}(hk:k<=p.size)(h:Dn c p k)(al:xN c p a k):Dn c (W.kas_rev p a k) k:=fun i j hij hj=>by
 rw[dw hk,dw hk];by_cases j1:a<=j/\j<k
 ·rw[if_pos j1]
  by_cases i1:a<=i/\i<k
  ·rw[if_pos i1];exact al _ _ (by omega) (by omega) (by omega) (by omega)
  ·rw[if_neg i1]
   exact h _ _ (by omega) (by omega)
 ·rw[if_neg j1,if_neg (by omega)];exact h _ _ hij hj
theorem mL:∀f (p:Array Nat) n q,1<=n->q+1<=n->n+f<=p.size->Dn c p n->xN c p (n-(q+1)) n ->
  (bB c (W.kas_desc f p n q)).1.size=p.size/\1<=(bB c (W.kas_desc f p n q)).2.1/\(bB c (W.kas_desc f p n q)).2.1<=n+f/\(bB c (W.kas_desc f p n q)).2.2+1<=(bB c (W.kas_desc f p n q)).2.1 /\
  Dn c (bB c (W.kas_desc f p n q)).1 (bB c (W.kas_desc f p n q)).2.1/\xN c (bB c (W.kas_desc f p n q)).1 ((bB c (W.kas_desc f p n q)).2.1-((bB c (W.kas_desc f p n q)).2.2+1)) (bB c (W.kas_desc f p n q)).2.1
 |0,p,n,q,h1,h2,h3,h4,h5=>⟨rfl,h1,Nat.le_refl _,h2,h4,h5⟩
 |f+1,p,n,q,h1,h2,h3,h4,h5=>by
  have single:∀p':Array Nat,xN c p' (n+1-(0+1)) (n+1):=fun p' i j a1 a2 a3 a4=>by
   have:i=j:=by omega
   subst this;exact L.rf _
  unfold W.kas_desc;simp only[bB]
  cases e:c (p.getD n 0) (p.getD (n-1) 0) with
  |true=>
   simp only[if_true];by_cases hq:q>0
   ·rw[if_pos hq]
    have d1:=zD L (by omega:n<=p.size) h4 h5
    have d2 : Dn c (W.kas_rev p (n - (q + 1)) n) (n + 1):=kP L d1 h1 (by
     rw[dw (by omega),dw (by omega),if_pos (by omega),if_neg (by omega)]
     exact L.tr _ (p.getD (n-1) 0) _ (L.as _ _ e) (h5 _ _ (by omega) (by omega) (by omega) (by omega)))
    have:=mL f (W.kas_rev p (n-(q+1)) n) (n+1) 0 (by omega) (by omega) (by rw[W.kas_rev_size];omega) d2 (single _)
    rw[W.kas_rev_size] at this;exact⟨this.1,this.2.1,by omega,this.2.2.2⟩
   ·rw[if_neg hq]
    have:=mL f p (n+1) 0 (by omega) (by omega) (by omega) (kP L h4 h1 (L.as _ _ e)) (single _)
    exact⟨this.1,this.2.1,by omega,this.2.2.2⟩
  |false=>
   simp only[Bool.false_eq_true,if_false,bB]
   cases e2:c (p.getD (n-1) 0) (p.getD n 0) with
   |true=>exact⟨rfl,h1,by simp[bB],h2,h4,h5⟩
   |false=>
    simp only[Bool.false_eq_true,if_false]
    have:=mL f p (n + 1) (q + 1) (by omega) (by omega) (by omega) (kP L h4 h1 e2) (fun i j a1 a2 a3 a4=>by
     have low:∀i,n-(q+1)<=i->i<n+1->c (p.getD i 0) (p.getD n 0)=false:=fun i b1 b2=>by
      by_cases hi:i=n
      ·subst hi;exact L.rf _
      ·exact L.tr _ (p.getD (n-1) 0) _ e2 (h5 _ _ (by omega) (by omega) (by omega) (by omega))
     have high:∀i,n-(q+1)<=i->i<n+1->c (p.getD n 0) (p.getD i 0)=false:=fun i b1 b2=>by
      by_cases hi:i=n
      ·subst hi;exact L.rf _
      ·exact L.tr _ (p.getD (n-1) 0) _ (h5 _ _ (by omega) (by omega) (by omega) (by omega)) e
     exact L.tr _ (p.getD n 0) _ (high j (by omega) a4) (low i (by omega) a2))
    exact⟨this.1,this.2.1,by omega,this.2.2.2⟩
theorem tW{p:Array Nat}{n z:Nat}(h1:1<=n)(h2:n<=z)(hz:z=p.size)(h:Dn c p n):(bB c (W.kas_tail3 n z p)).2.size=z/\1<=(bB c (W.kas_tail3 n z p)).1/\(bB c (W.kas_tail3 n z p)).1<=z/\Up c (bB c (W.kas_tail3 n z p)).2 (bB c (W.kas_tail3 n z p)).1:=by
 unfold W.kas_tail3;rw[fG];simp only[bB];have:=u5 L (p:=W.kas_rev p 0 n) (z-n) n h1 (CT L (by omega) h)
 exact⟨by rw[W.kas_rev_size];exact hz.symm,by omega,by omega,this.1⟩
theorem mi{p:Array Nat}{n z:Nat}(h1:1<=n)(h2:n<z)(hz:z=p.size)(h:Dn c p (n+1)):(bB c (W.kas_descPart n z p)).2.size=z/\1<=(bB c (W.kas_descPart n z p)).1/\(bB c (W.kas_descPart n z p)).1<=z/\Up c (bB c (W.kas_descPart n z p)).2 (bB c (W.kas_descPart n z p)).1:=by
 unfold W.kas_descPart;rw[fG]
 obtain ⟨a1,a2,a3,a4,a5,a6⟩:=mL L (z - (n + 1)) p (n + 1) 0 (by omega) (by omega) (by omega) h (fun i j b1 b2 b3 b4=>by
  have:i=j:=by omega
  subst this
  exact L.rf _)
 generalize bB c (W.kas_desc (z-(n+1)) p (n+1) 0)=r at a1 a2 a3 a4 a5 a6 ⊢;split
 ·exact tW L a2 (by omega) (by rw[W.kas_rev_size];omega) (zD L (by omega) a5 a6)
 ·exact tW L a2 (by omega) (by omega) a5
theorem rB{p:Array Nat}:∀f k,bB c (W.kas_asc p f k)=k+f\/c (p.getD (bB c (W.kas_asc p f k)) 0) (p.getD (bB c (W.kas_asc p f k)-1) 0)=true
 |0,k=>.inl rfl
 |f+1,k=>by
  unfold W.kas_asc;simp only[bB]
  cases q:c (p.getD k 0) (p.getD (k-1) 0) with
  |true=>exact .inr (by simpa[bB] using q)
  |false=>
   simp only[Bool.false_eq_true,if_false];rcases rB f (k+1) with h|h
   ·exact .inl (by rw[h];omega)
   ·exact .inr h
theorem Ah{p:Array Nat}{z:Nat}(h1:1<=z)(hz:z=p.size):(bB c (W.kas_count z p)).2.size=z/\1<=(bB c (W.kas_count z p)).1/\(bB c (W.kas_count z p)).1<=z/\Up c (bB c (W.kas_count z p)).2 (bB c (W.kas_count z p)).1:=by
 unfold W.kas_count;rw[fG];obtain⟨a1,a2,a3⟩:=u5 L (p:=p) (z-1) 1 (Nat.le_refl _) (Fx L p);have a4:=rB L (p:=p) (z-1) 1;generalize bB c (W.kas_asc p (z-1) 1)=n at a1 a2 a3 a4 ⊢;by_cases e:(n == z)=true
 ·rw[if_pos e]
  have:n=z:=by simpa using e
  exact⟨hz.symm,a2,by show n<=z;omega,a1⟩
 ·rw[if_neg e]
  have hne:n≠z:=by simpa using e
  have st:c (p.getD n 0) (p.getD (n-1) 0)=true:=by
   rcases a4 with h|h
   ·exact absurd h (by omega)
   ·exact h
  by_cases h2:n>1
  ·rw[if_pos h2]
   simp only[bB]
   cases q:c (p.getD 0 0) (p.getD (n-1) 0) with
   |true=>exact⟨hz.symm,a2,by show n<=z;omega,a1⟩
   |false=>
    simp only[Bool.false_eq_true,if_false]
    have al:∀i j,i<n->j<n->c (p.getD i 0) (p.getD j 0)=false:=fun i j hi hj=>by
     have b1:c (p.getD i 0) (p.getD 0 0)=false->True:=fun _=>trivial;have b2:=a1 j (n-1) (by omega) (by omega)
     have b3:=a1 0 i (by omega) (by omega)
     have b4:=a1 i (n-1) (by omega) (by omega)
     have b5:=a1 0 j (by omega) (by omega)
     have up1:c (p.getD (n-1) 0) (p.getD j 0)=false:=a1 j (n-1) (by omega) (by omega)
     have x1:c (p.getD 0 0) (p.getD j 0)=false:=L.tr (p.getD j 0) (p.getD (n-1) 0) (p.getD 0 0) up1 q;exact L.tr (p.getD j 0) (p.getD 0 0) (p.getD i 0) x1 b3
    have d0:Dn c (W.kas_rev p 0 n) n:=fun i j hij hj=>by
     rw[dw (by omega),dw (by omega),if_pos (by omega),if_pos (by omega)]
     exact al _ _ (by omega) (by omega)
    have d1 : Dn c (W.kas_rev p 0 n) (n + 1):=kP L d0 (by omega) (by
     rw[dw (by omega),dw (by omega),if_pos (by omega),if_neg (by omega)]
     exact L.tr _ (p.getD (n-1) 0) _ (L.as _ _ st) (al _ _ (by omega) (by omega)))
    exact mi L (by omega) (by omega) (by rw[W.kas_rev_size];exact hz) d1
  ·rw[if_neg h2]
   have n1:n=1:=by omega
   subst n1
   have d0:Dn c p 1:=fun i j hij hj=>by
    have:i=j:=by omega
    subst this;exact L.rf _
   exact mi L (by omega) (by omega) hz (kP L d0 (by omega) (L.as _ _ st))
theorem CO{z:Nat}(h1:1<=z):Up c (bB c (W.kas_sort z)) z:=by
 unfold W.kas_sort;rw[fG];obtain⟨a1,a2,a3,a4⟩:=Ah L (p:=List.toArray (List.range z)) h1 (by simp)
 generalize bB c (W.kas_count z (List.toArray (List.range z)))=r at a1 a2 a3 a4 ⊢;split
 ·rw[show max r.1 1=r.1 by omega]
  have:=Bx L (z-r.1) r.2 r.1 (by omega) a4
  rwa [show r.1+(z-r.1)=z by omega] at this
 ·have:r.1=z:=by omega
  rw[this] at a4;exact a4
end
noncomputable def dM:List Int->List Int->Bool
 | [],[]=>false
 | [],_::_=>true
 |_::_,[]=>false
 |x::xs,y::ys=>if x=y then dM xs ys else decide (x<y)
theorem mF:∀x y:List Int,ltZ x y=dM x y
 | [],[]=>rfl
 | [],_::_=>by simp[ltZ,ltF,dM]
 |_::_,[]=>by simp[ltZ,ltF,dM]
 |x::xs,y::ys=>by
  have:=mF xs ys;unfold ltZ at this ⊢;unfold ltF dM;have e:decide ((x::xs).length<(y::ys).length)=decide (xs.length<ys.length):=by simp
  rw[e,this]
theorem AZ:∀x y:List Int,dM x y=true->dM y x=false
 | [],[],h=>by simp[dM] at h
 | [],_::_,_=>rfl
 |_::_,[],h=>by simp[dM] at h
 |x::xs,y::ys,h=>by
  unfold dM at h ⊢;by_cases e:x=y
  ·rw[if_pos e] at h;rw[if_pos e.symm];exact AZ xs ys h
  ·rw[if_neg e] at h;rw[if_neg (Ne.symm e)]
   simp at h ⊢;omega
theorem Bf:∀x y z:List Int,dM y x=false->dM z y=false->dM z x=false
 | [],_,[],_,_=>rfl
 | [],_,_::_,_,_=>rfl
 |_::_,[],_,h,_=>by simp[dM] at h
 |_::_,_::_,[],_,h=>by simp[dM] at h
 |x::xs,y::ys,z::zs,h1,h2=>by
  unfold dM at h1 h2 ⊢;by_cases e1:y=x
  ·subst e1
   rw[if_pos rfl] at h1;by_cases e2:z=y
   ·subst e2
    rw[if_pos rfl] at h2 ⊢;exact Bf xs ys zs h1 h2
   ·rw[if_neg e2] at h2 ⊢;exact h2
  ·rw[if_neg e1] at h1
   simp at h1;by_cases e2:z=y
   ·subst e2
    rw[if_neg e1];simpa using h1
   ·rw[if_neg e2] at h2
    simp at h2;rw[if_neg (by omega)]
    simp;omega
theorem qY:∀x y:List Int,dM y x=false->dM x y=false->x=y
 | [],[],_,_=>rfl
 | [],_::_,_,h=>by simp[dM] at h
 |_::_,[],h,_=>by simp[dM] at h
 |x::xs,y::ys,h1,h2=>by
  unfold dM at h1 h2;by_cases e:x=y
  ·subst e
   rw[if_pos rfl] at h1 h2;rw[qY xs ys h1 h2]
  ·rw[if_neg e] at h2
   rw[if_neg (Ne.symm e)] at h1;simp at h1 h2;omega
theorem uG(W:List (List Int)):CW fun i j=>ltZ (W.getD i []) (W.getD j []) where
 as i j h:=by rw[mF] at h ⊢;exact AZ _ _ h
 tr i j k h1 h2:=by rw[mF] at h1 h2 ⊢;exact Bf _ _ _ h1 h2
noncomputable def Ris(W:List (List Int)):Prop:=W.Pairwise fun a b=>dM b a=false
theorem up(W:List (List Int)):Ris (fZ W):=by
 have hs:(fz W).size=W.length:=by
  have:=(fL W).size_eq;simpa using this
 unfold Ris;rw[List.pairwise_iff_getElem];intro i j hi hj hij;have hl:(fZ W).length=W.length:=kG W
 have at_:∀k (hk:k<(fZ W).length),(fZ W)[k]=W.getD ((fz W).getD k 0) []:=fun k hk=>by
  have hk2:k<(fz W).size:=by omega
  have q:(fZ W)[k]?=some (W.getD ((fz W).getD k 0) []):=by
   unfold fZ;rw[List.getElem?_map,Array.getElem?_toList,Array.getElem?_eq_getElem hk2,Array.getD_eq_getD_getElem?,Array.getElem?_eq_getElem hk2];rfl
  exact(List.getElem?_eq_some_iff.mp q).2
 rw[at_ i hi,at_ j hj];by_cases h2:W.length<2
 ·omega
 ·have:=CO (uG W) (z:=W.length) (by omega) i j (by omega) (by omega)
  have e:fz W=bB (fun i j=>ltZ (W.getD i []) (W.getD j [])) (PySem.W.kas_sort W.length):=by unfold fz;rw[if_neg h2]
  rw[←e] at this
  rw[←mF]
  exact this
theorem A4:∀ {A B:List (List Int)},A.Perm B->Ris A->Ris B->A=B
 | [],B,p,_,_=>by rw[List.nil_perm.mp p]
 |a::A,[],p,_,_=>by simp at p
 |a::A,b::B,p,h1,h2=>by
  have ma:a∈b::B:=p.mem_iff.mp (List.mem_cons_self ..);have mb:b∈a::A:=p.mem_iff.mpr (List.mem_cons_self ..)
  have e:a=b:=by
   rcases List.mem_cons.mp ma with h|h
   ·exact h
   ·rcases List.mem_cons.mp mb with h'|h'
    ·exact h'.symm
    ·exact qY _ _ (List.rel_of_pairwise_cons h1 h') (List.rel_of_pairwise_cons h2 h)
  subst e;rw[A4 (List.Perm.cons_inv p) h1.of_cons h2.of_cons]
theorem vA{W V:List (List Int)}(p:W.Perm V)(h:Ris V):fZ W=V:=A4 ((jB W).trans p) (up W) h
end L2
namespace L2
open PySem PySem.Spec PyProof.Rows
inductive AV where
 |d (x:D)
 |r (v:V)
 |p (v:V) (P:Hp->Prop)
inductive OC where
 |own (xs:List AV)
 |frz (ds:List D)
 |dic (kvs:List (Str×AV))
noncomputable abbrev Om:=Addr->Option OC
noncomputable abbrev SA:=List (Option AV)
noncomputable abbrev Fs:=Addr->Bool
noncomputable def Om.put(Z:Om)(l:Addr)(c:OC):Om:=fun b=>if b=l then some c else Z b
theorem Om.Iy{Z:Om}{l:Addr}{c:OC}:Z.put l c l=some c:=by unfold Om.put;rw[if_pos rfl]
theorem Om.IA{Z:Om}{l b:Addr}{c:OC}(h:b≠l):Z.put l c b=Z b:=by unfold Om.put;rw[if_neg h]
theorem Om.Iz{Z:Om}{l:Addr}{c e:OC}:(Z.put l c).put l e=Z.put l e:=by funext b;unfold Om.put;split<;>rfl
theorem Om.II{Z:Om}{l p:Addr}{c e:OC}(h:p≠l):(Z.put l c).put p e=(Z.put p e).put l c:=by
 funext b;unfold Om.put;split<;>split<;>simp_all
noncomputable def ow:Option OC->Bool
 |some (.own _)=>true
 |some (.dic _)=>true
 |_=>false
noncomputable def Fs.add(F:Fs)(l:Addr):Fs:=fun b=>decide (b=l) || F b
noncomputable def cut(F:Fs)(H:Hp)(Z:Om):Hp:=fun b=>if (ow (Z b) || F b)=true then none else H b
noncomputable def RV(G:Hp):AV->V->Prop
 |.d x,v=>Dat G x v
 |.r u,v=>v=u
 |.p u P,v=>v=u/\∀G',dq G G'->P G'
noncomputable def RVs(G:Hp):List AV->List V->Prop
 | [],vs=>vs=[]
 |a::as,vs=>∃v r,vs=v::r/\RV G a v/\RVs G as r
noncomputable def RS(G:Hp)(ρ:SA)(σ:St):Prop:=ρ.length=σ.length/\∀(i:Nat)(a:AV),ρ[i]?=some (some a)->∃v,σ[i]?=some (some v)/\RV G a v
noncomputable def RKs(G:Hp):List (Str×AV)->List (Key×V)->Prop
 | [],ks=>ks=[]
 |p::r,ks=>∃v r',ks=((Sum.inr p.1:Key),v)::r'/\RV G p.2 v/\RKs G r r'
structure Rep(F:Fs)(H:Hp)(Z:Om):Prop where
 own:∀l xs,Z l=some (.own xs)->∃vs,H l=some (.lst vs)/\RVs (cut F H Z) xs vs
 frz:∀l ds,Z l=some (.frz ds)->Dat (cut F H Z) (.lst ds) (.ref l)
 hid:∀b,F b=true->Z b=none/\∃vs,H b=some (.lst vs)
 dic:∀l kvs,Z l=some (.dic kvs)->∃ks,H l=some (.dK ks)/\RKs (cut F H Z) kvs ks
structure Fr(F:Fs)(H:Hp)(Z:Om)(H':Hp)(Z':Om):Prop where
 st:∀b o,ow (Z b)=false->F b=false->H b=some o->H' b=some o/\ow (Z' b)=false
 hd:∀b,F b=true->H' b=H b
section
variable{F:Fs}{H H1 H2 H':Hp}{Z Z1 Z2 Z':Om}{G G':Hp}
theorem Fr.refl:Fr F H Z H Z:=⟨fun _ _ h _ e=>⟨e,h⟩,fun _ _=>rfl⟩
theorem Fr.trans(a:Fr F H Z H1 Z1)(b:Fr F H1 Z1 H2 Z2):Fr F H Z H2 Z2:=
 ⟨fun c o h f e=>let ⟨x,y⟩:=a.st c o h f e;b.st c o y f x,fun c h=>(b.hd c h).trans (a.hd c h)⟩
theorem bO{b:Addr}{o:HO}:cut F H Z b=some o↔ow (Z b)=false/\F b=false/\H b=some o:=by
 unfold cut;cases ow (Z b)<;>cases F b<;>simp
theorem Fr.same(a:Fr F H Z H' Z'):dq (cut F H Z) (cut F H' Z'):=fun b o e=>by
 obtain⟨h,f,e⟩:=bO.mp e;obtain⟨x,y⟩:=a.st b o h f e;exact bO.mpr ⟨y,f,x⟩
theorem ba:dq (cut F H Z) H:=fun b o e=>(bO.mp e).2.2
theorem RV.same(e:dq G G'):∀ {a:AV} {v:V},RV G a v->RV G' a v
 |.d _,_,h=>Dat.same e h
 |.r _,_,h=>h
 |.p _ _,_,h=>⟨h.1,fun G2 s=>h.2 G2 (e.trans s)⟩
theorem RVs.same(e:dq G G'):∀ {as:List AV} {vs:List V},RVs G as vs->RVs G' as vs
 | [],_,h=>h
 |_::_,_,⟨v,r,h1,h2,h3⟩=>⟨v,r,h1,h2.same e,h3.same e⟩
theorem RKs.same(e:dq G G'):∀ {as:List (Str×AV)} {vs:List (Key×V)},RKs G as vs->RKs G' as vs
 | [],_,h=>h
 |_::_,_,⟨v,r,h1,h2,h3⟩=>⟨v,r,h1,h2.same e,h3.same e⟩
theorem RS.same(e:dq G G'){ρ:SA}{σ:St}(h:RS G ρ σ):RS G' ρ σ:=⟨h.1,fun i a q=>let ⟨v,x,y⟩:=h.2 i a q;⟨v,x,y.same e⟩⟩
theorem RVs.length:∀ {as:List AV} {vs:List V},RVs G as vs->vs.length=as.length
 | [],_,h=>by cases h;rfl
 |_::_,_,⟨v,r,h1,_,h3⟩=>by subst h1;simp[h3.length]
theorem RVs.get:∀ {as:List AV} {vs:List V} {i:Nat} {a:AV},RVs G as vs->as[i]?=some a->∃v,vs[i]?=some v/\RV G a v
 | [],_,_,_,_,e=>by simp at e
 |_::_,_,0,_,⟨v,r,h1,h2,_⟩,e=>by subst h1;simp at e;subst e;exact⟨v,rfl,h2⟩
 |_::_,_,i+1,_,⟨v,r,h1,_,h3⟩,e=>by subst h1;simp at e;obtain⟨v',e1,e2⟩:=h3.get e;exact⟨v',by simpa using e1,e2⟩
theorem RVs.append:∀ {as bs:List AV} {vs us:List V},RVs G as vs->RVs G bs us->RVs G (as++bs) (vs++us)
 | [],_,_,_,h,k=>by cases h;exact k
 |_::_,_,_,_,⟨v,r,h1,h2,h3⟩,k=>by subst h1;exact⟨v,_,rfl,h2,h3.append k⟩
theorem RVs.one{a:AV}{v:V}(h:RV G a v):RVs G [a] [v]:=⟨v,[],rfl,h,rfl⟩
theorem RVs.dats:∀ {ds:List D} {vs:List V},RVs G (ds.map AV.d) vs↔aG G ds vs
 | [],_=>by simp[RVs,aG]
 |d::ds,vs=>by
  simp only[List.map_cons,RVs,aG,RV];constructor
  ·rintro⟨v,r,h1,h2,h3⟩;exact⟨v,r,h1,h2,RVs.dats.mp h3⟩
  ·rintro⟨v,r,h1,h2,h3⟩;exact⟨v,r,h1,h2,RVs.dats.mpr h3⟩
theorem RVs.set{as:List AV}{vs:List V}(i:Nat){a:AV}{v:V}(h:RVs G as vs)(k:RV G a v):RVs G (as.set i a) (vs.set i v):=by
 induction as generalizing vs i with
 |nil=>cases h;exact rfl
 |cons b as ih=>
  obtain⟨u,r,rfl,h2,h3⟩:=h
  cases i with
  |zero=>exact⟨v,r,rfl,k,h3⟩
  |succ i=>exact⟨u,_,rfl,h2,ih i h3⟩
theorem RVs.dropLast:∀ {as:List AV} {vs:List V},RVs G as vs->RVs G as.dropLast vs.dropLast
 | [],_,h=>by cases h;exact rfl
 | [a],_,⟨v,r,h1,h2,h3⟩=>by cases h3;subst h1;exact rfl
 |a::b::as,_,⟨v,r,h1,h2,h3⟩=>by
  obtain⟨u,r',rfl,k2,k3⟩:=id h3;subst h1;exact⟨v,_,rfl,h2,h3.dropLast⟩
theorem Rep.free(R:Rep F H Z){p:Addr}(h:H p=none):Z p=none/\F p=false:=by
 constructor
 ·cases e:Z p with
  |none=>rfl
  |some c=>cases c with
   |own xs=>obtain⟨vs,q,_⟩:=R.own p xs e;rw[h] at q;cases q
   |frz ds=>
    have q:=R.frz p ds e;simp only[Dat] at q;obtain⟨a,xs,e1,e2,_⟩:=q;cases e1;rw[ba _ _ e2] at h;cases h
   |dic kvs=>obtain⟨vs,q,_⟩:=R.dic p kvs e;rw[h] at q;cases q
 ·cases e:F p with
  |false=>rfl
  |true=>obtain⟨_,o,q⟩:=R.hid p e;rw[h] at q;cases q
theorem Rep.lay(R:Rep F H Z){p:Addr}{o:HO}(h:H p=none):Rep F (upd H p o) Z/\Fr F H Z (upd H p o) Z/\cut F (upd H p o) Z p=some o:=by
 have hs:=nQ (o:=o) h
 have fr:Fr F H Z (upd H p o) Z:=⟨fun b u x f e=>⟨hs _ _ e,x⟩,fun b f=>by
  obtain⟨_,u,q⟩:=R.hid b f
  rw[aV (bC q h)]⟩
 obtain⟨f1,f2⟩:=R.free h;refine⟨⟨fun l xs e=>?_,fun l ds e=>(R.frz l ds e).same fr.same,fun b f=>?_,fun l ks e=>(by obtain⟨vs,e1,e2⟩:=R.dic l ks e;exact⟨vs,hs _ _ e1,e2.same fr.same⟩)⟩,fr,bO.mpr ⟨by rw[f1];rfl,f2,b9⟩⟩
 ·obtain⟨vs,e1,e2⟩:=R.own l xs e
  exact⟨vs,hs _ _ e1,e2.same fr.same⟩
 ·obtain⟨x,u,q⟩:=R.hid b f
  exact⟨x,u,hs _ _ q⟩
theorem yx{l:Addr}{xs ys:List AV}{o:HO}(h:Z l=some (.own xs)):cut F (upd H l o) (Z.put l (.own ys))=cut F H Z:=by
 funext b
 unfold cut Om.put;by_cases hb:b=l
 ·subst hb;rw[if_pos rfl,h];simp[ow]
 ·rw[if_neg hb,aV hb]
theorem Rep.write(R:Rep F H Z){l:Addr}{xs ys:List AV}{vs:List V}(h:Z l=some (.own xs))(hv:RVs (cut F H Z) ys vs):
  Rep F (upd H l (.lst vs)) (Z.put l (.own ys))/\Fr F H Z (upd H l (.lst vs)) (Z.put l (.own ys)):=by
 have c:=yx (F:=F) (H:=H) (ys:=ys) (o:=.lst vs) h
 refine ⟨⟨fun k zs e=>?_,fun k ds e=>?_,fun b f=>?_,fun k ks e=>(by
  have hk:k≠l:=fun z=>(by subst z;rw[Om.Iy] at e;cases e)
  rw[Om.IA hk] at e;rw[c,aV hk];exact R.dic k ks e)⟩,fun b o x f e=>?_,fun b f=>?_⟩
 ·rw[c]
  by_cases hk:k=l
  ·subst hk;rw[Om.Iy] at e;cases e;exact⟨vs,b9,hv⟩
  ·rw[Om.IA hk] at e;rw[aV hk];exact R.own k zs e
 ·rw[c]
  by_cases hk:k=l
  ·subst hk;rw[Om.Iy] at e;cases e
  ·rw[Om.IA hk] at e;exact R.frz k ds e
 ·obtain⟨x,o,q⟩:=R.hid b f
  have hb:b≠l:=fun z=>by subst z;rw[h] at x;cases x
  exact⟨by rw[Om.IA hb];exact x,o,by rw[aV hb];exact q⟩
 ·have hb:b≠l:=fun z=>by subst z;rw[h] at x;cases x
  rw[Om.IA hb,aV hb];exact⟨e,x⟩
 ·obtain⟨x,o,q⟩:=R.hid b f
  have hb:b≠l:=fun z=>by subst z;rw[h] at x;cases x
  exact aV hb
theorem Rep.mk'(R:Rep F H Z){l:Addr}{xs:List AV}{vs:List V}(h:H l=none)(hv:RVs (cut F H Z) xs vs):
  Rep F (upd H l (.lst vs)) (Z.put l (.own xs))/\Fr F H Z (upd H l (.lst vs)) (Z.put l (.own xs)):=by
 obtain⟨f1,f2⟩:=R.free h
 have c:cut F (upd H l (.lst vs)) (Z.put l (.own xs))=cut F H Z:=by
  funext b
  unfold cut Om.put;by_cases hb:b=l
  ·subst hb;rw[if_pos rfl,f1,f2,h];simp[ow]
  ·rw[if_neg hb,aV hb]
 refine ⟨⟨fun k zs e=>?_,fun k ds e=>?_,fun b f=>?_,fun k ks e=>(by
  have hk:k≠l:=fun z=>(by subst z;rw[Om.Iy] at e;cases e)
  rw[Om.IA hk] at e;rw[c,aV hk];exact R.dic k ks e)⟩,fun b o x f e=>?_,fun b f=>?_⟩
 ·rw[c]
  by_cases hk:k=l
  ·subst hk;rw[Om.Iy] at e;cases e;exact⟨vs,b9,hv⟩
  ·rw[Om.IA hk] at e;rw[aV hk];exact R.own k zs e
 ·rw[c]
  by_cases hk:k=l
  ·subst hk;rw[Om.Iy] at e;cases e
  ·rw[Om.IA hk] at e;exact R.frz k ds e
 ·obtain⟨x,o,q⟩:=R.hid b f
  have hb:b≠l:=bC q h;exact⟨by rw[Om.IA hb];exact x,o,by rw[aV hb];exact q⟩
 ·have hb:b≠l:=bC e h
  rw[Om.IA hb,aV hb];exact⟨e,x⟩
 ·obtain⟨x,o,q⟩:=R.hid b f
  exact aV (bC q h)
theorem Rep.freeze(R:Rep F H Z){l:Addr}{ds:List D}(h:Z l=some (.own (ds.map AV.d))):
  Rep F H (Z.put l (.frz ds))/\Fr F H Z H (Z.put l (.frz ds))/\Dat (cut F H (Z.put l (.frz ds))) (.lst ds) (.ref l):=by
 have fr:Fr F H Z H (Z.put l (.frz ds)):=⟨fun b o x f e=>⟨e,by
  by_cases hb:b=l
  ·subst hb;rw[h] at x;cases x
  ·rw[Om.IA hb];exact x⟩,fun _ _=>rfl⟩
 obtain⟨vs,e1,e2⟩:=R.own l _ h
 have hF:F l=false:=by
  cases e:F l with
  |false=>rfl
  |true=>have:=(R.hid l e).1;rw[h] at this;cases this
 have dl:Dat (cut F H (Z.put l (.frz ds))) (.lst ds) (.ref l):=by
  simp only[Dat];exact⟨l,vs,rfl,bO.mpr ⟨by rw[Om.Iy];rfl,hF,e1⟩,(RVs.dats.mp e2).same fr.same⟩
 refine ⟨⟨fun k zs e=>?_,fun k es e=>?_,fun b f=>?_,fun k ks e=>(by
  have hk:k≠l:=fun z=>(by subst z;rw[Om.Iy] at e;cases e)
  rw[Om.IA hk] at e;obtain⟨us,q1,q2⟩:=R.dic k ks e;exact⟨us,q1,q2.same fr.same⟩)⟩,fr,dl⟩
 ·by_cases hk:k=l
  ·subst hk;rw[Om.Iy] at e;cases e
  ·rw[Om.IA hk] at e
   obtain⟨us,q1,q2⟩:=R.own k zs e;exact⟨us,q1,q2.same fr.same⟩
 ·by_cases hk:k=l
  ·subst hk;rw[Om.Iy] at e;cases e;exact dl
  ·rw[Om.IA hk] at e;exact(R.frz k es e).same fr.same
 ·obtain⟨x,o,q⟩:=R.hid b f
  have hb:b≠l:=fun z=>by subst z;rw[h] at x;cases x
  exact⟨by rw[Om.IA hb];exact x,o,q⟩
theorem Rep.hide(R:Rep F H Z){l:Addr}{vs:List V}(h:H l=none):Rep (F.add l) (upd H l (.lst vs)) Z/\cut (F.add l) (upd H l (.lst vs)) Z=cut F H Z:=by
 obtain⟨f1,f2⟩:=R.free h
 have c:cut (F.add l) (upd H l (.lst vs)) Z=cut F H Z:=by
  funext b
  unfold cut Fs.add;by_cases hb:b=l
  ·subst hb;simp[h]
  ·rw[aV hb];simp[hb]
 refine⟨⟨fun k zs e=>?_,fun k ds e=>?_,fun b f=>?_,fun k ks e=>(by rw[c];obtain⟨us,q1,q2⟩:=R.dic k ks e;exact⟨us,by rw[aV (bC q1 h)];exact q1,q2⟩)⟩,c⟩
 ·rw[c]
  obtain⟨us,q1,q2⟩:=R.own k zs e;exact⟨us,by rw[aV (bC q1 h)];exact q1,q2⟩
 ·rw[c];exact R.frz k ds e
 ·by_cases hb:b=l
  ·subst hb;exact⟨f1,_,b9⟩
  ·have f':F b=true:=by simpa[Fs.add,hb] using f
   obtain⟨x,o,q⟩:=R.hid b f';exact⟨x,o,by rw[aV hb];exact q⟩
theorem Rep.hwrite(R:Rep F H Z){l:Addr}{vs:List V}(h:F l=true):Rep F (upd H l (.lst vs)) Z/\cut F (upd H l (.lst vs)) Z=cut F H Z:=by
 have c:cut F (upd H l (.lst vs)) Z=cut F H Z:=by
  funext b
  unfold cut;by_cases hb:b=l
  ·subst hb;simp[h]
  ·rw[aV hb]
 refine ⟨⟨fun k zs e=>?_,fun k ds e=>?_,fun b f=>?_,fun k ks e=>(by
  have hk:k≠l:=fun z=>(by subst z;rw[(R.hid _ h).1] at e;cases e)
  rw[c,aV hk];exact R.dic k ks e)⟩,c⟩
 ·rw[c]
  obtain⟨us,q1,q2⟩:=R.own k zs e;have hk:k≠l:=fun z=>by subst z;rw[(R.hid _ h).1] at e;cases e
  exact⟨us,by rw[aV hk];exact q1,q2⟩
 ·rw[c];exact R.frz k ds e
 ·by_cases hb:b=l
  ·subst hb;exact⟨(R.hid _ h).1,_,b9⟩
  ·obtain⟨x,o,q⟩:=R.hid b f
   exact⟨x,o,by rw[aV hb];exact q⟩
theorem Rep.unhide{l:Addr}{vs:List V}(R:Rep (F.add l) H Z)(hF:F l=false)(h:H l=some (.lst vs)):
  Rep F H Z/\dq (cut (F.add l) H Z) (cut F H Z)/\cut F H Z l=some (.lst vs):=by
 have hl:Z l=none:=(R.hid l (by simp[Fs.add])).1
 have sm:dq (cut (F.add l) H Z) (cut F H Z):=fun b o e=>by
  obtain⟨x,f,e⟩:=bO.mp e;refine bO.mpr ⟨x,?_,e⟩;unfold Fs.add at f
  cases q:F b with
  |false=>rfl
  |true=>rw[q] at f;simp at f
 refine⟨⟨fun k zs e=>?_,fun k ds e=>(R.frz k ds e).same sm,fun b f=>R.hid b (by simp[Fs.add,f]),fun k ks e=>(by obtain⟨us,q1,q2⟩:=R.dic k ks e;exact⟨us,q1,q2.same sm⟩)⟩,sm,bO.mpr ⟨by rw[hl];rfl,hF,h⟩⟩
 obtain⟨us,q1,q2⟩:=R.own k zs e;exact⟨us,q1,q2.same sm⟩
theorem Rep.IR{l:Addr}{vs:List V}{xs:List AV}(R:Rep (F.add l) H Z)(hF:F l=false)(h:H l=some (.lst vs))(hv:RVs (cut (F.add l) H Z) xs vs):
  Rep F H (Z.put l (.own xs))/\dq (cut (F.add l) H Z) (cut F H (Z.put l (.own xs))):=by
 have hl:Z l=none:=(R.hid l (by simp[Fs.add])).1
 have sm:dq (cut (F.add l) H Z) (cut F H (Z.put l (.own xs))):=fun b o e=>by
  obtain⟨x,f,e⟩:=bO.mp e;have hb:b≠l:=fun z=>by subst z;simp[Fs.add] at f
  refine bO.mpr ⟨by rw[Om.IA hb];exact x,?_,e⟩
  unfold Fs.add at f
  cases q:F b with
  |false=>rfl
  |true=>rw[q] at f;simp at f
 refine ⟨⟨fun k zs e=>?_,fun k ds e=>?_,fun b f=>?_,fun k ks e=>(by
  have hk:k≠l:=fun z=>(by subst z;rw[Om.Iy] at e;cases e)
  rw[Om.IA hk] at e;obtain⟨us,q1,q2⟩:=R.dic k ks e;exact⟨us,q1,q2.same sm⟩)⟩,sm⟩
 ·by_cases hk:k=l
  ·subst hk;rw[Om.Iy] at e;cases e;exact⟨vs,h,hv.same sm⟩
  ·rw[Om.IA hk] at e
   obtain⟨us,q1,q2⟩:=R.own k zs e;exact⟨us,q1,q2.same sm⟩
 ·by_cases hk:k=l
  ·subst hk;rw[Om.Iy] at e;cases e
  ·rw[Om.IA hk] at e;exact(R.frz k ds e).same sm
 ·have hb:b≠l:=fun z=>by subst z;rw[f] at hF;cases hF
  rw[Om.IA hb];exact R.hid b (by simp[Fs.add,f])
end
noncomputable def LP{α β:Type}(R:Hp->α->β->Prop)(F:Fs)(H:Hp)(Z:Om)(Q':α->Om->Prop)(Q:β->Hp->Prop):Prop:=
 ∀a Z' v H',Rep F H' Z'->Fr F H Z H' Z'->R (cut F H' Z') a v->Q' a Z'->Q v H'
theorem LP.fr{α β:Type}{R:Hp->α->β->Prop}{F:Fs}{H H1:Hp}{Z Z1:Om}{Q':α->Om->Prop}{Q:β->Hp->Prop}(k:LP R F H Z Q' Q)(f:Fr F H Z H1 Z1):LP R F H1 Z1 Q' Q:=
 fun a Z' v H' rp fr rv q=>k a Z' v H' rp (f.trans fr) rv q
structure Ref{α β:Type}(R:Hp->α->β->Prop)(t:St->Hp->(β->Hp->Prop)->Prop)(t':SA->Om->(α->Om->Prop)->Prop):Prop where
 run:∀(F:Fs)(H:Hp)(Z:Om)(σ:St)(ρ:SA)(Q:β->Hp->Prop)(Q':α->Om->Prop),Rep F H Z->RS (cut F H Z) ρ σ->t' ρ Z Q'->LP R F H Z Q' Q->t σ H Q
theorem Ref.go{α β:Type}{R:Hp->α->β->Prop}{t:St->Hp->(β->Hp->Prop)->Prop}{t':SA->Om->(α->Om->Prop)->Prop}(h:Ref R t t'){F:Fs}{H:Hp}{Z:Om}{σ:St}{ρ:SA}{Q:β->Hp->Prop}{Q':α->Om->Prop}(rp:Rep F H Z)(rs:RS (cut F H Z) ρ σ)(w:t' ρ Z Q')(k:∀a Z1 v H1,Rep F H1 Z1->Fr F H Z H1 Z1->RS (cut F H1 Z1) ρ σ->R (cut F H1 Z1) a v->Q' a Z1->Q v H1):t σ H Q:=
 h.run F H Z σ ρ Q Q' rp rs w fun a Z1 v H1 rp1 fr1 rv q=>k a Z1 v H1 rp1 fr1 (rs.same fr1.same) rv q
noncomputable abbrev AE:=SA->Om->(AV->Om->Prop)->Prop
noncomputable abbrev AT:=SA->Om->(Bool->Om->Prop)->Prop
noncomputable abbrev AA:=SA->Om->(List AV->Om->Prop)->Prop
noncomputable def REq{α:Type}(_:Hp)(a b:α):Prop:=a=b
noncomputable abbrev bf(t:TE)(t':AE):Prop:=Ref RV t t'
noncomputable abbrev iM(t:TT)(t':AT):Prop:=Ref REq t t'
noncomputable abbrev jF(t:TA)(t':AA):Prop:=Ref RVs t t'
structure dn where
 nx:SA->Om->Prop
 rt:AV->Om->Prop
 bk:SA->Om->Prop:=fun _ _=>False
 ct:SA->Om->Prop:=fun _ _=>False
noncomputable abbrev AS:=dn->SA->Om->Prop
structure LE(F:Fs)(H:Hp)(Z:Om)(D':dn)(D:jL):Prop where
 nx:LP RS F H Z D'.nx D.nx
 rt:LP RV F H Z D'.rt D.rt
 bk:LP RS F H Z D'.bk D.bk
 ct:LP RS F H Z D'.ct D.ct
theorem LE.fr{F:Fs}{H H1:Hp}{Z Z1:Om}{D':dn}{D:jL}(k:LE F H Z D' D)(f:Fr F H Z H1 Z1):LE F H1 Z1 D' D:=⟨k.nx.fr f,k.rt.fr f,k.bk.fr f,k.ct.fr f⟩
structure gJ(t:TS)(t':AS):Prop where
 run:∀(F:Fs)(H:Hp)(Z:Om)(σ:St)(ρ:SA)(D:jL)(D':dn),Rep F H Z->RS (cut F H Z) ρ σ->t' D' ρ Z->LE F H Z D' D->t D σ H
noncomputable abbrev AG:=AV->SA->Om->(SA->Om->Prop)->Prop
noncomputable abbrev AGs:=List AV->SA->Om->(SA->Om->Prop)->Prop
structure oA(g:TG)(g':AG):Prop where
 run:∀(F:Fs)(H:Hp)(Z:Om)(σ:St)(ρ:SA)(v:V)(a:AV)(Q:St->Hp->Prop)(Q':SA->Om->Prop),Rep F H Z->RS (cut F H Z) ρ σ->RV (cut F H Z) a v->g' a ρ Z Q'->LP RS F H Z Q' Q->g v σ H Q
structure t5(g:TGs)(g':AGs):Prop where
 run:∀(F:Fs)(H:Hp)(Z:Om)(σ:St)(ρ:SA)(v:List V)(a:List AV)(Q:St->Hp->Prop)(Q':SA->Om->Prop),Rep F H Z->RS (cut F H Z) ρ σ->RVs (cut F H Z) a v->g' a ρ Z Q'->LP RS F H Z Q' Q->g v σ H Q
noncomputable abbrev ASp:=List AV->Om->(AV->Om->Prop)->Prop
noncomputable def bz(sp:ASp):Sp:=fun vs H Q _=>∃(F:Fs)(xs:List AV)(Z:Om)(Q':AV->Om->Prop),Rep F H Z/\RVs (cut F H Z) xs vs/\sp xs Z Q'/\LP RV F H Z Q' Q
noncomputable def Eh:AS:=fun D ρ Z=>D.nx ρ Z
noncomputable def xZ(t u:AS):AS:=fun D ρ Z=>t { D with nx:=u D } ρ Z
noncomputable def C6(te:AE):AS:=fun D ρ Z=>te ρ Z fun _ Z1=>D.nx ρ Z1
noncomputable def G0(te:AE):AS:=fun D ρ Z=>te ρ Z D.rt
noncomputable def GV(c:AT)(t u:AS):AS:=fun D ρ Z=>c ρ Z fun b Z1=>if b=true then t D ρ Z1 else u D ρ Z1
noncomputable def EF:AS:=fun _ _ _=>False
noncomputable def EI(te:AE)(g:AG):AS:=fun D ρ Z=>te ρ Z fun x Z1=>g x ρ Z1 D.nx
noncomputable def Fd(c:AT)(tb:AS):AS:=fun D ρ Z=>∃W:Nat->SA->Om->Prop,(∃m,W m ρ Z)/\∀m ρ Z,W m ρ Z ->
 c ρ Z fun b Z1=>if b=true then ∃N:SA->Om->Prop,(∀ρ' Z',N ρ' Z'->∃m',m'<m/\W m' ρ' Z')/\tb { D with nx:=N,ct:=N,bk:=D.nx } ρ Z1 else D.nx ρ Z1
noncomputable def ll(i:Nat):AG:=fun v ρ Z Q=>Q (ρ.set i (some v)) Z
noncomputable def CZ:AGs:=fun vs ρ Z Q=>vs=[]/\Q ρ Z
noncomputable def AH(t:AG)(u:AGs):AGs:=fun vs ρ Z Q=>∃v r,vs=v::r/\t v ρ Z fun ρ' Z'=>u r ρ' Z' Q
section
variable{t u:TS}{t' u':AS}{te:TE}{te':AE}{tc:TT}{tc':AT}{g:TG}{g':AG}{gs:TGs}{gs':AGs}
theorem RS.set{G:Hp}{ρ:SA}{σ:St}{i:Nat}{a:AV}{v:V}(h:RS G ρ σ)(r:RV G a v):RS G (ρ.set i (some a)) (σ.set i (some v)):=by
 refine⟨by simp[h.1],fun j b e=>?_⟩
 by_cases hj:j=i
 ·subst hj
  rw[List.getElem?_set] at e;rw[List.getElem?_set];simp only[if_true] at e ⊢;split at e
  ·rename_i hl
   cases e;rw[if_pos (h.1 ▸ hl)];exact⟨v,rfl,r⟩
  ·cases e
 ·rw[List.getElem?_set_ne (Ne.symm hj)] at e
  rw[List.getElem?_set_ne (Ne.symm hj)];exact h.2 j b e
theorem bc:gJ Dm Eh:=⟨fun F H Z σ ρ D D' rp rs h k=>k.nx ρ Z σ H rp .refl rs h⟩
theorem av(h1:gJ t t')(h2:gJ u u'):gJ (Hf t u) (xZ t' u'):=⟨fun F H Z σ ρ D D' rp rs h k=>
 h1.run F H Z σ ρ _ _ rp rs h ⟨fun ρ1 Z1 σ1 H1 rp1 fr1 rs1 q=>h2.run F H1 Z1 σ1 ρ1 D D' rp1 rs1 q (k.fr fr1),k.rt,k.bk,k.ct⟩⟩
theorem c7(h:bf te te'):gJ (D9 te) (C6 te'):=⟨fun F H Z σ ρ D D' rp rs w k=>h.go rp rs w fun a Z1 v H1 rp1 fr1 rs1 rv q=>k.nx ρ Z1 σ H1 rp1 fr1 rs1 q⟩
theorem bd(h:bf te te'):gJ (G8 te) (G0 te'):=⟨fun F H Z σ ρ D D' rp rs w k=>h.run F H Z σ ρ _ _ rp rs w k.rt⟩
theorem ca(hc:iM tc tc')(h1:gJ t t')(h2:gJ u u'):gJ (GF tc t u) (GV tc' t' u'):=⟨fun F H Z σ ρ D D' rp rs w k=>
 hc.go rp rs w fun a Z1 v H1 rp1 fr1 rs1 rv q=>by
  cases (show a=v from rv)
  cases a with
  |true=>rw[if_pos rfl] at q ⊢;exact h1.run F H1 Z1 σ ρ D D' rp1 rs1 q (k.fr fr1)
  |false=>rw[if_neg Bool.false_ne_true] at q ⊢;exact h2.run F H1 Z1 σ ρ D D' rp1 rs1 q (k.fr fr1)⟩
theorem ck:gJ t EF:=⟨fun F H Z σ ρ D D' rp rs w k=>w.elim⟩
theorem aF(h:bf te te')(hg:oA g g'):gJ (FL te g) (EI te' g'):=⟨fun F H Z σ ρ D D' rp rs w k=>h.go rp rs w fun a Z1 v H1 rp1 fr1 rs1 rv q=>
 hg.run F H1 Z1 σ ρ v a _ _ rp1 rs1 rv q (k.nx.fr fr1)⟩
theorem ap{i:Nat}:oA (zo i) (ll i):=⟨fun F H Z σ ρ v a Q Q' rp rs rv w k=>k _ Z _ H rp .refl (rs.set rv) w⟩
theorem vE:t5 Ho CZ:=⟨fun F H Z σ ρ vs as Q Q' rp rs rv w k=>by
 obtain⟨rfl,w⟩:=w
 exact⟨rv,k ρ Z σ H rp .refl rs w⟩⟩
theorem ia(h1:oA g g')(h2:t5 gs gs'):t5 (Dz g gs) (AH g' gs'):=⟨fun F H Z σ ρ vs as Q Q' rp rs rv w k=>by
 obtain⟨a,r,rfl,w⟩:=w;obtain⟨v,us,rfl,rv1,rv2⟩:=rv
 exact⟨v,us,rfl,h1.run F H Z σ ρ v a _ _ rp rs rv1 w fun ρ1 Z1 σ1 H1 rp1 fr1 rs1 q=>h2.run F H1 Z1 σ1 ρ1 us r Q Q' rp1 rs1 (rv2.same fr1.same) q (k.fr fr1)⟩⟩
theorem qE(hc:iM tc tc')(hb:gJ t t'):gJ (zt tc t) (Fd tc' t'):=⟨fun F H Z σ ρ D D' rp rs w k=>by
 obtain⟨W,⟨m0,w0⟩,turn⟩:=w;refine⟨fun m σ1 H1=>∃ρ1 Z1,Rep F H1 Z1/\RS (cut F H1 Z1) ρ1 σ1/\Fr F H Z H1 Z1/\W m ρ1 Z1,⟨m0,ρ,Z,rp,rs,.refl,w0⟩,?_⟩;rintro m σ1 H1 ⟨ρ1,Z1,rp1,rs1,fr1,w1⟩;refine hc.go rp1 rs1 (turn m ρ1 Z1 w1) fun a Z2 v H2 rp2 fr2 rs2 rv q=>?_;cases (show a=v from rv)
 have k2:=k.fr (fr1.trans fr2)
 cases a with
 |true=>
  rw[if_pos rfl] at q ⊢;obtain⟨N,hN,q⟩:=q;refine⟨fun σ' H'=>∃ρ' Z',Rep F H' Z'/\RS (cut F H' Z') ρ' σ'/\Fr F H Z H' Z'/\N ρ' Z',?_,hb.run F H2 Z2 σ1 ρ1 _ _ rp2 rs2 q ⟨?_,k2.rt,k2.nx,?_⟩⟩
  ·rintro σ' H' ⟨ρ',Z',e1,e2,e3,e4⟩
   obtain⟨m',hm,z⟩:=hN _ _ e4;exact⟨m',hm,ρ',Z',e1,e2,e3,z⟩
  ·exact fun ρ' Z' σ' H' e1 e2 e3 e4=>⟨ρ',Z',e1,e3,(fr1.trans fr2).trans e2,e4⟩
  ·exact fun ρ' Z' σ' H' e1 e2 e3 e4=>⟨ρ',Z',e1,e3,(fr1.trans fr2).trans e2,e4⟩
 |false=>
  rw[if_neg Bool.false_ne_true] at q ⊢
  exact k2.nx ρ1 Z2 σ1 H2 rp2 .refl rs2 q⟩
end
noncomputable def yp(G:Hp)(as:List AV)(J:It):Prop:=∀(F:Fs)(H:Hp)(Z:Om),Rep F H Z->dq G (cut F H Z)->J.stop as.length H /\
 ∀(i:Nat)(a:AV),as[i]?=some a->J.go i H/\∀x H',J.yld i H x H'->Rep F H' Z/\Fr F H Z H' Z/\RV (cut F H' Z) a x
noncomputable abbrev AI:=SA->Om->(List AV->Om->Prop)->Prop
noncomputable abbrev tU(t:TI)(t':AI):Prop:=Ref yp t t'
noncomputable def jM(g:AG)(tb:AS)(D:dn):List AV->SA->Om->Prop
 | [],ρ,Z=>D.nx ρ Z
 |a::as,ρ,Z=>g a ρ Z fun ρ1 Z1=>tb { nx:=jM g tb D as,ct:=jM g tb D as,bk:=D.nx,rt:=D.rt } ρ1 Z1
noncomputable def Hr(wi:AI)(g:AG)(tb:AS):AS:=fun D ρ Z=>wi ρ Z fun as Z1=>jM g tb D as ρ Z1
theorem jt{α:Type}{as:List α}{i:Nat}(h:i<as.length):∃a,as[i]?=some a/\as.drop i=a::as.drop (i+1):=
 ⟨as[i],List.getElem?_eq_getElem h,List.drop_eq_getElem_cons h⟩
theorem jT{wi:TI}{wi':AI}{g:TG}{g':AG}{t:TS}{t':AS}(hi:tU wi wi')(hg:oA g g')(hb:gJ t t'):gJ (Ep wi g t) (Hr wi' g' t'):=⟨fun F H Z σ ρ D D' rp rs w k=>by
 rw[CK];refine hi.go rp rs w fun as Z1 J H1 rp1 fr1 rs1 it q=>?_;refine⟨fun i m σ2 H2=>m+i=as.length/\∃ρ2 Z2,Rep F H2 Z2/\RS (cut F H2 Z2) ρ2 σ2/\Fr F H1 Z1 H2 Z2/\jM g' t' D' (as.drop i) ρ2 Z2,⟨as.length,rfl,ρ,Z1,rp1,rs1,.refl,q⟩,?_⟩;rintro i m σ2 H2 ⟨hm,ρ2,Z2,rp2,rs2,fr2,q2⟩;obtain⟨stop,go⟩:=it F H2 Z2 rp2 fr2.same;by_cases hl:i<as.length
 ·obtain⟨a,ha,hd⟩:=jt hl
  rw[hd] at q2;obtain⟨g1,y1⟩:=go i a ha;refine .inr ⟨g1,fun σ' H'=>m-1+(i+1)=as.length/\∃ρ' Z',Rep F H' Z'/\RS (cut F H' Z') ρ' σ'/\Fr F H1 Z1 H' Z'/\jM g' t' D' (as.drop (i+1)) ρ' Z',fun σ' H' z=>⟨m-1,by omega,z⟩,fun x H' hy=>?_⟩
  obtain⟨rp3,fr3,rv3⟩:=y1 x H' hy;have fr13:=(fr2.trans fr3);refine hg.run F H' Z2 σ2 ρ2 x a _ _ rp3 (rs2.same fr3.same) rv3 q2 fun ρ4 Z4 σ4 H4 rp4 fr4 rs4 q4=>?_;have k4:=k.fr ((fr1.trans fr13).trans fr4);refine hb.run F H4 Z4 σ4 ρ4 _ _ rp4 rs4 q4 ⟨?_,k4.rt,k4.nx,?_⟩
  ·exact fun ρ' Z' σ' H'' e1 e2 e3 e4=>⟨by omega,ρ',Z',e1,e3,(fr13.trans fr4).trans e2,e4⟩
  ·exact fun ρ' Z' σ' H'' e1 e2 e3 e4=>⟨by omega,ρ',Z',e1,e3,(fr13.trans fr4).trans e2,e4⟩
 ·have hi:i=as.length:=by omega
  subst hi;rw[List.drop_length] at q2
  exact .inl ⟨stop,k.nx ρ2 Z2 σ2 H2 rp2 (fr1.trans fr2) rs2 q2⟩⟩
noncomputable abbrev AL:=List AV->SA->Om->(List AV->SA->Om->Prop)->Prop
structure Fa(l:Addr)(F:Fs)(H:Hp)(Z:Om)(H':Hp)(Z':Om):Prop where
 st:∀b o,ow (Z b)=false->F b=false->H b=some o->H' b=some o/\ow (Z' b)=false
 hd:∀b,F b=true->b≠l->H' b=H b
theorem Fr.fa{l:Addr}{F:Fs}{H H':Hp}{Z Z':Om}(h:Fr F H Z H' Z'):Fa l F H Z H' Z':=⟨h.st,fun b f _=>h.hd b f⟩
theorem Fa.trans{l:Addr}{F:Fs}{H H1 H2:Hp}{Z Z1 Z2:Om}(a:Fa l F H Z H1 Z1)(b:Fa l F H1 Z1 H2 Z2):Fa l F H Z H2 Z2:=
 ⟨fun c o h f e=>let ⟨x,y⟩:=a.st c o h f e;b.st c o y f x,fun c h n=>(b.hd c h n).trans (a.hd c h n)⟩
theorem Fa.same{l:Addr}{F:Fs}{H H':Hp}{Z Z':Om}(a:Fa l F H Z H' Z'):dq (cut F H Z) (cut F H' Z'):=fun b o e=>by
 obtain⟨h,f,e⟩:=bO.mp e;obtain⟨x,y⟩:=a.st b o h f e;exact bO.mpr ⟨y,f,x⟩
noncomputable def LL(l:Addr)(F:Fs)(H:Hp)(Z:Om)(K':List AV->SA->Om->Prop)(K:St->Hp->Prop):Prop:=
 ∀xs vs ρ Z' σ H',Rep F H' Z'->Fa l F H Z H' Z'->RS (cut F H' Z') ρ σ->H' l=some (.lst vs)->RVs (cut F H' Z') xs vs->K' xs ρ Z'->K σ H'
structure zu(l:TL)(l':AL):Prop where
 run:∀(F:Fs)(H:Hp)(Z:Om)(σ:St)(ρ:SA)(acc:Addr)(vs:List V)(xs:List AV)(K:St->Hp->Prop)(K':List AV->SA->Om->Prop),Rep F H Z->RS (cut F H Z) ρ σ->F acc=true->H acc=some (.lst vs)->RVs (cut F H Z) xs vs ->
  l' xs ρ Z K'->LL acc F H Z K' K->l acc σ H K
noncomputable def mB:AT:=fun _ Z Q=>Q true Z
noncomputable def nR(te:AE):AL:=fun xs ρ Z K=>te ρ Z fun y Z1=>xs.length<sizeLine/\K (xs++[y]) ρ Z1
noncomputable def eE(g:AG)(tc:AT)(l:AL):List AV->AL
 | [],xs,ρ,Z,K=>K xs ρ Z
 |a::as,xs,ρ,Z,K=>g a ρ Z fun ρ1 Z1=>tc ρ1 Z1 fun b Z2=>if b=true then l xs ρ1 Z2 (fun xs' ρ' Z'=>eE g tc l as xs' ρ' Z' K) else eE g tc l as xs ρ1 Z2 K
noncomputable def oI(src:List (Option Nat))(ρ:SA):SA:=src.map fun o=>match o with|none=>none|some j=>(ρ[j]?).join
noncomputable def und:List AV->Option (List D)
 | []=>some []
 |.d x::r=>(und r).map (x::·)
 |_=>none
theorem bF:∀ds:List D,und (ds.map AV.d)=some ds
 | []=>rfl
 |d::ds=>by simp[und,bF ds]
theorem fm:∀ {xs:List AV} {ds:List D},und xs=some ds->xs=ds.map AV.d
 | [],ds,h=>by cases h;rfl
 |.d x::r,ds,h=>by
  simp only[und,Option.map_eq_some_iff] at h;obtain⟨es,e1,rfl⟩:=h;rw[fm e1];rfl
 |.r _::_,_,h=>by simp[und] at h
 |.p _ _::_,_,h=>by simp[und] at h
noncomputable def Dx(src:List (Option Nat))(wi:AI)(g:AG)(tc:AT)(l:AL):AE:=fun ρ Z Q=>wi ρ Z fun as Z1=>eE g tc l as [] (oI src ρ) Z1 fun xs _ Z'=>∃ds,und xs=some ds/\Q (.d (.lst ds)) Z'
noncomputable def A0(src:List (Option Nat))(wi:AI)(g:AG)(tc:AT)(l:AL):AE:=fun ρ Z Q=>wi ρ Z fun as Z1=>eE g tc l as [] (oI src ρ) Z1 fun xs _ Z'=>∀p,Z' p=none->Q (.r (.ref p)) (Z'.put p (.own xs))
section
variable{te:TE}{te':AE}{tc:TT}{tc':AT}{g:TG}{g':AG}{wi:TI}{wi':AI}{l:TL}{l':AL}{src:List (Option Nat)}
theorem jK:iM vK mB:=⟨fun F H Z σ ρ Q Q' rp rs w k=>k true Z true H rp .refl rfl w⟩
theorem cB(h:bf te te'):zu (DY te) (nR te'):=⟨fun F H Z σ ρ acc vs xs K K' rp rs fa ha rx w k=>by
 refine h.go rp rs w fun y Z1 v H1 rp1 fr1 rs1 rv q=>?_;obtain⟨q1,q2⟩:=q;have ha1:H1 acc=some (.lst vs):=(fr1.hd acc fa).trans ha;obtain⟨rp2,c2⟩:=rp1.hwrite (vs:=vs++[v]) fa;refine⟨vs,ha1,by rw[rx.length];exact q1,k (xs++[y]) (vs++[v]) ρ Z1 σ _ rp2 ?_ ?_ b9 ?_ q2⟩
 ·refine fr1.fa.trans ⟨fun b o e1 e2 e3=>⟨?_,e1⟩,fun b f n=>aV n⟩
  have hb:b≠acc:=fun z=>by subst z;rw[fa] at e2;cases e2
  rw[aV hb];exact e3
 ·rw[c2];exact rs1
 ·rw[c2];exact(rx.same fr1.same).append (.one rv)⟩
theorem Et(hg:oA g g')(hc:iM tc tc')(hl:zu l l'){G:Hp}{as:List AV}{J:It}(it:yp G as J){F:Fs}{H:Hp}{Z:Om}{σ:St}{ρ:SA}{acc:Addr}{vs:List V}{xs:List AV}{K:St->Hp->Prop}{K':List AV->SA->Om->Prop}(rp:Rep F H Z)(rs:RS (cut F H Z) ρ σ)(fa:F acc=true)(ha:H acc=some (.lst vs))(rx:RVs (cut F H Z) xs vs)(sG:dq G (cut F H Z))(w:eE g' tc' l' as xs ρ Z K')(k:LL acc F H Z K' K):BC J g tc l acc σ H K:=by
 refine⟨fun i m σ2 H2=>m+i=as.length/\∃ρ2 Z2 vs2 xs2,Rep F H2 Z2/\RS (cut F H2 Z2) ρ2 σ2/\Fa acc F H Z H2 Z2/\H2 acc=some (.lst vs2)/\RVs (cut F H2 Z2) xs2 vs2/\eE g' tc' l' (as.drop i) xs2 ρ2 Z2 K',
  ⟨as.length,rfl,ρ,Z,vs,xs,rp,rs,Fr.refl.fa,ha,rx,w⟩,?_⟩
 rintro i m σ2 H2 ⟨hm,ρ2,Z2,vs2,xs2,rp2,rs2,fr2,ha2,rx2,q2⟩;obtain⟨stop,go⟩:=it F H2 Z2 rp2 (sG.trans fr2.same);by_cases hl':i<as.length
 ·obtain⟨a,hai,hd⟩:=jt hl'
  rw[hd] at q2;obtain⟨g1,y1⟩:=go i a hai;refine .inr ⟨g1,fun x H' hy=>?_⟩;obtain⟨rp3,fr3,rv3⟩:=y1 x H' hy;refine hg.run F H' Z2 σ2 ρ2 x a _ _ rp3 (rs2.same fr3.same) rv3 q2 fun ρ4 Z4 σ4 H4 rp4 fr4 rs4 q4=>?_;refine hc.go rp4 rs4 q4 fun b Z5 b' H5 rp5 fr5 rs5 rb q5=>?_;cases (show b=b' from rb)
  have fr25:Fr F H2 Z2 H5 Z5:=(fr3.trans fr4).trans fr5;have ha5:H5 acc=some (.lst vs2):=(fr25.hd acc fa).trans ha2;have rx5:=rx2.same fr25.same
  cases b with
  |true=>
   rw[if_pos rfl] at q5 ⊢;refine hl.run F H5 Z5 σ4 ρ4 acc vs2 xs2 _ _ rp5 rs5 fa ha5 rx5 q5 fun xs6 vs6 ρ6 Z6 σ6 H6 e1 e2 e3 e4 e5 e6=>?_;exact⟨m-1,by omega,by omega,ρ6,Z6,vs6,xs6,e1,e3,(fr2.trans fr25.fa).trans e2,e4,e5,e6⟩
  |false=>
   rw[if_neg Bool.false_ne_true] at q5 ⊢;exact⟨m-1,by omega,by omega,ρ4,Z5,vs2,xs2,rp5,rs5,fr2.trans fr25.fa,ha5,rx5,q5⟩
 ·have hi:i=as.length:=by omega
  subst hi;rw[List.drop_length] at q2;exact .inl ⟨stop,k xs2 vs2 ρ2 Z2 σ2 H2 rp2 fr2 rs2 ha2 rx2 q2⟩
theorem RS.blk{G:Hp}{ρ:SA}{σ:St}(h:RS G ρ σ):RS G (oI src ρ) (t9 src σ):=by
 refine⟨by simp[oI,t9],fun i a e=>?_⟩
 unfold oI at e;unfold t9;rw[List.getElem?_map] at e ⊢
 cases q:src[i]? with
 |none=>rw[q] at e;simp at e
 |some o=>
  rw[q] at e
  cases o with
  |none=>simp at e
  |some j=>
   simp only[Option.map_some,Option.some.injEq] at e ⊢
   have e':ρ[j]?=some (some a):=by
    cases z:ρ[j]? with
    |none=>rw[z] at e;simp at e
    |some y=>rw[z] at e;simp at e;rw[e]
   obtain⟨v,e1,e2⟩:=h.2 j a e';exact⟨v,by rw[e1];rfl,e2⟩
theorem xI(hi:tU wi wi')(hg:oA g g')(hc:iM tc tc')(hl:zu l l'){F:Fs}{H:Hp}{Z:Om}{σ:St}{ρ:SA}{Q:VK}{K':List AV->SA->Om->Prop}(rp:Rep F H Z)(rs:RS (cut F H Z) ρ σ)(w:wi' ρ Z fun as Z1=>eE g' tc' l' as [] (oI src ρ) Z1 K')(k:∀p xs vs ρ' Z' H',F p=false->(∀b o,ow (Z b)=false->F b=false->H b=some o->b≠p)->Rep (F.add p) H' Z'->Fr F H Z H' Z'->H' p=some (.lst vs)->RVs (cut (F.add p) H' Z') xs vs->K' xs ρ' Z'->Q (.ref p) H'):rE src wi g tc l σ H Q:=by
 refine hi.go rp rs w fun as Z1 J H1 rp1 fr1 rs1 it q=>fun acc hacc=>?_;obtain⟨rp2,c2⟩:=rp1.hide (vs:=[]) hacc;obtain⟨f1,f2⟩:=rp1.free hacc;have hb1:∀b,b≠acc->F b=false->(F.add acc) b=false:=fun b h f=>by simp[Fs.add,h,f]
 have hne:∀b o,ow (Z b)=false->F b=false->H b=some o->b≠acc:=fun b o h f e=>bC (fr1.st b o h f e).1 hacc;refine Et (xs:=[]) hg hc hl it rp2 (by rw[c2];exact rs1.blk) (by simp[Fs.add]) b9 rfl (by rw[c2];exact dq.refl _) q fun xs vs ρ' Z' σ' H' e1 e2 e3 e4 e5 e6=>?_
 refine k acc xs vs ρ' Z' H' f2 hne e1 ⟨fun b o h f e=>?_,fun b f=>?_⟩ e4 e5 e6
 ·obtain⟨x,y⟩:=fr1.st b o h f e
  have hb:=hne b o h f e;exact e2.st b o y (hb1 b hb f) (by rw[aV hb];exact x)
 ·have hb:b≠acc:=fun z=>by subst z;rw[f] at f2;cases f2
  rw[e2.hd b (by simp[Fs.add,f]) hb,aV hb,fr1.hd b f]
theorem cK(hi:tU wi wi')(hg:oA g g')(hc:iM tc tc')(hl:zu l l'):bf (rE src wi g tc l) (Dx src wi' g' tc' l'):=⟨fun F H Z σ ρ Q Q' rp rs w k=>by
 refine xI hi hg hc hl rp rs w fun p xs vs ρ' Z' H' f hne rp1 fr1 e1 e2 q=>?_;obtain⟨ds,hu,q⟩:=q;cases fm hu;obtain⟨rp2,sm,hp⟩:=rp1.unhide f e1;refine k (.d (.lst ds)) Z' _ H' rp2 fr1 ?_ q;simp only[RV,Dat]
 exact⟨p,vs,rfl,hp,RVs.dats.mp (e2.same sm)⟩⟩
theorem Ci(hi:tU wi wi')(hg:oA g g')(hc:iM tc tc')(hl:zu l l'):bf (rE src wi g tc l) (A0 src wi' g' tc' l'):=⟨fun F H Z σ ρ Q Q' rp rs w k=>by
 refine xI hi hg hc hl rp rs w fun p xs vs ρ' Z' H' f hne rp1 fr1 e1 e2 q=>?_;have hp:Z' p=none:=(rp1.hid p (by simp[Fs.add])).1
 obtain⟨rp2,sm⟩:=rp1.IR f e1 e2;refine k (.r (.ref p)) (Z'.put p (.own xs)) _ H' rp2 ⟨fun b o h f e=>?_,fr1.hd⟩ rfl (q p hp);obtain⟨x,y⟩:=fr1.st b o h f e;rw[Om.IA (hne b o h f e)]
 exact⟨x,y⟩⟩
end
noncomputable def bg(Z:Om):AV->Option D
 |.d x=>some x
 |.r (.ref l)=>match Z l with
  |some (.own xs)=>(und xs).map D.lst
  |some (.frz ds)=>some (.lst ds)
  |_=>none
 |_=>none
noncomputable def eC(Z:Om):AV->Option (List AV)
 |.d (.lst ds)=>some (ds.map AV.d)
 |.r (.ref l)=>match Z l with
  |some (.own xs)=>some xs
  |some (.frz ds)=>some (ds.map AV.d)
  |_=>none
 |_=>none
noncomputable def ik:AV->Option (List AV)
 |.d (.tup ds)=>some (ds.map AV.d)
 |_=>none
noncomputable def oM(Z:Om)(x:AV)(K:D->Om->Prop):Prop:=match x with
 |.d x=>K x Z
 |.r (.ref l)=>match Z l with
  |some (.own xs)=>∃ds,und xs=some ds/\K (.lst ds) (Z.put l (.frz ds))
  |some (.frz ds)=>K (.lst ds) Z
  |_=>False
 |_=>False
section
variable{F:Fs}{H:Hp}{Z:Om}{x:AV}{v:V}
theorem nP(rp:Rep F H Z)(rv:RV (cut F H Z) x v){xs:List AV}(h:eC Z x=some xs):∃a vs,v=.ref a/\H a=some (.lst vs)/\RVs (cut F H Z) xs vs:=by
 cases x with
 |d x=>cases x with
  |lst ds=>
   simp only[eC,Option.some.injEq] at h;subst h;simp only[RV,Dat] at rv;obtain⟨a,vs,rfl,e1,e2⟩:=rv;exact⟨a,vs,rfl,ba _ _ e1,RVs.dats.mpr e2⟩
  |_=>simp[eC] at h
 |p u P=>simp[eC] at h
 |r u=>
  cases (show v=u from rv)
  cases v with
  |ref l=>
   simp only[eC] at h
   cases e:Z l with
   |none=>rw[e] at h;simp at h
   |some c=>
    rw[e] at h
    cases c with
    |own ys=>
     simp only[Option.some.injEq] at h;subst h;obtain⟨vs,e1,e2⟩:=rp.own l _ e;exact⟨l,vs,rfl,e1,e2⟩
    |frz ds=>
     simp only[Option.some.injEq] at h;subst h;have q:=rp.frz l ds e;simp only[Dat] at q;obtain⟨a,vs,e1,e2,e3⟩:=q;cases e1;exact⟨l,vs,rfl,ba _ _ e2,RVs.dats.mpr e3⟩
    |dic ks=>simp at h
  |_=>simp[eC] at h
theorem Bu(rv:RV (cut F H Z) x v){xs:List AV}(h:ik x=some xs):∃a vs,v=.ref a/\cut F H Z a=some (.tup vs)/\RVs (cut F H Z) xs vs:=by
 cases x with
 |d x=>cases x with
  |tup ds=>
   simp only[ik,Option.some.injEq] at h;subst h;simp only[RV,Dat] at rv;obtain⟨a,vs,rfl,e1,e2⟩:=rv;exact⟨a,vs,rfl,e1,RVs.dats.mpr e2⟩
  |_=>simp[ik] at h
 |p u P=>simp[ik] at h
 |r u=>simp[ik] at h
theorem gx(rp:Rep F H Z)(rv:RV (cut F H Z) x v){d:D}(h:bg Z x=some d):Dat H d v:=by
 cases x with
 |d x=>
  simp only[bg,Option.some.injEq] at h;subst h;exact Dat.same ba rv
 |p u P=>simp[bg] at h
 |r u=>
  cases (show v=u from rv)
  cases v with
  |ref l=>
   simp only[bg] at h
   cases e:Z l with
   |none=>rw[e] at h;simp at h
   |some c=>
    rw[e] at h
    cases c with
    |own ys=>
     simp only[Option.map_eq_some_iff] at h;obtain⟨ds,h1,rfl⟩:=h;cases fm h1;obtain⟨vs,e1,e2⟩:=rp.own l _ e;simp only[Dat];exact⟨l,vs,rfl,e1,(RVs.dats.mp e2).same ba⟩
    |frz ds=>
     simp only[Option.some.injEq] at h;subst h;exact(rp.frz l ds e).same ba
    |dic ks=>simp at h
  |_=>simp[bg] at h
theorem gj(rp:Rep F H Z)(rv:RV (cut F H Z) x v){ds:List D}(h:bg Z x=some (.lst ds)):∃a vs,v=.ref a/\H a=some (.lst vs)/\aG (cut F H Z) ds vs:=by
 have:eC Z x=some (ds.map AV.d):=by
  cases x with
  |d x=>simp only[bg,Option.some.injEq] at h;subst h;rfl
  |p u P=>simp[bg] at h
  |r u=>cases u with
   |ref l=>
    simp only[bg] at h;simp only[eC]
    cases e:Z l with
    |none=>rw[e] at h;simp at h
    |some c=>
     rw[e] at h
     cases c with
     |own ys=>
      simp only[Option.map_eq_some_iff] at h;obtain⟨es,h1,h2⟩:=h;cases h2;rw[fm h1]
     |frz es=>simp only[Option.some.injEq] at h;cases h;rfl
     |dic ks=>simp at h
   |_=>simp[bg] at h
 obtain⟨a,vs,e1,e2,e3⟩:=nP rp rv this;exact⟨a,vs,e1,e2,RVs.dats.mp e3⟩
theorem Fe(rp:Rep F H Z)(rv:RV (cut F H Z) x v){K:D->Om->Prop}(h:oM Z x K):∃d Z',Rep F H Z'/\Fr F H Z H Z'/\Dat (cut F H Z') d v/\K d Z':=by
 cases x with
 |d x=>exact⟨x,Z,rp,.refl,rv,h⟩
 |p u P=>exact h.elim
 |r u=>
  cases (show v=u from rv)
  cases v with
  |ref l=>
   simp only[oM] at h
   cases e:Z l with
   |none=>rw[e] at h;exact h.elim
   |some c=>
    rw[e] at h
    cases c with
    |own ys=>
     obtain⟨ds,h1,h2⟩:=h;cases fm h1;obtain⟨q1,q2,q3⟩:=rp.freeze e;exact⟨_,_,q1,q2,q3,h2⟩
    |frz ds=>exact⟨_,_,rp,.refl,rp.frz l ds e,h⟩
    |dic ks=>exact h.elim
  |_=>exact h.elim
end
noncomputable abbrev A2:=AV->AV->Om->(AV->Om->Prop)->Prop
structure eT(r:R2)(r':A2):Prop where
 run:∀(F:Fs)(H:Hp)(Z:Om)(v u:V)(x y:AV)(Q:VK)(Q':AV->Om->Prop),Rep F H Z->RV (cut F H Z) x v->RV (cut F H Z) y u->r' x y Z Q'->LP RV F H Z Q' Q->r v u H Q
structure G5(r:V->Hp->VK->Prop)(r':AV->Om->(AV->Om->Prop)->Prop):Prop where
 run:∀(F:Fs)(H:Hp)(Z:Om)(v:V)(x:AV)(Q:VK)(Q':AV->Om->Prop),Rep F H Z->RV (cut F H Z) x v->r' x Z Q'->LP RV F H Z Q' Q->r v H Q
structure ln(r:List V->Hp->VK->Prop)(r':List AV->Om->(AV->Om->Prop)->Prop):Prop where
 run:∀(F:Fs)(H:Hp)(Z:Om)(vs:List V)(xs:List AV)(Q:VK)(Q':AV->Om->Prop),Rep F H Z->RVs (cut F H Z) xs vs->r' xs Z Q'->LP RV F H Z Q' Q->r vs H Q
noncomputable def EU(i:Nat):AE:=fun ρ Z Q=>∃a,ρ[i]?=some (some a)/\Q a Z
noncomputable def aC(d:D):AE:=fun _ Z Q=>Q (.d d) Z
noncomputable def aOp(r:A2)(ta tb:AE):AE:=fun ρ Z Q=>ta ρ Z fun x Z1=>tb ρ Z1 fun y Z2=>r x y Z2 Q
noncomputable def aUn(r:AV->Om->(AV->Om->Prop)->Prop)(ta:AE):AE:=fun ρ Z Q=>ta ρ Z fun x Z1=>r x Z1 Q
noncomputable def GJ:AA:=fun _ Z Q=>Q [] Z
noncomputable def DA(ta:AE)(tr:AA):AA:=fun ρ Z Q=>ta ρ Z fun x Z1=>tr ρ Z1 fun xs Z2=>Q (x::xs) Z2
noncomputable def Gx(t:AA):AE:=fun ρ Z Q=>t ρ Z fun xs Z1=>xs.length<=sizeLine/\∃ds,und xs=some ds/\Q (.d (.tup ds)) Z1
noncomputable def GX(t:AA):AE:=fun ρ Z Q=>t ρ Z fun xs Z1=>xs.length<=sizeLine/\∃ds,und xs=some ds/\Q (.d (.lst ds)) Z1
noncomputable def C4(t:AA):AE:=fun ρ Z Q=>t ρ Z fun xs Z1=>xs.length<=sizeLine/\∀p,Z1 p=none->Q (.r (.ref p)) (Z1.put p (.own xs))
noncomputable def Dd(sp:ASp)(t:AA):AE:=fun ρ Z Q=>t ρ Z fun xs Z1=>sp xs Z1 Q
noncomputable def aCB(r:List AV->Om->(AV->Om->Prop)->Prop)(t:AA):AE:=fun ρ Z Q=>t ρ Z fun xs Z1=>r xs Z1 Q
noncomputable def D4(t:AE):AT:=fun ρ Z Q=>t ρ Z fun x Z1=>∃k,x=.d (.bl k)/\Q k Z1
noncomputable def Gc(t u:AT):AT:=fun ρ Z Q=>t ρ Z fun c Z1=>if c=true then u ρ Z1 Q else Q false Z1
noncomputable def aOr(t u:AT):AT:=fun ρ Z Q=>t ρ Z fun c Z1=>if c=true then Q true Z1 else u ρ Z1 Q
noncomputable def GD(t:AT):AT:=fun ρ Z Q=>t ρ Z fun c Z1=>Q (!c) Z1
section
variable{ta tb tc:TE}{ta' tb' tc':AE}{t u:TT}{t' u':AT}{r r2:R2}{r' r2':A2}{s:TA}{s':AA}
theorem ae{i:Nat}:bf (FM i) (EU i):=⟨fun F H Z σ ρ Q Q' rp rs h k=>by
 obtain⟨a,e,q⟩:=h;obtain⟨v,e1,e2⟩:=rs.2 i a e
 exact⟨v,e1,k a Z v H rp .refl e2 q⟩⟩
theorem aq{i:Int}:bf (tC (.int i)) (aC (.int i)):=⟨fun F H Z σ ρ Q Q' rp rs h k=>k _ Z _ H rp .refl (by simp[RV,Dat]) h⟩
theorem aZ{x:Str}:bf (tC (.str x)) (aC (.str x)):=⟨fun F H Z σ ρ Q Q' rp rs h k=>k _ Z _ H rp .refl (by simp[RV,Dat]) h⟩
theorem qD{b:Bool}:bf (tC (.bl b)) (aC (.bl b)):=⟨fun F H Z σ ρ Q Q' rp rs h k=>k _ Z _ H rp .refl (by simp[RV,Dat]) h⟩
noncomputable def G6(v:V):AE:=fun _ Z Q=>Q (.r v) Z
theorem f6{v:V}:bf (tC v) (G6 v):=⟨fun F H Z σ ρ Q Q' rp rs h k=>k (.r v) Z _ H rp .refl rfl h⟩
theorem ax(h2:eT r r')(ha:bf ta ta')(hb:bf tb tb'):bf (tOp r ta tb) (aOp r' ta' tb'):=⟨fun F H Z σ ρ Q Q' rp rs h k=>
 ha.go rp rs h fun x Z1 v H1 rp1 fr1 rs1 rv1 q1=>hb.go rp1 rs1 q1 fun y Z2 u H2 rp2 fr2 rs2 rv2 q2=>h2.run F H2 Z2 v u x y Q Q' rp2 (rv1.same fr2.same) rv2 q2 (k.fr (fr1.trans fr2))⟩
theorem GB{r:V->Hp->VK->Prop}{r':AV->Om->(AV->Om->Prop)->Prop}(h2:G5 r r')(ha:bf ta ta'):bf (tUn r ta) (aUn r' ta'):=⟨fun F H Z σ ρ Q Q' rp rs h k=>
 ha.go rp rs h fun x Z1 v H1 rp1 fr1 rs1 rv1 q1=>h2.run F H1 Z1 v x Q Q' rp1 rv1 q1 (k.fr fr1)⟩
theorem ag:jF A5 GJ:=⟨fun F H Z σ ρ Q Q' rp rs h k=>k [] Z _ H rp .refl rfl h⟩
theorem ac(ha:bf ta ta')(hs:jF s s'):jF (gO ta s) (DA ta' s'):=⟨fun F H Z σ ρ Q Q' rp rs h k=>
 ha.go rp rs h fun x Z1 v H1 rp1 fr1 rs1 rv1 q1=>hs.go rp1 rs1 q1 fun y Z2 u H2 rp2 fr2 rs2 rv2 q2=>k (x::y) Z2 (v::u) H2 rp2 (fr1.trans fr2) ⟨v,u,rfl,rv1.same fr2.same,rv2⟩ q2⟩
theorem bw(hs:jF s s'):bf (FA s) (Gx s'):=⟨fun F H Z σ ρ Q Q' rp rs h k=>
 hs.go rp rs h fun xs Z1 vs H1 rp1 fr1 rs1 rv1 ⟨z,ds,hu,q1⟩=>⟨by rw[rv1.length];exact z,fun p hp=>by
  cases fm hu;obtain⟨rp2,fr2,hc⟩:=rp1.lay (o:=.tup vs) hp;refine k _ Z1 _ _ rp2 (fr1.trans fr2) ?_ q1;simp only[RV,Dat]
  exact⟨p,vs,rfl,hc,(RVs.dats.mp rv1).same fr2.same⟩⟩⟩
theorem dD(hs:jF s s'):bf (FR s) (GX s'):=⟨fun F H Z σ ρ Q Q' rp rs h k=>
 hs.go rp rs h fun xs Z1 vs H1 rp1 fr1 rs1 rv1 ⟨z,ds,hu,q1⟩=>⟨by rw[rv1.length];exact z,fun p hp=>by
  cases fm hu;obtain⟨rp2,fr2,hc⟩:=rp1.lay (o:=.lst vs) hp;refine k _ Z1 _ _ rp2 (fr1.trans fr2) ?_ q1;simp only[RV,Dat]
  exact⟨p,vs,rfl,hc,(RVs.dats.mp rv1).same fr2.same⟩⟩⟩
theorem fS(hs:jF s s'):bf (FR s) (C4 s'):=⟨fun F H Z σ ρ Q Q' rp rs h k=>
 hs.go rp rs h fun xs Z1 vs H1 rp1 fr1 rs1 rv1 ⟨z,q1⟩=>⟨by rw[rv1.length];exact z,fun p hp=>by
  obtain⟨rp2,fr2⟩:=rp1.mk' (vs:=vs) hp rv1
  exact k (.r (.ref p)) _ _ _ rp2 (fr1.trans fr2) rfl (q1 p (rp1.free hp).1)⟩⟩
theorem ar{sp:ASp}{E:XK}(hs:jF s s'):bf (Da (bz sp) [] E s) (Dd sp s'):=⟨fun F H Z σ ρ Q Q' rp rs h k=>
 hs.go rp rs h fun xs Z1 vs H1 rp1 fr1 rs1 rv1 q=>⟨F,xs,Z1,Q',rp1,by rw[List.append_nil];exact rv1,q,k.fr fr1⟩⟩
theorem bx{r:List V->Hp->VK->Prop}{r':List AV->Om->(AV->Om->Prop)->Prop}(hr:ln r r')(hs:jF s s'):bf (tCB r s) (aCB r' s'):=⟨fun F H Z σ ρ Q Q' rp rs h k=>
 hs.go rp rs h fun xs Z1 vs H1 rp1 fr1 rs1 rv1 q=>hr.run F H1 Z1 vs xs Q Q' rp1 rv1 q (k.fr fr1)⟩
theorem aY(ha:bf ta ta'):iM (Ea ta) (D4 ta'):=⟨fun F H Z σ ρ Q Q' rp rs h k=>
 ha.go rp rs h fun x Z1 v H1 rp1 fr1 rs1 rv1 ⟨c,e,q⟩=>by subst e;exact⟨c,by simpa[RV,Dat] using rv1,k c Z1 c H1 rp1 fr1 rfl q⟩⟩
theorem nJ(h1:iM t t')(h2:iM u u'):iM (Gz t u) (Gc t' u'):=⟨fun F H Z σ ρ Q Q' rp rs h k=>
 h1.go rp rs h fun c Z1 c' H1 rp1 fr1 rs1 rv1 q=>by
  cases (show c=c' from rv1)
  cases c with
  |true=>rw[if_pos rfl] at q ⊢;exact h2.run F H1 Z1 σ ρ Q Q' rp1 rs1 q (k.fr fr1)
  |false=>rw[if_neg Bool.false_ne_true] at q ⊢;exact k false Z1 false H1 rp1 fr1 rfl q⟩
theorem yk(h1:iM t t')(h2:iM u u'):iM (tOr t u) (aOr t' u'):=⟨fun F H Z σ ρ Q Q' rp rs h k=>
 h1.go rp rs h fun c Z1 c' H1 rp1 fr1 rs1 rv1 q=>by
  cases (show c=c' from rv1)
  cases c with
  |true=>rw[if_pos rfl] at q ⊢;exact k true Z1 true H1 rp1 fr1 rfl q
  |false=>rw[if_neg Bool.false_ne_true] at q ⊢;exact h2.run F H1 Z1 σ ρ Q Q' rp1 rs1 q (k.fr fr1)⟩
theorem eF(h1:iM t t'):iM (HI t) (GD t'):=⟨fun F H Z σ ρ Q Q' rp rs h k=>
 h1.go rp rs h fun c Z1 c' H1 rp1 fr1 rs1 rv1 q=>by
  cases (show c=c' from rv1)
  exact k _ Z1 _ H1 rp1 fr1 rfl q⟩
theorem Bd{G:Hp}{c:Bool}{v:V}(h:RV G (.d (.bl c)) v):v=.bl c:=by simpa[RV,Dat] using h
noncomputable def iw(Z:Om)(x:AV):Option Bool:=match x with
 |.d .non=>some false
 |.d (.bl b)=>some b
 |.d (.int i)=>some (i != 0)
 |.d (.tup ds)=>some (!ds.isEmpty)
 |x=>(eC Z x).map fun xs=>!xs.isEmpty
noncomputable def Gy(ta:AE):AT:=fun ρ Z Q=>ta ρ Z fun x Z1=>∃k,iw Z1 x=some k/\Q k Z1
theorem l9{α β:Type}{xs:List α}{ys:List β}(h:xs.length=ys.length):xs.isEmpty=ys.isEmpty:=by
 cases xs<;>cases ys<;>simp_all
theorem uB{K:W.Frag}{F:Fs}{H1:Hp}{Z1:Om}{x:AV}{v:V}{c:Bool}(rp1:Rep F H1 Z1)(rv1:RV (cut F H1 Z1) x v)(e:iw Z1 x=some c):sB K v H1 c:=by
  have ls:∀ {xs:List AV},eC Z1 x=some xs->c=(!xs.isEmpty)->sB K v H1 c:=fun {xs} e1 e2=>by
   obtain⟨a,vs,rfl,e3,e4⟩:=nP rp1 rv1 e1;exact .inl ⟨vs,.inl (.inl e3),by rw[e2,l9 e4.length.symm]⟩
  cases x with
  |d x=>cases x with
   |non=>simp only[iw,Option.some.injEq] at e;simp only[RV,Dat] at rv1;subst rv1;exact e.symm
   |bl b=>simp only[iw,Option.some.injEq] at e;simp only[RV,Dat] at rv1;subst rv1;exact e.symm
   |int b=>simp only[iw,Option.some.injEq] at e;simp only[RV,Dat] at rv1;subst rv1;exact e.symm
   |str b=>simp[iw,eC] at e
   |dk b=>simp[iw,eC] at e
   |dt b=>simp[iw,eC] at e
   |tup ds=>
    simp only[iw,Option.some.injEq] at e;simp only[RV,Dat] at rv1;obtain⟨a,vs,rfl,e1,e2⟩:=rv1;exact .inr (.inl ⟨vs,.inl (.inl (ba _ _ e1)),by rw[←e,l9 e2.length]⟩)
   |lst ds=>
    simp only[iw,Option.map_eq_some_iff] at e;obtain⟨xs,e1,e2⟩:=e;exact ls e1 e2.symm
  |r u=>
   simp only[iw,Option.map_eq_some_iff] at e;obtain⟨xs,e1,e2⟩:=e;exact ls e1 e2.symm
  |p u P=>simp[iw,eC] at e
theorem dC{K:W.Frag}(ha:bf ta ta'):iM (fun σ H Q=>ta σ H fun x H'=>∃k,sB K x H' k/\Q k H') (Gy ta'):=⟨fun F H Z σ ρ Q Q' rp rs h k=>
 ha.go rp rs h fun x Z1 v H1 rp1 fr1 rs1 rv1 ⟨c,e,q⟩=>⟨c,uB rp1 rv1 e,k c Z1 c H1 rp1 fr1 rfl q⟩⟩
end
noncomputable def aI0(f:Int->Int->D):A2:=fun x y Z Q=>∃i j,x=.d (.int i)/\y=.d (.int j)/\Q (.d (f i j)) Z
noncomputable def aI(C:Int->Int->Prop)(f:Int->Int->D):A2:=fun x y Z Q=>∃i j,x=.d (.int i)/\y=.d (.int j)/\C i j/\Q (.d (f i j)) Z
noncomputable def aU(f:Int->D):AV->Om->(AV->Om->Prop)->Prop:=fun x Z Q=>∃i,x=.d (.int i)/\Q (.d (f i)) Z
section
variable{F:Fs}{H:Hp}{Z:Om}{Q:VK}{Q':AV->Om->Prop}
theorem LP.int(k:LP RV F H Z Q' Q)(rp:Rep F H Z){i:Int}(q:Q' (.d (.int i)) Z):Q (.int i) H:=k (.d (.int i)) Z _ H rp .refl (by simp[RV,Dat]) q
theorem LP.bl(k:LP RV F H Z Q' Q)(rp:Rep F H Z){i:Bool}(q:Q' (.d (.bl i)) Z):Q (.bl i) H:=k (.d (.bl i)) Z _ H rp .refl (by simp[RV,Dat]) q
theorem LP.str(k:LP RV F H Z Q' Q)(rp:Rep F H Z){i:Str}(q:Q' (.d (.str i)) Z):Q (.str i) H:=k (.d (.str i)) Z _ H rp .refl (by simp[RV,Dat]) q
theorem bK{G:Hp}{i:Int}{v:V}(h:RV G (.d (.int i)) v):v=.int i:=by simpa[RV,Dat] using h
theorem dI{G:Hp}{i:Str}{v:V}(h:RV G (.d (.str i)) v):v=.str i:=by simpa[RV,Dat] using h
theorem LP.tup(k:LP RV F H Z Q' Q)(rp:Rep F H Z){ds:List D}{vs:List V}(hd:aG (cut F H Z) ds vs)(q:Q' (.d (.tup ds)) Z):∀p,H p=none->Q (.ref p) (upd H p (.tup vs)):=fun p hp=>by
 obtain⟨rp2,fr2,hc⟩:=rp.lay (o:=.tup vs) hp;refine k (.d (.tup ds)) Z _ _ rp2 fr2 ?_ q;simp only[RV,Dat];exact⟨p,vs,rfl,hc,hd.same fr2.same⟩
theorem LP.lst(k:LP RV F H Z Q' Q)(rp:Rep F H Z){ds:List D}{vs:List V}(hd:aG (cut F H Z) ds vs)(q:Q' (.d (.lst ds)) Z):∀p,H p=none->Q (.ref p) (upd H p (.lst vs)):=fun p hp=>by
 obtain⟨rp2,fr2,hc⟩:=rp.lay (o:=.lst vs) hp;refine k (.d (.lst ds)) Z _ _ rp2 fr2 ?_ q;simp only[RV,Dat];exact⟨p,vs,rfl,hc,hd.same fr2.same⟩
end
theorem dS{f:Int->Int->Int}:eT (rI0 fun i j=>.int (f i j)) (aI0 fun i j=>.int (f i j)):=⟨fun F H Z v u x y Q Q' rp h1 h2 ⟨i,j,e1,e2,q⟩ k=>by
 subst e1 e2;exact⟨i,j,bK h1,bK h2,k.int rp q⟩⟩
theorem iH{f:Int->Int->Bool}:eT (rI0 fun i j=>.bl (f i j)) (aI0 fun i j=>.bl (f i j)):=⟨fun F H Z v u x y Q Q' rp h1 h2 ⟨i,j,e1,e2,q⟩ k=>by
 subst e1 e2;exact⟨i,j,bK h1,bK h2,k.bl rp q⟩⟩
theorem jC{C:Int->Int->Prop}{f:Int->Int->Int}:eT (rI C fun i j=>.int (f i j)) (aI C fun i j=>.int (f i j)):=⟨fun F H Z v u x y Q Q' rp h1 h2 ⟨i,j,e1,e2,c,q⟩ k=>by
 subst e1 e2;exact⟨i,j,bK h1,bK h2,c,k.int rp q⟩⟩
theorem u_i{f:Int->Int}:G5 (rU fun i=>.int (f i)) (aU fun i=>.int (f i)):=⟨fun F H Z v x Q Q' rp h1 ⟨i,e1,q⟩ k=>by
 subst e1;exact⟨i,bK h1,k.int rp q⟩⟩
noncomputable def F7(neg:Bool):A2:=fun x y Z Q=>∃a b,bg Z x=some a/\bg Z y=some b/\dep a<=100/\Q (.d (.bl (if neg then !eqD a b else eqD a b))) Z
theorem bU{neg:Bool}:eT (Fy neg) (F7 neg):=⟨fun F H Z v u x y Q Q' rp h1 h2 ⟨a,b,e1,e2,s,q⟩ k=>⟨a,b,gx rp h1 e1,gx rp h2 e2,s,k.bl rp q⟩⟩
noncomputable def aIn(neg:Bool):A2:=fun x y Z Q=>∃a b ds,bg Z x=some a/\bg Z y=some b/\(b=.lst ds\/b=.tup ds)/\dY ds<=90/\Q (.d (.bl (if neg then !inD a ds else inD a ds))) Z
theorem Ae{neg:Bool}:eT (Fp neg) (aIn neg):=⟨fun F H Z v u x y Q Q' rp h1 h2 ⟨a,b,ds,e1,e2,e3,s,q⟩ k=>⟨a,ds,gx rp h1 e1,by
 have:=gx rp h2 e2;rcases e3 with rfl|rfl
 ·exact .inl this
 ·exact .inr this,s,k.bl rp q⟩⟩
noncomputable def Ga:A2:=fun x y Z Q=>∃ds es,x=.d (.tup ds)/\y=.d (.tup es)/\ds.length+es.length<=sizeLine/\Q (.d (.tup (ds++es))) Z
noncomputable def w5:R2:=fun x y H Q=>∃a b xs ys,x=.ref a/\y=.ref b/\H a=some (.tup xs)/\H b=some (.tup ys)/\xs.length+ys.length<=sizeLine /\
 (xs=[]->Q (.ref b) H)/\(ys=[]->Q (.ref a) H)/\∀p,H p=none->Q (.ref p) (upd H p (.tup (xs++ys)))
theorem bb{X:Cx}:OpR X (binaryOp .Add) w5:=by
 intro pins s σ H x y v u Q I rx ry h;obtain⟨a,b,xs,ys,rfl,rfl,ha,hb,hz,g1,g2,g3⟩:=h;by_cases hn:xs=[]
 ·subst hn
  cases rx;cases ry;obtain⟨its,r1,ht⟩:=f9 I ha;obtain⟨its2,r2,hb2⟩:=f9 I hb;cases r1;obtain⟨⟨cls,dd,data,sl⟩,ho,hc,n,hd⟩:=id ht;obtain⟨⟨cls2,dd2,data2,sl2⟩,ho2,hc2,n2,hd2⟩:=id hb2;simp only at hc hd hc2 hd2;subst hc hd hc2 hd2
  exact concat_meets ⟨_,ho,rfl⟩ ⟨_,ho2,rfl⟩ noFill_tuple_add seq_tuple_add PySem.F.slot_tuple_add PySem.F.entry_tuple_add (PySem.F.args_tuple_add_2 _ _)
   (tuple_addW0 a b _ _ n n2 dd dd2 sl sl2 (by simp)) ⟨ho,ho2,⟨.ref b,H,I,rfl,g1 rfl⟩⟩
 ·exact CJ pins s σ H (.ref a) (.ref b) v u Q I rx ry ⟨a,b,xs,ys,rfl,rfl,SqT.of ha,SqT.of hb,hn,hz,g2,fun _ p hp=>g3 p hp⟩
theorem F6:eT w5 Ga:=⟨fun F H Z v u x y Q Q' rp h1 h2 ⟨ds,es,e1,e2,z,q⟩ k=>by
 subst e1 e2;have h1':=h1;have h2':=h2;simp only[RV,Dat] at h1 h2;obtain⟨a,xs,rfl,ha,hxs⟩:=h1;obtain⟨b,ys,rfl,hb,hys⟩:=h2;refine⟨a,b,xs,ys,rfl,rfl,ba _ _ ha,ba _ _ hb,by rw[hxs.length,hys.length];exact z,fun e=>?_,fun e=>?_,k.tup rp (hxs.append hys) q⟩
 ·have:ds=[]:=List.length_eq_zero_iff.mp (by rw[←hxs.length,e];rfl)
  subst this;exact k _ Z _ H rp .refl h2' q
 ·have:es=[]:=List.length_eq_zero_iff.mp (by rw[←hys.length,e];rfl)
  subst this;rw[List.append_nil] at q
  exact k _ Z _ H rp .refl h1' q⟩
theorem Rep.later{F:Fs}{H H':Hp}{Z:Om}(rp:Rep F H Z)(s:dq H H'):Rep F H' Z/\Fr F H Z H' Z:=by
 have fr:Fr F H Z H' Z:=⟨fun b o x f e=>⟨s _ _ e,x⟩,fun b f=>by
  obtain⟨_,o,q⟩:=rp.hid b f
  rw[q,s _ _ q]⟩
 refine⟨⟨fun l xs e=>?_,fun l ds e=>(rp.frz l ds e).same fr.same,fun b f=>?_,fun l ks e=>(by obtain⟨vs,e1,e2⟩:=rp.dic l ks e;exact⟨vs,s _ _ e1,e2.same fr.same⟩)⟩,fr⟩
 ·obtain⟨vs,e1,e2⟩:=rp.own l xs e
  exact⟨vs,s _ _ e1,e2.same fr.same⟩
 ·obtain⟨x,o,q⟩:=rp.hid b f
  exact⟨x,o,s _ _ q⟩
noncomputable def HW:A2:=fun x y Z Q=>∃xs i a,eC Z x=some xs/\y=.d (.int i)/\atI xs i=some a/\Q a Z
noncomputable def HV:A2:=fun x y Z Q=>∃xs i a,ik x=some xs/\y=.d (.int i)/\atI xs i=some a/\Q a Z
theorem RVs.atI{G:Hp}{xs:List AV}{vs:List V}{i:Int}{a:AV}(h:RVs G xs vs)(e:atI xs i=some a):∃v,L2.atI vs i=some v/\RV G a v:=by
 unfold L2.atI at e ⊢;rw[h.length]
 cases z:ixN xs.length i with
 |none=>rw[z] at e;cases e
 |some j=>
  rw[z] at e;exact h.get e
theorem GT{K:W.Frag}:eT (Fv K) HW:=⟨fun F H Z v u x y Q Q' rp h1 h2 ⟨xs,i,a,e1,e2,e3,q⟩ k=>by
 subst e2;obtain⟨l,vs,rfl,q1,q2⟩:=nP rp h1 e1;obtain⟨w,z1,z2⟩:=q2.atI e3
 exact⟨l,vs,i,w,rfl,bK h2,.inl (.inl q1),z1,k a Z w H rp .refl z2 q⟩⟩
theorem F8{K:W.Frag}:eT (FZ K) HV:=⟨fun F H Z v u x y Q Q' rp h1 h2 ⟨xs,i,a,e1,e2,e3,q⟩ k=>by
 subst e2;obtain⟨l,vs,rfl,q1,q2⟩:=Bu h1 e1;obtain⟨w,z1,z2⟩:=q2.atI e3
 exact⟨l,vs,i,w,rfl,bK h2,.inl (.inl (ba _ _ q1)),z1,k a Z w H rp .refl z2 q⟩⟩
noncomputable def aIx:A2:=fun x y Z Q=>∃xs i a,(eC Z x=some xs\/ik x=some xs)/\y=.d (.int i)/\atI xs i=some a/\Q a Z
theorem ce{K:W.Frag}:eT (rIx K) aIx:=⟨fun F H Z v u x y Q Q' rp h1 h2 ⟨xs,i,a,e1,e2,e3,q⟩ k=>by
 rcases e1 with e1|e1
 ·exact .inl (GT.run F H Z v u x y Q Q' rp h1 h2 ⟨xs,i,a,e1,e2,e3,q⟩ k)
 ·exact .inr (.inl (F8.run F H Z v u x y Q Q' rp h1 h2 ⟨xs,i,a,e1,e2,e3,q⟩ k))⟩
noncomputable abbrev AC:=List AV->Om->(AV->Om->Prop)->Prop
theorem i3{G:Hp}{a:AV}{vs:List V}(h:RVs G [a] vs):∃v,vs=[v]/\RV G a v:=by
 obtain⟨v,r,rfl,h1,h2⟩:=h;cases h2;exact⟨v,rfl,h1⟩
theorem Gr{G:Hp}{a b:AV}{vs:List V}(h:RVs G [a,b] vs):∃v u,vs=[v,u]/\RV G a v/\RV G b u:=by
 obtain⟨v,r,rfl,h1,h2⟩:=h;obtain⟨u,rfl,h3⟩:=i3 h2;exact⟨v,u,rfl,h1,h3⟩
noncomputable def lH(Z:Om)(x:AV):Option Nat:=match ik x with
 |some xs=>some xs.length
 |none=>(eC Z x).map List.length
noncomputable def Hd:AC:=fun xs Z Q=>∃x n,xs=[x]/\lH Z x=some n/\Q (.d (.int n)) Z
theorem gk{K:W.Frag}:ln (fun xs H Q=>∃x n,xs=[x]/\B6 K x H n/\Q (.int n) H) Hd:=⟨fun F H Z vs xs Q Q' rp rv ⟨x,n,e1,e2,q⟩ k=>by
 subst e1;obtain⟨v,rfl,r⟩:=i3 rv;refine⟨v,n,rfl,?_,k.int rp q⟩;unfold lH at e2
 cases z:ik x with
 |some xs=>
  rw[z] at e2;cases e2;obtain⟨a,us,rfl,q1,q2⟩:=Bu r z;exact .inr ⟨us,.inl (.inl (ba _ _ q1)),q2.length.symm⟩
 |none=>
  rw[z] at e2;simp only[Option.map_eq_some_iff] at e2;obtain⟨ys,e3,rfl⟩:=e2;obtain⟨a,us,rfl,q1,q2⟩:=nP rp r e3
  exact .inl ⟨us,.inl (.inl q1),q2.length.symm⟩⟩
theorem ww{G:Hp}:∀ {bs:List Bool} {vs:List V},aG G (bs.map D.bl) vs->vs=bs.map V.bl
 | [],_,h=>by simpa[aG] using h
 |b::bs,vs,h=>by
  simp only[List.map_cons,aG,Dat] at h;obtain⟨x,r,rfl,rfl,h⟩:=h;rw[ww h];rfl
noncomputable def Gi(f:List Bool->Bool):AC:=fun xs Z Q=>∃x bs,xs=[x]/\bg Z x=some (.lst (bs.map D.bl))/\Q (.d (.bl (f bs))) Z
theorem lS{K:W.Frag}{f:List Bool->Bool}:ln (fun xs H Q=>∃(a:Addr)(bs:List Bool),xs=[.ref a]/\SqL K H a (bs.map V.bl)/\Q (.bl (f bs)) H) (Gi f):=⟨fun F H Z vs xs Q Q' rp rv ⟨x,bs,e1,e2,q⟩ k=>by
 subst e1;obtain⟨v,rfl,r⟩:=i3 rv;obtain⟨a,us,rfl,q1,q2⟩:=gj rp r e2;cases ww q2
 exact⟨a,bs,rfl,.inl (.inl q1),k.bl rp q⟩⟩
noncomputable def aF1(f:Int->Int):AC:=fun xs Z Q=>∃i,xs=[.d (.int i)]/\Q (.d (.int (f i))) Z
theorem FD{f:Int->Int}:ln (fun xs H Q=>∃i,xs=[.int i]/\Q (.int (f i)) H) (aF1 f):=⟨fun F H Z vs xs Q Q' rp rv ⟨i,e1,q⟩ k=>by
 subst e1;obtain⟨v,rfl,r1⟩:=i3 rv
 exact⟨i,by rw[bK r1],k.int rp q⟩⟩
noncomputable def yl:D->Option Int
 |.int i=>some i
 |.bl k=>some (if k then 1 else 0)
 |_=>none
noncomputable def GZ:AC:=fun xs Z Q=>∃d i,xs=[.d d]/\yl d=some i/\Q (.d (.int i)) Z
theorem pz:ln (fun xs H Q=>(∃i,xs=[.int i]/\Q (.int i) H)\/∃k,xs=[.bl k]/\Q (.int (if k then 1 else 0)) H) GZ:=⟨fun F H Z vs xs Q Q' rp rv ⟨d,i,e1,e2,q⟩ k=>by
 subst e1;obtain⟨v,rfl,r1⟩:=i3 rv
 cases d with
 |int j=>simp only[yl,Option.some.injEq] at e2;subst e2;exact .inl ⟨_,by rw[bK r1],k.int rp q⟩
 |bl j=>simp only[yl,Option.some.injEq] at e2;subst e2;exact .inr ⟨j,by rw[Bd r1],k.int rp q⟩
 |_=>cases e2⟩
noncomputable def Bj:AC:=fun xs Z Q=>∃x ds,xs=[x]/\(bg Z x=some (.lst ds)\/x=.d (.tup ds))/\Q (.d (.tup ds)) Z
theorem eg{K:W.Frag}:ln (fun xs H Q=>∃p ys,xs=[.ref p]/\((SqL K H p ys/\∀l,H l=none->Q (.ref l) (upd H l (.tup ys)))\/(SqT K H p ys/\Q (.ref p) H))) Bj:=⟨fun F H Z vs xs Q Q' rp rv ⟨x,ds,e1,e2,q⟩ k=>by
 subst e1;obtain⟨v,rfl,r1⟩:=i3 rv;rcases e2 with e2|rfl
 ·obtain⟨a,us,rfl,q1,q2⟩:=gj rp r1 e2
  exact⟨a,us,rfl,.inl ⟨.inl (.inl q1),k.tup rp q2 q⟩⟩
 ·have r2:=r1
  simp only[RV,Dat] at r2;obtain⟨a,us,rfl,q1,q2⟩:=r2
  exact⟨a,us,rfl,.inr ⟨.inl (.inl (ba _ _ q1)),k _ Z _ H rp .refl r1 q⟩⟩⟩
noncomputable def jG(lo:Int)(n:Nat):List AV:=(List.range n).map fun i=>AV.d (.int (lo+(i:Nat)))
noncomputable def yV(ta:AA):AI:=fun ρ Z R=>ta ρ Z fun xs Z1=>∃j:Int,xs=[.d (.int j)]/\-(2^62)<=j/\j<2^62/\R (jG 0 j.toNat) Z1
noncomputable def zw(ta:AA):AI:=fun ρ Z R=>ta ρ Z fun xs Z1=>∃i j:Int,xs=[.d (.int i),.d (.int j)]/\(-(2^62)<=i/\i<2^62/\-(2^62)<=j/\j<2^62)/\R (jG i (j-i).toNat) Z1
section
variable{te:TE}{te':AE}{ta:TA}{ta':AA}{K:W.Frag}
theorem Ch{G:Hp}{ds:List D}{a:Addr}(h:Dat G (.lst ds) (.ref a)):yp G (ds.map AV.d) (Itl K a):=fun F H Z rp s=>by
 have h2:=h.same s;simp only[Dat] at h2;obtain⟨_,vs,e,ha,hd⟩:=h2;cases e;have hq:SqL K H a vs:=.inl (.inl (ba _ _ ha));have hl:=hd.length;refine⟨⟨vs,hq,by simp;omega⟩,fun i x hx=>?_⟩
 obtain⟨v,e1,e2⟩:=(RVs.dats.mpr hd).get hx;refine⟨⟨vs,v,hq,e1⟩,fun y H' hy=>?_⟩;obtain⟨rfl,hy⟩:=hy;have:=hy vs hq;rw[e1] at this;cases this;exact⟨rp,.refl,e2⟩
theorem FK{G:Hp}{ds:List D}{a:Addr}(h:Dat G (.tup ds) (.ref a)):yp G (ds.map AV.d) (Itt K a):=fun F H Z rp s=>by
 have h2:=h.same s;simp only[Dat] at h2;obtain⟨_,vs,e,ha,hd⟩:=h2;cases e;have hq:SqT K H a vs:=.inl (.inl (ba _ _ ha));have hl:=hd.length;refine⟨⟨vs,hq,by simp;omega⟩,fun i x hx=>?_⟩
 obtain⟨v,e1,e2⟩:=(RVs.dats.mpr hd).get hx;refine⟨⟨vs,v,hq,e1⟩,fun y H' hy=>?_⟩;obtain⟨rfl,hy⟩:=hy;have:=hy vs hq;rw[e1] at this;cases this;exact⟨rp,.refl,e2⟩
theorem pw{G:Hp}{ds:List D}{v:V}(h:Dat G (.lst ds) v):∃a vs,v=.ref a/\G a=some (.lst vs):=by
 simp only[Dat] at h;obtain⟨a,vs,e,h,_⟩:=h;exact⟨a,vs,e,h⟩
theorem o9{G:Hp}{ds:List D}{v:V}(h:Dat G (.tup ds) v):∃a vs,v=.ref a/\G a=some (.tup vs):=by
 simp only[Dat] at h;obtain⟨a,vs,e,h,_⟩:=h;exact⟨a,vs,e,h⟩
theorem y6{G:Hp}{lo:Int}{n:Nat}:yp G (jG lo n) (Itr lo n):=fun F H Z rp s=>by
 refine⟨by simp[jG,Itr],fun i x hx=>?_⟩
 unfold jG at hx;rw[List.getElem?_map] at hx;by_cases hi:i<n
 ·rw[List.getElem?_range hi] at hx
  simp only[Option.map_some,Option.some.injEq] at hx;subst hx;refine⟨hi,fun y H' hy=>?_⟩;obtain⟨rfl,rfl⟩:=hy;exact⟨rp,.refl,by simp[RV,Dat]⟩
 ·rw[List.getElem?_eq_none (by simp;omega)] at hx
  cases hx
theorem kf(h:jF ta ta'):tU (DR ta) (yV ta'):=⟨fun F H Z σ ρ R R' rp rs w k=>h.go rp rs w fun xs Z1 vs H1 rp1 fr1 rs1 rv ⟨j,e,h1,h2,q⟩=>by
 subst e;obtain⟨v,rfl,r⟩:=i3 rv
 exact⟨j,by rw[bK r],h1,h2,k _ Z1 _ H1 rp1 fr1 y6 q⟩⟩
theorem Es(h:jF ta ta'):tU (Du ta) (zw ta'):=⟨fun F H Z σ ρ R R' rp rs w k=>h.go rp rs w fun xs Z1 vs H1 rp1 fr1 rs1 rv ⟨i,j,e,h1,q⟩=>by
 subst e;obtain⟨v,u,rfl,r,r2⟩:=Gr rv
 exact⟨i,j,by rw[bK r,bK r2],h1,k _ Z1 _ H1 rp1 fr1 y6 q⟩⟩
noncomputable def rD:D->Option (List D)
 |.tup ds=>some ds
 |.lst ds=>some ds
 |_=>none
end
noncomputable def DX(n:Nat)(t:AGs):AG:=fun v ρ Z Q=>∃ds,v=.d (.tup ds)/\ds.length=n/\t (ds.map AV.d) ρ Z Q
noncomputable def D2(n:Nat)(t:AGs):AG:=fun v ρ Z Q=>∃xs,eC Z v=some xs/\xs.length=n/\t xs ρ Z Q
noncomputable def Dr(to ti:AE):AG:=fun v ρ Z Q=>to ρ Z fun o Z1=>ti ρ Z1 fun i Z2=>∃l k xs j,o=.r (.ref l)/\i=.d (.int k)/\Z2 l=some (.own xs)/\ixN xs.length k=some j/\Q ρ (Z2.put l (.own (xs.set j v)))
section
variable{K:W.Frag}{n:Nat}{gs:TGs}{gs':AGs}{to ti:TE}{to' ti':AE}
theorem zb(h:t5 gs gs'):oA (Eu K n gs) (DX n gs'):=⟨fun F H Z σ ρ v a Q Q' rp rs rv ⟨ds,e,hn,q⟩ k=>by
 subst e;simp only[RV,Dat] at rv;obtain⟨b,vs,rfl,h1,h2⟩:=rv
 exact⟨b,vs,rfl,.inl (.inl (ba _ _ h1)),by rw[h2.length];exact hn,h.run F H Z σ ρ vs _ Q Q' rp rs (RVs.dats.mpr h2) q k⟩⟩
theorem F9(h:t5 gs gs'):oA (GC K n gs) (D2 n gs'):=⟨fun F H Z σ ρ v a Q Q' rp rs rv ⟨xs,e,hn,q⟩ k=>by
 obtain⟨b,vs,rfl,h1,h2⟩:=nP rp rv e
 exact⟨b,vs,rfl,.inl (.inl h1),by rw[h2.length];exact hn,h.run F H Z σ ρ vs _ Q Q' rp rs h2 q k⟩⟩
theorem tH(ho:bf to to')(hi:bf ti ti'):oA (GY to ti Dt) (Dr to' ti'):=⟨fun F H Z σ ρ v a Q Q' rp rs rv w k=>
 ho.go rp rs w fun x Z1 u H1 rp1 fr1 rs1 rv1 q1=>hi.go rp1 rs1 q1 fun y Z2 u2 H2 rp2 fr2 rs2 rv2 ⟨l,j,xs,i,e1,e2,e3,e4,q⟩=>by
  subst e1 e2;have e5:u=.ref l:=rv1;obtain⟨vs,z1,z2⟩:=rp2.own l xs e3;have rv':=rv.same (fr1.trans fr2).same;obtain⟨rp3,fr3⟩:=rp2.write e3 (z2.set i rv');have fr:=(fr1.trans fr2).trans fr3
  exact⟨l,vs,j,i,e5,bK rv2,z1,by rw[z2.length];exact e4,k ρ _ σ _ rp3 fr (rs.same fr.same) q⟩⟩
end
noncomputable def cL{α:Type}(xs:List α)(lo hi:Option Int):List α:=(xs.drop (HT.sIx xs.length 0 lo)).take (HT.sIx xs.length xs.length hi-HT.sIx xs.length 0 lo)
noncomputable abbrev AO:=SA->Om->(Option Int->Om->Prop)->Prop
noncomputable def AN:AO:=fun _ Z Q=>Q none Z
noncomputable def Aj(t:AE):AO:=fun ρ Z Q=>t ρ Z fun x Z1=>∃i,x=.d (.int i)/\Q (some i) Z1
theorem aG.cut{G:Hp}{ds:List D}{vs:List V}{lo hi:Option Int}(h:aG G ds vs):aG G (cL ds lo hi) (lJ vs lo hi):=by
 unfold cL lJ;rw[h.length];exact(h.drop _).take _
section
variable{K:W.Frag}{te ts:TE}{te' ts':AE}{tl th:TO}{tl' th':AO}
theorem p8:Ref REq xz AN:=⟨fun F H Z σ ρ Q Q' rp rs w k=>k none Z none H rp .refl rfl w⟩
theorem k5(h:bf te te'):Ref REq (D1 te) (Aj te'):=⟨fun F H Z σ ρ Q Q' rp rs w k=>h.go rp rs w fun x Z1 v H1 rp1 fr1 rs1 rv ⟨i,e,q⟩=>by
 subst e;exact⟨i,bK rv,k _ Z1 _ H1 rp1 fr1 rfl q⟩⟩
end
noncomputable def xL(to:AE)(t:AA):AE:=fun ρ Z Q=>to ρ Z fun x Z1=>∃l,x=.r (.ref l)/\(∃zs,Z1 l=some (.own zs))/\t ρ Z1 fun ys Z2=>∃xs y,ys=[y]/\Z2 l=some (.own xs)/\xs.length<sizeLine/\Q (.d .non) (Z2.put l (.own (xs++[y])))
noncomputable def B3(to:AE):AE:=fun ρ Z Q=>to ρ Z fun x Z1=>∃l xs y,x=.r (.ref l)/\Z1 l=some (.own xs)/\xs[xs.length-1]?=some y/\Q y (Z1.put l (.own xs.dropLast))
section
variable{K:W.Frag}{to:TE}{to':AE}{t:TA}{t':AA}
theorem eA(ho:bf to to')(ht:jF t t'):bf (tBM K "list" xf to t) (xL to' t'):=⟨fun F H Z σ ρ Q Q' rp rs w k=>
 ho.go rp rs w fun x Z1 v H1 rp1 fr1 rs1 rv1 ⟨l,e,⟨zs,hz⟩,q1⟩=>by
  subst e;cases (show v=.ref l from rv1)
  obtain⟨us,z1,_⟩:=rp1.own l zs hz;refine⟨.inl ⟨rfl,us,.inl (.inl z1)⟩,ht.go rp1 rs1 q1 fun ys Z2 vs H2 rp2 fr2 rs2 rv2 ⟨xs,y,e1,e2,e3,q⟩=>?_⟩;subst e1;obtain⟨u,rfl,r⟩:=i3 rv2;obtain⟨ws,z3,z4⟩:=rp2.own l xs e2;obtain⟨rp3,fr3⟩:=rp2.write e2 (z4.append (.one r))
  exact⟨l,ws,u,rfl,rfl,z3,by rw[z4.length];exact e3,k _ _ _ _ rp3 ((fr1.trans fr2).trans fr3) (by simp[RV,Dat]) q⟩⟩
theorem lU(ho:bf to to'):bf (Fg K "list" GK to) (B3 to'):=⟨fun F H Z σ ρ Q Q' rp rs w k=>
 ho.go rp rs w fun x Z1 v H1 rp1 fr1 rs1 rv1 ⟨l,xs,y,e,hz,hy,q⟩=>by
  subst e;cases (show v=.ref l from rv1)
  obtain⟨us,z1,z2⟩:=rp1.own l xs hz;obtain⟨u,z3,z4⟩:=z2.get hy;obtain⟨rp3,fr3⟩:=rp1.write hz z2.dropLast
  exact⟨.inl ⟨rfl,us,.inl (.inl z1)⟩,l,us,u,rfl,rfl,z1,by rw[z2.length];exact z3,k y _ u _ rp3 (fr1.trans fr3) (z4.same fr3.same) q⟩⟩
end
noncomputable def w9:AC:=fun xs Z Q=>∃(x:AV) (W:List (List Int)),xs=[x]/\bg Z x=some (.lst (W.map wdD))/\(∀y∈W,y≠[])/\W.length<64/\Q (.d (.lst ((fZ W).map wdD))) Z
theorem Rep.stays{F:Fs}{H:Hp}{Z:Om}(rp:Rep F H Z):zH H (cut F H Z):=fun b xs e=>by
 refine bO.mpr ⟨?_,?_,e⟩
 ·cases y:Z b with
  |none=>rfl
  |some c=>cases c with
   |frz ds=>rfl
   |own ys=>
    obtain⟨vs,e1,_⟩:=rp.own b ys y;rw[e] at e1;cases e1
   |dic ys=>
    obtain⟨vs,e1,_⟩:=rp.dic b ys y;rw[e] at e1;cases e1
 ·cases z:F b with
  |false=>rfl
  |true=>
   obtain⟨_,vs,q⟩:=rp.hid b z;rw[e] at q;cases q
theorem BB:ln (fun xs H Q=>∃p W,xs=[.ref p]/\LD H p (W.map wdD)/\(∀x∈W,x≠[])/\W.length<64/\∀l H',H l=none->dq H H'->LD H' l ((fZ W).map wdD)->Q (.ref l) H') w9:=⟨fun F H Z vs xs Q Q' rp rv ⟨x,W,e1,e2,e3,e4,q⟩ k=>by
 subst e1;obtain⟨v,rfl,r⟩:=i3 rv;obtain⟨a,us,rfl,z1,z2⟩:=gj rp r e2;refine⟨a,W,rfl,⟨tP _,us,z1,z2.same ba⟩,e3,e4,fun l H' hl s ld=>?_⟩;obtain⟨rp2,fr2⟩:=rp.later s;obtain⟨hn,ws,y1,y2⟩:=ld;obtain⟨f1,f2⟩:=rp.free hl;refine k _ Z _ H' rp2 fr2 ?_ q;simp only[RV,Dat]
 exact⟨l,ws,rfl,bO.mpr ⟨by rw[f1];rfl,f2,y1⟩,aG.t rp2.stays hn y2⟩⟩
noncomputable def tyD:D->String
 |.non=>"NoneType"|.bl _=>"bool"|.int _=>"int"|.str _=>"str"|.tup _=>"tuple"|.lst _=>"list"|.dk _=>"dict"|.dt _=>"dict"
noncomputable def isD(T:String)(d:D):Bool:=tyD d == T || (tyD d == "bool" && T == "int")
noncomputable def GE:AC:=fun xs Z Q=>∃x d T,xs=[x,.r (.ty T)]/\bg Z x=some d/\T∈jP/\Q (.d (.bl (isD T d))) Z
theorem DK{H:Hp}{d:D}{v:V}(h:Dat H d v):fw H v=some (tyD d):=by
 cases d<;>simp only[Dat] at h
 all_goals first
  |(subst h;rfl)
  |(obtain⟨a,xs,rfl,h,_⟩:=h;simp[fw,h,tyD])
theorem tM:ln (fun xs H Q=>∃x T,xs=[x,.ty T]/\T∈jP/\(fw H x).isSome=true/\Q (.bl (isA H x T)) H) GE:=⟨fun F H Z vs xs Q Q' rp rv ⟨x,d,T,e1,e2,e3,q⟩ k=>by
 subst e1;obtain⟨v,u,rfl,r1,r2⟩:=Gr rv;cases (show u=.ty T from r2)
 have ht:=DK (gx rp r1 e2);refine⟨v,T,rfl,e3,by rw[ht];rfl,?_⟩
 have:isA H v T=isD T d:=by simp[isA,ht,isD]
 rw[this]
 exact k.bl rp q⟩
noncomputable def GH:A2:=fun x y Z Q=>∃ds es,bg Z x=some (.lst ds)/\bg Z y=some (.lst es)/\ds.length+es.length<=sizeLine/\Q (.d (.lst (ds++es))) Z
theorem FX:eT CP GH:=⟨fun F H Z v u x y Q Q' rp h1 h2 ⟨ds,es,e1,e2,z,q⟩ k=>by
 obtain⟨a,vs,rfl,z1,z2⟩:=gj rp h1 e1;obtain⟨b,us,rfl,z3,z4⟩:=gj rp h2 e2
 exact⟨a,b,vs,us,rfl,rfl,z1,z3,by rw[z2.length,z4.length];exact z,k.lst rp (z2.append z4) q⟩⟩
noncomputable def AM:A2:=fun x y Z Q=>∃ds k,bg Z x=some (.lst ds)/\y=.d (.int k)/\-(2^63)<=k/\k<2^63/\ds.length*k.toNat<=sizeLine/\Q (.d (.lst (List.replicate k.toNat ds).flatten)) Z
theorem aG.rep{G:Hp}{ds:List D}{vs:List V}(h:aG G ds vs):∀n:Nat,aG G (List.replicate n ds).flatten (List.replicate n vs).flatten
 |0=>by simp[aG]
 |n+1=>by
  simp only[List.replicate_succ,List.flatten_cons];exact h.append (h.rep n)
theorem FI:eT BZ AM:=⟨fun F H Z v u x y Q Q' rp h1 h2 ⟨ds,k',e1,e2,b1,b2,z,q⟩ k=>by
 subst e2;obtain⟨a,vs,rfl,z1,z2⟩:=gj rp h1 e1
 exact⟨a,k',vs,rfl,bK h2,z1,b1,b2,by rw[z2.length];exact z,k.lst rp (z2.rep _) q⟩⟩
noncomputable def yW(r r':A2)(ta tb tc:AE):AE:=fun ρ Z Q=>ta ρ Z fun x Z1=>tb ρ Z1 fun y Z2=>r x y Z2 fun z Z3=>∃k,z=.d (.bl k)/\(if k=true then tc ρ Z3 fun w Z4=>r' y w Z4 Q else Q (.d (.bl false)) Z3)
theorem vU{r r2:R2}{r' r2':A2}{ta tb tc:TE}{ta' tb' tc':AE}(h1:eT r r')(h2:eT r2 r2')(ha:bf ta ta')(hb:bf tb tb')(hc:bf tc tc'):bf (zK r r2 ta tb tc) (yW r' r2' ta' tb' tc'):=⟨fun F H Z σ ρ Q Q' rp rs w k=>
 ha.go rp rs w fun x Z1 v H1 rp1 fr1 rs1 rv1 q1=>hb.go rp1 rs1 q1 fun y Z2 u H2 rp2 fr2 rs2 rv2 q2=>h1.run F H2 Z2 v u x y _ _ rp2 (rv1.same fr2.same) rv2 q2 fun z Z3 zv H3 rp3 fr3 rv3 ⟨c,e,q⟩=>by
  subst e;refine⟨c,Bd rv3,?_⟩;have fr:=(fr1.trans fr2).trans fr3
  cases c with
  |true=>
   rw[if_pos rfl] at q ⊢;exact hc.go rp3 (rs2.same fr3.same) q fun w' Z4 wv H4 rp4 fr4 rs4 rv4 q4=>h2.run F H4 Z4 u wv y w' Q Q' rp4 (rv2.same (fr3.trans fr4).same) rv4 q4 (k.fr (fr.trans fr4))
  |false=>
   rw[if_neg Bool.false_ne_true] at q ⊢
   exact k _ Z3 _ H3 rp3 fr (by simp[RV,Dat]) q⟩
section
variable{X:Cx}{tg:Expr}
noncomputable def zM:D->Bool
 |.str _=>false
 |_=>true
theorem nG(hg:X.A.guards=some [])(hu:X.A.units+100<cLine):c6 X (.builtin "repr") (fun xs H Q=>∃(x:V)(d:D),xs=[x]/\Dat H d x/\zM d=true/\dep d<=90/\fit d=true/\wt d<=1000000/\Q (.str (qR d)) H):=by
 intro pins s σ H xs us Q I r h;obtain⟨x,d,rfl,hd,hs,hdp,hf,hw,q⟩:=h;obtain⟨u,rfl,ru⟩:=gi r
 cases d with
 |non=>
  simp only[Dat] at hd;subst hd;cases (show u=Value.none from ru)
  exact PySem.P.repr_of_none ⟨.str (qR .non),H,I.tok _,⟨_,rfl⟩,q⟩
 |bl b=>
  simp only[Dat] at hd;subst hd;cases (show u=Value.bool b from ru)
  exact PySem.P.repr_of_bool ⟨.str (qR (.bl b)),H,I.tok _,⟨_,by cases b<;>rfl⟩,q⟩
 |int i=>
  simp only[Dat] at hd;subst hd;obtain⟨t,rfl⟩:=ru;exact PySem.P.repr_of_int (by simpa[fit] using hf) ⟨.str (qR (.int i)),H,I.tok _,⟨_,rfl⟩,q⟩
 |str b=>cases hs
 |dk b=>simp[dep] at hdp
 |dt b=>simp[dep] at hdp
 |tup ds=>
  obtain⟨a,_,rfl,_⟩:=o9 hd;exact nn hg hu pins s σ H [.ref a] [u] Q I r ⟨a,_,rfl,hd,hdp,hf,hw,q⟩
 |lst ds=>
  obtain⟨a,_,rfl,_⟩:=pw hd;exact nn hg hu pins s σ H [.ref a] [u] Q I r ⟨a,_,rfl,hd,hdp,hf,hw,q⟩
noncomputable def rOr(r1 r2:R2):R2:=fun x y H Q=>r1 x y H Q\/r2 x y H Q
theorem aB{f:Value->Value->Sem Value}{r1 r2:R2}(h1:OpR X f r1)(h2:OpR X f r2):OpR X f (rOr r1 r2):=fun pins s σ H x y v u Q I rx ry h=>by
 rcases h with h|h
 ·exact h1 pins s σ H x y v u Q I rx ry h
 ·exact h2 pins s σ H x y v u Q I rx ry h
noncomputable def qT(K:W.Frag):V->Option Int->Option Int->Hp->VK->Prop:=fun x lo hi H Q=>G7 K x lo hi H Q\/wS K x lo hi H Q
theorem uy(K:W.Frag)(hK:X.K=K):SlR X (qT K):=by
 subst hK;intro pins s σ H x v vl vu lo hi sl Q I rx hs pl pu h;rcases h with h|h
 ·exact Ct pins s σ H x v vl vu lo hi sl Q I rx hs pl pu h
 ·exact wC pins s σ H x v vl vu lo hi sl Q I rx hs pl pu h
noncomputable def HE(K:W.Frag)(tl:TE):TI:=fun σ H R=>tl σ H fun x H1=>(∃a,x=.ref a/\(∃xs,SqL K H1 a xs)/\R (Itl K a) H1)\/∃a,x=.ref a/\(∃xs,SqT K H1 a xs)/\R (Itt K a) H1
theorem cz(K:W.Frag)(hK:X.K=K){l:Expr}{tl:TE}(hl:PE X l tl):PI X tg l (HE K tl):=by
 subst hK;intro pins s σ H R I h;refine thn (hl pins s σ H _ I h) fun v s1 ⟨x,H1,I1,r1,q1⟩=>?_;rcases q1 with q1|q1
 ·obtain⟨a,e,⟨xs,hq⟩,q⟩:=q1
  subst e;cases r1;obtain⟨its,rv,p,hz⟩:=I1.list hq;refine wpAny_pyIter_list p.isList ?_;refine⟨s1.heap.objs.size,[s1.heap.objs.size],_,_,H1,rfl,I1.kept (t':=s1.toks) fun b o e=>Heap.get?_push_of_some _ e,yJ a _,⟨_,Heap.get?_push_size _ rfl,rfl,rfl⟩,fun b hb=>?_,q⟩;have e:b=s1.heap.objs.size:=by simpa using hb
  subst e;exact I1.IQ (Nat.le_refl _) (I1.hok.fresh (Nat.le_refl _))
 ·obtain⟨a,e,⟨xs,hq⟩,q⟩:=q1
  subst e;cases r1;obtain⟨its,rv,p,hz⟩:=I1.tuple hq;refine wpAny_pyIter_tuple (show s1.heap.IsTuple a its.toArray from p) ?_
  refine⟨s1.heap.objs.size,[s1.heap.objs.size],_,_,H1,rfl,I1.kept (t':=s1.toks) fun b o e=>Heap.get?_push_of_some _ e,vq a _,⟨_,Heap.get?_push_size _ rfl,rfl,rfl⟩,fun b hb=>?_,q⟩;have e:b=s1.heap.objs.size:=by simpa using hb
  subst e;exact I1.IQ (Nat.le_refl _) (I1.hok.fresh (Nat.le_refl _))
noncomputable def DJ(K:W.Frag)(ta tb:TE):TE:=fun σ H Q=>ta σ H fun x H1=>∃c,sB K x H1 c/\if c=true then tb σ H1 Q else Q x H1
noncomputable def Ei(K:W.Frag)(ta:TE):TE:=fun σ H Q=>ta σ H fun x H1=>∃c,sB K x H1 c/\Q (.bl (!c)) H1
variable{a b:Expr}{cq:List Expr}{pos:Pos}{ta tb:TE}
theorem mK(K:W.Frag)(hK:X.K=K)(ha:PE X a ta)(hb:PE X (.BoolOp .And (b::cq) pos) tb):PE X (.BoolOp .And (a::b::cq) pos) (DJ K ta tb):=.mk <| by
 subst hK;intro pins s σ H Q I h;refine BoolOp_and (thn (ha pins s σ H _ I h) fun v s1 ⟨x,H1,I1,r1,q1⟩=>?_);refine thn (uw pins s1 σ H1 x v (fun c H2=>H2=H1/\if c=true then tb σ H1 Q else Q x H1) I1 r1 ?_) fun c s2 ⟨H2,I2,e,q2⟩=>?_
 ·obtain⟨c,hc,q⟩:=q1
  exact⟨c,hc,rfl,q⟩
 ·subst e
  cases c with
  |true=>rw[if_pos rfl] at q2;exact hb pins s2 σ H2 Q I2 q2
  |false=>rw[if_neg Bool.false_ne_true] at q2;exact⟨x,H2,I2,r1,q2⟩
theorem Cr(K:W.Frag)(hK:X.K=K)(ha:PE X a ta):PE X (.UnaryOp .Not a pos) (Ei K ta):=.mk <| by
 subst hK;intro pins s σ H Q I h;refine UnaryOp_ (thn (ha pins s σ H _ I h) fun v s1 ⟨x,H1,I1,r1,q1⟩=>?_);refine not_of (thn (uw pins s1 σ H1 x v (fun c H2=>Q (.bl (!c)) H2) I1 r1 q1) fun c s2 ⟨H2,I2,q2⟩=>⟨.bl (!c),H2,I2,rfl,q2⟩)
end
noncomputable def D3(ta tb:AE):AE:=fun ρ Z Q=>ta ρ Z fun x Z1=>∃c,iw Z1 x=some c/\if c=true then tb ρ Z1 Q else Q x Z1
noncomputable def Ec(ta:AE):AE:=fun ρ Z Q=>ta ρ Z fun x Z1=>∃c,iw Z1 x=some c/\Q (.d (.bl (!c))) Z1
noncomputable def aSl(te:AE)(tl th:AO):AE:=fun ρ Z Q=>te ρ Z fun x Z1=>tl ρ Z1 fun lo Z2=>th ρ Z2 fun hi Z3=>match x with
 |.d (.tup ds)=>Q (.d (.tup (cL ds lo hi))) Z3
 |x=>∃ds,bg Z3 x=some (.lst ds)/\Q (.d (.lst (cL ds lo hi))) Z3
noncomputable def D7(te:AE):AI:=fun ρ Z R=>te ρ Z fun x Z1=>oM Z1 x fun d Z2=>∃ds,rD d=some ds/\R (ds.map AV.d) Z2
noncomputable def u7:A2:=fun x y Z Q=>match x with
 |.d (.int i)=>∃j,y=.d (.int j)/\Q (.d (.int (i+j))) Z
 |.d (.tup ds)=>∃es,y=.d (.tup es)/\ds.length+es.length<=sizeLine/\Q (.d (.tup (ds++es))) Z
 |x=>∃ds es,bg Z x=some (.lst ds)/\bg Z y=some (.lst es)/\ds.length+es.length<=sizeLine/\Q (.d (.lst (ds++es))) Z
noncomputable def Hg:A2:=fun x y Z Q=>match x with
 |.d (.int i)=>∃j,y=.d (.int j)/\o6 i j/\Q (.d (.int (i*j))) Z
 |x=>AM x y Z Q
noncomputable def As:AC:=fun xs Z Q=>∃x d,xs=[x]/\bg Z x=some d/\zM d=true/\dep d<=90/\fit d=true/\wt d<=1000000/\Q (.d (.str (qR d))) Z
section
variable{K:W.Frag}{te ta tb:TE}{te' ta' tb':AE}{tl th:TO}{tl' th':AO}{sa:TA}{sa':AA}
theorem qF(ha:bf ta ta')(hb:bf tb tb'):bf (DJ K ta tb) (D3 ta' tb'):=⟨fun F H Z σ ρ Q Q' rp rs h k=>
 ha.go rp rs h fun x Z1 v H1 rp1 fr1 rs1 rv1 ⟨c,e,q⟩=>⟨c,uB rp1 rv1 e,by
  cases c with
  |false=>rw[if_neg Bool.false_ne_true] at q ⊢;exact k x Z1 v H1 rp1 fr1 rv1 q
  |true=>rw[if_pos rfl] at q ⊢;exact hb.run F H1 Z1 σ ρ Q Q' rp1 rs1 q (k.fr fr1)⟩⟩
theorem EB(ha:bf ta ta'):bf (Ei K ta) (Ec ta'):=⟨fun F H Z σ ρ Q Q' rp rs h k=>
 ha.go rp rs h fun x Z1 v H1 rp1 fr1 rs1 rv1 ⟨c,e,q⟩=>⟨c,uB rp1 rv1 e,(k.fr fr1).bl rp1 q⟩⟩
theorem Gp(he:bf te te')(hl:Ref REq tl tl')(hh:Ref REq th th'):bf (tSl (qT K) te tl th) (aSl te' tl' th'):=⟨fun F H Z σ ρ Q Q' rp rs w k=>
 he.go rp rs w fun x Z1 v H1 rp1 fr1 rs1 rv1 q1=>hl.go rp1 rs1 q1 fun lo Z2 lo' H2 rp2 fr2 rs2 e2 q2=>hh.go rp2 rs2 q2 fun hi Z3 hi' H3 rp3 fr3 rs3 e3 q=>by
  cases (show lo=lo' from e2)
  cases (show hi=hi' from e3)
  have r:=rv1.same (fr2.trans fr3).same;have k3:=k.fr ((fr1.trans fr2).trans fr3)
  have ls:(∃ds,bg Z3 x=some (.lst ds)/\Q' (.d (.lst (cL ds lo hi))) Z3)->qT K v lo hi H3 Q:=fun⟨ds,e,q⟩=>by
   obtain⟨a,vs,rfl,z1,z2⟩:=gj rp3 r e;exact .inl ⟨a,vs,rfl,.inl (.inl z1),k3.lst rp3 z2.cut q⟩
  cases x with
  |d x=>cases x with
   |tup ds=>
    refine .inr ?_;have r':=r;simp only[RV,Dat] at r;obtain⟨a,vs,rfl,z1,z2⟩:=r;refine⟨a,vs,rfl,.inl (.inl (ba _ _ z1)),?_⟩;by_cases hw:HT.sIx vs.length 0 lo=0/\HT.sIx vs.length vs.length hi=vs.length
    ·rw[if_pos hw]
     have:cL ds lo hi=ds:=by
      unfold cL;rw[←z2.length,hw.1,hw.2,List.drop_zero,Nat.sub_zero,z2.length,List.take_length]
     replace q:Q' (.d (.tup (cL ds lo hi))) Z3:=q
     rw[this] at q;exact k3 _ Z3 _ H3 rp3 .refl r' q
    ·rw[if_neg hw]
     exact k3.tup rp3 z2.cut q
   |_=>exact ls q
  |_=>exact ls q⟩
theorem dP(h:bf te te'):tU (HE K te) (D7 te'):=⟨fun F H Z σ ρ R R' rp rs w k=>h.go rp rs w fun x Z1 v H1 rp1 fr1 rs1 rv q=>by
 obtain⟨d,Z2,rp2,fr2,hd,ds,hs,q2⟩:=Fe rp1 rv q
 cases d with
 |lst es=>
  cases hs;obtain⟨a,vs,rfl,ha⟩:=pw hd;exact .inl ⟨a,rfl,⟨vs,.inl (.inl (ba _ _ ha))⟩,k _ Z2 _ H1 rp2 (fr1.trans fr2) (Ch hd) q2⟩
 |tup es=>
  cases hs;obtain⟨a,vs,rfl,ha⟩:=o9 hd;exact .inr ⟨a,rfl,⟨vs,.inl (.inl (ba _ _ ha))⟩,k _ Z2 _ H1 rp2 (fr1.trans fr2) (FK hd) q2⟩
 |_=>cases hs⟩
theorem b8:eT (rOr (rI0 fun i j=>.int (i+j)) (rOr w5 CP)) u7:=⟨fun F H Z v u x y Q Q' rp h1 h2 q k=>by
 have ls:(∃ds es,bg Z x=some (.lst ds)/\bg Z y=some (.lst es)/\ds.length+es.length<=sizeLine/\Q' (.d (.lst (ds++es))) Z)->rOr (rI0 fun i j=>.int (i+j)) (rOr w5 CP) v u H Q:=fun q=>
  .inr (.inr (FX.run F H Z v u x y Q Q' rp h1 h2 q k))
 cases x with
 |d x=>cases x with
  |int i=>
   obtain⟨j,rfl,q⟩:=q;exact .inl ⟨i,j,bK h1,bK h2,k.int rp q⟩
  |tup ds=>
   obtain⟨es,rfl,z,q⟩:=q;exact .inr (.inl (F6.run F H Z v u _ _ Q Q' rp h1 h2 ⟨ds,es,rfl,rfl,z,q⟩ k))
  |_=>exact ls q
 |_=>exact ls q⟩
theorem og:eT (rOr (rI o6 fun i j=>.int (i*j)) BZ) Hg:=⟨fun F H Z v u x y Q Q' rp h1 h2 q k=>by
 have ls:AM x y Z Q'->rOr (rI o6 fun i j=>.int (i*j)) BZ v u H Q:=fun q=>.inr (FI.run F H Z v u x y Q Q' rp h1 h2 q k)
 cases x with
 |d x=>cases x with
  |int i=>
   obtain⟨j,rfl,c,q⟩:=q;exact .inl ⟨i,j,bK h1,bK h2,c,k.int rp q⟩
  |_=>exact ls q
 |_=>exact ls q⟩
theorem xK:ln (fun xs H Q=>∃(x:V)(d:D),xs=[x]/\Dat H d x/\zM d=true/\dep d<=90/\fit d=true/\wt d<=1000000/\Q (.str (qR d)) H) As:=⟨fun F H Z vs xs Q Q' rp rv ⟨x,d,e1,e2,e3,h1,h2,h3,q⟩ k=>by
 subst e1;obtain⟨v,rfl,r⟩:=i3 rv
 exact⟨v,d,rfl,gx rp r e2,e3,h1,h2,h3,k.str rp q⟩⟩
end
theorem k6{X:Cx}(K:W.Frag)(hK:X.K=K)(hc:X.calm=true):c6 X (.builtin "sum") (fun xs H Q=>(∃(a:Addr)(ns:List Int),xs=[.ref a]/\SqL K H a (ns.map V.int)/\Q (.int ns.sum) H)\/∃(a:Addr)(ns:List Int),xs=[.ref a]/\SqT K H a (ns.map V.int)/\Q (.int ns.sum) H):=by
 subst hK;intro pins s σ H xs us Q I r h;rcases h with h|h
 ·exact Ar hc pins s σ H xs us Q I r h
 ·exact yd hc pins s σ H xs us Q I r h
noncomputable def DF:AC:=fun xs Z Q=>∃(x:AV)(d:D)(ns:List Int),xs=[x]/\bg Z x=some d/\rD d=some (ns.map D.int)/\Q (.d (.int ns.sum)) Z
theorem uR{K:W.Frag}:ln (fun xs H Q=>(∃(a:Addr)(ns:List Int),xs=[.ref a]/\SqL K H a (ns.map V.int)/\Q (.int ns.sum) H)\/∃(a:Addr)(ns:List Int),xs=[.ref a]/\SqT K H a (ns.map V.int)/\Q (.int ns.sum) H) DF:=⟨fun F H Z vs xs Q Q' rp rv ⟨x,d,ns,e1,e2,e3,q⟩ k=>by
 subst e1;obtain⟨v,rfl,r⟩:=i3 rv;have hd:=gx rp r e2
 cases d with
 |lst ds=>
  cases e3;simp only[Dat] at hd;obtain⟨a,us,rfl,q1,q2⟩:=hd;cases d8 q2;exact .inl ⟨a,ns,rfl,.inl (.inl q1),k.int rp q⟩
 |tup ds=>
  cases e3;simp only[Dat] at hd;obtain⟨a,us,rfl,q1,q2⟩:=hd;cases d8 q2;exact .inr ⟨a,ns,rfl,.inl (.inl q1),k.int rp q⟩
 |_=>cases e3⟩
noncomputable def vD:V->Option D
 |.non=>some .non
 |.bl b=>some (.bl b)
 |.int i=>some (.int i)
 |.str x=>some (.str x)
 |_=>none
noncomputable def Dl(kvs:List (Str×V))(ty:AE):AE:=fun ρ Z Q=>ty ρ Z fun y Z1=>∃x v d,y=.d (.str x)/\jI kvs x=some v/\vD v=some d/\Q (.d d) Z1
theorem Av{kvs:List (Str×V)}{a:Addr}{ty:TE}{ty':AE}(h:bf ty ty'):bf (DG kvs (tC (.ref a)) ty) (Dl kvs ty'):=⟨fun F H Z σ ρ Q Q' rp rs w k=>h.go rp rs w fun y Z1 u H1 rp1 fr1 rs1 rv ⟨x,v,d,e1,e2,e3,q⟩=>by
 subst e1;refine⟨x,v,dI rv,e2,?_⟩;refine k (.d d) Z1 v H1 rp1 fr1 ?_ q;cases v<;>simp only[vD,Option.some.injEq,reduceCtorEq] at e3
 all_goals (subst e3;simp[RV,Dat])⟩
noncomputable def jc(N:List Str)(xs:List AV):SA:=xs.map some++List.replicate (N.length-xs.length) none
theorem RS.start{G:Hp}{N:List Str}{xs:List AV}{vs:List V}(h:RVs G xs vs):RS G (jc N xs) (start N vs):=by
 refine⟨by simp[jc,L2.start,h.length],fun i a e=>?_⟩
 unfold jc at e;unfold L2.start;by_cases hi:i<xs.length
 ·rw[List.getElem?_append_left (by simpa using hi),List.getElem?_map] at e
  rw[List.getElem?_append_left (by simpa[h.length] using hi),List.getElem?_map]
  cases z:xs[i]? with
  |none=>rw[z] at e;simp at e
  |some b=>
   rw[z] at e;simp at e;subst e;obtain⟨v,e1,e2⟩:=h.get z;exact⟨v,by rw[e1];rfl,e2⟩
 ·rw[List.getElem?_append_right (by simpa using hi)] at e
  have:=List.mem_of_getElem? e;rw[List.mem_replicate] at this;cases this.2
theorem Fun.okA{P:Program}{w:World}{K:W.Frag}{mg:Str->Option Value}{base:Heap}{x qual:Str}{st:Stmt}{f:Addr}{fd:FuncData}{N ps:List Str}{k:Nat}{sp:ASp}(F:Fun K x qual st f fd)(S:aM N ps (defScope st))(len:∀xs Z Q,sp xs Z Q->xs.length=ps.length)
  (hbody:∀(cdv:Value)(A:Around)(outer:List Env)(s:Shared)(H:Hp)(E:XK),eZ k (A.deeper (envOfC qual (defScope st) s.heap.objs.size f cdv)) ->
   ∃t t',PSs (oQ CX0 P w K mg base N qual (defScope st) f cdv A outer s H E).nox (defBody st) t/\gJ t t'/\∀xs Z Q',sp xs Z Q'->t' { nx:=fun _ Z'=>Q' (.d .non) Z',rt:=Q' } (jc N xs) Z):aD P w K mg base CX0 (k+1) f fd ps (bz sp):=by
 refine F.ok S (fun vs H Q E h=>?_) (fun cdv A outer s H vs Q E hr h=>?_)
 ·obtain⟨F,xs,Z,Q',rp,rv,h,_⟩:=h
  rw[rv.length,len xs Z Q' h]
 ·obtain⟨t,t',h1,h2,h3⟩:=hbody cdv A outer s H E hr
  obtain⟨F,xs,Z,Q',rp,rv,h,kq⟩:=h;refine⟨t,h1,h2.run F H Z _ _ _ _ rp (RS.start rv) (h3 xs Z Q' h) ⟨?_,kq,fun _ _ _ _ _ _ _ z=>z.elim,fun _ _ _ _ _ _ _ z=>z.elim⟩⟩;exact fun ρ' Z' σ' H' e1 e2 e3 q=>kq (.d .non) Z' .non H' e1 e2 (by simp[RV,Dat]) q
theorem sI(D:dn)(ρ:SA)(Z:Om):Eh D ρ Z=(D.nx ρ Z):=rfl
theorem w6(t u:AS)(D:dn)(ρ:SA)(Z:Om):xZ t u D ρ Z=(t { D with nx:=u D } ρ Z):=rfl
theorem tN(te:AE)(D:dn)(ρ:SA)(Z:Om):C6 te D ρ Z=(te ρ Z fun _ Z1=>D.nx ρ Z1):=rfl
theorem wT(te:AE)(D:dn)(ρ:SA)(Z:Om):G0 te D ρ Z=(te ρ Z D.rt):=rfl
theorem xb(c:AT)(t u:AS)(D:dn)(ρ:SA)(Z:Om):GV c t u D ρ Z=(c ρ Z fun b Z1=>if b=true then t D ρ Z1 else u D ρ Z1):=rfl
theorem vC(te:AE)(g:AG)(D:dn)(ρ:SA)(Z:Om):EI te g D ρ Z=(te ρ Z fun x Z1=>g x ρ Z1 D.nx):=rfl
theorem gZ(i:Nat)(v:AV)(ρ:SA)(Z:Om)(Q:SA->Om->Prop):ll i v ρ Z Q=(Q (ρ.set i (some v)) Z):=rfl
theorem ub(vs:List AV)(ρ:SA)(Z:Om)(Q:SA->Om->Prop):CZ vs ρ Z Q=(vs=[]/\Q ρ Z):=rfl
theorem pF(t:AG)(u:AGs)(vs:List AV)(ρ:SA)(Z:Om)(Q:SA->Om->Prop):AH t u vs ρ Z Q=(∃v r,vs=v::r/\t v ρ Z fun ρ' Z'=>u r ρ' Z' Q):=rfl
theorem wm(wi:AI)(g:AG)(tb:AS)(D:dn)(ρ:SA)(Z:Om):Hr wi g tb D ρ Z=(wi ρ Z fun as Z1=>jM g tb D as ρ Z1):=rfl
theorem uU(z0:SA)(Z:Om)(Q:Bool->Om->Prop):mB z0 Z Q=(Q true Z):=rfl
theorem nA(te:AE)(xs:List AV)(ρ:SA)(Z:Om)(K:List AV->SA->Om->Prop):nR te xs ρ Z K=(te ρ Z fun y Z1=>xs.length<sizeLine/\K (xs++[y]) ρ Z1):=rfl
theorem xj(i:Nat)(ρ:SA)(Z:Om)(Q:AV->Om->Prop):EU i ρ Z Q=(∃a,ρ[i]?=some (some a)/\Q a Z):=rfl
theorem Ed(d:D)(z0:SA)(Z:Om)(Q:AV->Om->Prop):aC d z0 Z Q=(Q (.d d) Z):=rfl
theorem BI(r:A2)(ta tb:AE)(ρ:SA)(Z:Om)(Q:AV->Om->Prop):aOp r ta tb ρ Z Q=(ta ρ Z fun x Z1=>tb ρ Z1 fun y Z2=>r x y Z2 Q):=rfl
theorem wR(z0:SA)(Z:Om)(Q:List AV->Om->Prop):GJ z0 Z Q=(Q [] Z):=rfl
theorem rZ(ta:AE)(tr:AA)(ρ:SA)(Z:Om)(Q:List AV->Om->Prop):DA ta tr ρ Z Q=(ta ρ Z fun x Z1=>tr ρ Z1 fun xs Z2=>Q (x::xs) Z2):=rfl
theorem wI(t:AA)(ρ:SA)(Z:Om)(Q:AV->Om->Prop):Gx t ρ Z Q=(t ρ Z fun xs Z1=>xs.length<=sizeLine/\∃ds,und xs=some ds/\Q (.d (.tup ds)) Z1):=rfl
theorem vX(t:AA)(ρ:SA)(Z:Om)(Q:AV->Om->Prop):GX t ρ Z Q=(t ρ Z fun xs Z1=>xs.length<=sizeLine/\∃ds,und xs=some ds/\Q (.d (.lst ds)) Z1):=rfl
theorem tS(t:AA)(ρ:SA)(Z:Om)(Q:AV->Om->Prop):C4 t ρ Z Q=(t ρ Z fun xs Z1=>xs.length<=sizeLine/\∀p,Z1 p=none->Q (.r (.ref p)) (Z1.put p (.own xs))):=rfl
theorem rY(sp:ASp)(t:AA)(ρ:SA)(Z:Om)(Q:AV->Om->Prop):Dd sp t ρ Z Q=(t ρ Z fun xs Z1=>sp xs Z1 Q):=rfl
theorem tG(t:AE)(ρ:SA)(Z:Om)(Q:Bool->Om->Prop):D4 t ρ Z Q=(t ρ Z fun x Z1=>∃k,x=.d (.bl k)/\Q k Z1):=rfl
theorem wN(t u:AT)(ρ:SA)(Z:Om)(Q:Bool->Om->Prop):Gc t u ρ Z Q=(t ρ Z fun c Z1=>if c=true then u ρ Z1 Q else Q false Z1):=rfl
theorem Be(t u:AT)(ρ:SA)(Z:Om)(Q:Bool->Om->Prop):aOr t u ρ Z Q=(t ρ Z fun c Z1=>if c=true then Q true Z1 else u ρ Z1 Q):=rfl
theorem vH(t:AT)(ρ:SA)(Z:Om)(Q:Bool->Om->Prop):GD t ρ Z Q=(t ρ Z fun c Z1=>Q (!c) Z1):=rfl
theorem xu(v:V)(z0:SA)(Z:Om)(Q:AV->Om->Prop):G6 v z0 Z Q=(Q (.r v) Z):=rfl
theorem wE(ta:AE)(ρ:SA)(Z:Om)(Q:Bool->Om->Prop):Gy ta ρ Z Q=(ta ρ Z fun x Z1=>∃k,iw Z1 x=some k/\Q k Z1):=rfl
theorem Ao(f:Int->Int->D)(x:AV)(y:AV)(Z:Om)(Q:AV->Om->Prop):aI0 f x y Z Q=(∃i j,x=.d (.int i)/\y=.d (.int j)/\Q (.d (f i j)) Z):=rfl
theorem Dq(C:Int->Int->Prop)(f:Int->Int->D)(x:AV)(y:AV)(Z:Om)(Q:AV->Om->Prop):aI C f x y Z Q=(∃i j,x=.d (.int i)/\y=.d (.int j)/\C i j/\Q (.d (f i j)) Z):=rfl
theorem xp(neg:Bool)(x:AV)(y:AV)(Z:Om)(Q:AV->Om->Prop):F7 neg x y Z Q=(∃a b,bg Z x=some a/\bg Z y=some b/\dep a<=100/\Q (.d (.bl (if neg then !eqD a b else eqD a b))) Z):=rfl
theorem Bm(neg:Bool)(x:AV)(y:AV)(Z:Om)(Q:AV->Om->Prop):aIn neg x y Z Q=(∃a b ds,bg Z x=some a/\bg Z y=some b/\(b=.lst ds\/b=.tup ds)/\dY ds<=90/\Q (.d (.bl (if neg then !inD a ds else inD a ds))) Z):=rfl
theorem zk(x:AV)(y:AV)(Z:Om)(Q:AV->Om->Prop):aIx x y Z Q=(∃xs i a,(eC Z x=some xs\/ik x=some xs)/\y=.d (.int i)/\atI xs i=some a/\Q a Z):=rfl
theorem wn(xs:List AV)(Z:Om)(Q:AV->Om->Prop):Hd xs Z Q=(∃x n,xs=[x]/\lH Z x=some n/\Q (.d (.int n)) Z):=rfl
theorem xv(f:List Bool->Bool)(xs:List AV)(Z:Om)(Q:AV->Om->Prop):Gi f xs Z Q=(∃x bs,xs=[x]/\bg Z x=some (.lst (bs.map D.bl))/\Q (.d (.bl (f bs))) Z):=rfl
theorem y8(f:Int->Int)(xs:List AV)(Z:Om)(Q:AV->Om->Prop):aF1 f xs Z Q=(∃i,xs=[.d (.int i)]/\Q (.d (.int (f i))) Z):=rfl
theorem xC(xs:List AV)(Z:Om)(Q:AV->Om->Prop):GZ xs Z Q=(∃d i,xs=[.d d]/\yl d=some i/\Q (.d (.int i)) Z):=rfl
theorem pV(xs:List AV)(Z:Om)(Q:AV->Om->Prop):Bj xs Z Q=(∃x ds,xs=[x]/\(bg Z x=some (.lst ds)\/x=.d (.tup ds))/\Q (.d (.tup ds)) Z):=rfl
theorem pU(ta:AA)(ρ:SA)(Z:Om)(R:List AV->Om->Prop):yV ta ρ Z R=(ta ρ Z fun xs Z1=>∃j:Int,xs=[.d (.int j)]/\-(2^62)<=j/\j<2^62/\R (jG 0 j.toNat) Z1):=rfl
theorem pY(ta:AA)(ρ:SA)(Z:Om)(R:List AV->Om->Prop):zw ta ρ Z R=(ta ρ Z fun xs Z1=>∃i j:Int,xs=[.d (.int i),.d (.int j)]/\(-(2^62)<=i/\i<2^62/\-(2^62)<=j/\j<2^62)/\R (jG i (j-i).toNat) Z1):=rfl
theorem sj(n:Nat)(t:AGs)(v:AV)(ρ:SA)(Z:Om)(Q:SA->Om->Prop):DX n t v ρ Z Q=(∃ds,v=.d (.tup ds)/\ds.length=n/\t (ds.map AV.d) ρ Z Q):=rfl
theorem sS(n:Nat)(t:AGs)(v:AV)(ρ:SA)(Z:Om)(Q:SA->Om->Prop):D2 n t v ρ Z Q=(∃xs,eC Z v=some xs/\xs.length=n/\t xs ρ Z Q):=rfl
theorem ue(to ti:AE)(v:AV)(ρ:SA)(Z:Om)(Q:SA->Om->Prop):Dr to ti v ρ Z Q=(to ρ Z fun o Z1=>ti ρ Z1 fun i Z2=>∃l k xs j,o=.r (.ref l)/\i=.d (.int k)/\Z2 l=some (.own xs)/\ixN xs.length k=some j/\Q ρ (Z2.put l (.own (xs.set j v)))):=rfl
theorem pA(z0:SA)(Z:Om)(Q:Option Int->Om->Prop):AN z0 Z Q=(Q none Z):=rfl
theorem p4(t:AE)(ρ:SA)(Z:Om)(Q:Option Int->Om->Prop):Aj t ρ Z Q=(t ρ Z fun x Z1=>∃i,x=.d (.int i)/\Q (some i) Z1):=rfl
theorem ng(to:AE)(t:AA)(ρ:SA)(Z:Om)(Q:AV->Om->Prop):xL to t ρ Z Q=(to ρ Z fun x Z1=>∃l,x=.r (.ref l)/\(∃zs,Z1 l=some (.own zs))/\t ρ Z1 fun ys Z2=>∃xs y,ys=[y]/\Z2 l=some (.own xs)/\xs.length<sizeLine/\Q (.d .non) (Z2.put l (.own (xs++[y])))):=rfl
theorem nV(xs:List AV)(Z:Om)(Q:AV->Om->Prop):w9 xs Z Q=(∃(x:AV) (W:List (List Int)),xs=[x]/\bg Z x=some (.lst (W.map wdD))/\(∀y∈W,y≠[])/\W.length<64/\Q (.d (.lst ((fZ W).map wdD))) Z):=rfl
theorem vV(xs:List AV)(Z:Om)(Q:AV->Om->Prop):GE xs Z Q=(∃x d T,xs=[x,.r (.ty T)]/\bg Z x=some d/\T∈jP/\Q (.d (.bl (isD T d))) Z):=rfl
theorem pJ(r r':A2)(ta tb tc:AE)(ρ:SA)(Z:Om)(Q:AV->Om->Prop):yW r r' ta tb tc ρ Z Q=(ta ρ Z fun x Z1=>tb ρ Z1 fun y Z2=>r x y Z2 fun z Z3=>∃k,z=.d (.bl k)/\(if k=true then tc ρ Z3 fun w Z4=>r' y w Z4 Q else Q (.d (.bl false)) Z3)):=rfl
theorem tz(ta tb:AE)(ρ:SA)(Z:Om)(Q:AV->Om->Prop):D3 ta tb ρ Z Q=(ta ρ Z fun x Z1=>∃c,iw Z1 x=some c/\if c=true then tb ρ Z1 Q else Q x Z1):=rfl
theorem sD(ta:AE)(ρ:SA)(Z:Om)(Q:AV->Om->Prop):Ec ta ρ Z Q=(ta ρ Z fun x Z1=>∃c,iw Z1 x=some c/\Q (.d (.bl (!c))) Z1):=rfl
theorem so(te:AE)(ρ:SA)(Z:Om)(R:List AV->Om->Prop):D7 te ρ Z R=(te ρ Z fun x Z1=>oM Z1 x fun d Z2=>∃ds,rD d=some ds/\R (ds.map AV.d) Z2):=rfl
theorem pX(xs:List AV)(Z:Om)(Q:AV->Om->Prop):As xs Z Q=(∃x d,xs=[x]/\bg Z x=some d/\zM d=true/\dep d<=90/\fit d=true/\wt d<=1000000/\Q (.d (.str (qR d))) Z):=rfl
theorem rN(xs:List AV)(Z:Om)(Q:AV->Om->Prop):DF xs Z Q=(∃(x:AV)(d:D)(ns:List Int),xs=[x]/\bg Z x=some d/\rD d=some (ns.map D.int)/\Q (.d (.int ns.sum)) Z):=rfl
theorem sA(src:List (Option Nat))(wi:AI)(g:AG)(tc:AT)(l:AL)(ρ:SA)(Z:Om)(Q:AV->Om->Prop):Dx src wi g tc l ρ Z Q=(wi ρ Z fun as Z1=>eE g tc l as [] (oI src ρ) Z1 fun xs _ Z'=>∃ds,und xs=some ds/\Q (.d (.lst ds)) Z'):=rfl
theorem ph(src:List (Option Nat))(wi:AI)(g:AG)(tc:AT)(l:AL)(ρ:SA)(Z:Om)(Q:AV->Om->Prop):A0 src wi g tc l ρ Z Q=(wi ρ Z fun as Z1=>eE g tc l as [] (oI src ρ) Z1 fun xs _ Z'=>∀p,Z' p=none->Q (.r (.ref p)) (Z'.put p (.own xs))):=rfl
theorem zC(r:AV->Om->(AV->Om->Prop)->Prop)(ta:AE)(ρ:SA)(Z:Om)(Q:AV->Om->Prop):aUn r ta ρ Z Q=(ta ρ Z fun x Z1=>r x Z1 Q):=rfl
theorem zL(r:List AV->Om->(AV->Om->Prop)->Prop)(t:AA)(ρ:SA)(Z:Om)(Q:AV->Om->Prop):aCB r t ρ Z Q=(t ρ Z fun xs Z1=>r xs Z1 Q):=rfl
theorem Ef(f:Int->D)(x:AV)(Z:Om)(Q:AV->Om->Prop):aU f x Z Q=(∃i,x=.d (.int i)/\Q (.d (f i)) Z):=rfl
theorem sN(kvs:List (Str×V))(ty:AE)(ρ:SA)(Z:Om)(Q:AV->Om->Prop):Dl kvs ty ρ Z Q=(ty ρ Z fun y Z1=>∃x v d,y=.d (.str x)/\jI kvs x=some v/\vD v=some d/\Q (.d d) Z1):=rfl
theorem sE(i:Int)(y:AV)(Z:Om)(Q:AV->Om->Prop):u7 (.d (.int i)) y Z Q=(∃j,y=.d (.int j)/\Q (.d (.int (i+j))) Z):=rfl
theorem kS(ds:List D)(y:AV)(Z:Om)(Q:AV->Om->Prop):u7 (.d (.tup ds)) y Z Q=(∃es,y=.d (.tup es)/\ds.length+es.length<=sizeLine/\Q (.d (.tup (ds++es))) Z):=rfl
theorem tK(ds:List D)(y:AV)(Z:Om)(Q:AV->Om->Prop):u7 (.d (.lst ds)) y Z Q=(∃es,bg Z y=some (.lst es)/\ds.length+es.length<=sizeLine/\Q (.d (.lst (ds++es))) Z):=by
 show (∃ds' es,bg Z (.d (.lst ds))=some (.lst ds')/\bg Z y=some (.lst es)/\ds'.length+es.length<=sizeLine/\Q (.d (.lst (ds'++es))) Z)=_;simp only[bg,Option.some.injEq,D.lst.injEq,exists_eq_left',exists_and_left]
theorem tB(i:Int)(y:AV)(Z:Om)(Q:AV->Om->Prop):Hg (.d (.int i)) y Z Q=(∃j,y=.d (.int j)/\o6 i j/\Q (.d (.int (i*j))) Z):=rfl
noncomputable def slA(x:AV)(lo hi:Option Int)(Z:Om)(Q:AV->Om->Prop):Prop:=match x with
 |.d (.tup ds)=>Q (.d (.tup (cL ds lo hi))) Z
 |x=>∃ds,bg Z x=some (.lst ds)/\Q (.d (.lst (cL ds lo hi))) Z
theorem q8(ds:List D)(lo hi:Option Int)(Z:Om)(Q:AV->Om->Prop):slA (.d (.lst ds)) lo hi Z Q=Q (.d (.lst (cL ds lo hi))) Z:=by
 show (∃ds',bg Z (.d (.lst ds))=some (.lst ds')/\Q (.d (.lst (cL ds' lo hi))) Z)=_;simp only[bg,Option.some.injEq,D.lst.injEq,exists_eq_left']
theorem Cm(l:Addr)(lo hi:Option Int)(Z:Om)(Q:AV->Om->Prop):slA (.r (.ref l)) lo hi Z Q=(∃ds,bg Z (.r (.ref l))=some (.lst ds)/\Q (.d (.lst (cL ds lo hi))) Z):=rfl
theorem Bz(te:AE)(tl th:AO)(ρ:SA)(Z:Om)(Q:AV->Om->Prop):aSl te tl th ρ Z Q=(te ρ Z fun x Z1=>tl ρ Z1 fun lo Z2=>th ρ Z2 fun hi Z3=>slA x lo hi Z3 Q):=rfl
theorem BN(Z:Om)(x:D)(K:D->Om->Prop):oM Z (.d x) K=K x Z:=rfl
theorem zq(Z:Om)(x:D):bg Z (.d x)=some x:=rfl
theorem qM(Z:Om)(l:Addr):bg Z (.r (.ref l))=(match Z l with
  |some (.own xs)=>(und xs).map D.lst
  |some (.frz ds)=>some (.lst ds)
  |_=>none):=rfl
theorem Bh(Z:Om)(ds:List D):eC Z (.d (.lst ds))=some (ds.map AV.d):=rfl
theorem zf(Z:Om)(ds:List D):eC Z (.d (.tup ds))=none:=rfl
theorem zJ(Z:Om)(l:Addr):eC Z (.r (.ref l))=(match Z l with
  |some (.own xs)=>some xs
  |some (.frz ds)=>some (ds.map AV.d)
  |_=>none):=rfl
theorem Aq(ds:List D):ik (.d (.tup ds))=some (ds.map AV.d):=rfl
theorem BP(ds:List D):ik (.d (.lst ds))=none:=rfl
theorem AX(v:V):ik (.r v)=none:=rfl
theorem Bq(Z:Om)(b:Bool):iw Z (.d (.bl b))=some b:=rfl
theorem Ax(Z:Om)(l:Addr):iw Z (.r (.ref l))=(eC Z (.r (.ref l))).map fun xs=>!xs.isEmpty:=rfl
theorem tZ(x:D)(r:List AV):und (.d x::r)=(und r).map (x::·):=rfl
theorem xm:und []=some []:=rfl
theorem AD(Z:Om)(ds:List D):lH Z (.d (.tup ds))=some ds.length:=by simp[lH,ik]
theorem Am(Z:Om)(ds:List D):lH Z (.d (.lst ds))=some ds.length:=by simp[lH,ik,eC]
theorem Ap(ds:List D):rD (.tup ds)=some ds:=rfl
theorem BE(ds:List D):rD (.lst ds)=some ds:=rfl
theorem A6{g:AG}{tb:AS}{D:dn}{as:List AV}{ρ:SA}{Z:Om}(I:Nat->SA->Om->Prop)(h0:I 0 ρ Z)(hs:∀(i:Nat)(a:AV)(ρ:SA)(Z:Om)(N:SA->Om->Prop),as[i]?=some a->I i ρ Z->(∀ρ' Z',I (i+1) ρ' Z'->N ρ' Z')->g a ρ Z fun ρ1 Z1=>tb { nx:=N,ct:=N,bk:=D.nx,rt:=D.rt } ρ1 Z1)(hd:∀ρ Z,I as.length ρ Z->D.nx ρ Z):jM g tb D as ρ Z:=by
 have key:∀(n i:Nat)(ρ:SA)(Z:Om),i+n=as.length->I i ρ Z->jM g tb D (as.drop i) ρ Z:=by
  intro n
  induction n with
  |zero=>intro i ρ Z hi h;rw[List.drop_eq_nil_of_le (by omega)];exact hd ρ Z (by rw[←hi];exact h)
  |succ n ih=>
   intro i ρ Z hi h;obtain⟨a,ha,hdr⟩:=jt (as:=as) (i:=i) (by omega)
   rw[hdr];exact hs i a ρ Z _ ha h fun ρ' Z' h'=>ih (i+1) ρ' Z' (by omega) h'
 simpa using key as.length 0 ρ Z (by omega) h0
theorem wf{g:AG}{tb:AS}{D:dn}{ds:List L2.D}{ρ:SA}{Z:Om}(I:Nat->SA->Om->Prop)(h0:I 0 ρ Z)(hs:∀(i:Nat)(d:L2.D)(ρ:SA)(Z:Om)(N:SA->Om->Prop),ds[i]?=some d->I i ρ Z->(∀ρ' Z',I (i+1) ρ' Z'->N ρ' Z')->g (.d d) ρ Z fun ρ1 Z1=>tb { nx:=N,ct:=N,bk:=D.nx,rt:=D.rt } ρ1 Z1)(hd:∀ρ Z,I ds.length ρ Z->D.nx ρ Z):jM g tb D (ds.map AV.d) ρ Z:=
 A6 I h0 (fun i a ρ Z N ha h k=>by
  rw[List.getElem?_map,Option.map_eq_some_iff] at ha;obtain⟨d,h1,rfl⟩:=ha
  exact hs i d ρ Z N h1 h k) (fun ρ Z h=>hd ρ Z (by simpa using h))
theorem jq{g:AG}{tb:AS}{D:dn}{lo:Int}{n:Nat}{ρ:SA}{Z:Om}(I:Nat->SA->Om->Prop)(h0:I 0 ρ Z)(hs:∀(i:Nat)(ρ:SA)(Z:Om)(N:SA->Om->Prop),i<n->I i ρ Z->(∀ρ' Z',I (i+1) ρ' Z'->N ρ' Z')->g (.d (.int (lo+(i:Nat)))) ρ Z fun ρ1 Z1=>tb { nx:=N,ct:=N,bk:=D.nx,rt:=D.rt } ρ1 Z1)(hd:∀ρ Z,I n ρ Z->D.nx ρ Z):jM g tb D (jG lo n) ρ Z:=
 A6 I h0 (fun i a ρ Z N ha h k=>by
  unfold jG at ha;rw[List.getElem?_map,Option.map_eq_some_iff] at ha;obtain⟨j,h1,rfl⟩:=ha;obtain⟨hj,rfl⟩:=List.getElem?_eq_some_iff.mp h1;simp only[List.getElem_range,List.length_range] at hj ⊢
  exact hs i ρ Z N hj h k) (fun ρ Z h=>hd ρ Z (by simpa[jG] using h))
theorem qi{g:AG}{tc:AT}{l:AL}{as xs:List AV}{ρ:SA}{Z:Om}{K:List AV->SA->Om->Prop}(I:Nat->List AV->SA->Om->Prop)(h0:I 0 xs ρ Z)(hs:∀(i:Nat)(a:AV)(xs:List AV)(ρ:SA)(Z:Om)(N:List AV->SA->Om->Prop),as[i]?=some a->I i xs ρ Z->(∀xs' ρ' Z',I (i+1) xs' ρ' Z'->N xs' ρ' Z')->g a ρ Z fun ρ1 Z1=>tc ρ1 Z1 fun b Z2=>if b=true then l xs ρ1 Z2 N else N xs ρ1 Z2)(hd:∀xs ρ Z,I as.length xs ρ Z->K xs ρ Z):eE g tc l as xs ρ Z K:=by
 have key:∀(n i:Nat)(xs:List AV)(ρ:SA)(Z:Om),i+n=as.length->I i xs ρ Z->eE g tc l (as.drop i) xs ρ Z K:=by
  intro n
  induction n with
  |zero=>intro i xs ρ Z hi h;rw[List.drop_eq_nil_of_le (by omega)];exact hd xs ρ Z (by rw[←hi];exact h)
  |succ n ih=>
   intro i xs ρ Z hi h;obtain⟨a,ha,hdr⟩:=jt (as:=as) (i:=i) (by omega)
   rw[hdr];exact hs i a xs ρ Z (fun xs' ρ' Z'=>eE g tc l (as.drop (i+1)) xs' ρ' Z' K) ha h fun xs' ρ' Z' h'=>ih (i+1) xs' ρ' Z' (by omega) h'
 simpa using key as.length 0 xs ρ Z (by omega) h0
theorem EY{g:AG}{tc:AT}{l:AL}{ds:List D}{xs:List AV}{ρ:SA}{Z:Om}{K:List AV->SA->Om->Prop}(I:Nat->List AV->SA->Om->Prop)(h0:I 0 xs ρ Z)(hs:∀(i:Nat)(d:D)(xs:List AV)(ρ:SA)(Z:Om)(N:List AV->SA->Om->Prop),ds[i]?=some d->I i xs ρ Z->(∀xs' ρ' Z',I (i+1) xs' ρ' Z'->N xs' ρ' Z')->g (.d d) ρ Z fun ρ1 Z1=>tc ρ1 Z1 fun b Z2=>if b=true then l xs ρ1 Z2 N else N xs ρ1 Z2)(hd:∀xs ρ Z,I ds.length xs ρ Z->K xs ρ Z):eE g tc l (ds.map AV.d) xs ρ Z K:=
 qi I h0 (fun i a xs ρ Z N ha h k=>by
  rw[List.getElem?_map,Option.map_eq_some_iff] at ha;obtain⟨d,h1,rfl⟩:=ha
  exact hs i d xs ρ Z N h1 h k) (fun xs ρ Z h=>hd xs ρ Z (by simpa using h))
structure Pn where
 f:Int
 x:Int
 i:Int
 h:0<=f
section
variable{α:Type}(a b c e:α)(l:List α)
theorem gE{xs:List α}{x:α}(j:Nat){i:Int}(hi:i=(j:Int))(h:xs[j]?=some x):atI xs i=some x:=by
 subst hi;have hj:=(List.getElem?_eq_some_iff.mp h).1;unfold atI ixN;rw[if_pos (by omega),if_pos (by omega)]
 simpa using h
theorem C9:atI (a::l) 0=some a:=gE 0 rfl rfl
theorem C0:atI (a::b::l) 1=some b:=gE 1 rfl rfl
theorem Dv:atI (a::b::c::l) 2=some c:=gE 2 rfl rfl
theorem DM:atI (a::b::c::e::l) 3=some e:=gE 3 rfl rfl
end
theorem sz1:(1<=sizeLine)=True:=eq_true (by decide)
theorem sz2:(2<=sizeLine)=True:=eq_true (by decide)
theorem sz3:(3<=sizeLine)=True:=eq_true (by decide)
theorem sz4:(4<=sizeLine)=True:=eq_true (by decide)
theorem sz5:(5<=sizeLine)=True:=eq_true (by decide)
theorem yY:ixN 3 1=some 1:=rfl
theorem BQ:ixN 3 2=some 2:=rfl
theorem mD(a b:Int):eqD (.int a) (.int b)=(a == b):=by simp[eqD]
theorem wD(a b:Str):eqD (.str a) (.str b)=(a == b):=by simp[eqD]
theorem xq(a:Int):dep (.int a)=0:=by simp[dep]
theorem xH(a:Str):dep (.str a)=0:=by simp[dep]
theorem uh(a:Int):yl (.int a)=some a:=rfl
theorem vW(a:Bool):yl (.bl a)=some (if a then 1 else 0):=rfl
theorem uV{n m:Nat}(h:n<=1000):n<=sizeLine:=Nat.le_trans h (by decide)
noncomputable def Om.only(Z' Z:Om):Om:=fun b=>if (Z b).isSome=true then Z' b else none
noncomputable def Ex(Z Z':Om):Prop:=∀b,(Z b).isSome=true->Z' b=Z b
theorem Ex.refl(Z:Om):Ex Z Z:=fun _ _=>rfl
theorem Ex.none{Z Z':Om}(h:Ex Z Z'){l:Addr}(e:Z' l=none):Z l=none:=by
 cases z:Z l with
 |none=>rfl
 |some c=>have:=h l (by rw[z];rfl);rw[e,z] at this;cases this
theorem Ex.new{Z Z':Om}(h:Ex Z Z'){l:Addr}{c:OC}(e:Z' l=Option.none):Ex Z (Z'.put l c):=fun b hb=>by
 have:b≠l:=fun z=>by subst z;rw[h.none e] at hb;cases hb
 rw[Om.IA this];exact h b hb
theorem Ex.over{Z Z':Om}(h:Ex Z Z'){l:Addr}{c:OC}(e:Z l=Option.none):Ex Z (Z'.put l c):=fun b hb=>by
 have:b≠l:=fun z=>by subst z;rw[e] at hb;cases hb
 rw[Om.IA this];exact h b hb
theorem Ex.put{Z Z':Om}(h:Ex Z Z'){l:Addr}{c:OC}:Ex (Z.put l c) (Z'.put l c):=fun b hb=>by
 by_cases z:b=l
 ·subst z;rw[Om.Iy,Om.Iy]
 ·rw[Om.IA z] at hb ⊢;rw[Om.IA z];exact h b hb
theorem Ex.put2{Z Z':Om}{l:Addr}{c e:OC}(h:Ex (Z.put l c) Z'):Ex (Z.put l e) (Z'.put l e):=by
 have:=h.put (l:=l) (c:=e)
 rwa [Om.Iz] at this
theorem aN(Z:Om):Z.only Z=Z:=by
 funext b;unfold Om.only
 cases e:Z b<;>simp
theorem qg{Z Z':Om}(h:Ex Z Z'):Z'.only Z=Z:=by
 funext b;unfold Om.only
 cases e:Z b with
 |none=>simp
 |some c=>simp only[Option.isSome_some,if_true];rw[h b (by rw[e];rfl),e]
theorem mZ{Z Z':Om}{p:Addr}{c:OC}(h:Ex (Z.put p c) Z')(hp:(Z p).isSome=true):Z'.only Z=Z.put p c:=by
 funext b;unfold Om.only
 by_cases hb:b=p
 ·subst hb;rw[if_pos hp,h b (by rw[Om.Iy];rfl)]
 ·rw[Om.IA hb]
  cases e:Z b with
  |none=>simp
  |some o=>simp only[Option.isSome_some,if_true];rw[h b (by rw[Om.IA hb,e];rfl),Om.IA hb,e]
theorem Rep.only{F:Fs}{H:Hp}{Z Z':Om}(rp:Rep F H Z'):Rep F H (Z'.only Z)/\dq (cut F H Z') (cut F H (Z'.only Z)):=by
 have ho:∀b,ow (Z' b)=false->ow ((Z'.only Z) b)=false:=fun b h=>by
  unfold Om.only;split
  ·exact h
  ·rfl
 have sm:dq (cut F H Z') (cut F H (Z'.only Z)):=fun b o e=>by
  obtain⟨h,f,e⟩:=bO.mp e;exact bO.mpr ⟨ho b h,f,e⟩
 have un:∀b c,(Z'.only Z) b=some c->Z' b=some c:=fun b c e=>by
  unfold Om.only at e;split at e
  ·exact e
  ·cases e
 refine⟨⟨fun l xs e=>?_,fun l ds e=>(rp.frz l ds (un _ _ e)).same sm,fun b f=>?_,fun l ks e=>(by obtain⟨vs,e1,e2⟩:=rp.dic l ks (un _ _ e);exact⟨vs,e1,e2.same sm⟩)⟩,sm⟩
 ·obtain⟨vs,e1,e2⟩:=rp.own l xs (un _ _ e)
  exact⟨vs,e1,e2.same sm⟩
 ·obtain⟨h1,h2⟩:=rp.hid b f
  refine⟨?_,h2⟩;unfold Om.only;rw[h1];simp
theorem Fr.only{F:Fs}{H H':Hp}{Z Z':Om}(fr:Fr F H Z H' Z'):Fr F H Z H' (Z'.only Z):=⟨fun b o h f e=>by
 obtain⟨x,y⟩:=fr.st b o h f e;refine⟨x,?_⟩;unfold Om.only;split
 ·exact y
 ·rfl,fr.hd⟩
theorem Fun.okD{P:Program}{w:World}{K:W.Frag}{mg:Str->Option Value}{base:Heap}{x qual:Str}{st:Stmt}{f:Addr}{fd:FuncData}{N ps:List Str}{k:Nat}{sp:ASp}(F:Fun K x qual st f fd)(S:aM N ps (defScope st))(len:∀xs Z Q,sp xs Z Q->xs.length=ps.length)
  (hbody:∀(cdv:Value)(A:Around)(outer:List Env)(s:Shared)(H:Hp)(E:XK),eZ k (A.deeper (envOfC qual (defScope st) s.heap.objs.size f cdv)) ->
   ∃t t',PSs (oQ CX0 P w K mg base N qual (defScope st) f cdv A outer s H E).nox (defBody st) t/\gJ t t'/\∀xs Z Q',sp xs Z Q'->t' { nx:=fun _ Z'=>Q' (.d .non) (Z'.only Z),rt:=fun a Z'=>∃d,a=.d d/\Q' (.d d) (Z'.only Z) } (jc N xs) Z):aD P w K mg base CX0 (k+1) f fd ps (bz sp):=by
 refine F.ok S (fun vs H Q E h=>?_) (fun cdv A outer s H vs Q E hr h=>?_)
 ·obtain⟨F,xs,Z,Q',rp,rv,h,_⟩:=h
  rw[rv.length,len xs Z Q' h]
 ·obtain⟨t,t',h1,h2,h3⟩:=hbody cdv A outer s H E hr
  obtain⟨F,xs,Z,Q',rp,rv,h,kq⟩:=h;refine⟨t,h1,h2.run F H Z _ _ _ _ rp (RS.start rv) (h3 xs Z Q' h) ⟨?_,?_,fun _ _ _ _ _ _ _ z=>z.elim,fun _ _ _ _ _ _ _ z=>z.elim⟩⟩
  ·exact fun ρ' Z' σ' H' e1 e2 e3 q=>kq (.d .non) (Z'.only Z) .non H' e1.only.1 e2.only (by simp[RV,Dat]) q
  ·rintro a Z' v H' e1 e2 e3 ⟨d,rfl,q⟩
   exact kq (.d d) (Z'.only Z) v H' e1.only.1 e2.only (e3.same e1.only.2) q
noncomputable def wl:Nat->List (List Int)
 |0=>[[]]
 |n+1=>(wl n).flatMap fun w=>[w++[0],w++[1]]
theorem on:∀n,(wl n).length=2^n
 |0=>rfl
 |n+1=>by
  have h:∀ws:List (List Int),(ws.flatMap fun w=>[w++[0],w++[1]]).length=2*ws.length:=fun ws=>by
   induction ws with
   |nil=>rfl
   |cons a r ih=>rw[List.flatMap_cons,List.length_append,ih];simp;omega
  rw[wl,h,on n,Nat.pow_succ];omega
theorem cc:∀ {n:Nat} {w:List Int},w∈wl n->w.length=n/\∀x∈w,x=0\/x=1
 |0,w,h=>by simp[wl] at h;rw[h];simp
 |n+1,w,h=>by
  simp only[wl,List.mem_flatMap] at h;obtain⟨v,hv,h⟩:=h;obtain⟨h1,h2⟩:=cc hv;simp only[List.mem_cons,List.not_mem_nil,or_false] at h;rcases h with rfl|rfl<;>refine⟨by simp[h1],fun x hx=>?_⟩<;>rcases List.mem_append.mp hx with hx|hx
  ·exact h2 x hx
  ·rw[List.mem_singleton.mp hx];exact .inl rfl
  ·exact h2 x hx
  ·rw[List.mem_singleton.mp hx];exact .inr rfl
theorem lW{n:Nat}(h:n<=5):(wl n).length<=32:=by
 rw[on];exact Nat.pow_le_pow_right (by decide) h
theorem z6{n:Nat}(h:1<=n):2<=(wl n).length:=by
 rw[on];exact Nat.pow_le_pow_right (n:=2) (by decide) h
theorem Fl:∀n:Fin 6,(wl n.val).Nodup:=by decide +kernel
theorem BH{n:Nat}(h:n<=5):(wl n).Nodup:=Fl ⟨n,by omega⟩
noncomputable def Wds(n:Nat)(ws:List (List Int)):Prop:=ws.Nodup/\∀w∈ws,w∈wl n
theorem Wds.le{n:Nat}{ws:List (List Int)}(h:Wds n ws)(hn:n<=5):ws.length<=32:=by
 have:=h.1.length_le_of_subset (l₂:=wl n) (fun w hw=>h.2 w hw);have:=lW hn;omega
theorem Wds.sub{n:Nat}{ws:List (List Int)}(h:ws.Sublist (wl n))(hn:n<=5):Wds n ws:=⟨h.nodup (BH hn),fun w hw=>h.mem hw⟩
theorem pi:∀a b:List Int,fD (a.map D.int) (b.map D.int)=decide (a=b)
 | [],[]=>by simp[fD]
 | [],_::_=>by simp[fD]
 |_::_,[]=>by simp[fD]
 |x::a,y::b=>by
  simp only[List.map_cons,fD,eqD,pi a b,List.cons.injEq];by_cases h1:x=y<;>by_cases h2:a=b<;>simp[h1,h2]
theorem z9(a b:List Int):eqD (wdD a) (wdD b)=decide (a=b):=by simp only[wdD,eqD];exact pi a b
theorem vo(w:List Int):dep (wdD w)=1:=by simp[wdD,dep,lc]
theorem fj(ws:List (List Int)):dY (ws.map wdD)<=1:=qz fun d hd=>by
 obtain⟨w,_,rfl⟩:=List.mem_map.mp hd;rw[vo];exact Nat.le_refl _
theorem qf(a:List Int)(ws:List (List Int)):inD (wdD a) (ws.map wdD)=decide (a∈ws):=by
 unfold inD;rw[Bool.eq_iff_iff,List.any_eq_true,decide_eq_true_iff];constructor
 ·rintro⟨d,hd,e⟩
  obtain⟨w,hw,rfl⟩:=List.mem_map.mp hd;rw[z9,decide_eq_true_iff] at e;exact e ▸ hw
 ·intro h
  exact⟨wdD a,List.mem_map.mpr ⟨a,h,rfl⟩,by rw[z9];simp⟩
theorem wU{α β:Type}{f:α->β}{xs:List α}{i:Nat}{y:β}(h:(xs.map f)[i]?=some y):∃x,xs[i]?=some x/\y=f x:=by
 rw[List.getElem?_map] at h
 cases e:xs[i]? with
 |none=>rw[e] at h;cases h
 |some x=>rw[e] at h;cases h;exact⟨x,rfl,rfl⟩
theorem Cw{α:Type}{f:α->AV}{xs:List α}{i:Int}(h0:0<=i)(h1:i<xs.length):∃x,x∈xs/\xs[i.toNat]?=some x/\atI (xs.map f) i=some (f x):=by
 obtain⟨j,rfl⟩:=Int.eq_ofNat_of_zero_le h0;have hj:j<xs.length:=by omega
 exact⟨xs[j],List.getElem_mem hj,by simp[List.getElem?_eq_getElem hj],gE j rfl (by rw[List.getElem?_map,List.getElem?_eq_getElem hj];rfl)⟩
theorem Gn{w:List Int}{i:Int}(h0:0<=i)(h1:i<w.length):atI ((w.map D.int).map AV.d) i=some (.d (.int (w.getD i.toNat 0))):=by
 obtain⟨j,rfl⟩:=Int.eq_ofNat_of_zero_le h0;have hj:j<w.length:=by omega
 refine gE j rfl ?_;rw[List.getElem?_map,List.getElem?_map,List.getElem?_eq_getElem hj];simp[List.getD_eq_getElem?_getD,List.getElem?_eq_getElem hj]
theorem we(x:List Int)(b:Int)(Z:Om)(Q:AV->Om->Prop):u7 (.d (wdD x)) (.d (.tup [.int b])) Z Q=(x.length+1<=sizeLine/\Q (.d (wdD (x++[b]))) Z):=by
 unfold wdD;rw[kS];simp
theorem rR(x y:List Int)(Z:Om)(Q:AV->Om->Prop):u7 (.d (wdD x)) (.d (wdD y)) Z Q=(x.length+y.length<=sizeLine/\Q (.d (wdD (x++y))) Z):=by
 unfold wdD;rw[kS];simp
theorem qL(x:List Int):ik (.d (wdD x))=some ((x.map D.int).map AV.d):=rfl
theorem vF(Z:Om)(x:List Int):eC Z (.d (wdD x))=none:=rfl
theorem xi(Z:Om)(x:List Int):lH Z (.d (wdD x))=some x.length:=by simp[lH,qL]
theorem wa(x:List Int):rD (wdD x)=some (x.map D.int):=rfl
theorem rl{α β:Type}(f:α->β)(xs:List α)(lo hi:Option Int):cL (xs.map f) lo hi=(cL xs lo hi).map f:=by
 unfold cL;rw[List.length_map,List.map_take,List.map_drop]
inductive Sy where
 |is (i b:Int)
 |jn (an:Bool) (l r:Sy)
namespace Sy
noncomputable def d:Sy->D
 |.is i b=>.tup [.str "is",.int i,.int b]
 |.jn an l r=>.tup [.str (if an then "and" else "or"),l.d,r.d]
noncomputable def ok(n:Nat):Sy->Prop
 |.is i b=>0<=i/\i<n/\(b=0\/b=1)
 |.jn _ l r=>l.ok n/\r.ok n
noncomputable def dp:Sy->Nat
 |.is _ _=>0
 |.jn _ l r=>1+max l.dp r.dp
noncomputable def lvs:Sy->Nat
 |.is _ _=>1
 |.jn _ l r=>l.lvs+r.lvs
noncomputable def val(w:List Int):Sy->Bool
 |.is i b=>decide (w.getD i.toNat 0=b)
 |.jn an l r=>if an then val w l && val w r else val w l || val w r
end Sy
inductive Ta where
 |en (i:Int)
 |nd (y:Bool) (ws:List (List Int)) (l r:Ta)
namespace Ta
noncomputable def d:Ta->D
 |.en i=>.tup [.str "end",.int i]
 |.nd y ws l r=>.tup [.str (if y then "yes" else "no"),.tup (ws.map wdD),l.d,r.d]
noncomputable def ok(n:Nat):Ta->Prop
 |.en i=>0<=i/\i<n
 |.nd _ ws l r=>Wds n ws/\l.ok n/\r.ok n
noncomputable def dp:Ta->Nat
 |.en _=>0
 |.nd _ _ l r=>1+max l.dp r.dp
noncomputable def lvs:Ta->Nat
 |.en _=>1
 |.nd _ _ l r=>l.lvs+r.lvs
noncomputable def size:Ta->Nat
 |.en _=>1
 |.nd _ _ l r=>l.size+r.size+1
noncomputable def bit(y n:List Int)(hy:Bool)(ws:List (List Int)):Bool:=decide ((if hy then y else n)∈ws)
noncomputable def way(y n:List Int):Ta->List Int
 |.en _=>[]
 |.nd h ws a b=>if bit y n h ws then 1::way y n b else 0::way y n a
noncomputable def fin(y n:List Int):Ta->Int
 |.en i=>i
 |.nd h ws a b=>if bit y n h ws then fin y n b else fin y n a
theorem g7:∀t:Ta,t.size+1=2*t.lvs
 |.en x=>rfl
 |.nd y ws l r=>by
  have:=g7 l;have:=g7 r;simp only[size,lvs];omega
end Ta
theorem mR{i:Int}(h0:0<=i)(h1:i<=64):i.natAbs.log2<=6:=by
 have h8:∀n:Fin 65,n.val.log2<=6:=by decide +kernel
 exact h8 ⟨i.natAbs,by omega⟩
theorem re:∀ {w:List Int},(∀x∈w,x=0\/x=1)->wts (w.map D.int)<=6*w.length/\jE (w.map D.int)=true
 | [],_=>by simp[wts,jE]
 |a::w,h=>by
  obtain⟨i1,i2⟩:=re fun x hx=>h x (List.mem_cons_of_mem _ hx);have e:a.natAbs.log2=0:=by rcases h a List.mem_cons_self with rfl|rfl<;>decide
  simp only[List.map_cons,wts,jE,wt,fit,i2,e,List.length_cons];exact⟨by omega,rfl⟩
theorem GR{n:Nat}{w:List Int}(hn:n<=5)(h:w∈wl n):wt (wdD w)<=40/\fit (wdD w)=true:=by
 obtain⟨h1,h2⟩:=cc h;obtain⟨i1,i2⟩:=re h2;simp only[wdD,wt,fit,i2];exact⟨by omega,trivial⟩
theorem xE{n:Nat}(hn:n<=5):∀ {ws:List (List Int)},(∀w∈ws,w∈wl n)->wts (ws.map wdD)<=50*ws.length/\jE (ws.map wdD)=true
 | [],_=>by simp[wts,jE]
 |a::ws,h=>by
  obtain⟨i1,i2⟩:=xE hn fun w hw=>h w (List.mem_cons_of_mem _ hw);obtain⟨b1,b2⟩:=GR hn (h a List.mem_cons_self);simp only[List.map_cons,wts,jE,b1,b2,i2,List.length_cons];exact⟨by omega,rfl⟩
theorem wY:(reprText ("end":Str)).length=5/\(reprText ("yes":Str)).length=5/\(reprText ("no":Str)).length=4:=by decide +kernel
theorem Ta.rep{n:Nat}(hn:n<=5):∀ {u:Ta},u.ok n->wt u.d<=3000*u.size/\fit u.d=true/\dep u.d<=u.dp+3
 |.en i,⟨i0,i1⟩=>by
  have hl:=mR i0 (by omega)
  simp only[Ta.d,wt,wts,fit,jE,dep,dY,Ta.size,Ta.dp,wY.1,Bool.and_true,Bool.true_and,decide_eq_true_eq];omega
 |.nd y ws a b,⟨hw,ha,hb⟩=>by
  obtain⟨a1,a2,a3⟩:=Ta.rep hn ha;obtain⟨b1,b2,b3⟩:=Ta.rep hn hb;obtain⟨w1,w2⟩:=xE (ws:=ws) hn hw.2;have w3:=fj ws;have wl':=hw.le hn;have hr:(reprText (if y then "yes" else "no":Str)).length<=5:=by cases y<;>simp[wY]
  simp only[Ta.d,wt,wts,fit,jE,dep,dY,Ta.size,Ta.dp,a2,b2,w2,Bool.and_true,true_and];refine⟨by omega,?_⟩
  omega
theorem Fw{n:Nat}(hn:n<=5){ys zs:List (List Int)}(hy:Wds n ys)(hz:Wds n zs):wt (csD n ys zs)<=4000/\fit (csD n ys zs)=true/\dep (csD n ys zs)<=3:=by
 obtain⟨y1,y2⟩:=xE (ws:=ys) hn hy.2;obtain⟨z1,z2⟩:=xE (ws:=zs) hn hz.2;have y3:=fj ys;have z3:=fj zs;have y4:=hy.le hn;have z4:=hz.le hn;have hl:=mR (i:=(n:Int)) (by omega) (by omega)
 simp only[Int.natAbs_natCast] at hl;simp only[csD,wt,wts,fit,jE,dep,dY,y2,z2,Int.natAbs_natCast,Bool.and_true,Bool.true_and,decide_eq_true_eq];omega
theorem wH:(("yes":Str)=("end":Str))=False:=eq_false (by decide +kernel)
theorem xD:(("no":Str)=("end":Str))=False:=eq_false (by decide +kernel)
theorem xh:(("and":Str)=("is":Str))=False:=eq_false (by decide +kernel)
theorem wg:(("and":Str)=("or":Str))=False:=eq_false (by decide +kernel)
theorem xx:(("or":Str)=("is":Str))=False:=eq_false (by decide +kernel)
theorem ER(F:Nat->SA->Om->Prop):∃Pv:Nat->SA->Om->Prop,∀i ρ Z,Pv i ρ Z↔F i ρ Z:=⟨F,fun _ _ _=>Iff.rfl⟩
noncomputable def om3(Z:Om)(p l1 l2:Addr)(c A B:OC):Om:=((Z.put p c).put l1 A).put l2 B
section
variable{Z:Om}{p l l1 l2:Addr}{c c' A A' B B':OC}
theorem iG(h1:p≠l1)(h2:p≠l2):om3 Z p l1 l2 c A B p=some c:=by unfold om3;rw[Om.IA h2,Om.IA h1,Om.Iy]
theorem jQ(h:l1≠l2):om3 Z p l1 l2 c A B l1=some A:=by unfold om3;rw[Om.IA h,Om.Iy]
theorem fA:om3 Z p l1 l2 c A B l2=some B:=by unfold om3;rw[Om.Iy]
theorem m8(h1:p≠l1)(h2:p≠l2):(om3 Z p l1 l2 c A B).put p c'=om3 Z p l1 l2 c' A B:=by unfold om3;rw[Om.II h2,Om.II h1,Om.Iz]
theorem fQ(h:l1≠l2):(om3 Z p l1 l2 c A B).put l1 A'=om3 Z p l1 l2 c A' B:=by unfold om3;rw[Om.II h,Om.Iz]
theorem ie:(om3 Z p l1 l2 c A B).put l2 B'=om3 Z p l1 l2 c A B':=by unfold om3;rw[Om.Iz]
theorem cM{q:Addr}{o:OC}(h:Z.put p o q=none):q≠p/\Z q=none:=by
 have:q≠p:=fun z=>by subst z;rw[Om.Iy] at h;cases h
 exact⟨this,by rwa [Om.IA this] at h⟩
end
structure Ne4(p l1 l2 l3:Addr):Prop where
 p1:p≠l1
 p2:p≠l2
 p3:p≠l3
 a:l1≠l2
 b:l1≠l3
 c:l2≠l3
section
variable{Z:Om}{p l1 l2 l3:Addr}{c c' A A' B B' C C':OC}(h:Ne4 p l1 l2 l3)
include h
end
section
variable{P:Program}{w:World}{K:W.Frag}{mg:Str->Option Value}{base:Heap}
structure Cs(n:Nat)(ys zs:List (List Int)):Prop where
 y:Wds n ys
 z:Wds n zs
 y1:ys≠[]
 z1:zs≠[]
theorem qx{t u:AS}{D:dn}{ρ:SA}{Z:Om}(I:SA->Om->Prop)(h1:∀N:SA->Om->Prop,(∀ρ' Z',I ρ' Z'->N ρ' Z')->t { D with nx:=N } ρ Z)(h2:∀ρ' Z',I ρ' Z'->u D ρ' Z'):xZ t u D ρ Z:=h1 (u D) h2
theorem zc{α:Type}(xs:List α)(lo hi:Option Int):(cL xs lo hi).Sublist xs:=(List.take_sublist _ _).trans (List.drop_sublist _ _)
theorem ky{Z:Om}{l:Addr}{ds:List D}(h:Z l=some (.own (ds.map AV.d))):bg Z (.r (.ref l))=some (.lst ds):=by
 rw[qM,h];simp only[bF,Option.map_some]
theorem uk{Z:Om}{l:Addr}{ds:List D}(h:Z l=some (.frz ds)):bg Z (.r (.ref l))=some (.lst ds):=by
 rw[qM,h]
noncomputable def uM:ASp:=fun _ _ _=>False
theorem pI{f:Addr}{fd:FuncData}{ps:List Str}{k:Nat}:aD P w K mg base CX0 k f fd ps (bz uM):=
 ⟨fun _ _ _ _ h=>by obtain⟨_,_,_,_,_,_,h,_⟩:=h;exact h.elim,fun _ _ _ _ _ _ _ _ _ _ _ _ _ h=>by obtain⟨_,_,_,_,_,_,h,_⟩:=h;exact h.elim⟩
noncomputable def b01(b:Bool):Int:=if b then 1 else 0
theorem sC(to:AE)(ρ:SA)(Z:Om)(Q:AV->Om->Prop):B3 to ρ Z Q=(to ρ Z fun x Z1=>∃l xs y,x=.r (.ref l)/\Z1 l=some (.own xs)/\xs.getLast?=some y/\Q y (Z1.put l (.own xs.dropLast))):=by
 unfold B3;simp only[List.getLast?_eq_getElem?]
end
noncomputable def kr(caps:List V)(cA:List AV)(sp:ASp):Sp:=fun vs H Q _=>∃(F:Fs)(xs:List AV)(Z:Om)(Q':AV->Om->Prop),Rep F H Z/\RVs (cut F H Z) xs vs/\RVs (cut F H Z) cA caps/\sp xs Z Q'/\LP RV F H Z Q' Q
noncomputable def CU(f:Addr)(caps:List V)(cA:List AV):AV:=.p (.ref f) (fun G=>RVs G cA caps)
noncomputable def Bo(i:Nat)(f:Addr)(caps:List V)(cA:List AV)(sp:ASp)(t:AA):AE:=fun ρ Z Q=>ρ[i]?=some (some (CU f caps cA))/\t ρ Z fun xs Z1=>sp xs Z1 Q
theorem pK(i:Nat)(f:Addr)(caps:List V)(cA:List AV)(sp:ASp)(t:AA)(ρ:SA)(Z:Om)(Q:AV->Om->Prop):Bo i f caps cA sp t ρ Z Q=(ρ[i]?=some (some (CU f caps cA))/\t ρ Z fun xs Z1=>sp xs Z1 Q):=rfl
theorem Cg{X:Cx}{k n i:Nat}{t:TA}{t':AA}{f:Addr}{caps:List V}{cA:List AV}{sp:ASp}(C:Clo X.prog X.w X.K X.mg X.base X.H₀ k f n (kr caps cA sp))(ht:jF t t'):bf (zW X k n i t) (Bo i f caps cA sp t'):=⟨fun F H Z σ ρ Q Q' rp rs w kq=>by
 obtain⟨e,w⟩:=w;obtain⟨v,e1,e2⟩:=rs.2 i _ e;obtain⟨rfl,e3⟩:=e2
 refine⟨f,_,e1,C,ht.go rp rs w fun xs Z1 vs H1 rp1 fr1 rs1 rv1 q=>⟨F,xs,Z1,Q',rp1,rv1,e3 _ fr1.same,q,kq.fr fr1⟩⟩⟩
theorem mC{P:Program}{w:World}{K:W.Frag}{mg:Str->Option Value}{base:Heap}{H₀:Hp}{k:Nat}{f:Addr}{q:Str}{params:Arguments}{body:Expr}{scope:Scope}{cl:List (Str×Addr)}{ps cs:List Str}{caps:List V}{cA:List AV}{sp:ASp}(L:nS H₀ f q params body scope cl)(S:sR ps cs scope)(C:vI base cl cs caps)(hb:∀(pm:Value)(c:Addr)(ctv:Value)(us:List Value),us.length=ps.length->bindArgs (W.kla_fn "<lambda>" q params body scope cl pm (.ref c) ctv) ⟨us,[]⟩=pure (ps.zip us))(len:∀xs Z Q,sp xs Z Q->xs.length=ps.length)
  (hbody:∀(cd:Value)(A:Around)(outer:List Env)(s:Shared)(H:Hp),eZ k (A.deeper (W.envX q scope s.heap.objs.size f cd cl)) ->
   ∃t t',PE (vO P w K mg base (ps++cs) q scope f cd cl A outer s H) body t/\bf t t'/\∀xs Z Q,sp xs Z Q->t' ((xs++cA).map some) Z Q):Clo P w K mg base H₀ (k+1) f ps.length (kr caps cA sp):=by
 refine FO L S C hb (fun vs H Q E h=>?_) (fun cd A outer s H vs Q E hr h=>?_)
 ·obtain⟨F,xs,Z,Q',rp,rv,_,h,_⟩:=h
  rw[rv.length,len xs Z Q' h]
 ·obtain⟨t,t',h1,h2,h3⟩:=hbody cd A outer s H hr
  obtain⟨F,xs,Z,Q',rp,rv,rc,h,kq⟩:=h;refine⟨t,h1,h2.run F H Z _ _ Q Q' rp ?_ (h3 xs Z Q' h) kq⟩;have:=rv.append rc;refine⟨by simp[this.length,rv.length,rc.length],fun i a e=>?_⟩
  rw[List.getElem?_map,Option.map_eq_some_iff] at e;obtain⟨b,hb,e⟩:=e;cases e;obtain⟨v,e1,e2⟩:=this.get hb;exact⟨v,by rw[List.getElem?_map,e1];rfl,e2⟩
theorem HM(b:Heap):vI b [] [] []:=⟨rfl,fun _ _ h=>(nomatch h),fun _ _ _ h=>(nomatch h),fun _ _ _ h=>(nomatch h)⟩
theorem uO{b:Heap}{x:Str}{c:Addr}{v:V}{u:Value}(h:b.IsCell c (some u))(r:bq v u):vI b [(x,c)] [x] [v]:=by
 have lk:∀y d,([(x,c)]:List (Str×Addr)).lookup y=some d->y=x/\d=c:=fun y d e=>by
  rw[List.lookup_cons] at e
  cases q:y == x with
  |true=>rw[q] at e;cases e;exact⟨eq_of_beq q,rfl⟩
  |false=>rw[q] at e;cases e
 refine⟨rfl,fun y d e=>?_,fun y z d e1 e2=>(lk y d e1).1.trans (lk z d e2).1.symm,fun j y w h1 h2=>?_⟩
 ·rw[(lk y d e).1];exact List.mem_singleton.mpr rfl
 ·cases j with
  |zero=>
   simp at h1 h2;subst h1 h2;exact⟨c,u,by simp[List.lookup],h,r⟩
  |succ j=>simp at h1
noncomputable def Gh(js:List Nat)(σ:St)(caps:List V):Prop:=caps.length=js.length/\∀(k j:Nat)(v:V),js[k]?=some j->caps[k]?=some v->σ[j]?=some (some v)
noncomputable def q9:List Nat->SA->Option (List AV)
 | [],_=>some []
 |j::js,ρ=>match ρ[j]?,q9 js ρ with
  |some (some a),some r=>some (a::r)
  |_,_=>none
theorem Ak{G:Hp}{ρ:SA}{σ:St}(rs:RS G ρ σ):∀ {js:List Nat} {cA:List AV},q9 js ρ=some cA->∃caps,Gh js σ caps/\RVs G cA caps
 | [],cA,h=>by cases h;exact⟨[],⟨rfl,fun _ _ _ h=>by simp at h⟩,rfl⟩
 |j::js,cA,h=>by
  simp only[q9] at h
  cases e1:ρ[j]? with
  |none=>rw[e1] at h;simp at h
  |some o=>
   cases o with
   |none=>rw[e1] at h;simp at h
   |some a=>
    cases e2:q9 js ρ with
    |none=>rw[e1,e2] at h;simp at h
    |some r=>
     rw[e1,e2] at h;simp at h;subst h;obtain⟨caps,⟨c1,c2⟩,c3⟩:=Ak rs e2;obtain⟨v,v1,v2⟩:=rs.2 j a e1;refine⟨v::caps,⟨by simp[c1],fun k i u h1 h2=>?_⟩,v,caps,rfl,v2,c3⟩
     cases k with
     |zero=>simp at h1 h2;subst h1 h2;exact v1
     |succ k=>simp at h1 h2;exact c2 k i u h1 h2
noncomputable def HP(X:Cx)(kc n:Nat)(js:List Nat)(q:Str)(a:Arguments)(b:Expr)(sc:Scope)(cl:List (Str×Addr))(s:List AV->ASp):Prop:=
 ∀(b':Heap)(H:Hp)(f:Addr)(σ:St)(caps:List V)(cA:List AV),nS H f q a b sc cl->BK X σ b'->Gh js σ caps->cA.length=js.length->Clo X.prog X.w X.K X.mg b' H kc f n (kr caps cA (s cA))
theorem rW{ρ:SA}:∀ {js:List Nat} {cA:List AV},q9 js ρ=some cA->cA.length=js.length
 | [],cA,h=>by cases h;rfl
 |j::js,cA,h=>by
  simp only[q9] at h
  cases e1:ρ[j]? with
  |none=>rw[e1] at h;simp at h
  |some o=>
   cases o with
   |none=>rw[e1] at h;simp at h
   |some a=>
    cases e2:q9 js ρ with
    |none=>rw[e1,e2] at h;simp at h
    |some r=>
     rw[e1,e2] at h;simp at h;subst h;simp[rW e2]
theorem yO.okD{P:Program}{w:World}{K:W.Frag}{mg:Str->Option Value}{base:Heap}{x qual:Str}{st:Stmt}{f c p:Addr}{fd:FuncData}{N ps:List Str}{k:Nat}{sp:ASp}(F:yO K x qual st f fd c p)(S:aM N ps (defScope st))(len:∀xs Z Q,sp xs Z Q->xs.length=ps.length)
  (hbody:∀(A:Around)(outer:List Env)(s:Shared)(H:Hp)(E:XK),eZ k (A.deeper (envOfC qual (defScope st) s.heap.objs.size f (.ref c))) ->
   ∃t t',PSs (oQ CX0 P w K mg base N qual (defScope st) f (.ref c) A outer s H E).nox (defBody st) t/\gJ t t'/\∀xs Z Q',sp xs Z Q'->t' { nx:=fun _ Z'=>Q' (.d .non) (Z'.only Z),rt:=fun a Z'=>∃d,a=.d d/\Q' (.d d) (Z'.only Z) } (jc N xs) Z):aD P w K mg base CX0 (k+1) f fd ps (bz sp):=by
 refine F.ok S (fun vs H Q E h=>?_) (fun A outer s H vs Q E hr h=>?_)
 ·obtain⟨F,xs,Z,Q',rp,rv,h,_⟩:=h
  rw[rv.length,len xs Z Q' h]
 ·obtain⟨t,t',h1,h2,h3⟩:=hbody A outer s H E hr
  obtain⟨F,xs,Z,Q',rp,rv,h,kq⟩:=h;refine⟨t,h1,h2.run F H Z _ _ _ _ rp (RS.start rv) (h3 xs Z Q' h) ⟨?_,?_,fun _ _ _ _ _ _ _ z=>z.elim,fun _ _ _ _ _ _ _ z=>z.elim⟩⟩
  ·exact fun ρ' Z' σ' H' e1 e2 e3 q=>kq (.d .non) (Z'.only Z) .non H' e1.only.1 e2.only (by simp[RV,Dat]) q
  ·rintro a Z' v H' e1 e2 e3 ⟨d,rfl,q⟩
   exact kq (.d d) (Z'.only Z) v H' e1.only.1 e2.only (e3.same e1.only.2) q
structure Iv(t2 t:TS)(t':AS):Prop where
 run:∀(F:Fs)(H:Hp)(Z:Om)(σ:St)(ρ:SA)(D:jL)(D':dn),Rep F H Z->RS (cut F H Z) ρ σ->t' D' ρ Z->LE F H Z D' { D with nx:=t2 D }->t D σ H
theorem wJ{P:Program}{w:World}{K:W.Frag}{mg:Str->Option Value}{b':Heap}{H:Hp}{k:Nat}{x qual:Str}{st:Stmt}{f:Addr}{fd:FuncData}{ps:List Str}{sp:ASp}(T:Fun K x qual st f fd)(F:aD P w K mg b' CX0 k f fd ps (bz sp))(hb:bo K fd ps []):Clo P w K mg b' H k f ps.length (kr [] [] sp):=by
 obtain⟨oc,od,kV,doc,pm,an,cdv,ct,osl,rfl,lk,hcd⟩:=T.ex;have tl:∀vs H Q E,kr [] [] sp vs H Q E->bz sp vs H Q E:=fun vs H Q E ⟨F,xs,Z,Q',rp,rv,_,h,k⟩=>⟨F,xs,Z,Q',rp,rv,h,k⟩;refine⟨.inr ⟨_,_,_,_,lk⟩,fun vs H Q E h=>F.len vs H Q E (tl _ _ _ _ h),fun A outer s H us vs Q E hr e0 _ hv hs=>?_⟩;have kin:K.In s.heap:=fun a o e=>(e0.bs a o (e0.mod.kin a o e)).1;have hl:(us++[]).length=ps.length:=by rw[List.append_nil,←hv.length];exact F.len _ _ _ _ (tl _ _ _ _ hs)
 have hbb:=hb s us kin hl;rw[List.append_nil] at hbb;exact F.run A outer s H ⟨us,[]⟩ us vs Q E hr e0 hbb hv (tl _ _ _ _ hs)
theorem AY{g:AG}{te:AE}{as:List AV}{rs:List D}{ρ:SA}{Z:Om}{K:List AV->SA->Om->Prop}(R:SA->Prop)(h0:R ρ)(hl:rs.length=as.length)(hz:as.length<=sizeLine)(he:∀(i:Nat)(a:AV)(r:D)(ρ:SA)(N:SA->Om->Prop),as[i]?=some a->rs[i]?=some r->R ρ->(∀ρ1,R ρ1->(∀Q:AV->Om->Prop,Q (.d r) Z->te ρ1 Z Q)->N ρ1 Z)->g a ρ Z N)(hk:∀ρ,R ρ->K (rs.map AV.d) ρ Z):eE g mB (nR te) as [] ρ Z K:=by
 refine qi (fun i xs ρ Z'=>Z'=Z/\R ρ/\xs=(rs.take i).map AV.d) ⟨rfl,h0,rfl⟩ ?_ ?_
 ·rintro i a xs ρ Z' N ha ⟨rfl,hR,rfl⟩ kN
  have hi:=(List.getElem?_eq_some_iff.mp ha).1;have hr:rs[i]?=some rs[i]:=List.getElem?_eq_getElem (by omega)
  refine he i a _ ρ _ ha hr hR fun ρ1 hR1 h=>?_;rw[uU,if_pos rfl,nA];refine h _ ⟨by rw[List.length_map,List.length_take];omega,kN _ _ _ ⟨rfl,hR1,?_⟩⟩
  rw[show rs.take (i+1)=rs.take i++[rs[i]] from by rw[List.take_succ,hr];rfl,List.map_append]
  rfl
 ·rintro xs ρ Z' ⟨rfl,hR,rfl⟩
  rw[←hl,List.take_length]
  exact hk ρ hR
theorem cw{te:AE}{as:List AV}{rs:List D}{v0:Option AV}{cq:SA}{Z:Om}{K:List AV->SA->Om->Prop}(hl:rs.length=as.length)(hz:as.length<=sizeLine)(he:∀(i:Nat)(a:AV)(r:D),as[i]?=some a->rs[i]?=some r->∀Q:AV->Om->Prop,Q (.d r) Z->te (some a::cq) Z Q)(hk:∀ρ,K (rs.map AV.d) ρ Z):eE (ll 0) mB (nR te) as [] (v0::cq) Z K:=
 AY (fun ρ=>∃v,ρ=v::cq) ⟨_,rfl⟩ hl hz (fun i a r ρ N ha hr ⟨v,e⟩ k=>by
  subst e;rw[gZ,List.set_cons_zero]
  exact k _ ⟨_,rfl⟩ (he i a r ha hr)) (fun ρ _=>hk ρ)
theorem aD.any{P:Program}{w:World}{K:W.Frag}{mg:Str->Option Value}{base:Heap}{k:Nat}{f:Addr}{fd:FuncData}{ps:List Str}{ι:Type}{sp:ι->ASp}(h:∀i,aD P w K mg base CX0 k f fd ps (bz (sp i))):aD P w K mg base CX0 k f fd ps (bz fun xs Z Q=>∃i,sp i xs Z Q):=
 ⟨fun vs H Q E ⟨F,xs,Z,Q',rp,rv,⟨i,s⟩,kq⟩=>(h i).len vs H Q E ⟨F,xs,Z,Q',rp,rv,s,kq⟩,fun A outer s H args us vs Q E hr he hb hv ⟨F,xs,Z,Q',rp,rv,⟨i,q⟩,kq⟩=>(h i).run A outer s H args us vs Q E hr he hb hv ⟨F,xs,Z,Q',rp,rv,q,kq⟩⟩
theorem ny{tc:AT}{te:AE}{ds:List D}{v0:Option AV}{cq:SA}{Z:Om}{K:List AV->SA->Om->Prop}(S:Om->Prop)(h0:S Z)(ht:∀d∈ds,∀Z,S Z->∀Q:Bool->Om->Prop,(∀b Z',S Z'->Q b Z')->tc (some (.d d)::cq) Z Q)(he:∀d∈ds,∀Z,S Z->∀Q:AV->Om->Prop,Q (.d d) Z->te (some (.d d)::cq) Z Q)(hz:ds.length<=sizeLine)(hk:∀(es:List D) ρ Z,es.Sublist ds->S Z->K (es.map AV.d) ρ Z):eE (ll 0) tc (nR te) (ds.map AV.d) [] (v0::cq) Z K:=by
 refine EY (fun i xs ρ Z'=>∃v es,S Z'/\ρ=v::cq/\xs=es.map AV.d/\es.Sublist (ds.take i)) ⟨_,[],h0,rfl,rfl,List.nil_sublist _⟩ ?_ ?_
 ·rintro i d xs ρ Z' N hd ⟨v,es,hS,rfl,rfl,hs⟩ kN
  have hi:=(List.getElem?_eq_some_iff.mp hd).1;have hm:=List.mem_of_getElem? hd;have et:ds.take (i+1)=ds.take i++[d]:=by rw[List.take_succ,hd];rfl
  have hle:=hs.length_le;rw[List.length_take] at hle;rw[gZ,List.set_cons_zero];refine ht d hm _ hS _ fun b Z2 hS2=>?_
  cases b with
  |true=>
   rw[if_pos rfl,nA];refine he d hm _ hS2 _ ⟨by rw[List.length_map];omega,kN _ _ _ ⟨_,es++[d],hS2,rfl,by simp,?_⟩⟩
   rw[et];exact hs.append (List.Sublist.refl _)
  |false=>
   rw[if_neg Bool.false_ne_true];refine kN _ _ _ ⟨_,es,hS2,rfl,rfl,?_⟩;rw[et];exact hs.trans (List.sublist_append_left _ _)
 ·rintro xs ρ Z' ⟨v,es,hS,rfl,rfl,hs⟩
  rw[List.take_length] at hs;exact hk es _ _ hs hS
theorem B5{α:Type}{g:AG}{tc:AT}{te:AE}{as:List AV}{xs:List α}{ρ:SA}{Z:Om}{K:List AV->SA->Om->Prop}(R:SA->Prop)(h0:R ρ)(enc:α->AV)(p:α->Bool)(f:α->D)(ea:as=xs.map enc)(hz:xs.length<=sizeLine)(he:∀(x:α)(ρ:SA)(N:SA->Om->Prop),x∈xs->R ρ->(∀ρ1,R ρ1->(∀Q:Bool->Om->Prop,Q (p x) Z->tc ρ1 Z Q)->(p x=true->∀Q:AV->Om->Prop,Q (.d (f x)) Z->te ρ1 Z Q)->N ρ1 Z)->g (enc x) ρ Z N)(hk:∀ρ,R ρ->K (((xs.filter p).map f).map AV.d) ρ Z):eE g tc (nR te) as [] ρ Z K:=by
 subst ea;refine qi (fun i ys ρ Z'=>Z'=Z/\R ρ/\ys=(((xs.take i).filter p).map f).map AV.d) ⟨rfl,h0,rfl⟩ ?_ ?_
 ·rintro i a ys ρ Z' N ha ⟨rfl,hR,rfl⟩ kN
  rw[List.getElem?_map,Option.map_eq_some_iff] at ha;obtain⟨x,hx,rfl⟩:=ha;have hi:=(List.getElem?_eq_some_iff.mp hx).1;have et:xs.take (i+1)=xs.take i++[x]:=by rw[List.take_succ,hx];rfl
  refine he x ρ _ (List.mem_of_getElem? hx) hR fun ρ1 hR1 h1 h2=>h1 _ ?_
  cases hp:p x with
  |true=>
   rw[if_pos rfl,nA];refine h2 hp _ ⟨?_,kN _ _ _ ⟨rfl,hR1,?_⟩⟩
   ·rw[List.length_map,List.length_map]
    have:=List.length_filter_le p (xs.take i);rw[List.length_take] at this;omega
   ·rw[et,List.filter_append]
    simp[hp]
  |false=>
   rw[if_neg Bool.false_ne_true];refine kN _ _ _ ⟨rfl,hR1,?_⟩;rw[et,List.filter_append];simp[hp]
 ·rintro ys ρ Z' ⟨rfl,hR,rfl⟩
  rw[List.length_map,List.take_length];exact hk ρ hR
theorem xc{α:Type}{tc:AT}{te:AE}{xs:List α}{v0:Option AV}{cq:SA}{Z:Om}{K:List AV->SA->Om->Prop}(enc:α->D)(p:α->Bool)(f:α->D)(hz:xs.length<=sizeLine)(ht:∀x∈xs,∀Q:Bool->Om->Prop,Q (p x) Z->tc (some (.d (enc x))::cq) Z Q)(he:∀x∈xs,p x=true->∀Q:AV->Om->Prop,Q (.d (f x)) Z->te (some (.d (enc x))::cq) Z Q)(hk:∀ρ,K (((xs.filter p).map f).map AV.d) ρ Z):eE (ll 0) tc (nR te) ((xs.map enc).map AV.d) [] (v0::cq) Z K:=
 B5 (fun ρ=>∃ v,ρ = v :: cq) ⟨_,rfl⟩ (fun x=>.d (enc x)) p f (by simp) hz (fun x ρ N hx ⟨v,e⟩ k=>by
  subst e;rw[gZ,List.set_cons_zero]
  exact k _ ⟨_,rfl⟩ (ht x hx) (he x hx)) (fun ρ _=>hk ρ)
structure Pq where
 a:Addr
 ns:List Int
 i:Int
 f:Int
 h0:0<=i
 hf:0<=f
 hn:ns.length<=63
noncomputable def Dp:A2:=fun x y Z Q=>∃i j,x=.d (.str i)/\y=.d (.str j)/\i.length+j.length<=sizeLine/\Q (.d (.str (i++j))) Z
theorem sX(x y:AV)(Z:Om)(Q:AV->Om->Prop):Dp x y Z Q=(∃i j,x=.d (.str i)/\y=.d (.str j)/\i.length+j.length<=sizeLine/\Q (.d (.str (i++j))) Z):=rfl
theorem eh:eT (fun x y H Q=>∃i j,x=.str i/\y=.str j/\i.length+j.length<=sizeLine/\Q (.str (i++j)) H) Dp:=⟨fun F H Z v u x y Q Q' rp h1 h2 ⟨i,j,e1,e2,z,q⟩ k=>by
 subst e1 e2
 exact⟨i,j,dI h1,dI h2,z,k.str rp q⟩⟩
theorem lh{X:Cx}:c6 X (.type "int") (fun xs H Q=>∃(z:Str)(n:Int),xs=[.str z]/\PySem.intText? z=some n/\z.length<=640/\Q (.int n) H):=by
 intro pins s σ H xs us Q I r h;obtain⟨z,n,rfl,hn,hl,q⟩:=h;obtain⟨u,rfl,t,rfl⟩:=gi r;exact W.KIN.call_text hn hl ⟨.int n,H,I.tok _,⟨_,rfl⟩,q⟩
noncomputable def Eg:AC:=fun xs Z Q=>∃(z:Str)(n:Int),xs=[.d (.str z)]/\PySem.intText? z=some n/\z.length<=640/\Q (.d (.int n)) Z
theorem rV(xs:List AV)(Z:Om)(Q:AV->Om->Prop):Eg xs Z Q=(∃(z:Str)(n:Int),xs=[.d (.str z)]/\PySem.intText? z=some n/\z.length<=640/\Q (.d (.int n)) Z):=rfl
theorem vw:ln (fun xs H Q=>∃(z:Str)(n:Int),xs=[.str z]/\PySem.intText? z=some n/\z.length<=640/\Q (.int n) H) Eg:=⟨fun F H Z vs xs Q Q' rp rv ⟨z,n,e,h1,h2,q⟩ k=>by
 subst e;obtain⟨v,rfl,r⟩:=i3 rv
 exact⟨z,n,by rw[dI r],h1,h2,k.int rp q⟩⟩
noncomputable def Its(x:Str):It:=⟨fun i _=>i<x.cps.size,fun i H v H'=>H'=H/\∃c,x.cps[i]?=some c/\v=.str ⟨#[c]⟩,fun i _=>x.cps.size<=i⟩
theorem tF{P:Program}{w:World}{A:Around}(hh:A.handled=none)(it:Addr)(x:Str)(t:Tok):Walks P w A it [it] [it] x.cps.size (SignAt x) (fun i h=>h.IsStrIter it (strIterType x) x t i):=by
 cases ha:x.cps.all (·<128)
 ·have e:strIterType x="str_iterator":=by simp[strIterType,ha]
  rw[e];exact Walks.strWide hh it x t
 ·have e:strIterType x="str_ascii_iterator":=by simp[strIterType,ha]
  rw[e];exact Walks.strAscii hh it x t
theorem EK(x:Str):["enumerate","zip","dict_itemiterator","dict_reverseitemiterator","odict_iterator","itertools.zip_longest","itertools.pairwise"].contains (strIterType x)=false:=by
 unfold strIterType;split<;>decide
theorem y9{P:Program}{w:World}{K:W.Frag}{tg:Expr}(it:Addr)(x:Str)(t:Tok):yF P w K tg (Its x) [it] it (fun i h=>h.IsStrIter it (strIterType x) x t i/\i<=x.cps.size) where
 mem:=by simp
 obj:=fun i h st b hb=>by
  obtain rfl:b=it:=by simpa using hb
  obtain⟨⟨o,ho,_,hd⟩,_⟩:=st;exact⟨o,ho,fun v z=>by rw[hd] at z;cases z⟩
 keep:=fun i h h' st k=>by
  obtain⟨⟨o,ho,r⟩,hi⟩:=st;exact⟨⟨o,k it (by simp) o ho,r⟩,hi⟩
 item:=by
  intro X e1 e2 e3 hc i pins s σ H E I hf st hg;subst e1 e2 e3;obtain⟨g0,g1,g2,g3,g4,g5⟩:=hf it (by simp);have wk:=tF (P:=X.prog) (w:=X.w) (I.ok.hd hc) it x t
  refine wk.item i s _ _ hg st.1 fun v h' tk hv st' kk=>?_;obtain⟨c,u,hcu,rfl⟩:=hv;have I1:Inv X pins σ H { s with heap:=h',toks:=tk }:=I.turned (fun b o hb e=>kk b o (by simpa using hb) e) g0 g1 g3 g4 g5
  obtain⟨o,ho,hcl,hd⟩:=id st';exact⟨_,rfl,vR (s:={ s with heap:=h',toks:=tk }) ho hcl hd (EK x) ⟨.str ⟨#[c]⟩,H,I1,⟨u,rfl⟩,⟨rfl,c,hcu,rfl⟩,⟨st',hg⟩,fun b hb=>(hf b hb).1⟩⟩
 done:=by
  intro X e1 e2 e3 hc i pins s σ H E I hf st hg;subst e1 e2 e3;obtain⟨g0,g1,g2,g3,g4,g5⟩:=hf it (by simp);have wk:=tF (P:=X.prog) (w:=X.w) (I.ok.hd hc) it x t
  have ei:i=x.cps.size:=Nat.le_antisymm st.2 hg;subst ei;exact wk.done s _ _ st.1 fun h' tk kk=>⟨rfl,I.turned (t':=tk) (fun b o hb e=>kk b o (by simpa using hb) e) g0 g1 g3 g4 g5⟩
 self:=fun A i s Q E st h=>by
  cases ha:x.cps.all (·<128)
  ·exact wpAny_pyIter_striter_wide (by have:=st.1;rwa [show strIterType x="str_iterator" from by simp[strIterType,ha]] at this) h
  ·exact wpAny_pyIter_striter_ascii (by have:=st.1;rwa [show strIterType x="str_ascii_iterator" from by simp[strIterType,ha]] at this) h
noncomputable def GM(tl:TE):TI:=fun σ H R=>tl σ H fun x H1=>∃z,x=.str z/\R (Its z) H1
theorem A9{X:Cx}{tg l:Expr}{tl:TE}(hl:PE X l tl):PI X tg l (GM tl):=by
 intro pins s σ H R I h;refine thn (hl pins s σ H _ I h) fun v s1 ⟨x,H1,I1,r1,z,e,q⟩=>?_;subst e;obtain⟨t,rfl⟩:=r1;refine wpAny_pyIter_strU ⟨s1.heap.objs.size,[s1.heap.objs.size],_,_,H1,rfl,I1.kept (t':=s1.toks) fun b o e=>Heap.get?_push_of_some _ e,y9 _ z t,⟨⟨_,Heap.get?_push_size _ rfl,rfl,rfl⟩,Nat.zero_le _⟩,fun b hb=>?_,q⟩;obtain rfl:b=s1.heap.objs.size:=by simpa using hb
 exact I1.IQ (Nat.le_refl _) (I1.hok.fresh (Nat.le_refl _))
noncomputable def sgn(z:Str):List D:=z.cps.toList.map fun c=>D.str ⟨#[c]⟩
noncomputable def DQ(te:AE):AI:=fun ρ Z R=>te ρ Z fun x Z1=>∃z,x=.d (.str z)/\R ((sgn z).map AV.d) Z1
theorem rm(te:AE)(ρ:SA)(Z:Om)(R:List AV->Om->Prop):DQ te ρ Z R=(te ρ Z fun x Z1=>∃z,x=.d (.str z)/\R ((sgn z).map AV.d) Z1):=rfl
theorem F5{G:Hp}{z:Str}:yp G ((sgn z).map AV.d) (Its z):=fun F H Z rp s=>by
 refine⟨by simp[sgn,Its],fun i a ha=>?_⟩
 rw[sgn,List.map_map,List.getElem?_map,Option.map_eq_some_iff] at ha;obtain⟨c,hc,rfl⟩:=ha;have hc':z.cps[i]?=some c:=by simpa using hc
 refine⟨(Array.getElem?_eq_some_iff.mp hc').1,fun v H' hy=>?_⟩;obtain⟨rfl,c2,hc2,rfl⟩:=hy;rw[hc'] at hc2;cases hc2;exact⟨rp,.refl,by simp[RV,Dat]⟩
theorem Ek{te:TE}{te':AE}(h:bf te te'):tU (GM te) (DQ te'):=⟨fun F H Z σ ρ R R' rp rs w k=>h.go rp rs w fun x Z1 v H1 rp1 fr1 rs1 rv ⟨z,e,q⟩=>by
 subst e
 exact⟨z,dI rv,k _ Z1 _ H1 rp1 fr1 F5 q⟩⟩
inductive Bb:List (TE×TE)->List Str->List AE->Prop
 |nil:Bb [] [] []
 |cons {k:Str} {tv:TE} {tv':AE} {r:List (TE×TE)} {ks:List Str} {ts:List AE}:bf tv tv'->Bb r ks ts->Bb ((tC (.str k),tv)::r) (k::ks) (tv'::ts)
noncomputable def tx(l:List Nat):Str:=⟨l.toArray⟩
theorem cf(a b:List Nat):tx a++tx b=tx (a++b):=by
 show (⟨a.toArray++b.toArray⟩:Str)=⟨(a++b).toArray⟩;simp
theorem aA(a:List Nat):(tx a).length=a.length:=by simp[tx,Str.length]
noncomputable def jn(s:List Nat):List (List Nat)->List Nat
 | []=>[]
 | [x]=>x
 |x::y::r=>x++s++jn s (y::r)
theorem mH(s:List Nat):∀ls:List (List Nat),Str.join (tx s) (ls.map tx)=tx (jn s ls)
 | []=>rfl
 | [x]=>rfl
 |x::y::r=>by
  have h:=mH s (y::r);simp only[List.map_cons] at h ⊢;rw[Str.join,h,cf,cf,jn]
  all_goals intro hh;cases hh
noncomputable def DB:AC:=fun xs Z Q=>∃i:Int,xs=[.d (.int i)]/\i.natAbs.log2<1920/\Q (.d (.str (Str.ofString (toString i)))) Z
theorem tq(xs:List AV)(Z:Om)(Q:AV->Om->Prop):DB xs Z Q=(∃i:Int,xs=[.d (.int i)]/\i.natAbs.log2<1920/\Q (.d (.str (Str.ofString (toString i)))) Z):=rfl
theorem qC:ln (fun xs H Q=>∃i:Int,xs=[.int i]/\i.natAbs.log2<1920/\Q (.str (toString i)) H) DB:=⟨fun F H Z vs xs Q Q' rp rv ⟨i,e,h1,q⟩ k=>by
 subst e;obtain⟨v,rfl,r⟩:=i3 rv
 exact⟨i,by rw[bK r],h1,k.str rp q⟩⟩
theorem pB:∀ {ss:List Str} {its:List Value},aT (ss.map V.str) its->∃l:List (Str×Tok),its=strValues l/\l.map (·.1)=ss
 | [],its,r=>by cases r;exact⟨[],rfl,rfl⟩
 |z::ss,its,r=>by
  cases r with
  |cons r rr=>
   obtain⟨t,rfl⟩:=r;obtain⟨l,e1,e2⟩:=pB rr;exact⟨(z,t)::l,by rw[e1];rfl,by simp[e2]⟩
noncomputable def Dh(K:W.Frag):V->List V->Hp->VK->Prop:=fun x vs H Q=>∃(z:Str)(l:Addr)(ss:List Str),x=.str z/\vs=[.ref l]/\SqL K H l (ss.map V.str)/\JoinOk z ss=true/\Q (.str (Str.join z ss)) H
theorem nB{X:Cx}(K:W.Frag)(hK:X.K=K):MtR X "str.join" (Dh K):=by
 subst hK;intro pins s σ H x vs v us Q I rx rv h;obtain⟨z,l,ss,rfl,rfl,hq,hj,q⟩:=h;obtain⟨t,rfl⟩:=rx;obtain⟨u,rfl,ru⟩:=rv.one;cases ru;obtain⟨its,rv2,pl,hz⟩:=I.list hq;obtain⟨ps,rfl,e⟩:=pB rv2;refine SC.join (l:=ps) (texts:=ss) pl.isList e hj fun t' k=>⟨.str (Str.join z ss),H,I.tok k,⟨t',?_⟩,q⟩;show Value.str (Builtin.Str.glued z ss) t'=_;rw[StrLaws.glued_eq_join]
noncomputable def DC(to:AE)(t:AA):AE:=fun ρ Z Q=>to ρ Z fun x Z1=>∃z,x=.d (.str z)/\t ρ Z1 fun ys Z2=>∃y ss,ys=[y]/\bg Z2 y=some (.lst (ss.map D.str))/\JoinOk z ss=true/\Q (.d (.str (Str.join z ss))) Z2
theorem rX(to:AE)(t:AA)(ρ:SA)(Z:Om)(Q:AV->Om->Prop):DC to t ρ Z Q=(to ρ Z fun x Z1=>∃z,x=.d (.str z)/\t ρ Z1 fun ys Z2=>∃y ss,ys=[y]/\bg Z2 y=some (.lst (ss.map D.str))/\JoinOk z ss=true/\Q (.d (.str (Str.join z ss))) Z2):=rfl
theorem kO{G:Hp}:∀ {ss:List Str} {vs:List V},aG G (ss.map D.str) vs->vs=ss.map V.str
 | [],vs,h=>by cases vs with
  |nil=>rfl
  |cons v vs=>simp[aG] at h
 |z::ss,vs,h=>by cases vs with
  |nil=>simp[aG] at h
  |cons v vs=>
   simp only[List.map_cons,aG,Dat] at h;obtain⟨v',r,e,rfl,h2⟩:=h;cases e;rw[List.map_cons,kO h2]
theorem vm{K:W.Frag}{to:TE}{to':AE}{t:TA}{t':AA}(ho:bf to to')(ht:jF t t'):bf (tBM K "str" (Dh K) to t) (DC to' t'):=⟨fun F H Z σ ρ Q Q' rp rs w k=>
 ho.go rp rs w fun x Z1 v H1 rp1 fr1 rs1 rv1 ⟨z,e,q1⟩=>by
  subst e;cases dI rv1;refine⟨rfl,ht.go rp1 rs1 q1 fun ys Z2 vs H2 rp2 fr2 rs2 rv2 ⟨y,ss,e1,e2,e3,q⟩=>?_⟩;subst e1;obtain⟨u,rfl,r⟩:=i3 rv2;obtain⟨a,us,rfl,q1,q2⟩:=gj rp2 r e2;cases kO q2
  exact⟨z,a,ss,rfl,rfl,.inl (.inl q1),e3,(k.fr (fr1.trans fr2)).str rp2 q⟩⟩
noncomputable def G3:A2:=fun x y Z Q=>∃z i c,x=.d (.str z)/\y=.d (.int i)/\z.length<=sizeLine/\atI z.cps.toList i=some c/\Q (.d (.str (tx [c]))) Z
theorem wq(x y:AV)(Z:Om)(Q:AV->Om->Prop):G3 x y Z Q=(∃z i c,x=.d (.str z)/\y=.d (.int i)/\z.length<=sizeLine/\atI z.cps.toList i=some c/\Q (.d (.str (tx [c]))) Z):=rfl
theorem D0{K:W.Frag}:eT (rIx K) G3:=⟨fun F H Z v u x y Q Q' rp h1 h2 ⟨z,i,c,e1,e2,h3,h4,q⟩ k=>by
 subst e1 e2
 exact .inr (.inr ⟨z,i,c,dI h1,bK h2,h3,h4,k.str rp q⟩)⟩
noncomputable def Gg:V->Option Int->Option Int->Hp->VK->Prop:=fun x lo hi H Q=>∃z:Str,x=.str z/\z.length<=sizeLine/\Q (.str (Txt.slice z lo hi)) H
theorem Fq{X:Cx}:SlR X Gg:=by
 intro pins s σ H x v vl vu lo hi sl Q I rx hs pl pu h;obtain⟨z,rfl,hz,q⟩:=h;obtain⟨t,rfl⟩:=rx
 obtain⟨l,e1,e2⟩:∃l:Option (Int×Tok),vl=partValue l/\l.map (·.1)=lo:=by
  cases pl with
  |none=>exact⟨none,rfl,rfl⟩
  |int i t=>exact⟨some (i,t),rfl,rfl⟩
 obtain⟨u,e3,e4⟩:∃l:Option (Int×Tok),vu=partValue l/\l.map (·.1)=hi:=by
  cases pu with
  |none=>exact⟨none,rfl,rfl⟩
  |int i t=>exact⟨some (i,t),rfl,rfl⟩
 subst e1 e3 e2 e4;refine⟨"str",_,F.slot_str_getitem.lookup,typeIs_str _ _ _,wpAny_getItem_str_slice (l:=l) (u:=u) (st:=none) hs rfl ?_⟩;exact post_val_or_str (y:=z) (z:=⟨((slicePicked z l u none).filterMap (z.cps[·]?)).toArray⟩) ⟨Nat.le_trans (Txt.slice_le z _ _) hz,fun t' k=>⟨.str (Txt.slice z (l.map (·.1)) (u.map (·.1))),H,I.tok k,⟨t',rfl⟩,q⟩⟩
noncomputable def Hz(te:AE)(tl th:AO):AE:=fun ρ Z Q=>te ρ Z fun x Z1=>tl ρ Z1 fun lo Z2=>th ρ Z2 fun hi Z3=>∃z:Str,x=.d (.str z)/\z.length<=sizeLine/\Q (.d (.str (Txt.slice z lo hi))) Z3
theorem wy(te:AE)(tl th:AO)(ρ:SA)(Z:Om)(Q:AV->Om->Prop):Hz te tl th ρ Z Q=(te ρ Z fun x Z1=>tl ρ Z1 fun lo Z2=>th ρ Z2 fun hi Z3=>∃z:Str,x=.d (.str z)/\z.length<=sizeLine/\Q (.d (.str (Txt.slice z lo hi))) Z3):=rfl
theorem HG{te:TE}{te':AE}{tl th:TO}{tl' th':AO}(he:bf te te')(hl:Ref REq tl tl')(hh:Ref REq th th'):bf (tSl Gg te tl th) (Hz te' tl' th'):=⟨fun F H Z σ ρ Q Q' rp rs w k=>
 he.go rp rs w fun x Z1 v H1 rp1 fr1 rs1 rv1 q1=>hl.go rp1 rs1 q1 fun lo Z2 lo' H2 rp2 fr2 rs2 e2 q2=>hh.go rp2 rs2 q2 fun hi Z3 hi' H3 rp3 fr3 rs3 e3 ⟨z,e,hz,q⟩=>by
  cases (show lo=lo' from e2)
  cases (show hi=hi' from e3)
  subst e
  exact⟨z,dI rv1,hz,(k.fr ((fr1.trans fr2).trans fr3)).str rp3 q⟩⟩
noncomputable def DV:R2:=fun x y H Q=>∃(z:Str)(i:Int),x=.str z/\y=.int i/\0<=i/\i<=1/\z.length<=sizeLine/\Q (.str (if i=1 then z else Str.empty)) H
theorem CI{X:Cx}:OpR X (binaryOp .Mult) DV:=by
 intro pins s σ H x y v u Q I rx ry h;obtain⟨z,i,rfl,rfl,h0,h1,hz,q⟩:=h;obtain⟨t,rfl⟩:=rx;obtain⟨t',rfl⟩:=ry;by_cases hi:i=1
 ·subst hi
  rw[if_pos rfl] at q;refine P.mul_str (by decide) (fun _ h=>by simp at h) (fun _ h=>by simp at h) ?_
  simp only[show ¬ (1:Int)<1 by decide,if_false,beq_self_eq_true,Bool.true_or,if_true]
  exact⟨.str z,H,I,⟨t,rfl⟩,q⟩
 ·obtain rfl:i=0:=by omega
  rw[if_neg hi] at q;exact P.mul_str_none (by decide) (by decide) ⟨.str Str.empty,H,I.tok _,⟨_,rfl⟩,q⟩
noncomputable def C3:A2:=fun x y Z Q=>∃(z:Str)(i:Int),x=.d (.str z)/\y=.d (.int i)/\0<=i/\i<=1/\z.length<=sizeLine/\Q (.d (.str (if i=1 then z else Str.empty))) Z
theorem r6(x y:AV)(Z:Om)(Q:AV->Om->Prop):C3 x y Z Q=(∃(z:Str)(i:Int),x=.d (.str z)/\y=.d (.int i)/\0<=i/\i<=1/\z.length<=sizeLine/\Q (.d (.str (if i=1 then z else Str.empty))) Z):=rfl
theorem EO:eT DV C3:=⟨fun F H Z v u x y Q Q' rp h1 h2 ⟨z,i,e1,e2,h3,h4,h5,q⟩ k=>by
 subst e1 e2
 exact⟨z,i,dI h1,bK h2,h3,h4,h5,k.str rp q⟩⟩
inductive PFs (X:Cx):List Expr->List TE->Prop
 |nil:PFs X [] []
 |cons {e:Expr} {t:TE} {es:List Expr} {ts:List TE}:PE X e t->PFs X es ts->PFs X (e::es) (t::ts)
inductive AK:List TE->List AE->Prop
 |nil:AK [] []
 |cons {t:TE} {t':AE} {ts:List TE} {ts':List AE}:bf t t'->AK ts ts'->AK (t::ts) (t'::ts')
theorem nO(z:Str):∀(ss:List Str)(a:Nat),ss.foldl (fun(n:Nat) (y:Str)=>n+y.length+z.length) a=a+(ss.map fun y=>y.length+z.length).sum
 | [],a=>by simp
 |x::ss,a=>by rw[List.foldl_cons,nO z ss,List.map_cons,List.sum_cons];omega
theorem zU{B:Nat}(f:Str->Nat):∀ {ss:List Str},(∀y∈ss,f y<=B)->(ss.map f).sum<=ss.length*B
 | [],_=>by simp
 |x::ss,h=>by
  have h1:=h x (by simp)
  have h2:=zU f (ss:=ss) fun y hy=>h y (List.mem_cons_of_mem _ hy);rw[List.map_cons,List.sum_cons,List.length_cons,Nat.add_mul];omega
theorem lB{z:Str}{ss:List Str}(B:Nat)(h:∀y∈ss,y.length+z.length<=B)(h2:ss.length*B<=200000):JoinOk z ss=true:=by
 unfold JoinOk
 have e:ss.toArray.foldl (fun(n:Nat) (y:Str)=>n+y.length+z.length) 0=(ss.map fun y=>y.length+z.length).sum:=by
  rw[List.foldl_toArray,nO,Nat.zero_add]
 have h3:=zU (fun y=>y.length+z.length) h;have h4:(200000:Nat)<=sizeLine:=by decide
 show (!Builtin.Str.tooLong (ss.toArray.foldl (fun(n:Nat) (y:Str)=>n+y.length+z.length) 0))=true;rw[e];unfold Builtin.Str.tooLong;simp only[Bool.not_eq_true',decide_eq_false_iff_not];omega
end L2
namespace L2
open PySem PySem.Spec PyProof.Rows PySem.W
noncomputable def CXx(P:Program)(w:World):CXT:=fun outer H s E e s'=>∃(a C t:Addr)(H':Hp)(B:Heap),e=.ref a/\s'.os=s.os/\AllBare s'.gens/\Un (frs outer) [] H H' s.heap s'.heap/\HOk P w H' B /\
 Heap.FlyingW B outer a (.ref C) (.ref t) s'.heap/\(∀b o,s.heap.get? b=some o->H b=none->b ∉ frs outer->B.get? b=some o)/\(∀b o,s.heap.get? b=some o->b ∉ frs outer->∃o',B.get? b=some o')/\E (.ref a) (some C) H'
end L2
namespace L2
open PySem PySem.Spec PySem.Calls PyProof.Rows PySem.W PySem.Builtin PySem.Builtin.ObjectAttr PySem.Builtin.Getset_descriptor
noncomputable def clV:V->Option Value
 |.ref a=>some (.ref a)
 |.ty n=>some (.type n)
 |_=>none
theorem FT{v:V}{u c:Value}(r:bq v u)(h:clV v=some c):u=c:=by
 cases v<;>simp[clV] at h<;>subst h<;>exact r
noncomputable def FY:List V->Option (List Value)
 | []=>some []
 |v::r=>match clV v,FY r with
  |some c,some cs=>some (c::cs)
  |_,_=>none
theorem wO:∀ {vs:List V} {us cs:List Value},aT vs us->FY vs=some cs->us=cs
 | [],us,cs,r,h=>by cases r;cases h;rfl
 |v::vs,us,cs,r,h=>by
  cases r with
  |cons r1 rr=>
   simp only[FY] at h;split at h
   ·rename_i c cs' h1 h2
    cases h;rw[FT r1 h1,wO rr h2]
   ·cases h
end L2
namespace L2
open PySem PySem.Spec PySem.Calls PyProof.Rows PySem.W
end L2
namespace L2
open PySem PySem.Spec PyProof.Rows
noncomputable abbrev E8:=List AV->Om->(AV->Om->Prop)->(Addr->Om->Prop)->Prop
noncomputable def LX(F:Fs)(H:Hp)(Z:Om)(Ex:Addr->Om->Prop)(E:XK):Prop:=∀C Z' a H',Rep F H' Z'->Fr F H Z H' Z'->Ex C Z'->E (.ref a) (some C) H'
noncomputable abbrev AXS:=dn->(Addr->Om->Prop)->SA->Om->Prop
structure Ir(E:XK)(t:TS)(t':AXS):Prop where
 run:∀(F:Fs)(H:Hp)(Z:Om)(σ:St)(ρ:SA)(D:jL)(D':dn)(Ex:Addr->Om->Prop),Rep F H Z->RS (cut F H Z) ρ σ->t' D' Ex ρ Z->LE F H Z D' D->LX F H Z Ex E->t D σ H
noncomputable def GU(t u:AXS):AXS:=fun D Ex ρ Z=>t { D with nx:=u D Ex } Ex ρ Z
theorem zZ(t u:AXS)(D:dn)(Ex:Addr->Om->Prop)(ρ:SA)(Z:Om):GU t u D Ex ρ Z=t { D with nx:=u D Ex } Ex ρ Z:=rfl
theorem xg{G:Hp}:∀ {vs us:List V},RVs G (vs.map AV.r) us->us=vs
 | [],us,h=>h
 |v::vs,us,h=>by
  obtain⟨u,r,rfl,h1,h2⟩:=h;cases (show u=v from h1)
  rw[xg h2]
end L2
namespace L2
open PySem PySem.Spec PySem.Calls PyProof.Rows PySem.W
structure Iw(P:Program)(w:World)(K:W.Frag)(mg:Str->Option Value)(base:Heap)(H₀:Hp)(k:Nat)(f:Addr)(n:Nat)(sp:Sp):Prop where
 fn:∃(oc:Value)(od:Option Addr)(fd:FuncData) (sl:Array (Option Value)) (u:HO),H₀ f=some (.frz ⟨oc,od,.func fd,sl⟩ u)
 len:∀vs H Q E,sp vs H Q E->vs.length=n
 run:∀(A:Around)(outer:List Env)(s:Shared)(H:Hp)(us:List Value)(vs:List V)(Q:VK)(E:XK),eZ k A->ut P w K mg base A outer s H->Frz H₀ H->aT vs us->sp vs H Q E ->
  codeAny (model P w) A (.call (.ref f) ⟨us,[]⟩) (CR (CXx P w) outer P w H s Q E) s
end L2
namespace L2
open PySem PySem.Spec PySem.Calls PyProof.Rows
structure Ap3(z u o i j l p q r:Addr):Prop where
 uz:u≠z
 oz:o≠z
 iz:i≠z
 jz:j≠z
 lz:l≠z
 uo:u≠o
 ui:u≠i
 uj:u≠j
 ul:u≠l
 oi:o≠i
 oj:o≠j
 ol:o≠l
 ij:i≠j
 il:i≠l
 jl:j≠l
 np:∀c∈[z,u,o,i,j,l],p≠c
 nq:∀c∈[z,u,o,i,j,l],q≠c
 nr:∀c∈[z,u,o,i,j,l],r≠c
end L2
namespace L2
open PySem PySem.Spec PyProof.Rows
inductive O where
 |d (x:D)|box (b:Bool)|tup (os:List O)
noncomputable def StT(K:W.Frag)(a:Addr)(ns:List Int):Prop:=∃(o:Obj)(its:Array Value)(n:Nat),K.lookup a=some o/\o.cls=.type "tuple"/\o.data=.seq its n/\its.size<=sizeLine/\aT (ns.map V.int) its.toList
noncomputable def wX(a:Addr)(ns:List Int):R2:=fun x y H Q=>∃i:Int,x=.int i/\y=.ref a/\Q (.bl (!decide (i∈ns))) H
theorem wW(i:Int)(ns:List Int):inD (.int i) (ns.map D.int)=decide (i∈ns):=by
 unfold inD
 induction ns with
 |nil=>rfl
 |cons n ns ih=>
  rw[List.map_cons,List.any_cons,ih,mD];simp only[List.mem_cons];by_cases h:i=n
  ·subst h;simp
  ·have h':¬ n=i:=fun e=>h e.symm
   simp[h,h']
theorem xT{X:Cx}{a:Addr}{ns:List Int}(hT:StT X.K a ns)(hu:X.A.units+100<cLine):OpR X (compareOp .NotIn) (wX a ns):=by
 intro pins s σ H x y v u Q I rx ry h;obtain⟨i,rfl,rfl,q⟩:=h;cases ry;have hd:aG H (ns.map D.int) (ns.map V.int):=lD H ns
 have he:∀ {its:List Value},aT (ns.map V.int) its->∀w,w∈its.toArray->SeqAt.EqAt X.A.in1 s w v (eqF H (.int i) w):=fun r w hw=>by
  obtain⟨d,z,hm,rz,hz⟩:=i4 hd r w (by simpa using hw)
  rw[m5 rz hz];refine(kj I 90 d (.int i) z (.int i) w v X.A.in1 ?_ (by show X.A.units+1+90<cLine;omega) hz (by simp[Dat]) rz rx).2.1
  obtain⟨j,_,rfl⟩:=List.mem_map.mp hm;simp[dep]
 obtain⟨its,r,pl,_⟩:=I.tuple (xs:=ns.map V.int) (a:=a) (.inr hT);refine SeqAt.notIn_tupleAt (eqF H (.int i)) pl (he r) ⟨.bl _,H,I,rfl,?_⟩;rw[show its.toArray.any (eqF H (.int i))=its.any (eqF H (.int i)) by simp,gc hd r]
 have:=wW i ns;unfold inD at this;rw[this];exact q
noncomputable def CQ(a:Addr)(ns:List Int):A2:=fun x y Z Q=>∃i:Int,x=.d (.int i)/\y=.r (.ref a)/\Q (.d (.bl (!decide (i∈ns)))) Z
theorem Ad{a:Addr}{ns:List Int}:eT (wX a ns) (CQ a ns):=⟨fun F H Z v u x y Q Q' rp h1 h2 ⟨i,e1,e2,q⟩ k=>by
 subst e1 e2
 exact⟨i,bK h1,h2,k.bl rp q⟩⟩
end L2
namespace L2
open PySem PySem.Spec PyProof.Rows AutoSeq1
noncomputable def A7:V->List V->Hp->VK->Prop:=fun x vs H Q=>∃z:Str,x=.str z/\vs=[]/\z.length<=1000/\Q (.str (Txt.upper z)) H
theorem zh{X:Cx}:MtR X "str.upper" A7:=by
 intro pins s σ H x vs v us Q I rx rv h;obtain⟨z,rfl,rfl,hz,q⟩:=h;obtain⟨t,rfl⟩:=rx;cases rv;exact SCL.upper (by omega) fun _=>⟨.str _,H,I.tok _,⟨_,rfl⟩,q⟩
noncomputable def vt(to:AE):AE:=fun ρ Z Q=>to ρ Z fun x Z1=>∃z,x=.d (.str z)/\z.length<=1000/\Q (.d (.str (Txt.upper z))) Z1
theorem CA{K:W.Frag}{to:TE}{to':AE}(ho:bf to to'):bf (Fg K "str" A7 to) (vt to'):=⟨fun F H Z σ ρ Q Q' rp rs w k=>
 ho.go rp rs w fun x Z1 v H1 rp1 fr1 rs1 rv1 ⟨z,e,hz,q1⟩=>by
  subst e;cases dI rv1
  exact⟨rfl,z,rfl,rfl,hz,k _ Z1 _ H1 rp1 fr1 (by simp[RV,Dat]) q1⟩⟩
end L2
namespace L2
open PySem PySem.Spec PyProof PyProof.Rows PySem.SeqAt
open AutoSeq1 (wpAny_loadPart')
noncomputable def LtA(A:Around)(s:Shared)(x y:Value)(b:Bool):Prop:=∀(p:Program)(w:World)(E:Value->Shared->Prop)(Q:Value->Shared->Prop),Q (.bool b) s->wpAny (model p w) A (richCompare .Lt x y) Q E s
noncomputable def sn(A:Around)(s:Shared)(fin:Bool):List (Value×Value)->Bool->Prop
 | [],r=>r=fin
 |(p,q)::t,r=>∃b,EqAt A s p q b/\(b=true->sn A s fin t r)/\(b=false->LtA A s p q r)
theorem yA(x y:Addr)(xs ys:Array Value)(n m:Nat)(dx dy:Option Addr)(sx sy:Array (Option Value))(r:Bool):
  Meets (Builtin.«tuple.__lt__» ⟨[.ref x,.ref y],[]⟩)
   (fun A R s=>s.heap.get? x=some { cls:=.type "tuple",dict:=dx,data:=.seq xs n,slots:=sx }/\s.heap.get? y=some { cls:=.type "tuple",dict:=dy,data:=.seq ys m,slots:=sy } /\
    sn A.in1 s (decide (xs.size<ys.size)) (xs.toList.zip ys.toList) r/\R (.ok (.ret (.bool r))) s):=
 .of_wp fun prog w A R s h=>by
  obtain⟨hp,g,d,tk,os⟩:=s;obtain⟨hx,hy,he,h⟩:=h;have f2:=AutoSeq1.sub_tuple_tuple
  wp_walk using wpAny_loadPart' hx,wpAny_loadPart' hy,wpAny_forIn_list _ (fun cq b s'=>b.1=none/\s'=⟨hp,g,d,tk,os⟩/\sn A.in1 ⟨hp,g,d,tk,os⟩ (decide (xs.size<ys.size)) cq r) _
  case turn=>
   rintro⟨p,q⟩ cq b s' ⟨hb,rfl,hL⟩;obtain⟨k,hk,h1,h2⟩:=hL;refine wpAny_bind (hk prog w _ _ ?_)
   cases k with
   |true=>
    wp_walk
    exact⟨rfl,rfl,h1 rfl⟩
   |false=>
    rw[if_pos (by rfl)]
    refine wpAny_bind (wpAny_rule (wpAny_bind (h2 rfl prog w _ _ ?_)))
    wp_walk
    exact⟨_,rfl,h⟩
  case fin=>
   rintro⟨b1,b2⟩ s' ⟨hb,rfl,hL⟩;simp only at hb;subst hb;have e:r=decide (xs.size<ys.size):=hL;subst e
   wp_walk
   exact⟨_,rfl,h⟩
  case h=>exact⟨rfl,rfl,he⟩
theorem LtA.tuples{A:Around}{s:Shared}{x y:Addr}{xs ys:Array Value}{r:Bool}(hx:s.heap.IsTuple x xs)(hy:s.heap.IsTuple y ys)(hu:A.units<cLine)(he:sn A.in1 s (decide (xs.size<ys.size)) (xs.toList.zip ys.toList) r):LtA A s (.ref x) (.ref y) r:=fun p w E Q q=>by
 obtain⟨⟨c1,d1,t1,l1⟩,o1,hc1,n1,hd1⟩:=id hx;obtain⟨⟨c2,d2,t2,l2⟩,o2,hc2,n2,hd2⟩:=id hy;simp only at hc1 hd1 hc2 hd2;subst hc1 hd1 hc2 hd2;exact richCompare_meets_room (op:=.Lt) ⟨_,o1,rfl⟩ ⟨_,o2,rfl⟩ F.slot_tuple_lt F.entry_tuple_lt (F.args_tuple_lt_2 _ _) (yA x y xs ys n1 n2 d1 d2 l1 l2 r) ⟨o1,o2,he,show Value.bool r≠Value.notImplemented/\Q (.bool r) s from ⟨fun z=>(nomatch z),q⟩⟩ hu
mutual
noncomputable def ltD:D->D->Bool
 |.int a,.int b=>decide (a<b)
 |.str a,.str b=>decide (a.cps.toList<b.cps.toList)
 |.tup xs,.tup ys=>tL xs ys
 |_,_=>false
noncomputable def tL:List D->List D->Bool
 | [],[]=>false
 | [],_::_=>true
 |_::_,[]=>false
 |x::xs,y::ys=>if eqD x y then tL xs ys else ltD x y
end
mutual
noncomputable def cmD:D->D->Bool
 |.int _,.int _=>true
 |.str _,.str _=>true
 |.tup xs,.tup ys=>tE xs ys
 |_,_=>false
noncomputable def tE:List D->List D->Bool
 |x::xs,y::ys=>if eqD x y then tE xs ys else cmD x y
 |_,_=>true
end
section
variable{X:Cx}{pins:List (Addr×Obj)}{σ:St}{H:Hp}{s:Shared}
theorem Bp(I:Inv X pins σ H s){A:Around}{n:Nat}(hu:A.units+n<cLine)(lt:∀(d e:D)(x y:V)(v u:Value),dep d<=n->Dat H d x->Dat H e y->bq x v->bq y u->cmD d e=true->LtA A s v u (ltD d e)):
  ∀ {ds es:List D} {xs ys:List V} {vs us:List Value},dY ds<=n->aG H ds xs->aG H es ys->aT xs vs->aT ys us->tE ds es=true->sn A s (decide (vs.length<us.length)) (vs.zip us) (tL ds es)
 | [],[],xs,ys,vs,us,_,h1,h2,r1,r2,_=>by
  simp only[aG] at h1 h2;subst h1 h2;cases r1;cases r2;rfl
 | [],e::es,xs,ys,vs,us,_,h1,h2,r1,r2,_=>by
  simp only[aG] at h1 h2;obtain⟨y,yr,rfl,_,_⟩:=h2;subst h1;cases r1;cases r2;simp[sn,tL]
 |d::ds,[],xs,ys,vs,us,_,h1,h2,r1,r2,_=>by
  simp only[aG] at h1 h2;obtain⟨x,xr,rfl,_,_⟩:=h1;subst h2;cases r1;cases r2;simp[sn,tL]
 |d::ds,e::es,xs,ys,vs,us,hd,h1,h2,r1,r2,hc=>by
  simp only[aG] at h1 h2;obtain⟨x,xr,rfl,hx,hxr⟩:=h1;obtain⟨y,yr,rfl,hy,hyr⟩:=h2
  cases r1 with
  | @cons _ v _ vs rx rxr=>
  cases r2 with
  | @cons _ u _ us ry ryr=>
  have d1:dep d<=n:=Nat.le_trans (nu (List.mem_cons_self ..)) hd;have d2:dY ds<=n:=by simp only[dY] at hd;omega
  simp only[tE] at hc;simp only[List.zip_cons_cons,sn,tL];refine⟨eqD d e,(kj I n d e x y v u A d1 hu hx hy rx ry).2.1,fun q=>?_,fun q=>?_⟩
  ·rw[if_pos q] at hc ⊢
   have:=Bp I hu lt d2 hxr hyr rxr ryr hc;rw[show decide ((v::vs).length<(u::us).length)=decide (vs.length<us.length) from by simp]
   exact this
  ·rw[if_neg (by rw[q];decide)] at hc ⊢
   exact lt d e x y v u d1 hx hy rx ry hc
theorem Gk(I:Inv X pins σ H s):∀(n:Nat)(A:Around)(d e:D)(x y:V)(v u:Value),A.units+n<cLine->dep d<=n->Dat H d x->Dat H e y->bq x v->bq y u->cmD d e=true->LtA A s v u (ltD d e):=fun n=>by
 induction n with
 |zero=>
  intro A d e x y v u hu hd hx hy rx ry hc
  cases d with
  |int a=>
   cases e<;>simp only[cmD,Bool.false_eq_true] at hc
   simp only[Dat] at hx hy;subst hx hy;obtain⟨t1,rfl⟩:=rx;obtain⟨t2,rfl⟩:=ry;exact fun p w E Q q=>lt_int q
  |str a=>
   cases e<;>simp only[cmD,Bool.false_eq_true] at hc
   simp only[Dat] at hx hy;subst hx hy;obtain⟨t1,rfl⟩:=rx;obtain⟨t2,rfl⟩:=ry;exact fun p w E Q q=>lt_str q
  |tup ds=>simp[dep] at hd
  |non=>cases e<;>simp[cmD] at hc
  |bl b=>cases e<;>simp[cmD] at hc
  |lst b=>cases e<;>simp[cmD] at hc
  |dk b=>cases e<;>simp[cmD] at hc
  |dt b=>cases e<;>simp[cmD] at hc
 |succ n ih=>
  intro A d e x y v u hu hd hx hy rx ry hc;by_cases h0:dep d<=n
  ·exact ih A d e x y v u (by omega) h0 hx hy rx ry hc
  have hin:A.in1.units+n<cLine:=by show A.units+1+n<cLine;omega
  cases d with
  |tup ds=>
   cases e<;>simp only[cmD,Bool.false_eq_true] at hc
   rename_i es
   simp only[Dat] at hx hy;obtain⟨a,xs,rfl,ha,hxs⟩:=hx;obtain⟨b,ys,rfl,hb,hys⟩:=hy;cases rx;cases ry;obtain⟨its,r1,p1⟩:=f9 I ha;obtain⟨jts,r2,p2⟩:=f9 I hb;have:=Bp I hin (fun d e x y v u q1 q2 q3 q4 q5 q6=>ih A.in1 d e x y v u hin q1 q2 q3 q4 q5 q6) (by simp only[dep] at hd;omega) hxs hys r1 r2 hc
   exact LtA.tuples p1 p2 (by omega) (by simpa[ltD] using this)
  |int a=>simp only[dep] at h0;omega
  |str a=>simp only[dep] at h0;omega
  |non=>cases e<;>simp[cmD] at hc
  |bl b=>cases e<;>simp[cmD] at hc
  |lst b=>cases e<;>simp[cmD] at hc
  |dk b=>cases e<;>simp[cmD] at hc
  |dt b=>cases e<;>simp[cmD] at hc
noncomputable def Ge:R2:=fun x y H Q=>∃d e,Dat H d x/\Dat H e y/\dep d<=100/\cmD d e=true/\Q (.bl (ltD d e)) H
theorem zy(hu:X.A.units+100<cLine):OpR X (compareOp .Lt) Ge:=by
 intro pins s σ H x y v u Q I rx ry h;obtain⟨d,e,hx,hy,hd,hc,q⟩:=h;exact Gk I 100 X.A d e x y v u hu hd hx hy rx ry hc X.prog X.w _ _ ⟨.bl _,H,I,rfl,q⟩
end
noncomputable def Hx:A2:=fun x y Z Q=>∃a b,bg Z x=some a/\bg Z y=some b/\dep a<=100/\cmD a b=true/\Q (.d (.bl (ltD a b))) Z
theorem xJ(x y:AV)(Z:Om)(Q:AV->Om->Prop):Hx x y Z Q=∃a b,bg Z x=some a/\bg Z y=some b/\dep a<=100/\cmD a b=true/\Q (.d (.bl (ltD a b))) Z:=rfl
theorem DH:eT Ge Hx:=⟨fun F H Z v u x y Q Q' rp h1 h2 ⟨a,b,e1,e2,s,c,q⟩ k=>⟨a,b,gx rp h1 e1,gx rp h2 e2,s,c,k.bl rp q⟩⟩
section
variable{X:Cx}{pins:List (Addr×Obj)}{σ:St}{H:Hp}{s:Shared}{A:Around}{E:Value->Shared->Prop}{Q:Value->Shared->Prop}{b:Bool}
theorem vh{x:V}{u:Value}{t:String}{tp:Addr}{dd:Option Addr}{its:List Value}{n:Nat}{sl:Array (Option Value)}(I:Inv X pins σ H s)(rx:bq x u)(ty:fw H x=some t)(hT:s.heap.get? tp=some ⟨.type "tuple",dd,.seq its.toArray n,sl⟩)(e:W.kitAny X.K (.type t) its=some b)(h:∀tk,Q (.bool b) { s with toks:=tk }):wpAny (model X.prog X.w) A (call (.builtin "isinstance") [u,.ref tp]) Q E s:=by
 cases x with
 |non=>cases ty;cases rx;exact W.kia_tup W.kitx_none I.kIn trivial hT e (fun z=>nomatch z) h
 |bl y=>cases ty;cases rx;exact W.kia_tup W.kitx_bool I.kIn trivial hT e (fun z=>nomatch z) h
 |int i=>cases ty;obtain⟨_,rfl⟩:=rx;exact W.kia_tup W.kitx_int I.kIn trivial hT e (fun z=>nomatch z) h
 |str y=>cases ty;obtain⟨_,rfl⟩:=rx;exact W.kia_tup W.kitx_str I.kIn trivial hT e (fun z=>nomatch z) h
 |byt b=>cases ty
 |flt b=>cases ty
 |ty n=>cases ty
 |ref a=>
  cases rx;unfold fw at ty;dsimp only at ty;split at ty
  ·rename_i q;cases ty
   obtain⟨_,_,n,_,h1⟩:=(show cE X.prog X.w H s.heap a (.lst _) from I.hok a _ q)
   exact W.kia_tup W.kitx_list I.kIn ⟨_,h1,rfl⟩ hT e (fun z=>nomatch z) h
  ·rename_i q;cases ty
   obtain⟨_,_,_,p⟩:=(show cE X.prog X.w H s.heap a (.tup _) from I.hok a _ q)
   obtain⟨o,h1,h2,_⟩:=p.1;exact W.kia_tup W.kitx_tuple I.kIn ⟨o,h1,h2⟩ hT e (fun z=>nomatch z) h
  ·rename_i q;cases ty
   obtain⟨_,_,vs,_,p⟩:=(show cE X.prog X.w H s.heap a (.dK _) from I.hok a _ q)
   obtain⟨o,es,ep,h1,h2,_⟩:=p;exact W.kia_tup W.kitx_dict I.kIn ⟨o,h1,h2.1⟩ hT e (fun z=>nomatch z) h
  ·rename_i q;cases ty
   obtain⟨es,ep,h1⟩:=nE I q;exact W.kia_tup W.kitx_dict I.kIn ⟨_,h1,rfl⟩ hT e (fun z=>nomatch z) h
  ·rename_i q;cases ty
   obtain⟨_,_,_,n,_,h1⟩:=(show cE X.prog X.w H s.heap a (.frz _ (.lst _)) from I.hok a _ q)
   exact W.kia_tup W.kitx_list I.kIn ⟨_,h1,rfl⟩ hT e (fun z=>nomatch z) h
  ·cases ty
theorem F4(K:W.Frag){t:String}(ht:t∈jP):W.kitAny K (.type t) [.type "list",.type "tuple"]=some (t == "list" || t == "tuple"):=by
 simp only[jP,List.mem_cons,List.not_mem_nil,or_false] at ht;rcases ht with rfl|rfl|rfl|rfl|rfl|rfl|rfl<;>with_unfolding_all rfl
end
noncomputable def DZ:List V->Hp->VK->Prop:=fun xs H Q=>∃x tp t,xs=[x,.ref tp]/\H tp=some (.tup [.ty "list",.ty "tuple"])/\fw H x=some t/\Q (.bl (t == "list" || t == "tuple")) H
theorem x0{X:Cx}:c6 X (.builtin "isinstance") DZ:=by
 intro pins s σ H xs us Q I r h;obtain⟨x,tp,t,rfl,ht,hx,q⟩:=h;obtain⟨u1,u2,rfl,r1,r2⟩:=aT.two r;obtain rfl:u2=Value.ref tp:=r2;obtain⟨_,its,rv,⟨ot,e1,e2,n,e3⟩,_⟩:=I.hok tp _ ht;have e4:=wO (cs:=[.type "list",.type "tuple"]) rv rfl;subst e4;obtain⟨oc,od,oda,osl⟩:=ot;dsimp only at e2 e3;subst e2 e3;exact vh I r1 hx e1 (F4 X.K (lQ hx)) fun tk=>⟨.bl _,H,I.tok tk,rfl,q⟩
noncomputable def DD(tx:AE)(tcs:AA):AE:=fun ρ Z Q=>tx ρ Z fun x Z1=>tcs ρ Z1 fun cs Z2=>∃d,cs=[.r (.ty "list"),.r (.ty "tuple")]/\bg Z2 x=some d/\Q (.d (.bl (tyD d == "list" || tyD d == "tuple"))) Z2
theorem AF(tx:AE)(tcs:AA)(ρ:SA)(Z:Om)(Q:AV->Om->Prop):DD tx tcs ρ Z Q=tx ρ Z fun x Z1=>tcs ρ Z1 fun cs Z2=>∃d,cs=[.r (.ty "list"),.r (.ty "tuple")]/\bg Z2 x=some d/\Q (.d (.bl (tyD d == "list" || tyD d == "tuple"))) Z2:=rfl
theorem EN{tx:TE}{tx':AE}{tcs:TA}{tcs':AA}(hx:bf tx tx')(hc:jF tcs tcs'):bf (tCB DZ (gO tx (gO (FA tcs) A5))) (DD tx' tcs'):=⟨fun F H Z σ ρ Q Q' rp rs w k=>
 hx.go rp rs w fun x Z1 v H1 rp1 fr1 rs1 rv1 q1=>hc.go rp1 rs1 q1 fun cs Z2 us H2 rp2 fr2 rs2 rv2 ⟨d,e,h1,q⟩=>by
  subst e;cases xg (vs:=[.ty "list",.ty "tuple"]) rv2;refine⟨Nat.le_of_lt (aS (by decide)),fun p hp=>?_⟩
  obtain⟨rp3,fr3,hc3⟩:=rp2.lay (o:=.tup [.ty "list",.ty "tuple"]) hp
  exact⟨v,p,tyD d,rfl,b9,DK (gx rp3 (rv1.same (fr2.trans fr3).same) h1),(k.fr ((fr1.trans fr2).trans fr3)).bl rp3 q⟩⟩
end L2
namespace L2
open PySem PySem.Spec PyProof PyProof.Rows PySem.SeqAt
end L2
namespace L2
open PySem PySem.Spec PySem.Calls PyProof PyProof.Rows PySem.SeqAt
section
variable{prog:Program}{w:World}{A:Around}{E:Value->Shared->Prop}{s:Shared}
noncomputable def Ee(h0 h:Heap):Prop:=∀x o,h0.get? x=some o->h.get? x=some o
structure Iu(prog:Program)(w:World)(A:Around)(h0:Heap)(s:Shared)(vs:List Value)(c:Nat->Nat->Bool)(b:Bool):Prop where
 kind:∀h,Ee h0 h->∃fs T,W.KatTups h vs fs/\fs.length=vs.length/\(∀v∈fs,W.Looks (model prog w) h (typeOf v) T)/\(T == T)=true/\(T != Value.type "tuple")=b
 ask:∀h,Ee h0 h->∀i j,i<vs.length->j<vs.length->∀(C:Bool->Shared->Prop)(E:Value->Shared->Prop),C (c i j) { s with heap:=h }->wpAny (model prog w) A (keyLt' (tuples' b) (vs.getD i Value.none) (vs.getD j Value.none)) C E { s with heap:=h }
end
section
variable{X:Cx}{pins:List (Addr×Obj)}{σ:St}{H:Hp}{s:Shared}{A:Around}
noncomputable def HY(k:Bool)(d:D):Prop:=∃r,(k=true/\∃z,d=.tup (.str z::r))\/(k=false/\∃i,d=.tup (.int i::r))
end
structure Srt(W:List D)(key:D->List Int)(k:Bool):Prop where
 row:∀d∈W,HY k d
 cmp:∀d∈W,∀e∈W,cmD d e=true
 lt:∀d∈W,∀e∈W,ltD d e=dM (key d) (key e)
end L2
namespace L2
open PySem PySem.Spec PyProof PyProof.Rows PySem.SeqAt
section
variable{K:W.Frag}{x qual:Str}{st:Stmt}{f:Addr}{fd:FuncData}
theorem Fun.ID{p0:Str}(F:Fun K x qual st f fd)(h:∀(kV doc pm:Value)(an:Option Addr)(cdv ct:Value)(u0:Value),bindArgs (W.fnOf x qual (defArgs st) (defBody st) (defScope st) .none kV doc pm an cdv ct) ⟨[u0],[]⟩=pure ([p0].zip [u0])):bo K fd [p0] []:=
 F.binds fun a b c d e g us hl=>match us,hl with | [u0],_=>h a b c d e g u0
theorem Fun.IF{p0 p1:Str}(F:Fun K x qual st f fd)(h:∀(kV doc pm:Value)(an:Option Addr)(cdv ct:Value)(u0 u1:Value),bindArgs (W.fnOf x qual (defArgs st) (defBody st) (defScope st) .none kV doc pm an cdv ct) ⟨[u0,u1],[]⟩=pure ([p0,p1].zip [u0,u1])):bo K fd [p0,p1] []:=
 F.binds fun a b c d e g us hl=>match us,hl with | [u0,u1],_=>h a b c d e g u0 u1
theorem Fun.IG{p0 p1 p2:Str}(F:Fun K x qual st f fd)(h:∀(kV doc pm:Value)(an:Option Addr)(cdv ct:Value)(u0 u1 u2:Value),bindArgs (W.fnOf x qual (defArgs st) (defBody st) (defScope st) .none kV doc pm an cdv ct) ⟨[u0,u1,u2],[]⟩=pure ([p0,p1,p2].zip [u0,u1,u2])):bo K fd [p0,p1,p2] []:=
 F.binds fun a b c d e g us hl=>match us,hl with | [u0,u1,u2],_=>h a b c d e g u0 u1 u2
theorem Fun.IP{p0 p1 p2 p3:Str}(F:Fun K x qual st f fd)(h:∀(kV doc pm:Value)(an:Option Addr)(cdv ct:Value)(u0 u1 u2 u3:Value),bindArgs (W.fnOf x qual (defArgs st) (defBody st) (defScope st) .none kV doc pm an cdv ct) ⟨[u0,u1,u2,u3],[]⟩=pure ([p0,p1,p2,p3].zip [u0,u1,u2,u3])):bo K fd [p0,p1,p2,p3] []:=
 F.binds fun a b c d e g us hl=>match us,hl with | [u0,u1,u2,u3],_=>h a b c d e g u0 u1 u2 u3
end
end L2
namespace L2
open PySem PySem.Spec PyProof.Rows
end L2
namespace L2
open PySem PySem.Spec PySem.Calls PyProof.Rows PySem.W
end L2
namespace L2
open PySem PySem.Spec PyProof.Rows
structure cW(K:W.Frag)(x:Str)(st:Stmt)(a:Addr)(fd:FuncData):Prop where
 g:W.nsIn K mainGlobals x=some (some (.ref a))
 f:Fun K x x st a fd
 e:W.keepIn K (.ref a)=true
theorem HH{K:W.Frag}{x:Str}{st:Stmt}{a:Addr}{oc:Value}{od an:Option Addr}{osl:Array (Option Value)}{kV doc pm cdv ct:Value}(g:W.nsIn K mainGlobals x=some (some (.ref a)))(l:K.lookup a=some ⟨oc,od,.func (W.fnOf x x (defArgs st) (defBody st) (defScope st) .none kV doc pm an cdv ct),osl⟩)(c:W.codeIn K cdv x=true)(e:W.keepIn K (.ref a)=true):cW K x st a (W.fnOf x x (defArgs st) (defBody st) (defScope st) .none kV doc pm an cdv ct):=⟨g,Bn l c e,e⟩
theorem fsc{N P:List Str}{sc:Scope}(a:sc.kind=.function)(b:sc.isCoroutine=false)(c:sc.isGenerator=false)(h:N.Nodup/\N.take P.length=P/\(∀x∈P,sc.names.lookup x=some .local\/sc.names.lookup x=some .cell)/\∀y∈sc.names,y.2≠.free):aM N P sc:=⟨a,b,c,h.1,h.2.1,h.2.2.1,h.2.2.2⟩
end L2
namespace L2
open PySem PySem.Spec PyProof.Rows
open AutoSeq1 (wpAny_loadPart')
theorem fY:fillsNumberSlot (.type "tuple") "mul"=pure false:=
 PySem.fillsNumberSlot_seq (id:="tuple.__mul__") (r:=some (.builtin "tuple.__rmul__")) F.slot_tuple_mul.lookup (by decide +kernel) F.slot_tuple_rmul.lookup (by decide +kernel)
theorem jW:seqRepeat? (.type "tuple")=pure (some (.builtin "tuple.__mul__")):=by
 unfold seqRepeat?;rw[PySem.seqSlot_of (T:="tuple") (name:="__mul__") (id:="tuple.__mul__") F.slot_tuple_mul.lookup (by decide +kernel),PySem.seqSlot_of (T:="tuple") (name:="__rmul__") (id:="tuple.__rmul__") F.slot_tuple_rmul.lookup (by decide +kernel)]
 rfl
theorem mW(a:Int)(t:Tok)(l:Addr)(items:Array Value)(n:Nat)(dd:Option Addr)(sl:Array (Option Value)):
  Meets (Builtin.«int.__rmul__» ⟨[.int a t,.ref l],[]⟩) (fun _ R s=>s.heap.get? l=some ⟨.type "tuple",dd,.seq items n,sl⟩/\R (.ok (.ret Value.notImplemented)) s):=
 .of_wp fun prog w A R s h=>by obtain⟨hp,g,d,tk,os⟩:=s;obtain⟨hl,h⟩:=h;wp_walk using wpAny_loadPart' hl;exact⟨_,rfl,h⟩
theorem AB(l:Addr)(items:Array Value)(n:Nat)(dd:Option Addr)(sl:Array (Option Value))(t:Tok):
  Meets (Builtin.«tuple.__mul__» ⟨[.ref l,.int 1 t],[]⟩) (fun _ R s=>s.heap.get? l=some ⟨.type "tuple",dd,.seq items n,sl⟩/\R (.ok (.ret (.ref l))) s):=
 .of_wp fun prog w A R s h=>by
  obtain⟨hp,g,d,tk,os⟩:=s;obtain⟨hl,h⟩:=h;have hc1:(items.isEmpty || (1:Int) == 1)=true:=by simp
  wp_walk using wpAny_loadPart' hl
  exact⟨_,rfl,h⟩
theorem sL(its:List Value):∀(m:Nat)(acc:List Value),List.foldl (fun x1 x2=>x1++x2) acc.toArray (List.replicate m its.toArray)=(acc++(List.replicate m its).flatten).toArray
 |0,acc=>by simp
 |m+1,acc=>by
  have:=sL its m (acc++its);rw[List.replicate_succ,List.foldl_cons,List.replicate_succ,List.flatten_cons,←List.append_assoc,←this]
  simp
theorem BY(l:Addr)(its:List Value)(n:Nat)(dd:Option Addr)(sl:Array (Option Value))(k:Int)(t:Tok)(h0:its≠[])(h2:2<=k)(hk:k<=1000)(hz:(its.length:Int)*k<=1000):
  Meets (Builtin.«tuple.__mul__» ⟨[.ref l,.int k t],[]⟩) (fun _ R s=>s.heap.get? l=some ⟨.type "tuple",dd,.seq its.toArray n,sl⟩/\R (.ok (.ret (.ref s.heap.objs.size))) { s with heap:=s.heap.push { cls:=.type "tuple",data:=.seq ((List.replicate k.toNat its).flatten).toArray } }):=
 .of_wp fun prog w A R s h=>by
  obtain⟨hp,g,d,tk,os⟩:=s;obtain⟨hl,h⟩:=h;have e:(its.toArray.size:Int)=its.length:=by simp
  have hc0:¬ (decide (k < -2^63) || decide (k ≥ 2^63))=true:=by simp;omega
  have hc1:¬ (its.toArray.isEmpty || k == 1)=true:=by simp[h0];omega
  have hc2:¬ (decide (k<=0) || its.toArray.isEmpty)=true:=by simp[h0];omega
  have hc3:¬ ((its.toArray.size:Int)*k>(2^63-1) / 8):=by rw[e];omega
  have hc4:¬ Builtin.Tuple.tupleTooMany ((its.toArray.size:Int)*k)=true:=by
   rw[e];have:(1000:Int)<=sizeLine:=by decide
   simp only[Builtin.Tuple.tupleTooMany,decide_eq_true_eq];omega
  have hf:List.foldl (fun x1 x2=>x1++x2) #[] (List.replicate k.toNat its.toArray)=(List.replicate k.toNat its).flatten.toArray:=by simpa using sL its k.toNat []
  have hsz:(List.foldl (fun x1 x2=>x1++x2) #[] (List.replicate k.toNat its.toArray)).size<=sizeLine:=by
   rw[hf,List.size_toArray,ra];have:((k.toNat*its.length:Nat):Int)<=1000:=by rw[Int.natCast_mul,Int.toNat_of_nonneg (by omega),Int.mul_comm];exact hz
   exact Nat.le_of_lt (aS (by omega))
  wp_walk using wpAny_loadPart' hl
  rw[if_neg hc0]
  wp_walk using wpAny_loadPart' hl
  simp only[if_neg hc1,if_neg hc2,if_neg hc3,if_neg hc4]
  wp_walk
  refine wpAny_ite_false (decide_eq_false (Nat.not_lt.mpr hsz)) ?_
  wp_walk
  rw[←hf] at h
  exact⟨_,rfl,h⟩
noncomputable def wj:R2:=fun x y H Q=>∃l k xs,x=.ref l/\y=.int k/\H l=some (.tup xs)/\xs≠[]/\1<=k/\k<=1000/\(xs.length:Int)*k<=1000/\(k=1->Q (.ref l) H)/\∀p,H p=none->Q (.ref p) (upd H p (.tup (List.replicate k.toNat xs).flatten))
theorem xA{X:Cx}:OpR X (binaryOp .Mult) wj:=by
 intro pins s σ H x y v u Q I rx ry h;obtain⟨l,k,xs,rfl,rfl,hH,h0,h1,hk,hz,q1,q2⟩:=h;cases rx;obtain⟨t,rfl⟩:=ry;obtain⟨z,its,r,⟨ot,e1,e2,n,e3⟩,_⟩:=I.hok l _ hH;obtain⟨cls,dd,data,sl⟩:=ot;dsimp only at e2 e3;subst e2 e3;have hl:its.length=xs.length:=r.length.symm;by_cases hk1:k=1
 ·subst hk1
  exact wpAny_binaryOp_repeat_ref (T:="tuple") (U:="int") (by decide) ⟨_,e1,rfl⟩ (fun s'=>typeIs_int s' 1 t) fY F.fills_int_mul F.slot_int_rmul jW F.slot_int_index.lookup
   (call_meets F.slot_int_rmul (typeIs_int s 1 t) F.entry_int_rmul (F.args_int_rmul_2 _ _) (mW 1 t l its.toArray n dd sl)
    ⟨e1,rfl,⟨_,e1,rfl⟩,call_meets F.slot_tuple_mul ⟨_,e1,rfl⟩ F.entry_tuple_mul (F.args_tuple_mul_2 _ _) (AB l its.toArray n dd sl t) ⟨e1,.ref l,H,I,rfl,q1 rfl⟩⟩)
 ·have hn:its≠[]:=fun e=>h0 (List.length_eq_zero_iff.mp (by rw[←hl,e];rfl))
  refine wpAny_binaryOp_repeat_ref (T:="tuple") (U:="int") (by decide) ⟨_,e1,rfl⟩ (fun s'=>typeIs_int s' k t) fY F.fills_int_mul F.slot_int_rmul jW F.slot_int_index.lookup
   (call_meets F.slot_int_rmul (typeIs_int s k t) F.entry_int_rmul (F.args_int_rmul_2 _ _) (mW k t l its.toArray n dd sl)
    ⟨e1,rfl,⟨_,e1,rfl⟩,call_meets F.slot_tuple_mul ⟨_,e1,rfl⟩ F.entry_tuple_mul (F.args_tuple_mul_2 _ _) (BY l its n dd sl k t hn (by omega) hk (by rw[hl];exact hz)) ⟨e1,?_⟩⟩)
  have hz2:(List.replicate k.toNat xs).flatten.length<=sizeLine:=by
   rw[ra];have:((k.toNat*xs.length:Nat):Int)<=1000:=by rw[Int.natCast_mul,Int.toNat_of_nonneg (by omega),Int.mul_comm];exact hz
   exact Nat.le_of_lt (aS (by omega))
  refine⟨.ref s.heap.objs.size,upd H s.heap.objs.size (.tup (List.replicate k.toNat xs).flatten),I.laid (t':=s.toks) (fun b u e=>Heap.get?_push_of_some _ e) (Nat.le_refl _) ?_,rfl,q2 _ (I.hok.fresh (Nat.le_refl _))⟩;exact⟨hz2,_,r.rep k.toNat,⟨_,Heap.get?_push_size _ rfl,rfl,_,rfl⟩,_,Heap.get?_push_size _ rfl,rfl⟩
noncomputable def Db:A2:=fun x y Z Q=>∃(ds:List D)(k:Int),x=.d (.tup ds)/\y=.d (.int k)/\ds≠[]/\1<=k/\k<=1000/\(ds.length:Int)*k<=1000/\Q (.d (.tup (List.replicate k.toNat ds).flatten)) Z
theorem t6(x y:AV)(Z:Om)(Q:AV->Om->Prop):Db x y Z Q=∃(ds:List D)(k:Int),x=.d (.tup ds)/\y=.d (.int k)/\ds≠[]/\1<=k/\k<=1000/\(ds.length:Int)*k<=1000/\Q (.d (.tup (List.replicate k.toNat ds).flatten)) Z:=rfl
theorem rJ{G:Hp}{ds:List D}{vs:List V}(h:aG G ds vs):∀m:Nat,aG G (List.replicate m ds).flatten (List.replicate m vs).flatten
 |0=>by simp[aG]
 |m+1=>by
  rw[List.replicate_succ,List.replicate_succ,List.flatten_cons,List.flatten_cons];exact h.append (rJ h m)
theorem By:eT wj Db:=⟨fun F H Z v u x y Q Q' rp h1 h2 ⟨ds,k',e1,e2,h0,b1,b2,z,q⟩ k=>by
 subst e1 e2;cases bK h2;have hd:=h1;simp only[RV,Dat] at hd;obtain⟨a,vs,rfl,q1,q2⟩:=hd;refine⟨a,k',vs,rfl,rfl,ba _ _ q1,fun e=>h0 (List.length_eq_zero_iff.mp (by rw[←q2.length,e];rfl)),b1,b2,by rw[q2.length];exact z,fun e=>?_,fun p hp=>?_⟩
 ·subst e
  have e3:(List.replicate (1:Int).toNat ds).flatten=ds:=by simp
  rw[e3] at q;exact k _ Z _ H rp .refl h1 q
 ·obtain⟨rp2,fr2,hc⟩:=rp.lay (o:=.tup (List.replicate k'.toNat vs).flatten) hp
  refine k _ Z _ _ rp2 fr2 ?_ q;simp only[RV,Dat]
  exact⟨p,_,rfl,hc,(rJ q2 k'.toNat).same fr2.same⟩⟩
end L2
namespace L2
open PySem PySem.Spec PyProof.Rows
noncomputable def G4(i:Nat)(t:AE)(o:A2):AS:=fun D ρ Z=>∃x,ρ[i]?=some (some x)/\t ρ Z fun y Z1=>o x y Z1 fun z Z2=>D.nx (ρ.set i (some z)) Z2
theorem xt(i:Nat)(t:AE)(o:A2)(D:dn)(ρ:SA)(Z:Om):G4 i t o D ρ Z=(∃x,ρ[i]?=some (some x)/\t ρ Z fun y Z1=>o x y Z1 fun z Z2=>D.nx (ρ.set i (some z)) Z2):=rfl
theorem tD{i:Nat}{te:TE}{te':AE}{r:R2}{r':A2}(h2:eT r r')(h:bf te te'):gJ (Gf i te r) (G4 i te' r'):=⟨fun F H Z σ ρ D D' rp rs w k=>by
 obtain⟨x,e,w⟩:=w;obtain⟨v,e1,e2⟩:=rs.2 i x e;refine⟨v,e1,h.go rp rs w fun y Z1 u H1 rp1 fr1 rs1 rv1 q1=>?_⟩;refine h2.run F H1 Z1 v u x y _ _ rp1 (e2.same fr1.same) rv1 q1 fun z Z2 v2 H2 rp2 fr2 rv2 q=>?_
 exact k.nx _ Z2 _ H2 rp2 (fr1.trans fr2) ((rs1.same fr2.same).set rv2) q⟩
noncomputable def StZ(K:W.Frag)(a:Addr)(ss:List Str):Prop:=∃(its:Array Value)(n:Nat),K.lookup a=some { cls:=.type "tuple",data:=.seq its n }/\its.size<=sizeLine/\aT (ss.map V.str) its.toList
noncomputable def E3(K:W.Frag)(neg:Bool):R2:=fun x y H Q=>∃(z:Str)(a:Addr)(ss:List Str),x=.str z/\y=.ref a/\SqT K H a (ss.map V.str)/\Q (.bl (neg != decide (z∈ss))) H
theorem gW(H:Hp):∀ss:List Str,aG H (ss.map D.str) (ss.map V.str)
 | []=>rfl
 |s::ss=>⟨_,_,rfl,rfl,gW H ss⟩
theorem wb(z:Str)(ss:List Str):inD (.str z) (ss.map D.str)=decide (z∈ss):=by
 unfold inD
 induction ss with
 |nil=>rfl
 |cons n ns ih=>
  rw[List.map_cons,List.any_cons,ih];simp only[List.mem_cons];by_cases h:z=n
  ·subst h;simp[eqD]
  ·have h':¬ n=z:=fun e=>h e.symm
   simp[h,h',eqD]
section
variable{X:Cx}
theorem De{pins:List (Addr×Obj)}{σ:St}{H:Hp}{s:Shared}(I:Inv X pins σ H s)(hu:X.A.units+100<cLine){z:Str}{v:Value}(rx:bq (.str z) v){ss:List Str}{its:List Value}(r:aT (ss.map V.str) its):∀w,w∈its.toArray->SeqAt.EqAt X.A.in1 s w v (eqF H (.str z) w):=fun w hw=>by
 obtain⟨d,y,hm,rz,hz⟩:=i4 (gW H ss) r w (by simpa using hw)
 rw[m5 rz hz];refine(kj I 90 d (.str z) y (.str z) w v X.A.in1 ?_ (by show X.A.units+1+90<cLine;omega) hz (by simp[Dat]) rz rx).2.1
 obtain⟨j,_,rfl⟩:=List.mem_map.mp hm;simp[dep]
theorem E9(K:W.Frag)(hK:X.K=K)(hu:X.A.units+100<cLine):OpR X (compareOp .In) (E3 K false):=by
 subst hK;intro pins s σ H x y v u Q I rx ry h;obtain⟨z,a,ss,rfl,rfl,hq,q⟩:=h;cases ry;obtain⟨its,r,pl,_⟩:=I.tuple hq;refine SeqAt.in_tupleAt (eqF H (.str z)) pl (De I hu rx r) ⟨.bl _,H,I,rfl,?_⟩;rw[show its.toArray.any (eqF H (.str z))=its.any (eqF H (.str z)) by simp,gc (gW H ss) r]
 have:=wb z ss;unfold inD at this;rw[this];simpa using q
theorem pC(K:W.Frag)(hK:X.K=K)(hu:X.A.units+100<cLine):OpR X (compareOp .NotIn) (E3 K true):=by
 subst hK;intro pins s σ H x y v u Q I rx ry h;obtain⟨z,a,ss,rfl,rfl,hq,q⟩:=h;cases ry;obtain⟨its,r,pl,_⟩:=I.tuple hq;refine SeqAt.notIn_tupleAt (eqF H (.str z)) pl (De I hu rx r) ⟨.bl _,H,I,rfl,?_⟩;rw[show its.toArray.any (eqF H (.str z))=its.any (eqF H (.str z)) by simp,gc (gW H ss) r]
 have:=wb z ss;unfold inD at this;rw[this];simpa using q
end
noncomputable def zsA(K:W.Frag)(y:AV)(ss:List Str):Prop:=(∃a,y=.r (.ref a)/\StZ K a ss)\/∃a,y=.p (.ref a) fun G=>SqT K G a (ss.map V.str)
theorem SqT.same{K:W.Frag}{G H:Hp}{a:Addr}{xs:List V}(e:dq G H)(h:SqT K G a xs):SqT K H a xs:=by
 rcases h with h|h
 ·rcases h with h|h
  ·exact .inl (.inl (e _ _ h))
  ·obtain⟨o,h⟩:=h
   exact .inl (.inr ⟨o,e _ _ h⟩)
 ·exact .inr h
theorem DU{K:W.Frag}{F:Fs}{H:Hp}{Z:Om}{y:AV}{ss:List Str}{v:V}(h:zsA K y ss)(rv:RV (cut F H Z) y v):∃a,v=.ref a/\SqT K (cut F H Z) a (ss.map V.str):=by
 rcases h with⟨a,rfl,h⟩|⟨a,rfl⟩
 ·obtain⟨its,n,hk,hz,r⟩:=h
  exact⟨a,rv,.inr ⟨_,its,n,hk,rfl,rfl,hz,r⟩⟩
 ·exact⟨a,rv.1,rv.2 _ (dq.refl _)⟩
noncomputable def HB(K:W.Frag)(neg:Bool):A2:=fun x y Z Q=>∃(z:Str)(ss:List Str),x=.d (.str z)/\zsA K y ss/\Q (.d (.bl (neg != decide (z∈ss)))) Z
theorem vP(K:W.Frag)(neg:Bool)(x y:AV)(Z:Om)(Q:AV->Om->Prop):HB K neg x y Z Q=(∃(z:Str)(ss:List Str),x=.d (.str z)/\zsA K y ss/\Q (.d (.bl (neg != decide (z∈ss)))) Z):=rfl
theorem zB{K:W.Frag}{neg:Bool}:eT (E3 K neg) (HB K neg):=⟨fun F H Z v u x y Q Q' rp h1 h2 ⟨z,ss,e1,e2,q⟩ k=>by
 subst e1;obtain⟨a,rfl,hq⟩:=DU e2 h2
 exact⟨z,a,ss,dI h1,rfl,hq.same ba,k.bl rp q⟩⟩
noncomputable def Gw(K:W.Frag)(te:AE)(tl th:AO):AE:=fun ρ Z Q=>te ρ Z fun x Z1=>tl ρ Z1 fun lo Z2=>th ρ Z2 fun hi Z3=>∃ss,zsA K x ss/\∀a,Q (.p (.ref a) fun G=>SqT K G a ((cL ss lo hi).map V.str)) Z3
theorem wF(K:W.Frag)(te:AE)(tl th:AO)(ρ:SA)(Z:Om)(Q:AV->Om->Prop):Gw K te tl th ρ Z Q=(te ρ Z fun x Z1=>tl ρ Z1 fun lo Z2=>th ρ Z2 fun hi Z3=>∃ss,zsA K x ss/\∀a,Q (.p (.ref a) fun G=>SqT K G a ((cL ss lo hi).map V.str)) Z3):=rfl
theorem ug(ss:List Str)(lo hi:Option Int):lJ (ss.map V.str) lo hi=(cL ss lo hi).map V.str:=by
 unfold lJ cL;simp
theorem Hi{K:W.Frag}{te:TE}{te':AE}{tl th:TO}{tl' th':AO}(he:bf te te')(hl:Ref REq tl tl')(hh:Ref REq th th'):bf (tSl (wS K) te tl th) (Gw K te' tl' th'):=⟨fun F H Z σ ρ Q Q' rp rs w k=>
 he.go rp rs w fun x Z1 v H1 rp1 fr1 rs1 rv1 q1=>hl.go rp1 rs1 q1 fun lo Z2 lo' H2 rp2 fr2 rs2 e2 q2=>by
  cases e2;refine hh.go rp2 rs2 q2 fun hi Z3 hi' H3 rp3 fr3 rs3 e3 q3=>?_;cases e3;obtain⟨ss,hz,q⟩:=q3;obtain⟨a,rfl,hq⟩:=DU hz ((rv1.same fr2.same).same fr3.same);have f:=(fr1.trans fr2).trans fr3;refine⟨a,_,rfl,hq.same ba,?_⟩;by_cases hw:HT.sIx (ss.map V.str).length 0 lo=0/\HT.sIx (ss.map V.str).length (ss.map V.str).length hi=(ss.map V.str).length
  ·rw[if_pos hw]
   refine k (.p (.ref a) fun G=>SqT K G a ((cL ss lo hi).map V.str)) Z3 _ H3 rp3 f ⟨rfl,fun G' s=>?_⟩ (q a);rw[←ug,uW hw]
   exact hq.same s
  ·rw[if_neg hw]
   intro p hp;rw[ug];obtain⟨rp4,fr4,hc⟩:=rp3.lay (o:=.tup ((cL ss lo hi).map V.str)) hp
   exact k (.p (.ref p) fun G=>SqT K G p ((cL ss lo hi).map V.str)) Z3 _ _ rp4 (f.trans fr4) ⟨rfl,fun G' s=>.inl (.inl (s _ _ hc))⟩ (q p)⟩
noncomputable def Em(K:W.Frag):V->List V->Hp->VK->Prop:=fun x vs H Q=>∃l b xs ss,x=.ref l/\vs=[.ref b]/\H l=some (.lst xs)/\StZ K b ss/\xs.length+ss.length<=sizeLine/\Q .non (upd H l (.lst (xs++ss.map V.str)))
theorem vB{X:Cx}(K:W.Frag)(hK:X.K=K):MtM X "list.extend" (Em K):=by
 subst hK;intro pins s σ H x vs v us Q I rx rv h;obtain⟨l,b,xs,ss,rfl,rfl,hH,⟨its2,n2,hk,hz2,r2⟩,hz,q⟩:=h;cases rx;obtain⟨u,rfl,ru⟩:=rv.one;cases ru;obtain⟨z,its,n,r,hl,e⟩:=I.IN hH;have e2:=I.kIn b _ hk;have l2:its2.size=ss.length:=by have:=r2.length;simpa using this.symm
 have hsz:its.toArray.size+its2.size<=sizeLine:=by rw[List.size_toArray];omega
 have hlong:¬ (!its.toArray.isEmpty && Builtin.List.listTooLong (its.toArray.size+its2.size))=true:=by
  rw[rF hsz,Bool.and_false];exact Bool.false_ne_true
 refine call_meets F.slot_list_extend ⟨_,e,rfl⟩ F.entry_list_extend (F.args_list_extend_2 _ _)
  (AutoSeq1.list_extend_list_tuple_0 l its.toArray n b its2 n2 hlong (by rw[List.size_toArray];omega) (by omega)) ⟨e,e2,?_⟩
 refine⟨.non,_,I.lset (its':=its++its2.toList) hH e (by simp) (r.append r2) ?_,rfl,q⟩
 rw[List.length_append,List.length_map];omega
noncomputable def C8(K:W.Frag)(to:AE)(t:AA):AE:=fun ρ Z Q=>to ρ Z fun x Z1=>∃l,x=.r (.ref l)/\(∃zs,Z1 l=some (.own zs))/\t ρ Z1 fun ys Z2=>∃xs b ss,ys=[.r (.ref b)]/\StZ K b ss/\Z2 l=some (.own xs)/\xs.length+ss.length<=sizeLine/\Q (.d .non) (Z2.put l (.own (xs++(ss.map D.str).map AV.d)))
theorem tQ(K:W.Frag)(to:AE)(t:AA)(ρ:SA)(Z:Om)(Q:AV->Om->Prop):C8 K to t ρ Z Q=(to ρ Z fun x Z1=>∃l,x=.r (.ref l)/\(∃zs,Z1 l=some (.own zs))/\t ρ Z1 fun ys Z2=>∃xs b ss,ys=[.r (.ref b)]/\StZ K b ss/\Z2 l=some (.own xs)/\xs.length+ss.length<=sizeLine/\Q (.d .non) (Z2.put l (.own (xs++(ss.map D.str).map AV.d)))):=rfl
theorem sV(G:Hp):∀ss:List Str,RVs G ((ss.map D.str).map AV.d) (ss.map V.str)
 | []=>rfl
 |s::ss=>⟨_,_,rfl,by simp[RV,Dat],sV G ss⟩
theorem AQ{K:W.Frag}{to:TE}{to':AE}{t:TA}{t':AA}(ho:bf to to')(ht:jF t t'):bf (tBM K "list" (Em K) to t) (C8 K to' t'):=⟨fun F H Z σ ρ Q Q' rp rs w k=>
 ho.go rp rs w fun x Z1 v H1 rp1 fr1 rs1 rv1 ⟨l,e,⟨zs,hz⟩,q1⟩=>by
  subst e;cases (show v=.ref l from rv1)
  obtain⟨us,z1,_⟩:=rp1.own l zs hz;refine⟨.inl ⟨rfl,us,.inl (.inl z1)⟩,ht.go rp1 rs1 q1 fun ys Z2 vs H2 rp2 fr2 rs2 rv2 ⟨xs,b,ss,e1,hs,e2,e4,q⟩=>?_⟩;subst e1;obtain⟨u,rfl,r⟩:=i3 rv2;cases (show u=.ref b from r)
  obtain⟨ws,z3,z4⟩:=rp2.own l xs e2;obtain⟨rp3,fr3⟩:=rp2.write e2 (z4.append (sV _ ss))
  exact⟨l,b,ws,ss,rfl,rfl,z3,hs,by rw[z4.length];exact e4,k _ _ _ _ rp3 ((fr1.trans fr2).trans fr3) (by simp[RV,Dat]) q⟩⟩
theorem StE.none{P:Program}{w:World}:∀ {es:List DictEntry} {kvs:List (Str×V)} {x:Str},Paired (StE w) es kvs->jI kvs x=none->findBy (bG P w).is es.toArray (Sum.inr x)=none:=by
 intro es
 induction es with
 |nil=>intro kvs x h hv;rfl
 |cons e es ih=>
  intro kvs x h hv
  cases h with
  | @cons _ p _ kvs r t=>
   obtain⟨h1,⟨tk,h2⟩,h3⟩:=r
   have hf:findBy (bG P w).is (e::es).toArray (Sum.inr x)=if iF (Sum.inr x) e.key=true then some e.val else findBy (bG P w).is es.toArray (Sum.inr x):=by
    unfold findBy;simp only[List.find?_toArray,List.find?_cons,oE];cases iF (Sum.inr x) e.key<;>simp
   by_cases hx:p.1=x
   ·unfold jI at hv
    rw[List.find?_cons_of_pos (by simp[hx])] at hv
    cases hv
   ·have hk:¬ iF (Sum.inr x) e.key=true:=by
     rw[h2];intro z;rcases bI z with⟨i,t',e1,e2⟩|⟨y,t',e1,e2⟩
     ·cases e2
     ·injection e2 with e2 _
      injection e1 with e1;exact hx (e2.trans e1.symm)
    rw[hf,if_neg hk];unfold jI at hv;rw[List.find?_cons_of_neg (by simp[hx])] at hv
    exact ih t hv
noncomputable def GO(a:Addr)(kvs:List (Str×V)):R2:=fun x y H Q=>∃z:Str,x=.str z/\y=.ref a/\Q (.bl (jI kvs z).isSome) H
theorem Az{X:Cx}{a:Addr}{kvs:List (Str×V)}(hd:StD X.w X.K a kvs)(ha:(a == sysModules)=false):OpR X (compareOp .In) (GO a kvs):=by
 intro pins s σ H x y v u Q I rx ry h;obtain⟨z,rfl,rfl,q⟩:=h;cases ry;obtain⟨t,rfl⟩:=rx;obtain⟨ob,es,ep,hk,hx,hdat,hp⟩:=hd;have hg:s.heap.get? a=some ob:=I.kIn a ob hk;have hm:s.heap.MapOf (bG X.prog X.w) a (findBy (bG X.prog X.w).is es.toArray):=⟨ob,es.toArray,ep,hg,hx,hdat,fun e he=>StE.keys hp e (by simpa using he),fun _=>rfl⟩
 refine wpAny_in_of (knd:=bG X.prog X.w) (k:=Sum.inr z) (iO _ _ _ _) ha hm ?_
 have e:(findBy (bG X.prog X.w).is es.toArray (Sum.inr z)).isSome=(jI kvs z).isSome:=by
  cases hv:jI kvs z with
  |none=>rw[StE.none hp hv];rfl
  |some v=>
   obtain⟨u',hf,_⟩:=StE.find (P:=X.prog) hp hv;rw[hf];rfl
 rw[e];exact⟨.bl _,H,I.tok _,rfl,q⟩
noncomputable def G1(a:Addr)(kvs:List (Str×V)):A2:=fun x y Z Q=>∃z:Str,x=.d (.str z)/\y=.r (.ref a)/\Q (.d (.bl (jI kvs z).isSome)) Z
theorem wV(a:Addr)(kvs:List (Str×V))(x y:AV)(Z:Om)(Q:AV->Om->Prop):G1 a kvs x y Z Q=(∃z:Str,x=.d (.str z)/\y=.r (.ref a)/\Q (.d (.bl (jI kvs z).isSome)) Z):=rfl
theorem El{a:Addr}{kvs:List (Str×V)}:eT (GO a kvs) (G1 a kvs):=⟨fun F H Z v u x y Q Q' rp h1 h2 ⟨z,e1,e2,q⟩ k=>by
 subst e1 e2
 exact⟨z,dI h1,h2,k.bl rp q⟩⟩
noncomputable def eD:List Int->List Int->Bool
 | [],_=>true
 |_::_,[]=>false
 |x::xs,y::ys=>if x=y then eD xs ys else decide (x<=y)
theorem zI(A:Around)(s:Shared)(a:Int)(t:Tok)(c:Int)(u:Tok)(prog:Program)(w:World)(E:Value->Shared->Prop)(Q:Value->Shared->Prop)(h:Q (.bool (decide (a<=c))) s):
  wpAny (model prog w) A (richCompare .LtE (.int a t) (.int c u)) Q E s:=
 (PyProof.Rows.le_int h:wpAny (model prog w) A (compareOp .LtE (.int a t) (.int c u)) Q E s)
section
open PySem.SeqAt
open PySem.AutoSeq1 (wpAny_loadPart')
open PySem.MeetsSeq PySem.MeetsSeq2 PySem.MeetsSeq3
open HT
theorem oZ(l b:Addr)(items items2:Array Value)(n n2:Nat)(dd dd2:Option Addr)(sl sl2:Array (Option Value))(ns ms:List Int)(hi:IntsAre items.toList ns)(hj:IntsAre items2.toList ms):
  Meets (Builtin.«tuple.__le__» ⟨[.ref l,.ref b],[]⟩)
   (fun _ R s=>s.heap.get? l=some { cls:=.type "tuple",dict:=dd,data:=.seq items n,slots:=sl }/\s.heap.get? b=some { cls:=.type "tuple",dict:=dd2,data:=.seq items2 n2,slots:=sl2 } /\
    R (.ok (.ret (.bool (eD ns ms)))) s):=
 .of_wp fun prog w A R s h=>by
  obtain⟨hp,g,d,tk,os⟩:=s;obtain⟨hl,hb,h⟩:=h;have f2:=AutoSeq1.sub_tuple_tuple;have z1:items.size=ns.length:=by rw[←hi.length];simp
  have z2:items2.size=ms.length:=by rw[←hj.length];simp
  wp_walk using wpAny_loadPart' hl,wpAny_loadPart' hb,wpAny_forIn_list _ (fun cq b s'=>b.1=none/\s'=⟨hp,g,d,tk,os⟩/\∃(vs ws:List Value)(ns' ms':List Int),cq=vs.zip ws /\
   IntsAre vs ns'/\IntsAre ws ms'/\ns'.length+items2.size=ms'.length+items.size/\R (.ok (.ret (.bool (eD ns' ms')))) ⟨hp,g,d,tk,os⟩) _
  case turn=>
   rintro⟨y,x⟩ cq b s' ⟨hb',rfl,vs,ws,ns',ms',hz,hvi,hwi,hlen,hR⟩
   cases hvi with
   |nil=>rw[List.zip_nil_left] at hz;cases hz
   |cons a t hvi'=>
    cases hwi with
    |nil=>rw[List.zip_nil_right] at hz;cases hz
    |cons c u hwi'=>
     rw[List.zip_cons_cons] at hz;injection hz with hyx hrest;injection hyx with hy hx;subst hy hx;simp only[eD] at hR;simp only[List.length_cons] at hlen;obtain⟨e,he,hiff⟩:=zF A.in1 ⟨hp,g,d,tk,os⟩ a t c u;refine wpAny_bind (he prog w _ _ ?_)
     cases e with
     |true=>
      rw[if_pos (hiff.mp rfl)] at hR
      wp_walk
      exact⟨rfl,rfl,_,_,_,_,hrest,hvi',hwi',by omega,hR⟩
     |false=>
      rw[if_neg (fun q=>absurd (hiff.mpr q) Bool.false_ne_true)] at hR;have hri:=zI A.in1 ⟨hp,g,d,tk,os⟩ a t c u prog w
      wp_walk using hri
      exact⟨_,rfl,by simpa using hR⟩
  case fin=>
   rintro⟨b1,b2⟩ s' ⟨hb',rfl,vs,ws,ns',ms',hz,hvi,hwi,hlen,hR⟩;simp only at hb';subst hb'
   have hv:eD ns' ms'=decide (items.size<=items2.size):=by
    cases hvi with
    |nil=>
     simp only[List.length_nil] at hlen;rw[eD];exact(decide_eq_true (by omega)).symm
    |cons a t hv=>
     cases hwi with
     |nil=>
      simp only[List.length_nil,List.length_cons] at hlen;rw[eD];exact(decide_eq_false (by omega)).symm
     |cons c u hw=>
      rw[List.zip_cons_cons] at hz;cases hz
   rw[hv] at hR
   wp_walk
   exact⟨_,rfl,by simpa[Builtin.Tuple.tupleCompareSizes] using hR⟩
  case h=>
   exact⟨rfl,rfl,items.toList,items2.toList,ns,ms,rfl,hi,hj,by omega,h⟩
theorem vy{prog:Program}{w:World}{A:Around}{E:Value->Shared->Prop}{s:Shared}{l b:Addr}{items items2:Array Value}{ns ms:List Int}{Q:Value->Shared->Prop}(hl:IsTup s.heap l items)(hb:IsTup s.heap b items2)(hi:IntsAre items.toList ns)(hj:IntsAre items2.toList ms)(hu:A.units<cLine)(h:Q (.bool (eD ns ms)) s):wpAny (model prog w) A (compareOp .LtE (.ref l) (.ref b)) Q E s:=by
 obtain⟨⟨cls,dd,data,sl⟩,ho,hc,n,hd⟩:=id hl;obtain⟨⟨cls2,dd2,data2,sl2⟩,ho2,hc2,n2,hd2⟩:=id hb;simp only at hc hd hc2 hd2;subst hc hd hc2 hd2
 exact richCompare_meets_room (op:=.LtE) ⟨_,ho,rfl⟩ ⟨_,ho2,rfl⟩ PySem.F.slot_tuple_le PySem.F.entry_tuple_le (PySem.F.args_tuple_le_2 _ _) (oZ l b items items2 n n2 dd dd2 sl sl2 ns ms hi hj)
  ⟨ho,ho2,show Value.bool (eD ns ms)≠Value.notImplemented/\Q (.bool (eD ns ms)) s from ⟨(fun x=>nomatch x),h⟩⟩ hu
end
noncomputable def GL:R2:=fun x y H Q=>∃a b ns ms,x=.ref a/\y=.ref b/\H a=some (.tup (ns.map V.int))/\H b=some (.tup (ms.map V.int))/\Q (.bl (eD ns ms)) H
theorem EA{X:Cx}(hu:X.A.units+100<cLine):OpR X (compareOp .LtE) GL:=by
 intro pins s σ H x y v u Q I rx ry h;obtain⟨a,b,ns,ms,rfl,rfl,ha,hb,q⟩:=h;cases rx;cases ry;obtain⟨its,r1,p1,_⟩:=I.tuple (SqT.of ha);obtain⟨its2,r2,p2,_⟩:=I.tuple (SqT.of hb);have i1:IntsAre its.toArray.toList ns:=n9 r1;have i2:IntsAre its2.toArray.toList ms:=n9 r2;exact vy p1 p2 i1 i2 (by omega) ⟨.bl (eD ns ms),H,I,rfl,q⟩
noncomputable def HA:A2:=fun x y Z Q=>∃ns ms:List Int,x=.d (.tup (ns.map D.int))/\y=.d (.tup (ms.map D.int))/\Q (.d (.bl (eD ns ms))) Z
theorem vY(x y:AV)(Z:Om)(Q:AV->Om->Prop):HA x y Z Q=(∃ns ms:List Int,x=.d (.tup (ns.map D.int))/\y=.d (.tup (ms.map D.int))/\Q (.d (.bl (eD ns ms))) Z):=rfl
theorem Hy:eT GL HA:=⟨fun F H Z v u x y Q Q' rp h1 h2 ⟨ns,ms,e1,e2,q⟩ k=>by
 subst e1 e2;simp only[RV,Dat] at h1 h2;obtain⟨a,vs,rfl,z1,z2⟩:=h1;obtain⟨b,us,rfl,z3,z4⟩:=h2;cases d8 z2;cases d8 z4
 exact⟨a,b,ns,ms,rfl,rfl,ba _ _ z1,ba _ _ z3,k.bl rp q⟩⟩
open AutoSeq1 (wpAny_loadPart') in
theorem BO(l:Addr)(its:List Value)(n:Nat)(dd:Option Addr)(sl:Array (Option Value))(t:Tok)(h0:its≠[]):
  Meets (Builtin.«tuple.__mul__» ⟨[.ref l,.int 0 t],[]⟩) (fun _ R s=>s.heap.get? l=some ⟨.type "tuple",dd,.seq its.toArray n,sl⟩/\R (.ok (.ret (.ref s.heap.objs.size))) { s with heap:=s.heap.push { cls:=.type "tuple",data:=.seq #[] } }):=
 .of_wp fun prog w A R s h=>by
  obtain⟨hp,g,d,tk,os⟩:=s;obtain⟨hl,h⟩:=h;have hc0:¬ (decide ((0:Int) < -2^63) || decide ((0:Int) ≥ 2^63))=true:=by simp
  have hc1:¬ (its.toArray.isEmpty || (0:Int) == 1)=true:=by simp[h0]
  have hc2:(decide ((0:Int)<=0) || its.toArray.isEmpty)=true:=by simp
  wp_walk using wpAny_loadPart' hl
  exact⟨_,rfl,h⟩
noncomputable def C2:R2:=fun x y H Q=>(∃l xs,x=.ref l/\y=.int 0/\H l=some (.tup xs)/\xs≠[]/\∀p,H p=none->Q (.ref p) (upd H p (.tup [])))\/wj x y H Q
theorem Ck{X:Cx}:OpR X (binaryOp .Mult) C2:=by
 intro pins s σ H x y v u Q I rx ry h;by_cases hr:wj x y H Q
 ·exact xA pins s σ H x y v u Q I rx ry hr
 obtain⟨l,xs,rfl,rfl,hH,h0,q⟩:=h.resolve_right hr;cases rx;obtain⟨t,rfl⟩:=ry;obtain⟨z,its,r,⟨ot,e1,e2,n,e3⟩,_⟩:=I.hok l _ hH;obtain⟨cls,dd,data,sl⟩:=ot;dsimp only at e2 e3;subst e2 e3;have hl:its.length=xs.length:=r.length.symm;have hn:its≠[]:=fun e=>h0 (List.length_eq_zero_iff.mp (by rw[←hl,e];rfl))
 refine wpAny_binaryOp_repeat_ref (T:="tuple") (U:="int") (by decide) ⟨_,e1,rfl⟩ (fun s'=>typeIs_int s' 0 t) fY F.fills_int_mul F.slot_int_rmul jW F.slot_int_index.lookup
  (call_meets F.slot_int_rmul (typeIs_int s 0 t) F.entry_int_rmul (F.args_int_rmul_2 _ _) (mW 0 t l its.toArray n dd sl)
   ⟨e1,rfl,⟨_,e1,rfl⟩,call_meets F.slot_tuple_mul ⟨_,e1,rfl⟩ F.entry_tuple_mul (F.args_tuple_mul_2 _ _) (BO l its n dd sl t hn) ⟨e1,?_⟩⟩)
 refine⟨.ref s.heap.objs.size,upd H s.heap.objs.size (.tup []),I.laid (t':=s.toks) (fun b u e=>Heap.get?_push_of_some _ e) (Nat.le_refl _) ?_,rfl,q _ (I.hok.fresh (Nat.le_refl _))⟩;exact⟨Nat.zero_le _,[],.nil,⟨_,Heap.get?_push_size _ rfl,rfl,_,rfl⟩,_,Heap.get?_push_size _ rfl,rfl⟩
noncomputable def C5:A2:=fun x y Z Q=>∃(ds:List D)(k:Int),x=.d (.tup ds)/\y=.d (.int k)/\ds≠[]/\0<=k/\k<=1000/\(ds.length:Int)*k<=1000/\Q (.d (.tup (List.replicate k.toNat ds).flatten)) Z
theorem sk(x y:AV)(Z:Om)(Q:AV->Om->Prop):C5 x y Z Q=∃(ds:List D)(k:Int),x=.d (.tup ds)/\y=.d (.int k)/\ds≠[]/\0<=k/\k<=1000/\(ds.length:Int)*k<=1000/\Q (.d (.tup (List.replicate k.toNat ds).flatten)) Z:=rfl
theorem Eo:eT C2 C5:=⟨fun F H Z v u x y Q Q' rp h1 h2 ⟨ds,j,e1,e2,h0,h3,h4,h5,q⟩ k=>by
 by_cases hj:j=0
 ·subst e1 e2 hj
  cases bK h2;simp only[RV,Dat] at h1;obtain⟨a,vs,rfl,z1,z2⟩:=h1;refine .inl ⟨a,vs,rfl,rfl,ba _ _ z1,fun e=>h0 (List.length_eq_zero_iff.mp (by rw[←z2.length,e];rfl)),fun p hp=>?_⟩
  obtain⟨rp2,fr2,hc⟩:=rp.lay (o:=.tup []) hp;exact k _ Z _ _ rp2 fr2 (show RV _ (.d (.tup [])) _ from ⟨p,[],rfl,hc,rfl⟩) (by simpa using q)
 ·exact .inr (By.run F H Z v u x y Q Q' rp h1 h2 ⟨ds,j,e1,e2,h0,by omega,h4,h5,q⟩ k)⟩
end L2
namespace L2
open PySem PySem.Spec PyProof.Rows
open PySem.Builtin.Str
noncomputable def iD(c:Nat):Nat->List Nat->List Nat
 |_,[]=>[]
 |s,x::xs=>if x=c then s::iD c (s+1) xs else iD c (s+1) xs
theorem r9(c:Nat):∀(l:List Nat)(s:Nat),(iD c s l).length<=l.length
 | [],_=>Nat.le_refl _
 |x::xs,s=>by
  have:=r9 c xs (s+1);simp only[iD];split<;>simp only[List.length_cons]<;>omega
theorem vj(l:List Nat)(c i:Nat):subAt (tx l) (tx [c]) i=decide (l[i]?=some c):=by
 simp only[subAt,tx,Str.length];rw[Bool.eq_iff_iff,beq_iff_eq,decide_eq_true_eq];simp only[List.size_toArray,List.length_singleton,List.extract_toArray,Array.mk.injEq,List.extract_eq_drop_take];rw[show i+1-i=1 by omega]
 cases h:l.drop i with
 |nil=>
  have:l.length<=i:=List.drop_eq_nil_iff.mp h;simp[List.getElem?_eq_none this]
 |cons x xs=>
  have:l[i]?=some x:=by
   have:=congrArg (·[0]?) h
   simpa using this
  simp[this]
theorem vn(l:List Nat)(c lim:Nat):∀(m s:Nat)(acc:Array Nat)(free:Nat),s+m=l.length+1->free<=s->acc.size+m<=lim+1->acc.size<=s ->
  ((List.range' s m).foldl (fun(b:Array Nat×Nat) i=>if (decide (b.1.size<lim) && decide (b.2<=i) && decide (i+(tx [c]).length<=l.length) && subAt (tx l) (tx [c]) i)=true then (b.1.push i,i+(tx [c]).length) else b) (acc,free)).1.toList=acc.toList++iD c s (l.drop s)
 |0,s,acc,free,h,_,_,_=>by
  rw[List.drop_eq_nil_of_le (by omega)]
  simp[iD]
 |m+1,s,acc,free,h,hf,hl,ha=>by
  rw[List.range'_succ,List.foldl_cons];have e1:(tx [c]).length=1:=aA [c];by_cases hs:s<l.length
  ·have ed:l.drop s=l[s]::l.drop (s+1):=List.drop_eq_getElem_cons hs
   have hlim:acc.size<lim:=by omega
   simp only[vj,e1,hlim,hf,decide_true,Bool.true_and,show s+1<=l.length by omega,List.getElem?_eq_getElem hs,Option.some.injEq,decide_eq_true_eq]
   rw[ed,iD];by_cases hc:l[s]=c
   ·rw[if_pos hc,if_pos hc]
    have:=vn l c lim m (s+1) (acc.push s) (s+1) (by omega) (Nat.le_refl _) (by simp;omega) (by simp;omega)
    simp only[vj,e1] at this;rw[this];simp
   ·rw[if_neg hc,if_neg hc]
    have:=vn l c lim m (s+1) acc free (by omega) (by omega) (by omega) (by omega)
    simp only[vj,e1] at this;exact this
  ·have hm:m=0:=by omega
   subst hm;have e2:decide (s+1<=l.length)=false:=decide_eq_false (by omega)
   simp only[e1,e2,Bool.and_false,Bool.false_and,Bool.false_eq_true,if_false];rw[List.drop_eq_nil_of_le (by omega)]
   simp[iD]
theorem nT{β:Type}{f:Nat->β->Id (ForInStep β)}{g:β->Nat->β}(h:∀i b,f i b=(pure (.yield (g b i)):Id _)):∀ {xs:List Nat} {b:β},(forIn xs b f:Id β)=xs.foldl g b
 | [],b=>rfl
 |x::xs,b=>by
  rw[List.forIn_cons,h];exact nT h
theorem uS(l:List Nat)(c:Nat):occurrences (tx l) (tx [c]) 0 (tx l).length ((tx l).length+1)=iD c 0 l:=by
 have h:=vn l c (l.length+1) (l.length+1) 0 #[] 0 (by omega) (Nat.le_refl _) (by simp) (by simp)
 simp only[List.drop_zero,List.nil_append] at h;rw[←h]
 unfold occurrences;simp only[Std.Legacy.Range.forIn_eq_forIn_range',Std.Legacy.Range.size,aA];rw[nT (g:=fun(b:Array Nat×Nat) i=>if (decide (b.1.size<l.length+1) && decide (b.2<=i) && decide (i+(tx [c]).length<=l.length) && subAt (tx l) (tx [c]) i)=true then (b.1.push i,i+(tx [c]).length) else b) (h:=fun i b=>by simp only[aA];split<;>rfl)]
 simp only[aA];rw[show (l.length+1-0+1-1) / 1=l.length+1 by omega]
 rfl
noncomputable def pb(l:List Nat):Nat->List Nat->List (List Nat)
 |s,[]=>[l.drop s]
 |s,k::ks=>(l.drop s).take (k-s)::pb l (k+1) ks
theorem zT(l:List Nat)(i j:Nat):strSub (tx l) i j=tx ((l.drop i).take (j-i)):=by
 simp[strSub,tx,List.extract_eq_drop_take]
theorem DI(l:List Nat):∀(ks:List Nat)(s:Nat),((s::ks.map (·+1)).zip (ks++[l.length])).map (fun p=>strSub (tx l) p.1 p.2)=(pb l s ks).map tx
 | [],s=>by
  simp only[List.map_nil,List.nil_append,List.zip_cons_cons,List.zip_nil_left,List.map_cons,pb,zT];rw[List.take_of_length_le (by simp)]
 |k::ks,s=>by
  have:=DI l ks (k+1);simp only[List.map_cons,List.cons_append,List.zip_cons_cons,pb,zT] at this ⊢;rw[this]
theorem BJ(l:List Nat)(c:Nat):partsBetween (tx l) (iD c 0 l) (tx [c]).length=(pb l 0 (iD c 0 l)).map tx:=by
 rw[←DI]
 simp only[partsBetween,aA,List.length_singleton]
theorem nk(c:Nat):∀(a:List Nat)(s:Nat)(r:List Nat),c ∉ a->iD c s (a++r)=iD c (s+a.length) r
 | [],s,r,_=>by simp
 |x::a,s,r,h=>by
  have h1:¬ x=c:=fun e=>h (by simp[e])
  have h2:c ∉ a:=fun e=>h (List.mem_cons_of_mem _ e);rw[List.cons_append,iD,if_neg h1,nk c a (s+1) r h2,List.length_cons]
  congr 1
  omega
theorem DE(c:Nat):∀(ls:List (List Nat)) (p:List Nat),ls≠[]->(∀l∈ls,c ∉ l)->pb (p++jn [c] ls) p.length (iD c p.length (jn [c] ls))=ls
 | [],p,h,_=>absurd rfl h
 | [a],p,_,h=>by
  have:=nk c a p.length [] (h a (by simp))
  rw[List.append_nil] at this;simp only[jn,this,iD,pb];simp
 |a::b::ls,p,_,h=>by
  have ih:=DE c (b::ls) (p++a++[c]) (by simp) (fun l hl=>h l (List.mem_cons_of_mem _ hl))
  have e:p++jn [c] (a::b::ls)=p++a++[c]++jn [c] (b::ls):=by simp[jn]
  rw[e];have e2:jn [c] (a::b::ls)=a++(c::jn [c] (b::ls)):=by simp[jn]
  rw[e2,nk c a _ _ (h a (by simp)),iD,if_pos rfl,pb]
  have e3:(p++a++[c]).length=p.length+a.length+1:=by simp;omega
  rw[e3] at ih;rw[ih]
  congr 1
  simp
theorem CC(z:Str):¬ Builtin.Str.strKind z<1:=by
 unfold Builtin.Str.strKind;split
 ·omega
 ·split<;>omega
theorem zA{c:Nat}(h:c<256):Builtin.Str.strKind (tx [c])=1:=by
 unfold Builtin.Str.strKind tx;rw[if_pos (by simpa using h)]
noncomputable def i5(c:Nat)(l:List Nat):List (List Nat):=pb l 0 (iD c 0 l)
theorem xw(c:Nat){ls:List (List Nat)}(h:ls≠[])(hc:∀l∈ls,c ∉ l):i5 c (jn [c] ls)=ls:=by
 have:=DE c ls [] h hc;simpa[i5] using this
theorem uQ(l:List Nat):∀(ks:List Nat)(s:Nat),(pb l s ks).length=ks.length+1
 | [],s=>rfl
 |k::ks,s=>by simp[pb,uQ l ks]
theorem pk:∀(ss:List Str)(t:Nat),aT (ss.map V.str) (strsFrom t ss)
 | [],t=>.nil
 |s::ss,t=>.cons ⟨_,rfl⟩ (pk ss (t+1))
noncomputable def zg:V->List V->Hp->VK->Prop:=fun x vs H Q=>∃(l:List Nat)(c:Nat),x=.str (tx l)/\vs=[.str (tx [c])]/\c<256/\l.length<=1000/\∀p,H p=none->Q (.ref p) (upd H p (.lst ((i5 c l).map fun w=>V.str (tx w))))
theorem ua{X:Cx}:MtR X "str.split" zg:=by
 intro pins s σ H x vs v us Q I rx rv h;obtain⟨l,c,rfl,rfl,hc,hl,q⟩:=h;obtain⟨t,rfl⟩:=rx;obtain⟨u,rfl,ru⟩:=rv.one;obtain⟨t2,rfl⟩:=ru;have e1:(tx [c]).length=1:=aA [c];have en:(tx l).length=l.length:=aA l;have hk:decide (Builtin.Str.strKind (tx l)<Builtin.Str.strKind (tx [c]))=false:=decide_eq_false (by rw[zA hc];exact CC _)
 have hy:((tx [c]).length == 0)=false:=by rw[e1];rfl
 have hsz:(2000:Nat)<=sizeLine:=by decide
 have hol:=r9 c l 0
 have laid:∀(its:List Value)(tk:Nat),aT ((i5 c l).map fun w=>V.str (tx w)) its->EP X pins σ Q (.ref s.heap.objs.size) { s with toks:=tk,heap:=s.heap.push { cls:=.type "list",data:=.seq its.toArray } }:=fun its tk r=>by
  have hz:((i5 c l).map fun w=>V.str (tx w)).length<=sizeLine:=by rw[List.length_map,i5,uQ];omega
  refine⟨.ref s.heap.objs.size,_,I.laid (t':=tk) (o:=.lst ((i5 c l).map fun w=>V.str (tx w))) (fun b ob q=>Heap.get?_push_of_some _ q) (Nat.le_refl _) ?_,rfl,q _ (I.hok.fresh (Nat.le_refl _))⟩;exact⟨hz,its,_,r,Heap.get?_push_size _ rfl⟩
 have self:i5 c l=[l]->EP X pins σ Q (.ref s.heap.objs.size) { s with heap:=s.heap.push { cls:=.type "list",data:=.seq [Value.str (tx l) t].toArray } }:=fun e=>by
  refine laid [.str (tx l) t] s.toks ?_;rw[e];exact .cons ⟨_,rfl⟩ .nil
 by_cases h0:l=[]
 ·exact call_meets F.slot_str_split (typeIs_str _ _ _) F.entry_str_split (F.args_str_split_2 _ _) (PySem.meets_str_split_cannot_occur (tx l) (tx [c]) t t2 (by rw[en,e1,h0];rfl)) (self (by rw[h0];rfl))
 have h1:(decide ((tx l).length<(tx [c]).length) || decide (Builtin.Str.strKind (tx l)<Builtin.Str.strKind (tx [c])))=false:=by
  have:=List.length_pos_iff.mpr h0;rw[hk,en,e1,Bool.or_false];exact decide_eq_false (by omega)
 by_cases hf:(iD c 0 l).isEmpty=true
 ·exact call_meets F.slot_str_split (typeIs_str _ _ _) F.entry_str_split (F.args_str_split_2 _ _) (PySem.meets_str_split_not_found (tx l) (tx [c]) t t2 h1 hy (by rw[uS];exact hf)) (self (by unfold i5;rw[List.isEmpty_iff.mp hf];rfl))
 ·have hpl:partsBetween (tx l) (occurrences (tx l) (tx [c]) 0 (tx l).length ((tx l).length+1)) (tx [c]).length=(i5 c l).map tx:=by rw[uS,BJ];rfl
  refine call_meets F.slot_str_split (typeIs_str _ _ _) F.entry_str_split (F.args_str_split_2 _ _) (PySem.meets_str_split_sep (tx l) (tx [c]) t t2 h1 hy (by rw[uS];simpa using hf) (by rw[en];omega) (by rw[hpl,List.length_map,i5,uQ];omega)) ?_
  rw[hpl];refine laid _ _ ?_;have:=pk ((i5 c l).map tx) s.toks
  rwa [List.map_map] at this
noncomputable def Bc(to:AE)(t:AA):AE:=fun ρ Z Q=>to ρ Z fun x Z1=>∃l,x=.d (.str (tx l))/\t ρ Z1 fun ys Z2=>∃c,ys=[.d (.str (tx [c]))]/\c<256/\l.length<=1000/\Q (.d (.lst ((i5 c l).map fun w=>D.str (tx w)))) Z2
theorem pE(to:AE)(t:AA)(ρ:SA)(Z:Om)(Q:AV->Om->Prop):Bc to t ρ Z Q=(to ρ Z fun x Z1=>∃l,x=.d (.str (tx l))/\t ρ Z1 fun ys Z2=>∃c,ys=[.d (.str (tx [c]))]/\c<256/\l.length<=1000/\Q (.d (.lst ((i5 c l).map fun w=>D.str (tx w)))) Z2):=rfl
theorem vQ{K:W.Frag}{to:TE}{to':AE}{t:TA}{t':AA}(ho:bf to to')(ht:jF t t'):bf (tBM K "str" zg to t) (Bc to' t'):=⟨fun F H Z σ ρ Q Q' rp rs w k=>
 ho.go rp rs w fun x Z1 v H1 rp1 fr1 rs1 rv1 ⟨l,e,q1⟩=>by
  subst e;cases dI rv1;refine⟨rfl,ht.go rp1 rs1 q1 fun ys Z2 vs H2 rp2 fr2 rs2 rv2 ⟨c,e1,hc,hl,q⟩=>?_⟩;subst e1;obtain⟨u,rfl,r⟩:=i3 rv2;cases dI r;refine⟨l,c,rfl,rfl,hc,hl,(k.fr (fr1.trans fr2)).lst rp2 (ds:=(i5 c l).map fun w=>D.str (tx w)) ?_ q⟩;have:=gW (cut F H2 Z2) ((i5 c l).map tx)
  rwa [List.map_map,List.map_map] at this⟩
end L2
namespace L2
open PySem PySem.Spec PyProof.Rows
theorem Cf{X:Cx}{st:Stmt}{h0:ExceptHandler}{hs:List ExceptHandler}{t:TS}{pos:Pos}(hX:∀x s,¬ X.xe x s)(hb:PS X st t):PS X (.Try [st] (h0::hs) [] [] pos) t:=.mk <| by
 intro pins s σ H D I h;refine wpAny_Try_except (wpAny_execs_cons (wpAny_mono (hb pins s σ H D I h) (fun f s1 q=>?_) fun x s' hx=>(hX x s' hx).elim))
 cases f with
 |next=>exact wpAny_execs_nil (wpAny_execs_nil q)
 |ret v=>exact q
 |brk=>exact q
 |cont=>exact q
theorem zY{F:Fs}{H H':Hp}{Z Z':Om}(rp:Rep F H Z)(fr:Fr F H Z H' Z'):Frz H H':=fun b o u e=>by
 cases hF:F b with
 |true=>rw[fr.hd b hF];exact e
 |false=>
  refine(fr.st b _ ?_ hF e).1
  cases hw:Z b with
  |none=>rfl
  |some c=>
   cases c with
   |own xs=>obtain⟨vs,z,_⟩:=rp.own b xs hw;rw[z] at e;cases e
   |frz ds=>rfl
   |dic kvs=>obtain⟨ks,z,_⟩:=rp.dic b kvs hw;rw[z] at e;cases e
noncomputable def rpB(d:D):Prop:=zM d=true/\dep d<=90/\fit d=true/\wt d<=1000000
noncomputable def mE(kc:Nat)(P:Program)(w:World)(K:W.Frag)(mg:Str->Option Value)(base:Heap):Sp:=fun vs H Q _=>∃(F:Fs)(Z:Om)(Q':AV->Om->Prop)(v1 v2:V)(d1 d2:D)(f:Addr)(c:List V)(a:List AV)(s:ASp),
 vs=[.ref f,v1,v2]/\Rep F H Z/\Dat (cut F H Z) d1 v1/\Dat (cut F H Z) d2 v2/\Clo P w K mg base H kc f 1 (kr c a s)/\RVs (cut F H Z) a c/\(∀Z1 Q1,Q1 (.d d2) Z1->s [.d d1] Z1 Q1)/\rpB d2/\Q' (.d (.bl true)) Z/\LP RV F H Z Q' Q
noncomputable def Do(js:List Nat)(s:List AV->ASp)(tb tc:AE):AE:=fun ρ Z Q=>tb ρ Z fun x Z1=>tc ρ Z1 fun y Z2=>∃(d1 d2:D)(a:List AV),x=.d d1/\y=.d d2/\q9 js ρ=some a/\(∀Z1 Q1,Q1 (.d d2) Z1->s a [.d d1] Z1 Q1)/\rpB d2/\Q (.d (.bl true)) Z2
theorem sd(js:List Nat)(s:List AV->ASp)(tb tc:AE)(ρ:SA)(Z:Om)(Q:AV->Om->Prop):Do js s tb tc ρ Z Q=(tb ρ Z fun x Z1=>tc ρ Z1 fun y Z2=>∃(d1 d2:D)(a:List AV),x=.d d1/\y=.d d2/\q9 js ρ=some a/\(∀Z1 Q1,Q1 (.d d2) Z1->s a [.d d1] Z1 Q1)/\rpB d2/\Q (.d (.bl true)) Z2):=rfl
theorem ql{X:Cx}{kc:Nat}{tb tc:TE}{tb' tc':AE}{q:Str}{js:List Nat}{p:Arguments}{b:Expr}{sc:Scope}{l:List (Str×Addr)}{s:List AV->ASp}(h:HP X kc 1 js q p b sc l s)(hb:bf tb tb')(hc:bf tc tc'):
  bf (uC X (fun b'=>mE kc X.prog X.w X.K X.mg b') (gO (Ht q p b sc l) (gO tb (gO tc A5)))) (Do js s tb' tc'):=⟨fun F H Z σ ρ Q Q' rp rs w kq=>by
 intro f1 H2 m1 _ M1;obtain⟨rp2,fr2⟩:=rp.later m1;refine hb.go rp2 (rs.same fr2.same) w fun x Z3 v H3 rp3 fr3 rs3 rv3 q=>hc.go rp3 rs3 q fun y Z4 u H4 rp4 fr4 rs4 rv4 q=>?_;obtain⟨d1,d2,a,rfl,rfl,e,hs,hr,q⟩:=q;intro b' sub cb;obtain⟨c,v1,r1⟩:=Ak rs4 e
 exact⟨F,Z4,Q',v,u,d1,d2,f1,c,a,s a,rfl,rp4,Dat.same fr4.same rv3,rv4,h b' H4 f1 σ c a (M1.frz ((zY rp2 fr3).trans (zY rp3 fr4))) cb v1 (rW e),r1,hs,hr,q,kq.fr ((fr2.trans fr3).trans fr4)⟩⟩
noncomputable def Bk(s:ASp)(tb tc:AE):AE:=fun ρ Z Q=>tb ρ Z fun x Z1=>tc ρ Z1 fun y Z2=>∃(d1 d2:D),x=.d d1/\y=.d d2/\(∀Z1 Q1,Q1 (.d d2) Z1->s [.d d1] Z1 Q1)/\rpB d2/\Q (.d (.bl true)) Z2
theorem pQ(s:ASp)(tb tc:AE)(ρ:SA)(Z:Om)(Q:AV->Om->Prop):Bk s tb tc ρ Z Q=(tb ρ Z fun x Z1=>tc ρ Z1 fun y Z2=>∃(d1 d2:D),x=.d d1/\y=.d d2/\(∀Z1 Q1,Q1 (.d d2) Z1->s [.d d1] Z1 Q1)/\rpB d2/\Q (.d (.bl true)) Z2):=rfl
theorem wB{X:Cx}{kc:Nat}{tb tc:TE}{tb' tc':AE}{f:Addr}{s:ASp}(h:∀b' H,Clo X.prog X.w X.K X.mg b' H kc f 1 (kr [] [] s))(hb:bf tb tb')(hc:bf tc tc'):
  bf (uC X (fun b'=>mE kc X.prog X.w X.K X.mg b') (gO (tC (.ref f)) (gO tb (gO tc A5)))) (Bk s tb' tc'):=⟨fun F H Z σ ρ Q Q' rp rs w kq=>by
 refine hb.go rp rs w fun x Z3 v H3 rp3 fr3 rs3 rv3 q=>hc.go rp3 rs3 q fun y Z4 u H4 rp4 fr4 rs4 rv4 q=>?_;obtain⟨d1,d2,rfl,rfl,hs,hr,q⟩:=q;intro b' sub cb
 exact⟨F,Z4,Q',v,u,d1,d2,f,[],[],s,rfl,rp4,Dat.same fr4.same rv3,rv4,h b' H4,rfl,hs,hr,q,kq.fr (fr3.trans fr4)⟩⟩
noncomputable def Eb:AC:=fun xs Z Q=>∃z:Str,xs=[.d (.str z)]/\z.length<=sizeLine/\Q (.d (.int z.length)) Z
theorem sK(xs:List AV)(Z:Om)(Q:AV->Om->Prop):Eb xs Z Q=(∃z:Str,xs=[.d (.str z)]/\z.length<=sizeLine/\Q (.d (.int z.length)) Z):=rfl
theorem An{K:W.Frag}:ln (fun xs H Q=>∃x n,xs=[x]/\B6 K x H n/\Q (.int n) H) Eb:=⟨fun F H Z vs xs Q Q' rp rv ⟨z,e1,e2,q⟩ k=>by
 subst e1;obtain⟨v,rfl,r⟩:=i3 rv;cases dI r
 exact⟨_,z.length,rfl,⟨e2,rfl⟩,k.int rp q⟩⟩
end L2
set_option maxHeartbeats 4000000
namespace My
open PySem PySem.Spec L2
noncomputable def top(i:Nat):Stmt:=PySem.Challenge.pw_unlikeplace_k61_what_is_written_is_read.main.body.getD i (.Pass ⟨0,0,0,0⟩)
noncomputable abbrev j3:Stmt:=top 6
noncomputable abbrev m7:Stmt:=top 7
noncomputable abbrev iE:Stmt:=top 8
noncomputable abbrev jm:Stmt:=top 9
noncomputable abbrev fh:Stmt:=top 10
noncomputable abbrev ix:Stmt:=top 13
noncomputable abbrev jp:Stmt:=top 15
noncomputable abbrev cy:Stmt:=top 16
noncomputable abbrev fO:Stmt:=top 24
noncomputable abbrev ki:Stmt:=top 25
noncomputable abbrev kY:Stmt:=top 26
noncomputable abbrev ux:Stmt:=top 27
noncomputable abbrev j7:Stmt:=top 28
noncomputable abbrev gn:Stmt:=top 29
noncomputable abbrev iV:Stmt:=top 30
noncomputable abbrev iZ:Stmt:=top 31
noncomputable abbrev jj:Stmt:=top 32
noncomputable abbrev fi:Stmt:=top 33
noncomputable abbrev iB:Stmt:=top 34
noncomputable abbrev eB:Stmt:=top 35
noncomputable abbrev ja:Stmt:=top 36
noncomputable abbrev qG:Stmt:=top 38
noncomputable abbrev nN:Stmt:=top 39
noncomputable abbrev qt:Stmt:=top 40
noncomputable abbrev gS:Stmt:=top 41
noncomputable abbrev ko:Stmt:=top 42
noncomputable abbrev fE:Stmt:=top 43
noncomputable abbrev lF:Stmt:=top 44
noncomputable abbrev fv:Stmt:=top 45
noncomputable abbrev ee:Stmt:=top 46
noncomputable abbrev gq:Stmt:=top 47
noncomputable abbrev ni:Stmt:=top 48
noncomputable abbrev kT:Stmt:=top 49
noncomputable abbrev nM:Stmt:=top 50
noncomputable abbrev jN:Stmt:=top 51
theorem uc:aM ["thing"] ["thing"] (defScope j3):=fsc rfl rfl rfl (by decide +kernel)
theorem yH:aM ["thing"] ["thing"] (defScope m7):=fsc rfl rfl rfl (by decide +kernel)
theorem oR:aM ["thing"] ["thing"] (defScope iE):=fsc rfl rfl rfl (by decide +kernel)
theorem uP:aM ["places","thing"] ["places","thing"] (defScope jm):=fsc rfl rfl rfl (by decide +kernel)
theorem kJ:aM ["some"] ["some"] (defScope fh):=fsc rfl rfl rfl (by decide +kernel)
theorem tJ:aM ["thing"] ["thing"] (defScope ix):=fsc rfl rfl rfl (by decide +kernel)
theorem j6:aM ["places","yes","no","yes_words","no_words"] ["places","yes","no"] (defScope jp):=fsc rfl rfl rfl (by decide +kernel)
theorem gg:aM ["places","some","ordered"] ["places","some"] (defScope cy):=fsc rfl rfl rfl (by decide +kernel)
theorem mq:aM ["thing"] ["thing"] (defScope fO):=fsc rfl rfl rfl (by decide +kernel)
theorem rS:aM ["text","at"] ["text","at"] (defScope ki):=fsc rfl rfl rfl (by decide +kernel)
theorem ur:aM ["text","at"] ["text","at"] (defScope kY):=fsc rfl rfl rfl (by decide +kernel)
theorem BU:aM ["text","at","sign"] ["text","at","sign"] (defScope ux):=fsc rfl rfl rfl (by decide +kernel)
theorem l6:aM ["places","text","at","sign"] ["places","text","at"] (defScope j7):=fsc rfl rfl rfl (by decide +kernel)
theorem bi:aM ["places","text","at","waiting","joins","done","wanted","sign","other","one"] ["places","text"] (defScope gn):=fsc rfl rfl rfl (by decide +kernel)
theorem bp:aM ["places","text","at","waiting","begun","done","wanted","sign","says","second","first"] ["places","text"] (defScope iV):=fsc rfl rfl rfl (by decide +kernel)
theorem d7:aM ["places","text","at","says"] ["places","text","at"] (defScope iZ):=fsc rfl rfl rfl (by decide +kernel)
theorem df:aM ["places","text","at","last","word","number","sign","greatest"] ["places","text","at","last"] (defScope jj):=fsc rfl rfl rfl (by decide +kernel)
theorem rg:aM ["text"] ["text"] (defScope fi):=fsc rfl rfl rfl (by decide +kernel)
theorem jR:aM ["text","table"] ["text"] (defScope iB):=fsc rfl rfl rfl (by decide +kernel)
theorem gl:aM ["text","words","places"] ["text"] (defScope eB):=fsc rfl rfl rfl (by decide +kernel)
theorem fC:aM ["text","sides","yes","no"] ["text"] (defScope ja):=fsc rfl rfl rfl (by decide +kernel)
theorem zd:aM ["_law_script"] ["_law_script"] (defScope qG):=fsc rfl rfl rfl (by decide +kernel)
theorem di:aM ["_law_pen_here","_law_many","_law_cells","_law_place","_law_left","_law_cell","_law_number"] ["_law_pen_here","_law_many"] (defScope nN):=fsc rfl rfl rfl (by decide +kernel)
theorem fW:aM ["_law_places","_law_found","_law_k","_law_longer","_law_word"] ["_law_places"] (defScope qt):=fsc rfl rfl rfl (by decide +kernel)
theorem bT:aM ["_law_pen_here","_law_places","_law_words","_law_way","_law_top","_law_place","_law_share","_law_sorts_here","_law_word","_law_more","_law_sort","_law_others"] ["_law_pen_here","_law_places"] (defScope gS):=fsc rfl rfl rfl (by decide +kernel)
theorem me:aM ["_law_pen_here","_law_places","_law_most","_law_join"] ["_law_pen_here","_law_places","_law_most"] (defScope ko):=fsc rfl rfl rfl (by decide +kernel)
theorem gp:aM ["_law_pen_here","_law_places","_law_most","_law_share","_law_says","_law_hand"] ["_law_pen_here","_law_places","_law_most","_law_share"] (defScope fE):=fsc rfl rfl rfl (by decide +kernel)
theorem cI:aM ["_law_pen_here","_law_places","_law_most","_law_saying_here","_law_talk","_law_k","_law_leaf","_law_both","_law_ends"] ["_law_pen_here","_law_places","_law_most"] (defScope lF):=fsc rfl rfl rfl (by decide +kernel)
theorem gR:aM ["_law_saying_here","_law_sign"] ["_law_saying_here"] (defScope fv):=fsc rfl rfl rfl (by decide +kernel)
theorem mr:aM ["_law_words"] ["_law_words"] (defScope ee):=fsc rfl rfl rfl (by decide +kernel)
theorem jh:aM ["_law_talk","_law_both"] ["_law_talk"] (defScope gq):=fsc rfl rfl rfl (by decide +kernel)
theorem pT:aM ["_law_pen_here","_law_most","_law_hand"] ["_law_pen_here","_law_most"] (defScope ni):=fsc rfl rfl rfl (by decide +kernel)
theorem ju:aM ["_law_pen_here","_law_places","_law_many","_law_hand","_law_says","_law_first"] ["_law_pen_here","_law_places","_law_many"] (defScope kT):=fsc rfl rfl rfl (by decide +kernel)
theorem pG:aM ["_law_asked","_law_text","_law_due","_law_turn"] ["_law_asked","_law_text","_law_due"] (defScope nM):=fsc rfl rfl rfl (by decide +kernel)
theorem dv:aM ["_law_script","_law_pen_here","_law_turn","_law_places","_law_sayings","_law_talks","_law_saying_here","_law_talk","_law_one","_law_yes","_law_no","_law_table","_law_few"] ["_law_script"] (defScope jN):=fsc rfl rfl rfl (by decide +kernel)
set_option genInjectivity false in
structure Adr where
 dJ:Addr
 j4:FuncData
 fT:Addr
 nH:FuncData
 cJ:Addr
 ii:FuncData
 eK:Addr
 lq:FuncData
 cF:Addr
 gf:FuncData
 dE:Addr
 kg:FuncData
 eL:Addr
 lv:FuncData
 bL:Addr
 eY:FuncData
 b7:Addr
 fU:FuncData
 dL:Addr
 jX:FuncData
 e8:Addr
 lG:FuncData
 kh:Addr
 uX:FuncData
 dF:Addr
 kb:FuncData
 bW:Addr
 fg:FuncData
 bX:Addr
 dR:FuncData
 cX:Addr
 iY:FuncData
 cZ:Addr
 i8:FuncData
 cY:Addr
 iQ:FuncData
 bV:Addr
 ig:FuncData
 cH:Addr
 hJ:FuncData
 ci:Addr
 i6:FuncData
 hG:Addr
 qI:FuncData
 fR:Addr
 nC:FuncData
 hU:Addr
 qv:FuncData
 eJ:Addr
 k9:FuncData
 cG:Addr
 gb:FuncData
 bM:Addr
 dc:FuncData
 eG:Addr
 lA:FuncData
 bt:Addr
 cN:FuncData
 bZ:Addr
 fV:FuncData
 bN:Addr
 dA:FuncData
 dZ:Addr
 jd:FuncData
 el:Addr
 iN:FuncData
 fk:Addr
 kW:FuncData
 je:Addr
 pZ:FuncData
 wo:World
 cm:Addr
 cD:Addr
 cr:Addr
 bJ:Addr
 cn:Addr
 ff:Addr
 fb:Addr
 fe:Tok
 pd:Addr
 Dc:Addr
structure Txt(K:W.Frag)(mg:Str->Option Value)(t:Adr):Prop where
 nv:mg "is_whole"=some (.ref t.dJ)
 vg:Fun K "is_whole" "is_whole" j3 t.dJ t.j4
 nc:W.keepIn K (.ref t.dJ)=true
 oa:bo K t.j4 ["thing"] []
 rH:mg "is_bit"=some (.ref t.fT)
 Aa:Fun K "is_bit" "is_bit" m7 t.fT t.nH
 t8:W.keepIn K (.ref t.fT)=true
 uf:bo K t.nH ["thing"] []
 ir:mg "are_places"=some (.ref t.cJ)
 qc:Fun K "are_places" "are_places" iE t.cJ t.ii
 hE:W.keepIn K (.ref t.cJ)=true
 g9:bo K t.ii ["thing"] []
 ym:mg "is_word"=some (.ref t.eK)
 yj:Fun K "is_word" "is_word" jm t.eK t.lq
 yB:W.keepIn K (.ref t.eK)=true
 xX:bo K t.lq ["places","thing"] []
 lV:mg "is_rising"=some (.ref t.cF)
 lM:Fun K "is_rising" "is_rising" fh t.cF t.gf
 lT:W.keepIn K (.ref t.cF)=true
 mm:bo K t.gf ["some"] []
 vp:mg "is_table"=some (.ref t.dE)
 uE:Fun K "is_table" "is_table" ix t.dE t.kg
 ve:W.keepIn K (.ref t.dE)=true
 vz:bo K t.kg ["thing"] []
 yv:mg "case_of"=some (.ref t.eL)
 yR:Fun K "case_of" "case_of" jp t.eL t.lv
 yg:W.keepIn K (.ref t.eL)=true
 yf:bo K t.lv ["places","yes","no"] []
 gX:mg "words_in_order"=some (.ref t.bL)
 lE:Fun K "words_in_order" "words_in_order" cy t.bL t.eY
 gF:W.keepIn K (.ref t.bL)=true
 gK:bo K t.eY ["places","some"] []
 d6:mg "must_be_text"=some (.ref t.b7)
 oG:Fun K "must_be_text" "must_be_text" fO t.b7 t.fU
 eu:W.keepIn K (.ref t.b7)=true
 d9:bo K t.fU ["thing"] []
 nD:mg "must_end"=some (.ref t.dL)
 uY:Fun K "must_end" "must_end" ki t.dL t.jX
 oe:W.keepIn K (.ref t.dL)=true
 nh:bo K t.jX ["text","at"] []
 eS:mg "sign_at"=some (.ref t.e8)
 x5:Fun K "sign_at" "sign_at" kY t.e8 t.lG
 eO:W.keepIn K (.ref t.e8)=true
 eQ:bo K t.lG ["text","at"] []
 rj:mg "past"=some (.ref t.kh)
 Fn:Fun K "past" "past" ux t.kh t.uX
 qu:W.keepIn K (.ref t.kh)=true
 rh:bo K t.uX ["text","at","sign"] []
 jV:mg "place_at"=some (.ref t.dF)
 uN:Fun K "place_at" "place_at" j7 t.dF t.kb
 ka:W.keepIn K (.ref t.dF)=true
 jU:bo K t.kb ["places","text","at"] []
 oV:mg "read_saying"=some (.ref t.bW)
 oX:Fun K "read_saying" "read_saying" gn t.bW t.fg
 oS:W.keepIn K (.ref t.bW)=true
 o7:bo K t.fg ["places","text"] []
 i9:mg "read_talk"=some (.ref t.bX)
 rP:Fun K "read_talk" "read_talk" iV t.bX t.dR
 ji:W.keepIn K (.ref t.bX)=true
 jk:bo K t.dR ["places","text"] []
 tT:mg "says_from"=some (.ref t.cX)
 tX:Fun K "says_from" "says_from" iZ t.cX t.iY
 sO:W.keepIn K (.ref t.cX)=true
 sq:bo K t.iY ["places","text","at"] []
 ml:mg "word_from"=some (.ref t.cZ)
 tR:Fun K "word_from" "word_from" jj t.cZ t.i8
 lL:W.keepIn K (.ref t.cZ)=true
 mj:bo K t.i8 ["places","text","at","last"] []
 l8:mg "read_bits"=some (.ref t.cY)
 sP:Fun K "read_bits" "read_bits" fi t.cY t.iQ
 lZ:W.keepIn K (.ref t.cY)=true
 lK:bo K t.iQ ["text"] []
 qW:mg "read_table"=some (.ref t.bV)
 kX:Fun K "read_table" "read_table" iB t.bV t.ig
 CD:W.keepIn K (.ref t.bV)=true
 qe:bo K t.ig ["text"] []
 kI:mg "read_words"=some (.ref t.cH)
 qO:Fun K "read_words" "read_words" eB t.cH t.hJ
 kx:W.keepIn K (.ref t.cH)=true
 kA:bo K t.hJ ["text"] []
 sY:mg "read_case"=some (.ref t.ci)
 l5:Fun K "read_case" "read_case" ja t.ci t.i6
 Dw:W.keepIn K (.ref t.ci)=true
 rO:bo K t.i6 ["text"] []
 Cj:mg "_law_pen"=some (.ref t.hG)
 B8:Fun K "_law_pen" "_law_pen" qG t.hG t.qI
 CV:W.keepIn K (.ref t.hG)=true
 B4:bo K t.qI ["_law_script"] []
 aQ:mg "_law_draw"=some (.ref t.fR)
 Bv:Fun K "_law_draw" "_law_draw" nN t.fR t.nC
 aP:W.keepIn K (.ref t.fR)=true
 aO:bo K t.nC ["_law_pen_here","_law_many"] []
 kU:mg "_law_all"=some (.ref t.hU)
 Cq:Fun K "_law_all" "_law_all" qt t.hU t.qv
 kt:W.keepIn K (.ref t.hU)=true
 kE:bo K t.qv ["_law_places"] []
 xR:mg "_law_sorts"=some (.ref t.eJ)
 yn:Fun K "_law_sorts" "_law_sorts" gS t.eJ t.k9
 x4:W.keepIn K (.ref t.eJ)=true
 xY:bo K t.k9 ["_law_pen_here","_law_places"] []
 jZ:mg "_law_saying"=some (.ref t.cG)
 vf:Fun K "_law_saying" "_law_saying" ko t.cG t.gb
 j8:W.keepIn K (.ref t.cG)=true
 kn:bo K t.gb ["_law_pen_here","_law_places","_law_most"] []
 iC:mg "_law_any_talk"=some (.ref t.bM)
 qp:Fun K "_law_any_talk" "_law_any_talk" fE t.bM t.dc
 io:W.keepIn K (.ref t.bM)=true
 hV:bo K t.dc ["_law_pen_here","_law_places","_law_most","_law_share"] []
 xV:mg "_law_chain"=some (.ref t.eG)
 yI:Fun K "_law_chain" "_law_chain" lF t.eG t.lA
 yu:W.keepIn K (.ref t.eG)=true
 yi:bo K t.lA ["_law_pen_here","_law_places","_law_most"] []
 ft:mg "_law_saying_text"=some (.ref t.bt)
 mn:Fun K "_law_saying_text" "_law_saying_text" fv t.bt t.cN
 fu:W.keepIn K (.ref t.bt)=true
 fq:bo K t.cN ["_law_saying_here"] []
 f8:mg "_law_words_text"=some (.ref t.bZ)
 oy:Fun K "_law_words_text" "_law_words_text" ee t.bZ t.fV
 fX:W.keepIn K (.ref t.bZ)=true
 ga:bo K t.fV ["_law_words"] []
 cT:mg "_law_talk_text"=some (.ref t.bN)
 oN:Fun K "_law_talk_text" "_law_talk_text" gq t.bN t.dA
 cQ:W.keepIn K (.ref t.bN)=true
 cR:bo K t.dA ["_law_talk"] []
 nL:mg "_law_full"=some (.ref t.dZ)
 Aw:Fun K "_law_full" "_law_full" ni t.dZ t.jd
 nI:W.keepIn K (.ref t.dZ)=true
 nj:bo K t.jd ["_law_pen_here","_law_most"] []
 nz:mg "_law_wide"=some (.ref t.el)
 za:Fun K "_law_wide" "_law_wide" kT t.el t.iN
 mX:W.keepIn K (.ref t.el)=true
 ou:bo K t.iN ["_law_pen_here","_law_places","_law_many"] []
 gU:mg "_law_told"=some (.ref t.fk)
 BG:Fun K "_law_told" "_law_told" nM t.fk t.kW
 gG:W.keepIn K (.ref t.fk)=true
 g8:bo K t.kW ["_law_asked","_law_text","_law_due"] []
 Hj:mg "law"=some (.ref t.je)
 Ip:Fun K "law" "law" jN t.je t.pZ
 Iq:W.keepIn K (.ref t.je)=true
 Dc:bo K t.pZ ["_law_script"] []
 EV:∀(s:Shared)(v:Value),BindsTo s t.pZ ⟨[v],[]⟩ [("_law_script",v)]
 yX:mg "abs"=none
 oH:mg "all"=none
 Gu:mg "any"=none
 FN:mg "bool"=none
 jO:mg "int"=none
 dh:mg "isinstance"=none
 fy:mg "len"=none
 FV:mg "list"=none
 gh:mg "range"=none
 AJ:mg "repr"=none
 zX:mg "sorted"=none
 r8:mg "str"=none
 zN:mg "sum"=none
 cV:mg "tuple"=none
 oJ:mg "MOST_PLACES"=some (.int 5 t.fe)
 w4:mg "JOINS"=some (.ref t.ff)
 xn:StD t.wo K t.ff [("&",V.str "and"),("|",V.str "or")]
 wP:mg "HANDS"=some (.ref t.fb)
 vL:StD t.wo K t.fb [("Y",V.str "yes"),("N",V.str "no")]
 oK:mg "TABLE_SIZES"=some (.ref t.cm)
 oY:StT K t.cm [2,4,8,16,32]
 mf:mg "BIT_SIGNS"=some (.ref t.cD)
 lX:StZ K t.cD ["0","1"]
 o5:mg "PLACE_SIGNS"=some (.ref t.cr)
 o0:StZ K t.cr ["0","1","2","3","4"]
 k7:mg "BEHIND_BRACKET"=some (.ref t.bJ)
 k8:StZ K t.bJ [")","saying","join","saying"]
 o4:mg "BEHIND_SAYS"=some (.ref t.cn)
 jS:StZ K t.cn [")","talk",";","talk","("]
 ib:yO K "law" "law" jN t.je t.pZ t.pd t.Dc
 kL:(t.ff == sysModules)=false
 kD:(t.fb == sysModules)=false
set_option hygiene false
local macro_rules | `(tactic| walk_at "ab")=>`(tactic| simp only[sI,w6,tN,wT,xb,vC,gZ,ub,pF,wm,xj,Ed,BI,wR,rZ,wI,vX,tS,rY,pK,tq,rX,wq,wy,r6,sX,rV,rm,tG,wN,Be,vH,xu,wE,Ao,Dq,xp,Bm,zk,wn,xv,y8,xC,pV,pU,pY,sj,sS,ue,pA,p4,ng,sC,nV,vV,pJ,tz,sD,so,pX,t6,xt,vP,wF,tQ,wV,vY,sk,pE,sd,pQ,sK,rN,sA,ph,zC,zL,Ef,sN,sE,kS,wH,xD,xh,wg,xx,we,rR,qL,vF,xi,wa,tK,tB,Bz,q8,BN,zq,qM,Bh,zf,zJ,Aq,BP,AX,Bq,Ax,tZ,xm,bF,AD,Am,Ap,BE,jc,oI,Om.Iy,Om.Iz,sz1,sz2,sz3,sz4,sz5,Int.toNat_natCast,yY,BQ,C9,C0,Dv,DM,mD,wD,xq,xH,uh,vW,Nat.zero_le,AV.d.injEq,AV.r.injEq,D.int.injEq,D.bl.injEq,D.str.injEq,D.tup.injEq,D.lst.injEq,OC.own.injEq,V.ref.injEq,V.ty.injEq,List.map_cons,List.map_nil,List.cons_append,List.nil_append,List.length_cons,List.length_nil,List.length_map,List.length_append,List.replicate,List.getElem?_cons_zero,List.getElem?_cons_succ,List.set_cons_zero,List.set_cons_succ,Option.some.injEq,Option.map_some,Option.join_some,exists_eq',exists_eq_left',List.cons.injEq,and_true,true_and,and_assoc,exists_and_left,Nat.sub_self,Nat.reduceAdd,Nat.reduceSub,Nat.reduceLeDiff,Int.reduceLT,Int.reduceLE,Int.reduceToNat,decide_eq_true_eq,Bool.not_true,Bool.not_false,if_true,if_false,Bool.false_eq_true,reduceCtorEq,false_and,and_false,or_false,false_or,exists_false,beq_iff_eq,bne_iff_ne,ne_eq,Bool.true_eq_false])
local macro_rules | `(tactic| walk_at "a1")=>`(tactic| simp only[sI,tN,wT,xb,vC,gZ,ub,pF,wm,xj,Ed,BI,wR,rZ,wI,vX,tS,rY,pK,tq,rX,wq,wy,r6,sX,rV,rm,tG,wN,Be,vH,xu,wE,Ao,Dq,xp,Bm,zk,wn,xv,y8,xC,pV,pU,pY,sj,sS,ue,pA,p4,ng,sC,nV,vV,pJ,tz,sD,so,pX,t6,xt,vP,wF,tQ,wV,vY,sk,pE,sd,pQ,sK,rN,sA,ph,zC,zL,Ef,sN,sE,kS,wH,xD,xh,wg,xx,we,rR,qL,vF,xi,wa,tK,tB,Bz,q8,BN,zq,qM,Bh,zf,zJ,Aq,BP,AX,Bq,Ax,tZ,xm,bF,AD,Am,Ap,BE,jc,oI,Om.Iy,Om.Iz,sz1,sz2,sz3,sz4,sz5,Int.toNat_natCast,yY,BQ,C9,C0,Dv,DM,mD,wD,xq,xH,uh,vW,Nat.zero_le,AV.d.injEq,AV.r.injEq,D.int.injEq,D.bl.injEq,D.str.injEq,D.tup.injEq,D.lst.injEq,OC.own.injEq,V.ref.injEq,V.ty.injEq,List.map_cons,List.map_nil,List.cons_append,List.nil_append,List.length_cons,List.length_nil,List.length_map,List.length_append,List.replicate,List.getElem?_cons_zero,List.getElem?_cons_succ,List.set_cons_zero,List.set_cons_succ,Option.some.injEq,Option.map_some,Option.join_some,exists_eq',exists_eq_left',List.cons.injEq,and_true,true_and,and_assoc,exists_and_left,Nat.sub_self,Nat.reduceAdd,Nat.reduceSub,Nat.reduceLeDiff,Int.reduceLT,Int.reduceLE,Int.reduceToNat,decide_eq_true_eq,Bool.not_true,Bool.not_false,if_true,if_false,Bool.false_eq_true,reduceCtorEq,false_and,and_false,or_false,false_or,exists_false,beq_iff_eq,bne_iff_ne,ne_eq,Bool.true_eq_false])
local macro_rules | `(tactic| walk_at "s1")=>`(tactic| (try walk_at "a1");(first|rw[w6]|rw[zZ]);walk_at "a1")
set_option hygiene true
section
variable{P:Program}{w:World}{K:W.Frag}{mg:Str->Option Value}{base:Heap}{t:Adr}
noncomputable def scr(K:W.Frag)(a:Addr)(ns:List Int):AV:=.p (.ref a) (fun H=>SqL K H a (ns.map V.int))
noncomputable def Hv(K:W.Frag)(te:AE)(tl th:AO):AE:=fun ρ Z Q=>te ρ Z fun x Z1=>tl ρ Z1 fun lo Z2=>th ρ Z2 fun hi Z3=>∃a ns,x=scr K a ns/\Q (.d (.lst (cL (ns.map D.int) lo hi))) Z3
theorem Hw{te:TE}{te':AE}{tl th:TO}{tl' th':AO}(he:bf te te')(hl:Ref REq tl tl')(hh:Ref REq th th'):bf (tSl (qT K) te tl th) (Hv K te' tl' th'):=⟨fun F H Z σ ρ Q Q' rp rs w k=>
 he.go rp rs w fun x Z1 v H1 rp1 fr1 rs1 rv1 q1=>hl.go rp1 rs1 q1 fun lo Z2 lo' H2 rp2 fr2 rs2 e2 q2=>hh.go rp2 rs2 q2 fun hi Z3 hi' H3 rp3 fr3 rs3 e3 ⟨a,ns,e,q⟩=>by
  cases (show lo=lo' from e2)
  cases (show hi=hi' from e3)
  subst e;obtain⟨e4,e5⟩:=rv1.same (fr2.trans fr3).same
  exact .inl ⟨a,_,e4,e5 _ ba,(k.fr ((fr1.trans fr2).trans fr3)).lst rp3 (lD _ ns).cut q⟩⟩
structure Pl where
 ns:List Int
 i:Int
 f:Int
 h0:0<=i
 hf:0<=f
 hn:ns.length<=63
noncomputable def plO(c:Pl):OC:=.own [.d (.lst (c.ns.map D.int)),.d (.int c.i),.d (.int c.f)]
noncomputable def jH(Z:Om)(p:Addr):Prop:=∃c,Z p=some (plO c)
theorem a0{Z:Om}{p:Addr}{c:Pl}:jH (Z.put p (plO c)) p:=⟨c,Om.Iy⟩
noncomputable def EC(K:W.Frag):ASp:=fun xs Z Q=>∃(a:Addr)(ns:List Int),xs=[scr K a ns]/\ns.length<=63/\∀p c,Z p=none->Q (.r (.ref p)) (Z.put p (plO c))
theorem E2(T:Txt K mg t):aD P w K mg base CX0 1 t.hG t.qI ["_law_script"] (bz (EC K)):=by
 refine T.B8.okA zd (fun xs Z Q h=>by obtain⟨a,ns,rfl,_⟩:=h;rfl) (fun cdv A outer s H E hr=>⟨_,_,(am (aR (br (aa (iX (uy K rfl) (pv 0) mQ (jw aj)) (ao aj (ao aj af)))))),(bd (fS (ac (Hw ae p8 (k5 aq)) (ac aq (ac aq ag))))),fun xs Z Q h=>?_⟩)
 obtain⟨a,ns,rfl,hn,k⟩:=h;walk_at "ab";unfold Hv;walk_at "ab";refine⟨a,ns,rfl,fun p hp=>?_⟩;have e:cL (ns.map D.int) none (some 63)=(cL ns none (some 63)).map D.int:=by simp[cL]
 rw[e];exact k p ⟨cL ns none (some 63),0,0,Int.le_refl _,Int.le_refl _,Nat.le_trans (by simp only[cL,List.length_take,List.length_drop];omega) hn⟩ hp
noncomputable def mM:ASp:=fun xs Z Q=>∃(p:Addr)(m:Int),xs=[.r (.ref p),.d (.int m)]/\jH Z p/\0<m/\m<1073741824/\∀(r:Int)(c:Pl),0<=r->r<m->Q (.d (.int r)) (Z.put p (plO c))
theorem ip(T:Txt K mg t):aD P w K mg base CX0 1 t.fR t.nC ["_law_pen_here","_law_many"] (bz mM):=by
 refine T.Bv.okA di (fun xs Z Q h=>by obtain⟨p,m,rfl,_⟩:=h;rfl) (fun cdv A outer s H E hr=>⟨_,_,(ah (hZ (pv 0) (E4 (n:=3) rfl (d5 (aW (i:=2) di.nd rfl (Or.inl rfl)) (d5 (aW (i:=3) di.nd rfl (Or.inl rfl)) (d5 (aW (i:=4) di.nd rfl (Or.inl rfl)) mx)))))
   (ah (bn (aL DS (pv 4) aj (a7 _)) (ah (hZ (aE kC (pv 4) (pv 1)) (nY (pv 0) aj iS))
   (am (aR (aE gy (pv 4) (pv 1))))) aX)
   (ah (hZ (aE (aB bv (aB bb bu)) (pv 3) aj) (nY (pv 0) aj iS))
   (ah (az (i:=5) di.nd rfl (Or.inl rfl) aj)
   (ah (bn (aL DS (aK (bH K rfl) (by rfl) T.fy (by kernel_rfl) (aa (pv 2) af)) aj (a7 _)) (am (az (i:=5) di.nd rfl (Or.inl rfl) (bh (aJ K rfl) (pv 2) (aE gy (pv 3) (aK (bH K rfl) (by rfl) T.fy (by kernel_rfl) (aa (pv 2) af))) (fun _ _=>rfl)))) aX)
   (ah (bn (PW.pt (jY (aL wQ (pv 3) (aK (bH K rfl) (by rfl) T.fy (by kernel_rfl) (aa (pv 2) af)) (a7 _)) (iq (aL Ha (aK om (by rfl) T.yX (by kernel_rfl) (aa (pv 5) af)) (aE FJ aj aj) (a7 _))))) (ah (hZ (aE kC (aK om (by rfl) T.yX (by kernel_rfl) (aa (pv 5) af)) (pv 1)) (nY (pv 0) aj iS))
   (am (aR (aE gy (aK om (by rfl) T.yX (by kernel_rfl) (aa (pv 5) af)) (pv 1))))) aX)
   (ah (az (i:=6) di.nd rfl (Or.inl rfl) (aE gy (aE (aB ke kl) (aE (aB bv (aB bb bu)) (aE (aB bv (aB bb bu)) (aE gy (pv 5) aj) (aE (aB ke kl) aj (pv 3))) aj) aj) aj))
   (ah (az (i:=6) di.nd rfl (Or.inl rfl) (aE gy (aE (aB bv (aB bb bu)) (aE (aB bv (aB bb bu)) (aE (aB ke kl) (pv 6) (pv 6)) (aE (aB ke kl) aj (pv 6))) (pv 3)) aj))
   (ah (az (i:=6) di.nd rfl (Or.inl rfl) (aE gy (aE (aB bv (aB bb bu)) (aE (aB ke kl) (pv 6) aj) (aE (aB ke kl) aj (pv 3))) aj))
   (am (aR (aE gy (aE kC (aE gy (aE (aB ke kl) (pv 6) (pv 6)) aj) aj) (pv 1))))))))))))),(av (aF ae (F9 (ia ap (ia ap (ia ap vE)))))
   (av (ca (aY (ax iH ae aq)) (av (aF (ax jC ae ae) (tH ae aq))
   (bd (ax jC ae ae))) bc)
   (av (aF (ax b8 ae aq) (tH ae aq))
   (av (aF aq ap)
   (av (ca (aY (ax iH (bx gk (ac ae ag)) aq)) (aF (ax ce ae (ax jC ae (bx gk (ac ae ag)))) ap) bc)
   (av (ca (nJ (aY (ax iH ae (bx gk (ac ae ag)))) (aY (ax iH (bx FD (ac ae ag)) (ax jC aq aq)))) (av (aF (ax jC (bx FD (ac ae ag)) ae) (tH ae aq))
   (bd (ax jC (bx FD (ac ae ag)) ae))) bc)
   (av (aF (ax jC (ax og (ax b8 (ax b8 (ax jC ae aq) (ax og aq ae)) aq) aq) aq) ap)
   (av (aF (ax jC (ax b8 (ax b8 (ax og ae ae) (ax og aq ae)) ae) aq) ap)
   (av (aF (ax jC (ax b8 (ax og ae aq) (ax og aq ae)) aq) ap)
   (bd (ax jC (ax jC (ax jC (ax og ae ae) aq) aq) ae))))))))))),fun xs Z Q h=>?_⟩)
 obtain⟨p,m,rfl,⟨c,hp⟩,hm,hm2,k⟩:=h;have fin:∀(r:Int)(c:Pl),Q (.d (.int (r%m))) (Z.put p (plO c)):=fun r c=>k _ c (Int.emod_nonneg _ (by omega)) (Int.emod_lt_of_pos _ hm)
 unfold plO at hp;walk_at "s1";rw[hp];refine⟨_,rfl,rfl,_,_,rfl,_,_,rfl,_,_,rfl,rfl,?_⟩;walk_at "s1";refine kR (fun h1=>?_) (fun h1=>?_)
 ·walk_at "ab"
  simp only[hp];walk_at "ab";exact⟨⟨hm,hm2⟩,hm,fin _ ⟨c.ns,c.i,c.f / m,c.h0,Int.ediv_nonneg c.hf (by omega),c.hn⟩⟩
 ·walk_at "s1"
  simp only[hp];walk_at "a1";walk_at "s1";refine qx (fun ρ' Z'=>Z'=Z.put p (OC.own [AV.d (D.lst (c.ns.map D.int)),AV.d (D.int (c.i+1)),AV.d (D.int c.f)])/\∃x:Int,ρ'=[some (AV.r (V.ref p)),some (AV.d (D.int m)),some (AV.d (D.lst (c.ns.map D.int))),some (AV.d (D.int c.i)),some (AV.d (D.int c.f)),some (AV.d (D.int x)),none]) (fun M kM=>?_) ?_
  ·walk_at "a1"
   refine kR (fun h2=>?_) (fun h2=>?_)
   ·have hx1:0<=c.i%(c.ns.length:Int):=Int.emod_nonneg _ (by omega)
    have hx2:c.i%(c.ns.length:Int)<(c.ns.length:Int):=Int.emod_lt_of_pos _ h2;obtain⟨y,_,_,ey⟩:=Cw (f:=AV.d ∘ D.int) (xs:=c.ns) hx1 hx2;rw[←List.map_map] at ey
    exact⟨h2,_,ey,kM _ _ ⟨rfl,_,rfl⟩⟩
   ·exact kM _ _ ⟨rfl,_,rfl⟩
  rintro ρ Z' ⟨rfl,x,rfl⟩;have absn:∀z:Int,0<=(if z<0 then -z else z):=fun z=>by split<;>omega
  refine qx (fun ρ' Z'=>Z'=Z.put p (OC.own [AV.d (D.lst (c.ns.map D.int)),AV.d (D.int (c.i+1)),AV.d (D.int c.f)])/\ρ'=[some (AV.r (V.ref p)),some (AV.d (D.int m)),some (AV.d (D.lst (c.ns.map D.int))),some (AV.d (D.int c.i)),some (AV.d (D.int c.f)),some (AV.d (D.int x)),none]) (fun M kM=>?_) ?_
  ·walk_at "a1"
   refine kR (fun h2=>⟨⟨by decide,by decide,by decide⟩,kR (fun h3=>?_) (fun h3=>kM _ _ ⟨rfl,rfl⟩)⟩) (fun h2=>kM _ _ ⟨rfl,rfl⟩)
   walk_at "ab";exact⟨⟨hm,hm2⟩,hm,fin _ ⟨c.ns,c.i+1,(if x<0 then -x else x) / m,by have:=c.h0;omega,Int.ediv_nonneg (absn x) (by omega),c.hn⟩⟩
  rintro ρ Z' ⟨rfl,rfl⟩;walk_at "ab";exact⟨vd (by decide),Bl (by decide),sU (by decide) (by decide),vd (by decide),Bl (by decide),vd (by decide),sU (by decide) (by decide),⟨by decide,by decide⟩,hm,fin _ ⟨c.ns,c.i+1,c.f,by have:=c.h0;omega,c.hf,c.hn⟩⟩
theorem yb{H:Hp}{a:Addr}{ns:List Int}(h:SqL K H a (ns.map V.int)):RV (cut (fun _=>false) H (fun _=>none)) (scr K a ns) (.ref a):=by
 refine⟨rfl,fun G' s=>?_⟩;have s2:dq H G':=fun b o e=>s b o (bO.mpr ⟨rfl,rfl,e⟩);rcases h with(h|⟨o,h⟩)|h
 ·exact .inl (.inl (s2 _ _ h))
 ·exact .inl (.inr ⟨o,s2 _ _ h⟩)
 ·exact .inr h
theorem HZ{H:Hp}:Rep (fun _=>false) H (fun _=>none):=⟨fun _ _ h=>by simp at h,fun _ _ h=>by simp at h,fun _ h=>by simp at h,fun _ _ h=>by simp at h⟩
noncomputable def Cc(K:W.Frag):ASp:=fun xs Z Q=>∃(a:Addr)(ns:List Int),xs=[scr K a ns]/\ns.length<=63/\Z=(fun _=>none)/\∀Z',Q (.d (.bl true)) Z'
noncomputable def qJ(K:W.Frag):Sp:=bz (Cc K)
theorem x8{K:W.Frag}{H:Hp}{a:Addr}{ns:List Int}(hl:ns.length<=63)(hO:Hm H)(hS:SqL K H a (ns.map V.int)):qJ K [.ref a] H (fun v _=>v=.bl true) fun _ _ _=>False:=
 ⟨fun _=>false,[scr K a ns],fun _=>none,fun a _=>a=.d (.bl true),HZ,⟨_,_,rfl,yb hS,rfl⟩,⟨a,ns,rfl,hl,rfl,fun _=>rfl⟩,fun a Z' v H' _ _ rv q=>by subst q;exact Bd rv⟩
noncomputable def Ft:ASp:=fun xs Z Q=>∃n:Nat,xs=[.d (.int n)]/\n<=5/\Q (.d (.lst ((wl n).map wdD))) Z
theorem m6(T:Txt K mg t):aD P w K mg base CX0 1 t.hU t.qv ["_law_places"] (bz Ft):=by
 refine T.Cq.okD fW (fun xs Z Q h=>by obtain⟨n,rfl,_⟩:=h;rfl) (fun cdv A outer s H E hr=>⟨_,_,(ah (az (i:=1) fW.nd rfl (Or.inl rfl) (br (bP (a9 af) af)))
   (ah (gv PassesOwn.never rfl (eN rfl T.gh (aa (pv 0) af)) (aW (i:=2) fW.nd rfl (Or.inl rfl)) (ah (az (i:=3) fW.nd rfl (Or.inl rfl) (br af))
   (ah (gv PassesOwn.never rfl (cz K rfl (pv 1)) (aW (i:=4) fW.nd rfl (Or.inl rfl)) (am (az (i:=3) fW.nd rfl (Or.inl rfl) (aE (aB bv (aB bb bu)) (pv 3) (br (aa (aE (aB bv (aB bb bu)) (pv 4) (a9 (ao aj af))) (aa (aE (aB bv (aB bb bu)) (pv 4) (a9 (ao aj af))) af)))))))
   (am (az (i:=1) fW.nd rfl (Or.inl rfl) (pv 3))))))
   (am (aR (pv 1))))),(av (aF (dD (ac (bw ag) ag)) ap)
   (av (jT (kf (ac ae ag)) ap (av (aF (dD ag) ap)
   (av (jT (dP ae) ap (aF (ax b8 ae (dD (ac (ax b8 ae (bw (ac aq ag))) (ac (ax b8 ae (bw (ac aq ag))) ag)))) ap))
   (aF ae ap))))
   (bd ae))),fun xs Z Q h=>?_⟩)
 obtain⟨n,rfl,hn,k⟩:=h;walk_at "ab";refine⟨by omega,by omega,?_⟩
 refine jq (fun i ρ Z'=>Z'=Z/\∃v2 v3 v4,ρ=[some (.d (.int n)),some (.d (.lst ((wl i).map wdD))),v2,v3,v4]) ⟨rfl,_,_,_,rfl⟩ ?_ ?_
 ·rintro i ρ Z1 N hi ⟨rfl,v2,v3,v4,rfl⟩ kN
  have hw:=lW (n:=i) (by omega)
  walk_at "ab";refine wf (fun j ρ Z2=>Z2=Z1/\∃v4,ρ=[some (.d (.int n)),some (.d (.lst ((wl i).map wdD))),some (.d (.int (0+i))),some (.d (.lst (((((wl i).take j).flatMap fun w=>[w++[0],w++[1]]).map wdD)))),v4]) ⟨rfl,_,rfl⟩ ?_ ?_
  ·rintro j d ρ Z2 M hd ⟨rfl,v4,rfl⟩ kM
   obtain⟨x,hx,rfl⟩:=wU hd;have hx1:=(cc (List.mem_of_getElem? hx)).1;have hj:=(List.getElem?_eq_some_iff.mp hx).1
   have hl2:((((wl i).take j).flatMap fun w=>[w++[0],w++[1]]).length)=2*j:=by
    have h:∀ws:List (List Int),(ws.flatMap fun w=>[w++[0],w++[1]]).length=2*ws.length:=fun ws=>by
     induction ws with
     |nil=>rfl
     |cons a r ih=>rw[List.flatMap_cons,List.length_append,ih];simp;omega
    rw[h,List.length_take];omega
   walk_at "ab"
   have et:(((wl i).take (j+1)).flatMap fun w=>[w++[0],w++[1]])=((wl i).take j).flatMap (fun w=>[w++[0],w++[1]])++[x++[0],x++[1]]:=by
    rw[List.take_succ,hx,List.flatMap_append];simp
   exact⟨uV (m:=0) (by omega),uV (m:=0) (by omega),uV (m:=0) (by rw[hl2];omega),kM _ _ ⟨rfl,some (.d (wdD x)),by rw[et];simp⟩⟩
  ·rintro ρ Z2 ⟨rfl,v4,rfl⟩
   rw[List.length_map,List.take_length];walk_at "ab";exact kN _ _ ⟨rfl,_,_,_,rfl⟩
 ·rintro ρ Z1 ⟨rfl,v2,v3,v4,rfl⟩
  walk_at "ab";rw[aN];exact k
theorem bD{n:Nat}(h:n<=10000):n<=sizeLine:=Nat.le_trans h (by decide)
theorem Gd{l:List Nat}{i c:Nat}(h:l[i]?=some c):Txt.slice (tx l) (some (i:Int)) (some ((i:Int)+1))=tx [c]:=by
 obtain⟨hi,e⟩:=List.getElem?_eq_some_iff.mp h;have e2:((i:Int)+1)=((i+1:Nat):Int):=by omega
 rw[e2];unfold Txt.slice;have h1:=StrLaws.sliced_plain (tx l) (a:=i) (b:=i+1) (by omega) (by rw[aA];omega)
 have h2:=StrLaws.strSliceIndices_plain (a:=i) (b:=i+1) (len:=(tx l).length) (by omega) (by rw[aA];omega)
 rw[h1,h2];have ed:l.drop i=c::l.drop (i+1):=by rw[List.drop_eq_getElem_cons hi,e]
 rw[show i+1-i=1 by omega,List.length_map,List.length_range,aA]
 split
 ·rename_i h
  have hl:l.length=1:=by simp at h;omega
  have i0:i=0:=by omega
  subst i0;rw[List.drop_zero] at ed;rw[ed,List.length_cons] at hl;rw[ed,List.length_eq_zero_iff.mp (show (l.drop (0+1)).length=0 by omega)]
 ·simp[tx,ed]
noncomputable def Ey:ASp:=fun xs Z Q=>∃l:List Nat,xs=[.d (.str (tx l))]/\Q (.d .non) Z
theorem qX(T:Txt K mg t):aD P w K mg base CX0 1 t.b7 t.fU ["thing"] (bz Ey):=by
 refine T.oG.okD mq (fun xs Z Q h=>by obtain⟨l,rfl,_⟩:=h;rfl) (fun cdv A outer s H E hr=>⟨_,_,(am (bn (cU (be K rfl (aK iR (by rfl) T.dh (by kernel_rfl) (aa (pv 0) (aa (im (v:=.ty "str") (by rfl) T.r8 (by kernel_rfl) (by rfl)) af))) (fun _=>rfl))) (am bQ) aX)),(ca (eF (dC (bx tM (ac ae (ac f6 ag))))) ck bc),fun xs Z Q h=>?_⟩)
 obtain⟨l,rfl,k⟩:=h;walk_at "a1";refine⟨by decide,?_⟩
 rw[if_neg (by simp[isD,tyD]),aN]
 exact k
noncomputable def Cu:ASp:=fun xs Z Q=>∃l:List Nat,xs=[.d (.str (tx l)),.d (.int l.length)]/\l.length<=10000/\Q (.d .non) Z
theorem xB(T:Txt K mg t):aD P w K mg base CX0 1 t.dL t.jX ["text","at"] (bz Cu):=by
 refine T.uY.okD rS (fun xs Z Q h=>by obtain⟨l,rfl,_⟩:=h;rfl) (fun cdv A outer s H E hr=>⟨_,_,(am (bn (aL wQ (pv 1) (aK (bH K rfl) (by rfl) T.fy (by kernel_rfl) (aa (pv 0) af)) (a7 _)) (am bQ) aX)),(ca (aY (ax iH ae (bx An (ac ae ag)))) ck bc),fun xs Z Q h=>?_⟩)
 obtain⟨l,rfl,hl,k⟩:=h;walk_at "a1";refine⟨by rw[aA];exact bD hl,?_⟩
 rw[aA,if_neg (by omega),aN]
 exact k
noncomputable def CH:ASp:=fun xs Z Q=>∃(l:List Nat)(i c:Nat),xs=[.d (.str (tx l)),.d (.int i)]/\l[i]?=some c/\l.length<=10000/\Q (.d (.str (tx [c]))) Z
theorem jr(T:Txt K mg t):aD P w K mg base CX0 1 t.e8 t.lG ["text","at"] (bz CH):=by
 refine T.x5.okD ur (fun xs Z Q h=>by obtain⟨l,i,c,rfl,_⟩:=h;rfl) (fun cdv A outer s H E hr=>⟨_,_,(am (aR (iX Fq (pv 0) (jw (pv 1)) (jw (aE (aB bv (aB bb bu)) (pv 1) aj))))),(bd (HG ae (k5 ae) (k5 (ax b8 ae aq)))),fun xs Z Q h=>?_⟩)
 obtain⟨l,i,c,rfl,hc,hl,k⟩:=h;walk_at "a1";refine⟨by rw[aA];exact bD hl,?_⟩
 rw[Gd hc,aN];exact k
noncomputable def CM:ASp:=fun xs Z Q=>∃(l:List Nat)(i c:Nat),xs=[.d (.str (tx l)),.d (.int i),.d (.str (tx [c]))]/\l[i]?=some c/\l.length<=10000/\Q (.d (.int (i+1))) Z
theorem vS(T:Txt K mg t):aD P w K mg base CX0 2 t.kh t.uX ["text","at","sign"] (bz CM):=by
 have G_sign_at:aD P w K mg base _ _ _ _ _ _:=jr T
 refine T.Fn.okD BU (fun xs Z Q h=>by obtain ⟨l,i,c,rfl,_⟩:=h;rfl) (fun cdv A outer s H E hr=>⟨_,_,(ah (bn (aL (uH hr.IC) (ak G_sign_at (hr.mono (by omega)) (by rfl) T.eS T.eO T.eQ .nil ay (aa (pv 0) (aa (pv 1) af))) (pv 2) (a7 _)) (am bQ) aX)
   (am (aR (aE (aB bv (aB bb bu)) (pv 1) aj)))),(av (ca (aY (ax bU (ar (ac ae (ac ae ag))) ae)) ck bc)
   (bd (ax b8 ae aq))),fun xs Z Q h=>?_⟩)
 obtain⟨l,i,c,rfl,hc,hl,k⟩:=h;walk_at "s1";refine⟨l,i,c,rfl,hc,hl,_,rfl,by simp[dep],?_⟩
 rw[if_neg (by rw[sF];decide),aN]
 exact k
theorem ED:∀n:Fin 6,∀i:Fin 5,i.val<n.val->tx [48+i.val]∈cL [Str.ofString "0",Str.ofString "1",Str.ofString "2",Str.ofString "3",Str.ofString "4"] none (some (n.val:Int)):=by decide +kernel
theorem qZ:∀i:Fin 10,PySem.intText? (tx [48+i.val])=some (i.val:Int):=by decide +kernel
noncomputable def FS:ASp:=fun xs Z Q=>∃(n:Nat)(l:List Nat)(i p:Nat),xs=[.d (.int n),.d (.str (tx l)),.d (.int i)]/\n<=5/\p<n/\l[i]?=some (48+p)/\l.length<=10000/\Q (.d (.int p)) Z
theorem A1(T:Txt K mg t):aD P w K mg base CX0 2 t.dF t.kb ["places","text","at"] (bz FS):=by
 have G_sign_at:aD P w K mg base _ _ _ _ _ _:=jr T
 refine T.uN.okD l6 (fun xs Z Q h=>by obtain ⟨n,l,i,p,rfl,_⟩:=h;rfl) (fun cdv A outer s H E hr=>⟨_,_,(ah (az (i:=3) l6.nd rfl (Or.inl rfl) (ak G_sign_at (hr.mono (by omega)) (by rfl) T.eS T.eO T.eQ .nil ay (aa (pv 1) (aa (pv 2) af))))
   (ah (bn (aL (pC K rfl hr.IC) (pv 3) (iX (Au K rfl) (c8 (v:=.ref t.cr) rfl T.o5 rfl) mQ (jw (pv 0))) (by with_unfolding_all rfl)) (am bQ) aX)
   (am (aR (a8 lh (by rfl) T.jO (by kernel_rfl) (aa (pv 3) af)))))),(av (aF (ar (ac ae (ac ae ag))) ap)
   (av (ca (aY (ax zB ae (Hi f6 p8 (k5 ae)))) ck bc)
   (bd (bx vw (ac ae ag))))),fun xs Z Q h=>?_⟩)
 obtain⟨n,l,i,p,rfl,hn,hp,hc,hl,k⟩:=h;walk_at "s1";refine⟨l,i,_,rfl,hc,hl,?_⟩;walk_at "s1";refine⟨_,.inl ⟨_,rfl,T.o0⟩,fun a=>⟨_,.inr ⟨a,rfl⟩,?_⟩⟩;have hi:=ED ⟨n,by omega⟩ ⟨p,by omega⟩ hp
 rw[if_neg (by rw[decide_eq_true hi];simp)]
 refine⟨_,qZ ⟨p,by omega⟩,by rw[aA];simp,?_⟩
 rw[aN];exact k
noncomputable def stx:Sy->List Nat
 |.is i b=>(if b=1 then [] else [33])++[48+i.toNat]
 |.jn a l r=>[40]++stx l++[if a then 38 else 124]++stx r++[41]
inductive Pd where
 |sy (x:Sy)
 |jo (a:Bool)
 |cl
noncomputable def Pd.tx:Pd->List Nat
 |.sy x=>stx x
 |.jo a=>[if a then 38 else 124]
 |.cl=>[41]
noncomputable def Pd.wd:Pd->Str
 |.sy _=>"saying"
 |.jo _=>"join"
 |.cl=>")"
noncomputable def plT(p:List Pd):List Nat:=p.flatMap Pd.tx
noncomputable def plW(p:List Pd):List AV:=((p.map Pd.wd).reverse.map D.str).map AV.d
noncomputable def Pd.ok(n:Nat):Pd->Prop
 |.sy x=>x.ok n
 |_=>True
noncomputable def lI:List Pd->List Bool->List Sy->Option (List Sy)
 | [],_,d=>some d
 |.sy x::p,j,d=>lI p j (x::d)
 |.jo a::p,j,d=>lI p (a::j) d
 |.cl::p,a::j,r::l::d=>lI p j (.jn a l r::d)
 |.cl::_,_,_=>none
noncomputable def jnD(a:Bool):D:=.str (if a then "and" else "or")
noncomputable def jsA(j:List Bool):List AV:=(j.reverse.map jnD).map AV.d
noncomputable def dnA(d:List Sy):List AV:=(d.reverse.map Sy.d).map AV.d
theorem dr1{l:List Nat}{i c:Nat}{r:List Nat}(h:l.drop i=c::r):l[i]?=some c/\l.drop (i+1)=r/\i+1<=l.length:=by
 have hi:i<l.length:=by
  by_cases hi:i<l.length
  ·exact hi
  ·rw[List.drop_eq_nil_of_le (by omega)] at h;cases h
 rw[List.drop_eq_getElem_cons hi] at h;injection h with h1 h2;exact⟨by rw[List.getElem?_eq_getElem hi,h1],h2,hi⟩
theorem FF:∀i:Fin 5,tx [48+i.val]≠Str.ofString "("/\tx [48+i.val]≠Str.ofString "!":=by decide +kernel
theorem iL(e:Pd)(p:List Pd):plW (e::p)=plW p++[.d (.str e.wd)]:=by simp[plW]
theorem t4(a:Bool)(j:List Bool):jsA (a::j)=jsA j++[.d (jnD a)]:=by simp[jsA]
theorem iT(x:Sy)(d:List Sy):dnA (x::d)=dnA d++[.d x.d]:=by simp[dnA]
theorem Ag(e:Pd)(p:List Pd):plT (e::p)=e.tx++plT p:=by simp[plT]
theorem pS{i j:Nat}{R:AS}{D:dn}{ρ:SA}{Z:Om}{l:Addr}{xs:List AV}{y:AV}(h1:ρ[i]?=some (some (.r (.ref l))))(h2:Z l=some (.own (xs++[y])))(q:R D (ρ.set j (some y)) (Z.put l (.own xs))):xZ (EI (B3 (EU i)) (ll j)) R D ρ Z:=
 ⟨_,h1,l,xs++[y],y,rfl,h2,by simp,by rw[List.dropLast_concat];exact q⟩
noncomputable def qH:ASp:=fun xs Z Q=>∃(n:Nat)(x:Sy),xs=[.d (.int n),.d (.str (tx (stx x)))]/\n<=5/\x.ok n/\(stx x).length<=10000/\Q (.d x.d) Z
theorem Cy(T:Txt K mg t):aD P t.wo K mg base CX0 3 t.bW t.fg ["places","text"] (bz qH):=by
 have G_must_be_text:aD P t.wo K mg base _ _ _ _ _ _:=qX T;have G_must_end:aD P t.wo K mg base _ _ _ _ _ _:=xB T;have G_sign_at:aD P t.wo K mg base _ _ _ _ _ _:=jr T;have G_place_at:aD P t.wo K mg base _ _ _ _ _ _:=A1 T
 refine T.oX.okD bi (fun xs Z Q h=>by obtain ⟨n,x,rfl,_⟩:=h;rfl) (fun cdv A outer s H E hr=>⟨_,_,(ah (cj (ak G_must_be_text (hr.mono (by omega)) (by rfl) T.d6 T.eu T.d9 .nil ay (aa (pv 1) af)))
   (ah (az (i:=2) bi.nd rfl (Or.inl rfl) aj)
   (ah (az (i:=3) bi.nd rfl (Or.inl rfl) (br (ao aH af)))
   (ah (az (i:=4) bi.nd rfl (Or.inl rfl) (br af))
   (ah (az (i:=5) bi.nd rfl (Or.inl rfl) (br af))
   (ah (nU PassesOwn.never (be K rfl (pv 3) (fun _=>rfl)) (ah (az (i:=6) bi.nd rfl (Or.inl rfl) (ic PySem.F.plainAttrs_list PySem.F.slot_list_pop PySem.F.type_list_pop iW (pv 3)))
   (ah (az (i:=7) bi.nd rfl (Or.inl rfl) (ak G_sign_at (hr.mono (by omega)) (by rfl) T.eS T.eO T.eQ .nil ay (aa (pv 1) (aa (pv 2) af))))
   (ah (bn (PW.pt (jY (aL (bA hr.IC) (pv 6) aH (a7 _)) (iq (aL (bA hr.IC) (pv 7) aH (a7 _))))) (am (cj (fx PySem.F.plainAttrs_list PySem.F.slot_list_extend PySem.F.type_list_extend (vB K rfl) (pv 3) (aa (c8 (v:=.ref t.bJ) rfl T.k7 rfl) af)))) (am (bn (PW.pt (jY (aL (bA hr.IC) (pv 6) aH (a7 _)) (iq (aL (bA hr.IC) (pv 7) aH (a7 _))))) (ah (m9 (i:=2) bi.nd rfl (Or.inl rfl) aj kB)
   (am (cj (fx PySem.F.plainAttrs_list PySem.F.slot_list_append PySem.F.type_list_append cP (pv 5) (bP (a9 (ao aH (aa (ak G_place_at (hr.mono (by omega)) (by rfl) T.jV T.ka T.jU .nil ay (aa (pv 0) (aa (pv 1) (aa (pv 2) af)))) (ao aj af)))) af))))) (am (bn (aL (bA hr.IC) (pv 6) aH (a7 _)) (am (cj (fx PySem.F.plainAttrs_list PySem.F.slot_list_append PySem.F.type_list_append cP (pv 5) (bP (a9 (ao aH (aa (ak G_place_at (hr.mono (by omega)) (by rfl) T.jV T.ka T.jU .nil ay (aa (pv 0) (aa (pv 1) (aa (pv 2) af)))) (ao aj af)))) af)))) (am (bn (PW.pt (jY (aL (bA hr.IC) (pv 6) aH (a7 _)) (iq (aL (Az T.xn T.kL) (pv 7) (c8 (v:=.ref t.ff) rfl T.w4 rfl) (by with_unfolding_all rfl))))) (am (cj (fx PySem.F.plainAttrs_list PySem.F.slot_list_append PySem.F.type_list_append cP (pv 4) (aa (xa T.xn (c8 (v:=.ref t.ff) rfl T.w4 rfl) (pv 7) (fun _ _=>rfl)) af)))) (am (bn (PW.pt (jY (aL (bA hr.IC) (pv 6) aH (a7 _)) (iq (aL (bA hr.IC) (pv 7) aH (a7 _))))) (ah (az (i:=8) bi.nd rfl (Or.inl rfl) (ic PySem.F.plainAttrs_list PySem.F.slot_list_pop PySem.F.type_list_pop iW (pv 5)))
   (ah (az (i:=9) bi.nd rfl (Or.inl rfl) (ic PySem.F.plainAttrs_list PySem.F.slot_list_pop PySem.F.type_list_pop iW (pv 5)))
   (am (cj (fx PySem.F.plainAttrs_list PySem.F.slot_list_append PySem.F.type_list_append cP (pv 5) (bP (a9 (aa (ic PySem.F.plainAttrs_list PySem.F.slot_list_pop PySem.F.type_list_pop iW (pv 4)) (aa (pv 9) (aa (pv 8) af)))) af)))))) (am bQ))))))))))
   (am (m9 (i:=2) bi.nd rfl (Or.inl rfl) aj kB))))))
   (ah (cj (ak G_must_end (hr.mono (by omega)) (by rfl) T.nD T.oe T.nh .nil ay (aa (pv 1) (aa (pv 2) af))))
   (am (aR (bh (aJ K rfl) (pv 5) aj (fun _ _=>rfl))))))))))),(av (c7 (ar (ac ae ag)))
   (av (aF aq ap)
   (av (aF (fS (ac aZ ag)) ap)
   (av (aF (fS ag) ap)
   (av (aF (fS ag) ap)
   (av (qE (dC ae) (av (aF (lU ae) ap)
   (av (aF (ar (ac ae (ac ae ag))) ap)
   (av (ca (nJ (aY (ax bU ae aZ)) (aY (ax bU ae aZ))) (c7 (AQ ae (ac f6 ag))) (ca (nJ (aY (ax bU ae aZ)) (aY (ax bU ae aZ))) (av (tD dS aq)
   (c7 (eA ae (ac (bw (ac aZ (ac (ar (ac ae (ac ae (ac ae ag)))) (ac aq ag)))) ag)))) (ca (aY (ax bU ae aZ)) (c7 (eA ae (ac (bw (ac aZ (ac (ar (ac ae (ac ae (ac ae ag)))) (ac aq ag)))) ag))) (ca (nJ (aY (ax bU ae aZ)) (aY (ax El ae f6))) (c7 (eA ae (ac (Av ae) ag))) (ca (nJ (aY (ax bU ae aZ)) (aY (ax bU ae aZ))) (av (aF (lU ae) ap)
   (av (aF (lU ae) ap)
   (c7 (eA ae (ac (bw (ac (lU ae) (ac ae (ac ae ag)))) ag))))) ck)))))
   (tD dS aq)))))
   (av (c7 (ar (ac ae (ac ae ag))))
   (bd (ax ce ae aq))))))))),fun xs Z Q h=>?_⟩)
 obtain⟨n,x,rfl,hn,hx,hl,k⟩:=h;walk_at "s1";refine⟨_,rfl,?_⟩;walk_at "s1";walk_at "s1";intro lw hw;walk_at "s1";intro lj hj;walk_at "s1";intro ld hd;obtain⟨nd,hd0⟩:=cM hd;obtain⟨nw,hdw⟩:=cM hd0;obtain⟨njw,hj0⟩:=cM hj;rw[show ((Z.put lw (OC.own [AV.d (D.str (Str.ofString "saying"))])).put lj (OC.own [])).put ld (OC.own [])=om3 Z lw lj ld (.own (plW [.sy x])) (.own (jsA [])) (.own (dnA [])) from rfl]
 have nwj:lw≠lj:=Ne.symm njw;have nwd:lw≠ld:=Ne.symm nw;have njd:lj≠ld:=Ne.symm nd;walk_at "s1";obtain⟨Pv,iP⟩:=ER fun m ρ Z'=>∃(p:List Pd)(j:List Bool)(d:List Sy)(i:Nat)(v6 v7 v8 v9:Option AV),Z'=om3 Z lw lj ld (.own (plW p)) (.own (jsA j)) (.own (dnA d))/\(∀e∈p,e.ok n)/\i<=(stx x).length/\(stx x).drop i=plT p/\lI p j d=some [x]/\j.length<=i/\d.length<=i/\p.length<=3*i+1/\m=(stx x).length-i/\ρ=[some (AV.d (D.int n)),some (AV.d (D.str (tx (stx x)))),some (AV.d (D.int i)),some (AV.r (V.ref lw)),some (AV.r (V.ref lj)),some (AV.r (V.ref ld)),v6,v7,v8,v9]
 refine⟨Pv,⟨_,(iP _ _ _).mpr ⟨[.sy x],[],[],0,_,_,_,_,rfl,fun e he=>by rw[List.mem_singleton] at he;rw[he];exact hx,Nat.zero_le _,by simp[plT,Pd.tx],rfl,Nat.le_refl _,Nat.le_refl _,by simp,rfl,rfl⟩⟩,fun m ρ Z1 h=>?_⟩
 obtain⟨p,j,d,i,v6,v7,v8,v9,rfl,hok,hi,hdr,hrun,hjl,hdl,hpl,rfl,rfl⟩:=(iP _ _ _).mp h;clear h
 cases p with
 |nil=>
  walk_at "a1";refine⟨false,by rw[iG nwj nwd];rfl,?_⟩
  rw[if_neg (by decide)]
  have ei:i=(stx x).length:=by
   have:=List.drop_eq_nil_iff.mp hdr;omega
  have ed:d=[x]:=by simpa[lI] using hrun
  subst ei ed;walk_at "s1";refine⟨_,rfl,hl,?_⟩;walk_at "a1";rw[fA];refine⟨_,rfl,_,rfl,_,rfl,?_⟩;rw[om3,qg ((((Ex.refl Z).new hw).new (by rw[Om.IA njw];exact hj0)).new (by rw[Om.IA nd,Om.IA nw];exact hdw))]
  exact k
 |cons e p=>
  rw[Ag] at hdr;rw[iL];walk_at "a1";refine⟨true,by rw[iG nwj nwd];simp,?_⟩
  rw[if_pos rfl];refine⟨fun ρ' Z'=>∃m',m'<(stx x).length-i/\Pv m' ρ' Z',fun _ _ h=>h,?_⟩;refine pS rfl (iG nwj nwd) ?_;rw[m8 nwj nwd]
  have go:∀(p:List Pd)(j:List Bool)(d:List Sy)(i':Nat)(z:Int)(v6 v7 v8 v9:Option AV),z=(i':Int)->i<i'->(∀e∈p,e.ok n)->i'<=(stx x).length->(stx x).drop i'=plT p->lI p j d=some [x]->j.length<=i'->d.length<=i'->p.length<=3*i'+1->∃m',m'<(stx x).length-i/\Pv m' [some (AV.d (D.int n)),some (AV.d (D.str (tx (stx x)))),some (AV.d (D.int z)),some (AV.r (V.ref lw)),some (AV.r (V.ref lj)),some (AV.r (V.ref ld)),v6,v7,v8,v9] (om3 Z lw lj ld (.own (plW p)) (.own (jsA j)) (.own (dnA d))):=fun p j d i' z v6 v7 v8 v9 hz h1 h2 h3 h4 h5 h6 h7 h8=>by
   subst hz;exact⟨_,by omega,(iP _ _ _).mpr ⟨p,j,d,i',v6,v7,v8,v9,rfl,h2,h3,h4,h5,h6,h7,h8,rfl,rfl⟩⟩
  have ldn:∀d:List Sy,(dnA d).length=d.length:=fun d=>by simp[dnA]
  have ljs:∀j:List Bool,(jsA j).length=j.length:=fun j=>by simp[jsA]
  have lpw:∀p:List Pd,(plW p).length=p.length:=fun p=>by simp[plW]
  have small:∀ {m:Nat},m<=40000->m<sizeLine:=fun h=>Nat.lt_of_le_of_lt h (by decide)
  have hpo:∀e∈p,e.ok n:=fun e he=>hok e (List.mem_cons_of_mem _ he);have heo:=hok e (List.mem_cons_self ..);simp only[List.length_cons] at hpl
  cases e with
  |cl=>
   obtain⟨hc,hdr',hi'⟩:=dr1 hdr
   obtain⟨a,j,rfl⟩:∃a j',j=a::j':=by
    cases j with
    |nil=>simp[lI] at hrun
    |cons a j=>exact⟨a,j,rfl⟩
   obtain⟨r,l,d,rfl⟩:∃r l d',d=r::l::d':=by
    rcases d with _|⟨r,_|⟨l,d⟩⟩
    ·simp[lI] at hrun
    ·simp[lI] at hrun
    ·exact⟨r,l,d,rfl⟩
   simp only[lI] at hrun;simp only[List.length_cons] at hjl hdl;walk_at "s1";refine⟨_,i,41,rfl,hc,hl,?_⟩;walk_at "s1";simp only[show ¬ Pd.cl.wd=Str.ofString "saying" from by decide +kernel,show ¬ Pd.cl.wd=Str.ofString "join" from by decide +kernel,show Pd.cl.wd=Str.ofString ")" from by decide +kernel,show tx [41]=Str.ofString ")" from by decide +kernel,if_true,if_false]
   rw[t4,iT,iT];refine pS rfl fA ?_;rw[ie];refine pS rfl fA ?_;rw[ie];walk_at "a1";refine⟨⟨_,fA⟩,_,jQ njd,.d (jnD a),by simp,[jnD a,l.d,r.d],rfl,dnA d,by rw[fQ njd];exact fA,by rw[ldn];exact small (by omega),?_⟩
   rw[List.dropLast_concat,fQ njd,ie];have:=go p j (.jn a l r::d) (i+1) ((i:Int)+1) (some (AV.d (D.str (Str.ofString ")")))) (some (AV.d (D.str (Str.ofString ")")))) (some (.d r.d)) (some (.d l.d)) (by omega) (by omega) hpo hi' hdr' hrun (by omega) (by simp only[List.length_cons];omega) (by omega)
   rw[iT] at this;exact this
  |jo a=>
   obtain⟨hc,hdr',hi'⟩:=dr1 hdr;walk_at "s1";refine⟨_,i,_,rfl,hc,hl,?_⟩;walk_at "s1";simp only[lI] at hrun;simp only[show (Pd.jo a).wd=Str.ofString "join" from rfl,show ¬ Str.ofString "join"=Str.ofString "saying" from by decide +kernel,if_true,if_false]
   have:=fun v=>go p (a::j) d (i+1) ((i:Int)+1) (some (AV.d (D.str (Str.ofString "join")))) v v8 v9 (by omega) (by omega) hpo hi' hdr' hrun (by simp only[List.length_cons];omega) (by omega) (by omega)
   rw[t4] at this;cases a
   ·rw[if_pos (by decide +kernel)]
    exact⟨⟨_,jQ njd⟩,.str (Str.ofString "or"),by kernel_rfl,.str (Str.ofString "or"),rfl,_,jQ njd,by rw[ljs];exact small (by omega),by rw[fQ njd];exact this _⟩
   ·rw[if_pos (by decide +kernel)]
    exact⟨⟨_,jQ njd⟩,.str (Str.ofString "and"),by kernel_rfl,.str (Str.ofString "and"),rfl,_,jQ njd,by rw[ljs];exact small (by omega),by rw[fQ njd];exact this _⟩
  |sy y=>
   simp only[Pd.ok] at heo
   cases y with
   |is q b=>
    obtain⟨q0,q1,hb⟩:=heo;obtain⟨q,rfl⟩:=Int.eq_ofNat_of_zero_le q0;have hqn:q<n:=by omega
    obtain⟨g1,g2⟩:=FF ⟨q,by omega⟩
    simp only at g1 g2;simp only[lI] at hrun;by_cases hb1:b=1
    ·subst hb1
     obtain⟨hc,hdr',hi'⟩:=dr1 (show (stx x).drop i=(48+q)::plT p by rw[hdr];simp[Pd.tx,stx])
     walk_at "s1";refine⟨_,i,_,rfl,hc,hl,?_⟩;walk_at "s1";simp only[show (Pd.sy (Sy.is (q:Int) 1)).wd=Str.ofString "saying" from rfl,g1,g2,if_true,if_false]
     refine⟨⟨_,fA⟩,n,_,i,q,rfl,hn,hqn,hc,hl,_,rfl,_,fA,by rw[ldn];exact small (by omega),?_⟩
     rw[ie];have:=fun v6 v7=>go p j (.is q 1::d) (i+1) ((i:Int)+1) v6 v7 v8 v9 (by omega) (by omega) hpo hi' hdr' hrun (by omega) (by simp only[List.length_cons];omega) (by omega)
     rw[iT] at this;exact this _ _
    ·have hb0:b=0:=by omega
     subst hb0;obtain⟨hc,hdr',hi'⟩:=dr1 (show (stx x).drop i=33::((48+q)::plT p) by rw[hdr];simp[Pd.tx,stx])
     obtain⟨hc2,hdr2,hi2⟩:=dr1 hdr';walk_at "s1";refine⟨_,i,_,rfl,hc,hl,?_⟩;walk_at "s1";simp only[show (Pd.sy (Sy.is (q:Int) 0)).wd=Str.ofString "saying" from rfl,show tx [33]=Str.ofString "!" from by decide +kernel,show ¬ Str.ofString "!"=Str.ofString "(" from by decide +kernel,if_true,if_false]
     walk_at "s1";rw[show ((i:Int)+1)=((i+1:Nat):Int) from by omega]
     refine⟨⟨_,fA⟩,n,_,i+1,q,rfl,hn,hqn,hc2,hl,_,rfl,_,fA,by rw[ldn];exact small (by omega),?_⟩
     rw[ie];have:=fun v6 v7=>go p j (.is q 0::d) (i+2) (((i+1:Nat):Int)+1) v6 v7 v8 v9 (by omega) (by omega) hpo hi2 hdr2 hrun (by omega) (by simp only[List.length_cons];omega) (by omega)
     rw[iT] at this;exact this _ _
   |jn a l r=>
    obtain⟨hc,hdr',hi'⟩:=dr1 (show (stx x).drop i=40::plT (.sy l::.jo a::.sy r::.cl::p) by rw[hdr];simp[Pd.tx,stx,plT])
    walk_at "s1";refine⟨_,i,_,rfl,hc,hl,?_⟩;walk_at "s1";simp only[show (Pd.sy (Sy.jn a l r)).wd=Str.ofString "saying" from rfl,show tx [40]=Str.ofString "(" from by decide +kernel,if_true]
    refine⟨⟨_,iG nwj nwd⟩,_,_,T.k8,iG nwj nwd,by rw[lpw];exact Nat.le_of_lt (small (by simp only[List.length_cons,List.length_nil];omega)),?_⟩
    rw[m8 nwj nwd]
    have:=fun v6 v7=>go (.sy l :: .jo a :: .sy r :: .cl :: p) j d (i + 1) ((i : Int) + 1) v6 v7 v8 v9 (by omega) (by omega) (fun e he=>by
     simp only[List.mem_cons] at he;rcases he with rfl|rfl|rfl|rfl|he
     ·exact heo.1
     ·trivial
     ·exact heo.2
     ·trivial
     ·exact hpo e he) hi' hdr' (by simpa[lI] using hrun) (by omega) (by omega) (by simp only[List.length_cons];omega)
    rw[iL,iL,iL,iL] at this;simpa[Pd.wd] using this _ _
noncomputable def btx(v:List Int):List Nat:=v.map fun b=>48+b.toNat
noncomputable def ltB:List Int->List Int->Bool
 |x::xs,y::ys=>if x=y then ltB xs ys else decide (x<y)
 |_,_=>false
theorem Dg:∀(v u:List Int)(k:Nat),(∀b∈v,b=0\/b=1)->(∀b∈u,b=0\/b=1)->v.length=u.length->ltB u v=true->eD (v.take k++List.replicate (v.length-k) 1) u=false
 | [],[],k,_,_,_,h=>by simp[ltB] at h
 | [],y::u,k,_,_,hl,_=>by simp at hl
 |x::v,[],k,_,_,hl,_=>by simp at hl
 |x::v,y::u,k,hv,hu,hl,h=>by
  have hx:=hv x (List.mem_cons_self ..);have hy:=hu y (List.mem_cons_self ..);have ih:=fun k=>Dg v u k (fun b hb=>hv b (List.mem_cons_of_mem _ hb)) (fun b hb=>hu b (List.mem_cons_of_mem _ hb)) (by simpa using hl)
  simp only[ltB] at h
  cases k with
  |zero=>
   have:=ih 0;simp only[List.take_zero,List.nil_append,Nat.sub_zero] at this ⊢;rw[List.length_cons,List.replicate_succ,eD];by_cases e:(1:Int)=y
   ·rw[if_pos e]
    by_cases e2:y=x
    ·rw[if_pos e2] at h;exact this h
    ·rw[if_neg e2,decide_eq_true_eq] at h;omega
   ·rw[if_neg e]
    exact decide_eq_false (by omega)
  |succ k=>
   rw[List.take_succ_cons,List.cons_append,List.length_cons,Nat.add_sub_add_right,eD];by_cases e:x=y
   ·rw[if_pos e]
    rw[if_pos e.symm] at h;exact ih k h
   ·rw[if_neg e]
    rw[if_neg (fun z=>e z.symm),decide_eq_true_eq] at h;exact decide_eq_false (by omega)
theorem A8:∀b:Fin 2,tx [48+b.val]∈[Str.ofString "0",Str.ofString "1"]:=by decide +kernel
noncomputable def GQ:ASp:=fun xs Z Q=>∃(n i:Nat)(l r:List Nat)(u v:List Int),xs=[.d (.int n),.d (.str (tx l)),.d (.int i),.d (wdD u)]/\1<=n/\n<=5/\v∈wl n/\l.drop i=btx v++r/\l.length<=10000/\(u=[]\/(u∈wl n/\ltB u v=true))/\Q (.d (wdD v)) Z
theorem Hl(T:Txt K mg t):aD P w K mg base CX0 2 t.cZ t.i8 ["places","text","at","last"] (bz GQ):=by
 have G_sign_at:aD P w K mg base _ _ _ _ _ _:=jr T
 refine T.tR.okD df (fun xs Z Q h=>by obtain⟨n,i,l,r,u,v,rfl,_⟩:=h;rfl) (fun cdv A outer s H E hr=>⟨_,_,(ah (az (i:=4) df.nd rfl (Or.inl rfl) (a9 af))
   (ah (gv PassesOwn.never rfl (x9 rfl T.gh (aa (pv 2) (aa (aE (aB bv (aB bb bu)) (pv 2) (pv 0)) af))) (aW (i:=5) df.nd rfl (Or.inl rfl)) (ah (az (i:=6) df.nd rfl (Or.inl rfl) (ak G_sign_at (hr.mono (by omega)) (by rfl) T.eS T.eO T.eQ .nil ay (aa (pv 1) (aa (pv 5) af))))
   (ah (bn (aL (pC K rfl hr.IC) (pv 6) (c8 (v:=.ref t.cD) rfl T.mf rfl) (by with_unfolding_all rfl)) (am bQ) aX)
   (ah (az (i:=4) df.nd rfl (Or.inl rfl) (aE (aB bv (aB bb bu)) (pv 4) (a9 (aa (a8 lh (by rfl) T.jO (by kernel_rfl) (aa (pv 6) af)) af))))
   (ah (az (i:=7) df.nd rfl (Or.inl rfl) (aE (aB bv (aB bb bu)) (pv 4) (aE Ck (a9 (ao aj af)) (aE dH (pv 0) (aK (bH K rfl) (by rfl) T.fy (by kernel_rfl) (aa (pv 4) af))))))
   (am (bn (aL (EA hr.IC) (pv 7) (pv 3) (a7 _)) (am bQ) aX)))))))
   (am (aR (pv 4))))),(av (aF (bw ag) ap)
   (av (jT (Es (ac ae (ac (ax b8 ae ae) ag))) ap (av (aF (ar (ac ae (ac ae ag))) ap)
   (av (ca (aY (ax zB ae f6)) ck bc)
   (av (aF (ax b8 ae (bw (ac (bx vw (ac ae ag)) ag))) ap)
   (av (aF (ax b8 ae (ax Eo (bw (ac aq ag)) (ax dS ae (bx gk (ac ae ag))))) ap)
   (ca (aY (ax Hy ae ae)) ck bc))))))
   (bd ae))),fun xs Z Q h=>?_⟩)
 obtain⟨n,i,l,r,u,v,rfl,hn1,hn,hv,hd,hl,hu,k⟩:=h;obtain⟨hvl,hvb⟩:=cc hv
 have hil:i+n<=l.length:=by
  have:=congrArg List.length hd;simp[btx,hvl] at this;omega
 have le:∀m:Nat,eD (v.take m++List.replicate (n-m) 1) u=false:=fun m=>by
  rcases hu with rfl|⟨hu,hlt⟩
  ·cases v with
   |nil=>simp at hvl;omega
   |cons x v=>
    cases m with
    |zero=>rw[show n-0=(n-1)+1 by omega];rfl
    |succ m=>rfl
  ·obtain⟨hul,hub⟩:=cc hu
   have:=Dg v u m hvb hub (by omega) hlt
   rwa [hvl] at this
 walk_at "s1";walk_at "s1";refine⟨by omega,by omega,by omega,by omega,?_⟩
 rw[show ((i:Int)+n-i).toNat=n by omega]
 refine jq (fun m ρ Z'=>Z'=Z/\∃v5 v6 v7:Option AV,ρ=[some (AV.d (D.int n)),some (AV.d (D.str (tx l))),some (AV.d (D.int i)),some (AV.d (wdD u)),some (AV.d (wdD (v.take m))),v5,v6,v7]) ⟨rfl,_,_,_,rfl⟩ ?_ ?_
 ·rintro m ρ Z1 N hm ⟨rfl,v5,v6,v7,rfl⟩ kN
  have hmv:m<v.length:=by omega
  have hb:=hvb _ (List.getElem_mem hmv);obtain⟨b,eb⟩:∃b:Nat,v[m]=(b:Int):=⟨v[m].toNat,by omega⟩
  have hb2:b<2:=by omega
  have hc:l[i+m]?=some (48+b):=by
   have:=congrArg (·[m]?) hd
   simp only[List.getElem?_drop] at this;rw[this,List.getElem?_append_left (by simp[btx];omega),btx,List.getElem?_map,List.getElem?_eq_getElem hmv,eb]
   simp
  have et:v.take (m+1)=v.take m++[(b:Int)]:=by rw[List.take_succ,List.getElem?_eq_getElem hmv,eb];rfl
  walk_at "s1";rw[show ((i:Int)+(m:Int))=((i+m:Nat):Int) by omega]
  refine⟨l,i+m,_,rfl,hc,hl,?_⟩;walk_at "s1";refine⟨_,.inl ⟨_,rfl,T.lX⟩,?_⟩;rw[if_neg (by rw[decide_eq_true (A8 ⟨b,hb2⟩)];simp)]
  walk_at "s1";refine⟨_,qZ ⟨b,by omega⟩,by rw[aA];simp,Nat.le_of_lt (aS (by rw[List.length_take];omega)),?_⟩
  show xZ _ _ _ [_,_,_,_,some (.d (wdD (v.take m++[(b:Int)]))),_,_,_] _;rw[←et]
  have hlt:(v.take (m+1)).length=m+1:=by rw[List.length_take];omega
  walk_at "s1";rw[hlt,show ((n:Int)-((m+1:Nat):Int)).toNat=n-(m+1) by omega,List.flatten_replicate_singleton,show List.replicate (n-(m+1)) (D.int 1)=(List.replicate (n-(m+1)) (1:Int)).map D.int from by rw[List.map_replicate]]
  refine⟨fun h=>h,by omega,by omega,by omega,?_⟩
  show u7 (.d (wdD _)) (.d (wdD (List.replicate (n-(m+1)) 1))) _ _;walk_at "a1";refine⟨Nat.le_of_lt (aS (by simp;omega)),_,rfl,_,rfl,?_⟩
  rw[if_neg (by rw[le (m+1)];decide)]
  exact kN _ _ ⟨rfl,_,_,_,rfl⟩
 ·rintro ρ Z1 ⟨rfl,v5,v6,v7,rfl⟩
  dsimp only;rw[List.take_of_length_le (by omega)]
  walk_at "a1";rw[aN];exact k
noncomputable def wtx(ws:List (List Int)):List Nat:=if ws=[] then [45] else jn [44] (ws.map btx)
noncomputable def tlT:List (List Int)->List Nat->List Nat
 | [],r=>93::r
 |v::vs,r=>44::(btx v++tlT vs r)
theorem Di:∀(v:List Int) (vs:List (List Int)) (r:List Nat),jn [44] ((v::vs).map btx)++93::r=btx v++tlT vs r
 |v,[],r=>rfl
 |v,u::vs,r=>by
  have:=Di u vs r;simp only[List.map_cons] at this ⊢;rw[jn,List.append_assoc,List.append_assoc,this];rfl
theorem CF{α:Type}{xs:List α}{a:α}:atI (xs++[a]) (-1)=some a:=by
 unfold atI ixN;rw[if_neg (by decide),if_pos (by simp;omega)]
 show (xs++[a])[((-1:Int)+((xs++[a]).length:Nat)).toNat]?=some a;have:((-1:Int)+((xs++[a]).length:Nat)).toNat=xs.length:=by simp;omega
 rw[this];simp
theorem CS:∀b:Fin 2,eqD (.str (tx [48+b.val])) (.str (Str.ofString "-"))=false:=by decide +kernel
theorem Hu:∀n:Fin 6,(wl n.val).Pairwise fun a b=>ltB a b=true/\(0:Int)∈a:=by decide +kernel
noncomputable def Hc:ASp:=fun xs Z Q=>∃(n i:Nat)(l r:List Nat) (ws:List (List Int)),xs=[.d (.int n),.d (.str (tx l)),.d (.int i)]/\1<=n/\n<=5/\ws.Sublist (wl n)/\l.drop i=91::(wtx ws++93::r)/\l.length<=10000/\Q (.d (.tup [.tup (ws.map wdD),.int (i+(wtx ws).length+2:Nat)])) Z
theorem HD(T:Txt K mg t):aD P w K mg base CX0 3 t.cX t.iY ["places","text","at"] (bz Hc):=by
 have G_sign_at:aD P w K mg base _ _ _ _ _ _:=jr T;have G_past:aD P w K mg base _ _ _ _ _ _:=vS T;have G_word_from:aD P w K mg base _ _ _ _ _ _:=Hl T
 refine T.tX.okD d7 (fun xs Z Q h=>by obtain ⟨n,i,l,r,ws,rfl,_⟩:=h;rfl) (fun cdv A outer s H E hr=>⟨_,_,(ah (az (i:=2) d7.nd rfl (Or.inl rfl) (ak G_past (hr.mono (by omega)) (by rfl) T.rj T.qu T.rh .nil ay (aa (pv 1) (aa (pv 2) (ao aH af)))))
   (ah (bn (aL (bA hr.IC) (ak G_sign_at (hr.mono (by omega)) (by rfl) T.eS T.eO T.eQ .nil ay (aa (pv 1) (aa (pv 2) af))) aH (a7 _)) (am (aR (a9 (bP (a9 af) (aa (ak G_past (hr.mono (by omega)) (by rfl) T.rj T.qu T.rh .nil ay (aa (pv 1) (aa (aE (aB bv (aB bb bu)) (pv 2) aj) (ao aH af)))) af))))) aX)
   (ah (az (i:=3) d7.nd rfl (Or.inl rfl) (br (aa (ak G_word_from (hr.mono (by omega)) (by rfl) T.ml T.lL T.mj .nil ay (aa (pv 0) (aa (pv 1) (aa (pv 2) (bP (a9 af) af))))) af)))
   (ah (m9 (i:=2) d7.nd rfl (Or.inl rfl) (pv 0) kB)
   (ah (nU PassesOwn.never (PW.pt (jY (aL (bA hr.IC) (ak G_sign_at (hr.mono (by omega)) (by rfl) T.eS T.eO T.eQ .nil ay (aa (pv 1) (aa (pv 2) af))) aH (a7 _)) (iq (aL (u9 hr.IC) aj (bh (aJ K rfl) (pv 3) (Dy zx aj) (fun _ _=>rfl)) (by with_unfolding_all rfl))))) (ah (cj (fx PySem.F.plainAttrs_list PySem.F.slot_list_append PySem.F.type_list_append cP (pv 3) (aa (ak G_word_from (hr.mono (by omega)) (by rfl) T.ml T.lL T.mj .nil ay (aa (pv 0) (aa (pv 1) (aa (aE (aB bv (aB bb bu)) (pv 2) aj) (aa (bh (aJ K rfl) (pv 3) (Dy zx aj) (fun _ _=>rfl)) af))))) af)))
   (am (m9 (i:=2) d7.nd rfl (Or.inl rfl) (aE (aB bv (aB bb bu)) aj (pv 0)) kB))))
   (am (aR (a9 (aa (a8 (bj K rfl) (by rfl) T.cV (by kernel_rfl) (aa (pv 3) af)) (aa (ak G_past (hr.mono (by omega)) (by rfl) T.rj T.qu T.rh .nil ay (aa (pv 1) (aa (pv 2) (ao aH af)))) af)))))))))),(av (aF (ar (ac ae (ac ae (ac aZ ag)))) ap)
   (av (ca (aY (ax bU (ar (ac ae (ac ae ag))) aZ)) (bd (bw (ac (bw ag) (ac (ar (ac ae (ac (ax b8 ae aq) (ac aZ ag)))) ag)))) bc)
   (av (aF (fS (ac (ar (ac ae (ac ae (ac ae (ac (bw ag) ag))))) ag)) ap)
   (av (tD dS ae)
   (av (qE (nJ (aY (ax bU (ar (ac ae (ac ae ag))) aZ)) (aY (ax Ae aq (ax ce ae (GB u_i aq))))) (av (c7 (eA ae (ac (ar (ac ae (ac ae (ac (ax b8 ae aq) (ac (ax ce ae (GB u_i aq)) ag))))) ag)))
   (tD dS (ax b8 aq ae))))
   (bd (bw (ac (bx eg (ac ae ag)) (ac (ar (ac ae (ac ae (ac aZ ag)))) ag))))))))),fun xs Z Q h=>?_⟩)
 obtain⟨n,i,l,r,ws,rfl,hn1,hn,hws,hd,hl,k⟩:=h;obtain⟨hc,hd1,hi1⟩:=dr1 hd;have pr:=(Hu ⟨n,by omega⟩).sublist hws
 have hwl:=hws.length_le;have h32:=lW hn;have e91:Str.ofString "["=tx [91]:=by decide +kernel
 have e93:Str.ofString "]"=tx [93]:=by decide +kernel
 have hlen:=congrArg List.length hd;rw[List.length_drop,List.length_cons,List.length_append,List.length_cons] at hlen;walk_at "s1";refine⟨l,i,91,by rw[e91],hc,hl,?_⟩
 rw[show ((i:Int)+1)=((i+1:Nat):Int) from by omega]
 cases ws with
 |nil=>
  simp only[wtx,if_true] at hd1 k;obtain⟨hc2,hd2,hi2⟩:=dr1 hd1;obtain⟨hc3,_,_⟩:=dr1 hd2;walk_at "s1";refine⟨l,i+1,45,rfl,hc2,hl,_,rfl,by simp[dep],?_⟩
  rw[if_pos (by decide +kernel),show (((i+1:Nat):Int)+1)=((i+2:Nat):Int) from by omega]
  refine⟨l,i+2,93,by rw[e93],hc3,hl,_,rfl,?_⟩
  rw[aN,show (((i+2:Nat):Int)+1)=((i+[45].length+2:Nat):Int) from by simp;omega]
  exact k
 |cons v vs=>
  have hvm:v∈wl n:=hws.mem (List.mem_cons_self ..);obtain⟨hvl,hvb⟩:=cc hvm;have hwt:(wtx (v::vs))++93::r=btx v++tlT vs r:=by simp only[wtx,if_neg (List.cons_ne_nil v vs),Di]
  rw[hwt] at hd1;generalize hT:(wtx (v::vs)).length=Tn at hlen k
  obtain⟨x,v',ev⟩:∃x v',v=x::v':=by
   cases v with
   |nil=>simp at hvl;omega
   |cons x v'=>exact⟨x,v',rfl⟩
  have hxb:=hvb x (by rw[ev];exact List.mem_cons_self ..)
  obtain⟨hc2,_,_⟩:=dr1 (show l.drop (i+1)=(48+x.toNat)::(btx v'++tlT vs r) by rw[hd1,ev];rfl)
  walk_at "s1";refine⟨l,i+1,_,rfl,hc2,hl,_,rfl,by simp[dep],?_⟩
  rw[if_neg (by rw[CS ⟨x.toNat,by omega⟩];decide)]
  walk_at "s1";refine⟨n,i+1,l,tlT vs r,[],v,rfl,hn1,hn,hvm,hd1,hl,.inl rfl,fun lo hlo=>?_⟩;walk_at "s1";walk_at "s1";obtain⟨Pv,iP⟩:=ER fun m ρ Z'=>∃(us:List (List Int)) (u:List Int) (vs':List (List Int)) (a:Nat),us++u::vs'=v::vs/\l.drop a=tlT vs' r/\a<=l.length/\m=vs'.length/\Z'=Z.put lo (.own (((us++[u]).map wdD).map AV.d))/\ρ=[some (AV.d (D.int n)),some (AV.d (D.str (tx l))),some (AV.d (D.int a)),some (AV.r (V.ref lo))]
  have hbl:(btx v).length=n:=by simp[btx,hvl]
  have hd2:l.drop (i+1+n)=tlT vs r:=by
   rw[←List.drop_drop,hd1,←hbl,List.drop_left]
  have hal:i+1+n<=l.length:=by
   have:=congrArg List.length hd1;rw[List.length_drop,List.length_append,hbl] at this;omega
  refine⟨Pv,⟨_,(iP _ _ _).mpr ⟨[],v,vs,i+1+n,rfl,hd2,hal,rfl,rfl,by rw[show ((i+1:Nat):Int)+(n:Int)=((i+1+n:Nat):Int) from by omega]⟩⟩,fun m ρ Z1 h=>?_⟩
  obtain⟨us,u,vs',a,hsp,hda,hal',rfl,rfl,rfl⟩:=(iP _ _ _).mp h;clear h
  cases vs' with
  |nil=>
   obtain⟨hc4,hd4,hi4⟩:=dr1 hda;walk_at "a1";refine⟨l,a,93,rfl,hc4,hl,_,rfl,by simp[dep],?_⟩
   rw[if_neg (by decide +kernel)]
   walk_at "a1";refine⟨l,a,93,by rw[e93],hc4,hl,_,rfl,?_⟩
   rw[qg ((Ex.refl Z).new hlo),hsp,show ((a:Int)+1)=((i+Tn+2:Nat):Int) from by
    have:=congrArg List.length hda;rw[List.length_drop,tlT,List.length_cons] at this
    omega]
   exact k
  |cons y vs'=>
   obtain⟨hc4,hd4,hi4⟩:=dr1 hda;have pr2:=pr;rw[←hsp] at pr2
   obtain⟨g1,g2⟩:=(List.pairwise_cons.mp (List.pairwise_append.mp pr2).2.1).1 y (List.mem_cons_self ..);have mem:∀z∈us++u::y::vs',z∈wl n:=fun z hz=>hws.mem (by rw[←hsp];exact hz)
   have hum:=mem u (by simp)
   have hym:=mem y (by simp)
   walk_at "a1";refine⟨l,a,44,rfl,hc4,hl,_,rfl,by simp[dep],?_⟩
   rw[if_pos (by decide +kernel),Om.Iy]
   have last:atI (((us++[u]).map wdD).map AV.d) (-1)=some (.d (wdD u)):=by rw[List.map_append,List.map_append];exact CF
   refine⟨_,rfl,_,last,_,rfl,_,.inr rfl,by rw[lc];decide,?_⟩
   rw[show inD (D.int 0) (u.map D.int)=true from by rw[wW];exact decide_eq_true g2,if_pos rfl]
   refine⟨fun ρ' Z'=>∃m',m'<vs'.length+1/\Pv m' ρ' Z',fun _ _ h=>h,?_⟩;walk_at "s1";rw[show ((a:Int)+1)=((a+1:Nat):Int) from by omega]
   obtain⟨hyl,hyb⟩:=cc hym;have hby:(btx y).length=n:=by simp[btx,hyl]
   have hd5:l.drop (a+1+n)=tlT vs' r:=by rw[←List.drop_drop,hd4,←hby,List.drop_left]
   have hl5:a+1+n<=l.length:=by
    have:=congrArg List.length hd4;rw[List.length_drop,List.length_append,hby] at this;omega
   have hln:us.length+1<=32:=by
    have:=congrArg List.length hsp;simp at this hwl;omega
   refine⟨_,last,n,a+1,l,tlT vs' r,u,y,rfl,hn1,hn,hym,hd4,hl,.inr ⟨hum,g1⟩,_,Om.Iy,by simp;exact aS (by omega),_,Nat.lt_succ_self _,(iP _ _ _).mpr ⟨us++[u],y,vs',a+1+n,by rw[←hsp];simp,hd5,hl5,rfl,by rw[Om.Iz];simp,by rw[show ((a:Int)+(1+(n:Int)))=((a+1+n:Nat):Int) from by omega]⟩⟩
noncomputable def ttx:Ta->List Nat
 |.en i=>[48+i.toNat]
 |.nd y ws a b=>(if y then 89 else 78)::91::(wtx ws++93::40::(ttx a++59::(ttx b++[41])))
noncomputable def sbT(n:Nat):Ta->Prop
 |.en i=>0<=i/\i<n
 |.nd _ ws l r=>ws.Sublist (wl n)/\sbT n l/\sbT n r
inductive Pt where
 |ta (u:Ta)
 |op
 |sm
 |cl
noncomputable def Pt.tx:Pt->List Nat
 |.ta u=>ttx u
 |.op=>[40]
 |.sm=>[59]
 |.cl=>[41]
noncomputable def Pt.wd:Pt->Str
 |.ta _=>"talk"
 |.op=>"("
 |.sm=>";"
 |.cl=>")"
noncomputable def ptT(p:List Pt):List Nat:=p.flatMap Pt.tx
noncomputable def ptW(p:List Pt):List AV:=((p.map Pt.wd).reverse.map D.str).map AV.d
noncomputable def Pt.ok(n:Nat):Pt->Prop
 |.ta u=>sbT n u
 |_=>True
noncomputable abbrev Bg:=Bool×List (List Int)
noncomputable def bgD(b:Bg):D:=.tup [.str (if b.1 then "yes" else "no"),.tup (b.2.map wdD)]
noncomputable def jJ:List Pt->List Bg->List Ta->Option (List Ta)
 | [],_,d=>some d
 |.ta u::p,b,d=>jJ p b (u::d)
 |.op::p,b,d=>jJ p b d
 |.sm::p,b,d=>jJ p b d
 |.cl::p,g::b,r::l::d=>jJ p b (.nd g.1 g.2 l r::d)
 |.cl::_,_,_=>none
noncomputable def bgA(b:List Bg):List AV:=(b.reverse.map bgD).map AV.d
noncomputable def dtA(d:List Ta):List AV:=(d.reverse.map Ta.d).map AV.d
theorem gN(e:Pt)(p:List Pt):ptW (e::p)=ptW p++[.d (.str e.wd)]:=by simp[ptW]
theorem tO(a:Bg)(j:List Bg):bgA (a::j)=bgA j++[.d (bgD a)]:=by simp[bgA]
theorem kF(x:Ta)(d:List Ta):dtA (x::d)=dtA d++[.d x.d]:=by simp[dtA]
theorem zV(e:Pt)(p:List Pt):ptT (e::p)=e.tx++ptT p:=by simp[ptT]
theorem FU:∀i:Fin 5,(jI [(Str.ofString "Y",V.str (Str.ofString "yes")),(Str.ofString "N",V.str (Str.ofString "no"))] (tx [48+i.val])).isSome=false:=by decide +kernel
noncomputable def fP:ASp:=fun xs Z Q=>∃(n:Nat)(x:Ta),xs=[.d (.int n),.d (.str (tx (ttx x)))]/\1<=n/\n<=5/\sbT n x/\(ttx x).length<=10000/\Q (.d x.d) Z
theorem oh(T:Txt K mg t):aD P t.wo K mg base CX0 4 t.bX t.dR ["places","text"] (bz fP):=by
 have G_must_be_text:aD P t.wo K mg base _ _ _ _ _ _:=qX T;have G_must_end:aD P t.wo K mg base _ _ _ _ _ _:=xB T;have G_sign_at:aD P t.wo K mg base _ _ _ _ _ _:=jr T;have G_place_at:aD P t.wo K mg base _ _ _ _ _ _:=A1 T;have G_past:aD P t.wo K mg base _ _ _ _ _ _:=vS T;have G_says_from:aD P t.wo K mg base _ _ _ _ _ _:=HD T
 refine T.rP.okD bp (fun xs Z Q h=>by obtain ⟨n,x,rfl,_⟩:=h;rfl) (fun cdv A outer s H E hr=>⟨_,_,(ah (cj (ak G_must_be_text (hr.mono (by omega)) (by rfl) T.d6 T.eu T.d9 .nil ay (aa (pv 1) af)))
   (ah (az (i:=2) bp.nd rfl (Or.inl rfl) aj)
   (ah (az (i:=3) bp.nd rfl (Or.inl rfl) (br (ao aH af)))
   (ah (az (i:=4) bp.nd rfl (Or.inl rfl) (br af))
   (ah (az (i:=5) bp.nd rfl (Or.inl rfl) (br af))
   (ah (nU PassesOwn.never (be K rfl (pv 3) (fun _=>rfl)) (ah (az (i:=6) bp.nd rfl (Or.inl rfl) (ic PySem.F.plainAttrs_list PySem.F.slot_list_pop PySem.F.type_list_pop iW (pv 3)))
   (ah (az (i:=7) bp.nd rfl (Or.inl rfl) (ak G_sign_at (hr.mono (by omega)) (by rfl) T.eS T.eO T.eQ .nil ay (aa (pv 1) (aa (pv 2) af))))
   (am (bn (PW.pt (jY (aL (bA hr.IC) (pv 6) aH (a7 _)) (iq (aL (Az T.vL T.kD) (pv 7) (c8 (v:=.ref t.fb) rfl T.wP rfl) (by with_unfolding_all rfl))))) (ah (hZ (ak G_says_from (hr.mono (by omega)) (by rfl) T.tT T.sO T.sq .nil ay (aa (pv 0) (aa (pv 1) (aa (aE (aB bv (aB bb bu)) (pv 2) aj) af)))) (qw K rfl (n:=2) rfl (d5 (aW (i:=8) bp.nd rfl (Or.inl rfl)) (d5 (aW (i:=2) bp.nd rfl (Or.inl rfl)) mx))))
   (ah (cj (fx PySem.F.plainAttrs_list PySem.F.slot_list_append PySem.F.type_list_append cP (pv 4) (bP (a9 (aa (xa T.vL (c8 (v:=.ref t.fb) rfl T.wP rfl) (pv 7) (fun _ _=>rfl)) (aa (pv 8) af))) af)))
   (am (cj (fx PySem.F.plainAttrs_list PySem.F.slot_list_extend PySem.F.type_list_extend (vB K rfl) (pv 3) (aa (c8 (v:=.ref t.cn) rfl T.o4 rfl) af)))))) (am (bn (aL (bA hr.IC) (pv 6) aH (a7 _)) (ah (cj (fx PySem.F.plainAttrs_list PySem.F.slot_list_append PySem.F.type_list_append cP (pv 5) (bP (a9 (ao aH (aa (ak G_place_at (hr.mono (by omega)) (by rfl) T.jV T.ka T.jU .nil ay (aa (pv 0) (aa (pv 1) (aa (pv 2) af)))) af))) af)))
   (am (m9 (i:=2) bp.nd rfl (Or.inl rfl) aj kB))) (ah (az (i:=2) bp.nd rfl (Or.inl rfl) (ak G_past (hr.mono (by omega)) (by rfl) T.rj T.qu T.rh .nil ay (aa (pv 1) (aa (pv 2) (aa (pv 6) af)))))
   (am (bn (aL (bA hr.IC) (pv 6) aH (a7 _)) (ah (az (i:=9) bp.nd rfl (Or.inl rfl) (ic PySem.F.plainAttrs_list PySem.F.slot_list_pop PySem.F.type_list_pop iW (pv 5)))
   (ah (az (i:=10) bp.nd rfl (Or.inl rfl) (ic PySem.F.plainAttrs_list PySem.F.slot_list_pop PySem.F.type_list_pop iW (pv 5)))
   (am (cj (fx PySem.F.plainAttrs_list PySem.F.slot_list_append PySem.F.type_list_append cP (pv 5) (aa (aE (aB bv (aB bb bu)) (ic PySem.F.plainAttrs_list PySem.F.slot_list_pop PySem.F.type_list_pop iW (pv 4)) (a9 (aa (pv 10) (aa (pv 9) af)))) af)))))) aX))))))))))
   (ah (cj (ak G_must_end (hr.mono (by omega)) (by rfl) T.nD T.oe T.nh .nil ay (aa (pv 1) (aa (pv 2) af))))
   (am (aR (bh (aJ K rfl) (pv 5) aj (fun _ _=>rfl))))))))))),(av (c7 (ar (ac ae ag)))
   (av (aF aq ap)
   (av (aF (fS (ac aZ ag)) ap)
   (av (aF (fS ag) ap)
   (av (aF (fS ag) ap)
   (av (qE (dC ae) (av (aF (lU ae) ap)
   (av (aF (ar (ac ae (ac ae ag))) ap)
   (ca (nJ (aY (ax bU ae aZ)) (aY (ax El ae f6))) (av (aF (ar (ac ae (ac ae (ac (ax b8 ae aq) ag)))) (zb (ia ap (ia ap vE))))
   (av (c7 (eA ae (ac (bw (ac (Av ae) (ac ae ag))) ag)))
   (c7 (AQ ae (ac f6 ag))))) (ca (aY (ax bU ae aZ)) (av (c7 (eA ae (ac (bw (ac aZ (ac (ar (ac ae (ac ae (ac ae ag)))) ag))) ag)))
   (tD dS aq)) (av (aF (ar (ac ae (ac ae (ac ae ag)))) ap)
   (ca (aY (ax bU ae aZ)) (av (aF (lU ae) ap)
   (av (aF (lU ae) ap)
   (c7 (eA ae (ac (ax b8 (lU ae) (bw (ac ae (ac ae ag)))) ag))))) bc)))))))
   (av (c7 (ar (ac ae (ac ae ag))))
   (bd (ax ce ae aq))))))))),fun xs Z Q h=>?_⟩)
 obtain⟨n,x,rfl,hn1,hn,hx,hl,k⟩:=h;walk_at "s1";refine⟨_,rfl,?_⟩;walk_at "s1";walk_at "s1";intro lw hw;walk_at "s1";intro lj hj;walk_at "s1";intro ld hd;obtain⟨nd,hd0⟩:=cM hd;obtain⟨nw,hdw⟩:=cM hd0;obtain⟨njw,hj0⟩:=cM hj;rw[show ((Z.put lw (OC.own [AV.d (D.str (Str.ofString "talk"))])).put lj (OC.own [])).put ld (OC.own [])=om3 Z lw lj ld (.own (ptW [.ta x])) (.own (bgA [])) (.own (dtA [])) from rfl]
 have nwj:lw≠lj:=Ne.symm njw;have nwd:lw≠ld:=Ne.symm nw;have njd:lj≠ld:=Ne.symm nd;walk_at "s1";obtain⟨Pv,iP⟩:=ER fun m ρ Z'=>∃(p:List Pt)(j:List Bg)(d:List Ta)(i:Nat)(v6 v7 v8 v9 v10:Option AV),Z'=om3 Z lw lj ld (.own (ptW p)) (.own (bgA j)) (.own (dtA d))/\(∀e∈p,e.ok n)/\i<=(ttx x).length/\(ttx x).drop i=ptT p/\jJ p j d=some [x]/\j.length<=i/\d.length<=i/\p.length<=4*i+1/\m=(ttx x).length-i/\ρ=[some (AV.d (D.int n)),some (AV.d (D.str (tx (ttx x)))),some (AV.d (D.int i)),some (AV.r (V.ref lw)),some (AV.r (V.ref lj)),some (AV.r (V.ref ld)),v6,v7,v8,v9,v10]
 refine⟨Pv,⟨_,(iP _ _ _).mpr ⟨[.ta x],[],[],0,_,_,_,_,_,rfl,fun e he=>by rw[List.mem_singleton] at he;rw[he];exact hx,Nat.zero_le _,by simp[ptT,Pt.tx],rfl,Nat.le_refl _,Nat.le_refl _,by simp,rfl,rfl⟩⟩,fun m ρ Z1 h=>?_⟩
 obtain⟨p,j,d,i,v6,v7,v8,v9,v10,rfl,hok,hi,hdr,hrun,hjl,hdl,hpl,rfl,rfl⟩:=(iP _ _ _).mp h;clear h
 cases p with
 |nil=>
  walk_at "a1";refine⟨false,by rw[iG nwj nwd];rfl,?_⟩
  rw[if_neg (by decide)]
  have ei:i=(ttx x).length:=by
   have:=List.drop_eq_nil_iff.mp hdr;omega
  have ed:d=[x]:=by simpa[jJ] using hrun
  subst ei ed;walk_at "s1";refine⟨_,rfl,hl,?_⟩;walk_at "a1";rw[fA];refine⟨_,rfl,_,rfl,_,rfl,?_⟩;rw[om3,qg ((((Ex.refl Z).new hw).new (by rw[Om.IA njw];exact hj0)).new (by rw[Om.IA nd,Om.IA nw];exact hdw))]
  exact k
 |cons e p=>
  rw[zV] at hdr;rw[gN];walk_at "a1";refine⟨true,by rw[iG nwj nwd];simp,?_⟩
  rw[if_pos rfl];refine⟨fun ρ' Z'=>∃m',m'<(ttx x).length-i/\Pv m' ρ' Z',fun _ _ h=>h,?_⟩;refine pS rfl (iG nwj nwd) ?_;rw[m8 nwj nwd]
  have go:∀(p:List Pt)(j:List Bg)(d:List Ta)(i':Nat)(z:Int)(v6 v7 v8 v9 v10:Option AV),z=(i':Int)->i<i'->(∀e∈p,e.ok n)->i'<=(ttx x).length->(ttx x).drop i'=ptT p->jJ p j d=some [x]->j.length<=i'->d.length<=i'->p.length<=4*i'+1->∃m',m'<(ttx x).length-i/\Pv m' [some (AV.d (D.int n)),some (AV.d (D.str (tx (ttx x)))),some (AV.d (D.int z)),some (AV.r (V.ref lw)),some (AV.r (V.ref lj)),some (AV.r (V.ref ld)),v6,v7,v8,v9,v10] (om3 Z lw lj ld (.own (ptW p)) (.own (bgA j)) (.own (dtA d))):=fun p j d i' z v6 v7 v8 v9 v10 hz h1 h2 h3 h4 h5 h6 h7 h8=>by
   subst hz;exact⟨_,by omega,(iP _ _ _).mpr ⟨p,j,d,i',v6,v7,v8,v9,v10,rfl,h2,h3,h4,h5,h6,h7,h8,rfl,rfl⟩⟩
  have ldn:∀d:List Ta,(dtA d).length=d.length:=fun d=>by simp[dtA]
  have ljs:∀j:List Bg,(bgA j).length=j.length:=fun j=>by simp[bgA]
  have lpw:∀p:List Pt,(ptW p).length=p.length:=fun p=>by simp[ptW]
  have small:∀ {m:Nat},m<=50000->m<sizeLine:=fun h=>Nat.lt_of_le_of_lt h (by decide)
  have hpo:∀e∈p,e.ok n:=fun e he=>hok e (List.mem_cons_of_mem _ he);have heo:=hok e (List.mem_cons_self ..);simp only[List.length_cons] at hpl
  cases e with
  |op=>
   obtain⟨hc,hdr',hi'⟩:=dr1 hdr;simp only[jJ] at hrun;walk_at "s1";refine⟨_,i,40,rfl,hc,hl,?_⟩;walk_at "s1";simp only[show ¬ Pt.op.wd=Str.ofString "talk" from by decide +kernel,if_false]
   walk_at "s1";refine⟨_,i,40,by rw[show Pt.op.wd=tx [40] from by decide +kernel],hc,hl,?_⟩
   walk_at "a1";simp only[show ¬ Pt.op.wd=Str.ofString ")" from by decide +kernel,if_false]
   exact go p j d (i+1) ((i:Int)+1) _ _ _ _ _ (by omega) (by omega) hpo hi' hdr' hrun (by omega) (by omega) (by omega)
  |sm=>
   obtain⟨hc,hdr',hi'⟩:=dr1 hdr;simp only[jJ] at hrun;walk_at "s1";refine⟨_,i,59,rfl,hc,hl,?_⟩;walk_at "s1";simp only[show ¬ Pt.sm.wd=Str.ofString "talk" from by decide +kernel,if_false]
   walk_at "s1";refine⟨_,i,59,by rw[show Pt.sm.wd=tx [59] from by decide +kernel],hc,hl,?_⟩
   walk_at "a1";simp only[show ¬ Pt.sm.wd=Str.ofString ")" from by decide +kernel,if_false]
   exact go p j d (i+1) ((i:Int)+1) _ _ _ _ _ (by omega) (by omega) hpo hi' hdr' hrun (by omega) (by omega) (by omega)
  |cl=>
   obtain⟨hc,hdr',hi'⟩:=dr1 hdr
   obtain⟨g,j,rfl⟩:∃a j',j=a::j':=by
    cases j with
    |nil=>simp[jJ] at hrun
    |cons a j=>exact⟨a,j,rfl⟩
   obtain⟨r,l,d,rfl⟩:∃r l d',d=r::l::d':=by
    rcases d with _|⟨r,_|⟨l,d⟩⟩
    ·simp[jJ] at hrun
    ·simp[jJ] at hrun
    ·exact⟨r,l,d,rfl⟩
   simp only[jJ] at hrun;simp only[List.length_cons] at hjl hdl;walk_at "s1";refine⟨_,i,41,rfl,hc,hl,?_⟩;walk_at "s1";simp only[show ¬ Pt.cl.wd=Str.ofString "talk" from by decide +kernel,if_false]
   walk_at "s1";refine⟨_,i,41,by rw[show Pt.cl.wd=tx [41] from by decide +kernel],hc,hl,?_⟩
   walk_at "a1";simp only[show Pt.cl.wd=Str.ofString ")" from by decide +kernel,if_true]
   rw[tO,kF,kF];refine pS rfl fA ?_;rw[ie];refine pS rfl fA ?_;rw[ie];walk_at "a1";refine⟨⟨_,fA⟩,_,jQ njd,.d (bgD g),by simp,?_⟩
   rw[List.dropLast_concat,fQ njd];have:=go p j (.nd g.1 g.2 l r::d) (i+1) ((i:Int)+1) (some (AV.d (D.str (Str.ofString ")")))) (some (AV.d (D.str (tx [41])))) v8 (some (.d r.d)) (some (.d l.d)) (by omega) (by omega) hpo hi' hdr' hrun (by omega) (by simp only[List.length_cons];omega) (by omega)
   rw[kF] at this;simp only[bgD];walk_at "a1";exact⟨_,fA,by rw[ldn];exact small (by omega),by rw[ie];exact this⟩
  |ta y=>
   simp only[Pt.ok] at heo
   cases y with
   |en q=>
    obtain⟨q0,q1⟩:=heo;obtain⟨q,rfl⟩:=Int.eq_ofNat_of_zero_le q0;have hqn:q<n:=by omega
    have g1:=FU ⟨q,by omega⟩
    simp only at g1;simp only[jJ] at hrun;obtain⟨hc,hdr',hi'⟩:=dr1 (show (ttx x).drop i=(48+q)::ptT p by rw[hdr];simp[Pt.tx,ttx])
    walk_at "s1";refine⟨_,i,_,rfl,hc,hl,?_⟩;walk_at "s1";simp only[show (Pt.ta (Ta.en (q:Int))).wd=Str.ofString "talk" from rfl,g1,if_true,if_false,Bool.false_eq_true]
    walk_at "s1";refine⟨⟨_,fA⟩,n,_,i,q,rfl,hn,hqn,hc,hl,_,rfl,_,fA,by rw[ldn];exact small (by omega),?_⟩
    rw[ie];have:=fun v6 v7=>go p j (.en q::d) (i+1) ((i:Int)+1) v6 v7 v8 v9 v10 (by omega) (by omega) hpo hi' hdr' hrun (by omega) (by simp only[List.length_cons];omega) (by omega)
    rw[kF] at this;exact this _ _
   |nd y ws a b=>
    obtain⟨hws,ha,hb⟩:=heo;simp only[jJ] at hrun;have hdr0:(ttx x).drop i=(if y then 89 else 78)::(91::(wtx ws++93::ptT (.op::.ta a::.sm::.ta b::.cl::p))):=by rw[hdr];simp[Pt.tx,ttx,ptT]
    obtain⟨hc,hdr',hi'⟩:=dr1 hdr0
    have hd9:(ttx x).drop (i+1+(wtx ws).length+2)=ptT (.op::.ta a::.sm::.ta b::.cl::p):=by
     rw[show i+1+(wtx ws).length+2=(i+1)+(1+((wtx ws).length+1)) by omega,←List.drop_drop,hdr',←List.drop_drop,List.drop_one,List.tail_cons,←List.drop_drop,List.drop_left]
     rfl
    have hl9:i+1+(wtx ws).length+2<=(ttx x).length:=by
     have:=congrArg List.length hdr';rw[List.length_drop,List.length_cons,List.length_append,List.length_cons] at this;omega
    have e2:tx [if y then 89 else 78]=if y then Str.ofString "Y" else Str.ofString "N":=by cases y<;>decide +kernel
    walk_at "s1";refine⟨_,i,_,rfl,hc,hl,?_⟩;walk_at "s1";simp only[show (Pt.ta (Ta.nd y ws a b)).wd=Str.ofString "talk" from rfl,if_true]
    rw[if_pos (by cases y<;>decide +kernel)]
    rw[show ((i:Int)+1)=((i+1:Nat):Int) from by omega]
    refine⟨n,i+1,_,_,ws,rfl,hn1,hn,hws,hdr',hl,_,rfl,rfl,_,_,rfl,_,_,rfl,rfl,?_⟩;walk_at "s1"
    have fin:=fun v6 v7 v8=>go (.op :: .ta a :: .sm :: .ta b :: .cl :: p) ((y,ws) :: j) d (i + 1 + (wtx ws).length + 2) ((i + 1 + (wtx ws).length + 2 : Nat) : Int) v6 v7 v8 v9 v10 rfl (by omega) (fun e he=>by
     simp only[List.mem_cons] at he;rcases he with rfl|rfl|rfl|rfl|rfl|he
     ·trivial
     ·exact ha
     ·trivial
     ·exact hb
     ·trivial
     ·exact hpo e he) hl9 hd9 (by simpa[jJ] using hrun) (by simp only[List.length_cons];omega) (by omega) (by simp only[List.length_cons];omega)
    rw[tO,gN,gN,gN,gN,gN] at fin;have eW:ptW p++[AV.d (D.str Pt.cl.wd)]++[AV.d (D.str (Pt.ta b).wd)]++[AV.d (D.str Pt.sm.wd)]++[AV.d (D.str (Pt.ta a).wd)]++[AV.d (D.str Pt.op.wd)]=ptW p++List.map AV.d (List.map D.str [Str.ofString ")",Str.ofString "talk",Str.ofString ";",Str.ofString "talk",Str.ofString "("]):=by simp[Pt.wd]
    rw[eW] at fin;cases y
    ·exact⟨⟨_,jQ njd⟩,.str (Str.ofString "no"),by kernel_rfl,.str (Str.ofString "no"),rfl,_,jQ njd,by rw[ljs];exact small (by omega),by rw[fQ njd];exact⟨_,iG nwj nwd⟩,_,_,T.jS,by rw[fQ njd];exact iG nwj nwd,by rw[lpw];exact Nat.le_of_lt (small (by simp only[List.length_cons,List.length_nil];omega)),by rw[fQ njd,m8 nwj nwd];exact fin _ _ _⟩
    ·exact⟨⟨_,jQ njd⟩,.str (Str.ofString "yes"),by kernel_rfl,.str (Str.ofString "yes"),rfl,_,jQ njd,by rw[ljs];exact small (by omega),by rw[fQ njd];exact⟨_,iG nwj nwd⟩,_,_,T.jS,by rw[fQ njd];exact iG nwj nwd,by rw[lpw];exact Nat.le_of_lt (small (by simp only[List.length_cons,List.length_nil];omega)),by rw[fQ njd,m8 nwj nwd];exact fin _ _ _⟩
noncomputable def zz:ASp:=fun xs Z Q=>∃i:Int,xs=[.d (.int i)]/\Q (.d (.bl true)) Z
theorem tm(T:Txt K mg t):aD P w K mg base CX0 1 t.dJ t.j4 ["thing"] (bz zz):=by
 refine T.vg.okD uc (fun xs Z Q h=>by obtain⟨x,rfl,_⟩:=h;rfl) (fun cdv A outer s H E hr=>⟨_,_,(am (aR (mK K rfl (aK iR (by rfl) T.dh (by kernel_rfl) (aa (pv 0) (aa (im (v:=.ty "int") (by rfl) T.jO (by kernel_rfl) (by rfl)) af))) (qk (Cr K rfl (aK iR (by rfl) T.dh (by kernel_rfl) (aa (pv 0) (aa (im (v:=.ty "bool") (by rfl) T.FN (by kernel_rfl) (by rfl)) af)))))))),(bd (qF (bx tM (ac ae (ac f6 ag))) (EB (bx tM (ac ae (ac f6 ag)))))),fun xs Z Q h=>?_⟩)
 obtain⟨i,rfl,k⟩:=h;walk_at "a1";refine⟨by decide,?_⟩
 rw[if_pos (show isD "int" (D.int i)=true from rfl),aN]
 exact⟨by decide,k⟩
noncomputable def Ff:ASp:=fun xs Z Q=>∃i:Int,xs=[.d (.int i)]/\(i=0\/i=1)/\Q (.d (.bl true)) Z
theorem Bt(T:Txt K mg t):aD P w K mg base CX0 2 t.fT t.nH ["thing"] (bz Ff):=by
 have G_is_whole:aD P w K mg base _ _ _ _ _ _:=tm T;refine T.Aa.okD yH (fun xs Z Q h=>by obtain⟨x,rfl,_⟩:=h;rfl) (fun cdv A outer s H E hr=>⟨_,_,(am (aR (mK K rfl (ak G_is_whole (hr.mono (by omega)) (by rfl) T.nv T.nc T.oa .nil ay (aa (pv 0) af)) (qk (sr sw sw aj (pv 0) aj))))),(bd (qF (ar (ac ae ag)) (vU iH iH aq ae aq))),fun xs Z Q h=>?_⟩)
 obtain⟨i,rfl,hi,k⟩:=h;walk_at "a1";refine⟨_,rfl,true,rfl,?_⟩;rw[if_pos rfl,if_pos (by omega),aN,decide_eq_true (by omega)]
 exact k
noncomputable def BR:ASp:=fun xs Z Q=>∃n:Nat,xs=[.d (.int n)]/\1<=n/\n<=5/\Q (.d (.bl true)) Z
theorem qh(T:Txt K mg t):aD P w K mg base CX0 2 t.cJ t.ii ["thing"] (bz BR):=by
 have G_is_whole:aD P w K mg base _ _ _ _ _ _:=tm T;refine T.qc.okD oR (fun xs Z Q h=>by obtain⟨n,rfl,_⟩:=h;rfl) (fun cdv A outer s H E hr=>⟨_,_,(am (aR (mK K rfl (ak G_is_whole (hr.mono (by omega)) (by rfl) T.nv T.nc T.oa .nil ay (aa (pv 0) af)) (qk (sr sw sw aj (pv 0) (c8 (v:=.int 5) rfl T.oJ ⟨_,rfl⟩)))))),(bd (qF (ar (ac ae ag)) (vU iH iH aq ae aq))),fun xs Z Q h=>?_⟩)
 obtain⟨n,rfl,hn1,hn,k⟩:=h;walk_at "a1";refine⟨_,rfl,true,rfl,?_⟩;rw[if_pos rfl,if_pos (by omega),aN,decide_eq_true (by omega)]
 exact k
noncomputable def Fu:ASp:=fun xs Z Q=>∃(n:Nat)(v:List Int),xs=[.d (.int n),.d (wdD v)]/\v∈wl n/\1<=n/\n<=5/\Q (.d (.bl true)) Z
theorem Er(T:Txt K mg t):aD P w K mg base CX0 3 t.eK t.lq ["places","thing"] (bz Fu):=by
 have G_is_bit:aD P w K mg base _ _ _ _ _ _:=Bt T;have G_are_places:aD P w K mg base _ _ _ _ _ _:=qh T
 refine T.yj.okD uP (fun xs Z Q h=>by obtain ⟨n,v,rfl,_⟩:=h;rfl) (fun cdv A outer s H E hr=>⟨_,_,(ah (bn (PW.pt (pe (cU (be K rfl (ak G_are_places (hr.mono (by omega)) (by rfl) T.ir T.hE T.g9 .nil ay (aa (pv 0) af)) (fun _=>rfl))) (oB (cU (be K rfl (aK iR (by rfl) T.dh (by kernel_rfl) (aa (pv 1) (aa (im (v:=.ty "tuple") (by rfl) T.cV (by kernel_rfl) (by rfl)) af))) (fun _=>rfl)))))) (am (aR kQ)) aX)
   (am (aR (mK K rfl (fc (bA hr.IC) (aK (bH K rfl) (by rfl) T.fy (by kernel_rfl) (aa (pv 1) af)) (pv 0) (a7 _)) (qk (aK (eU K rfl rfl) (by rfl) T.oH (by kernel_rfl) (aa (bR (N:=(["bit"]:List Str)) (src:=[none]) rfl (by show c0 _ (defScope jm) _ _ (["places","thing"]:List Str)=true;decide +kernel) (by intro g' h;cases h) (cz K rfl (pv 1)) (fun _ _ _ _ _ _=>(aW (i:=0) (show (["bit"]:List Str).Nodup by decide +kernel) rfl (Or.inl rfl))) (fun _ _ _ _ _ _=>cu) (fun _ _ _ _ _ _=>(bS rfl rfl (ak G_is_bit (hr.mono (by omega)) (by rfl) T.rH T.t8 T.uf .nil ay (aa (pv 0) af))))) af))))))),(av (ca (yk (eF (dC (ar (ac ae ag)))) (eF (dC (bx tM (ac ae (ac f6 ag)))))) (bd qD) bc)
   (bd (qF (ax bU (bx gk (ac ae ag)) ae) (bx lS (ac (cK (dP ae) ap jK (cB (ar (ac ae ag)))) ag))))),fun xs Z Q h=>?_⟩)
 obtain⟨n,v,rfl,hv,hn1,hn,k⟩:=h;obtain⟨hl,hb⟩:=cc hv;walk_at "s1";refine⟨n,rfl,hn1,hn,true,rfl,?_⟩;rw[if_neg (by decide)]
 refine⟨by decide,?_⟩
 rw[if_neg (by rw[show isD "tuple" (wdD v)=true from rfl];decide),if_pos (by rw[hl])]
 refine cw (rs:=(v.map fun _=>true).map D.bl) (by simp) (Nat.le_of_lt (aS (by simp;omega))) (fun j a r h1 h2 Q q=>?_) (fun ρ=>⟨_,bF _,_,rfl,?_⟩)
 ·simp only[List.map_map,List.getElem?_map,Option.map_eq_some_iff] at h1 h2
  obtain⟨y,hy,rfl⟩:=h1;obtain⟨_,_,rfl⟩:=h2;simp only[Function.comp_apply] at q ⊢;walk_at "a1";exact⟨y,rfl,hb y (List.mem_of_getElem? hy),q⟩
 ·rw[aN,show (v.map fun _=>true).all id=true from by simp]
  exact k
theorem z8:∀a b:List Int,tE (a.map D.int) (b.map D.int)=true
 | [],_=>by simp[tE]
 |_::_,[]=>by simp[tE]
 |x::xs,y::ys=>by
  simp only[List.map_cons,tE];split
  ·exact z8 xs ys
  ·rfl
theorem zQ:∀a b:List Int,tL (a.map D.int) (b.map D.int)=dM a b
 | [],[]=>rfl
 | [],_::_=>rfl
 |_::_,[]=>rfl
 |x::xs,y::ys=>by
  simp only[List.map_cons,tL,dM,mD];by_cases h:x=y
  ·rw[if_pos (by simpa using h),if_pos h,zQ xs ys]
  ·rw[if_neg (by simpa using h),if_neg h]
   rfl
noncomputable def EZ:ASp:=fun xs Z Q=>∃ws:List (List Int),xs=[.d (.lst (ws.map wdD))]/\Ris ws/\ws.Nodup/\ws.length<=32/\Q (.d (.bl true)) Z
theorem Ev(T:Txt K mg t):aD P w K mg base CX0 1 t.cF t.gf ["some"] (bz EZ):=by
 refine T.lM.okD kJ (fun xs Z Q h=>by obtain⟨x,rfl,_⟩:=h;rfl) (fun cdv A outer s H E hr=>⟨_,_,(am (aR (aK (eU K rfl rfl) (by rfl) T.oH (by kernel_rfl) (aa (bR (N:=(["k","some"]:List Str)) (src:=[none,some 0]) rfl (by show c0 _ (defScope fh) _ _ (["some"]:List Str)=true;decide +kernel) (by intro g' h;cases h) (eN rfl T.gh (aa (aE dH (aK (bH K rfl) (by rfl) T.fy (by kernel_rfl) (aa (pv 0) af)) aj) af)) (fun _ _ _ _ _ _=>(aW (i:=0) (show (["k","some"]:List Str).Nodup by decide +kernel) rfl (Or.inl rfl))) (fun _ _ _ _ _ _=>cu) (fun _ _ _ _ _ _=>(bS rfl rfl (fc (zy hr.IC) (bh (aJ K rfl) (pv 1) (pv 0) (fun _ _=>rfl)) (bh (aJ K rfl) (pv 1) (aE (aB bv (aB bb bu)) (pv 0) aj) (fun _ _=>rfl)) (a7 _))))) af)))),(bd (bx lS (ac (cK (kf (ac (ax dS (bx gk (ac ae ag)) aq) ag)) ap jK (cB (ax DH (ax ce ae ae) (ax ce ae (ax b8 ae aq))))) ag))),fun xs Z Q h=>?_⟩)
 obtain⟨ws,rfl,hr,hn,hl,k⟩:=h;walk_at "a1";have e0:((ws.length:Int)-1).toNat=ws.length-1:=by omega
 refine⟨by omega,by omega,?_⟩
 rw[e0];have hsz:(jG 0 (ws.length-1)).length=ws.length-1:=by simp[jG]
 refine cw (rs:=(List.replicate (ws.length-1) true).map D.bl) (by rw[hsz];simp) (Nat.le_of_lt (aS (by omega))) (fun j a r h1 h2 Q q=>?_) (fun ρ=>⟨_,bF _,_,rfl,?_⟩)
 ·have hj:j<ws.length-1:=by rw[←hsz];exact(List.getElem?_eq_some_iff.mp h1).1
  obtain rfl:r=D.bl true:=by simp[hj] at h2;exact h2.symm
  simp[jG,hj] at h1;subst h1;have a1:atI ((ws.map wdD).map AV.d) (j:Int)=some (.d (wdD ws[j])):=gE j rfl (by simp[show j<ws.length by omega])
  have a2:atI ((ws.map wdD).map AV.d) ((j:Int)+1)=some (.d (wdD ws[j+1])):=gE (j+1) rfl (by simp[show j+1<ws.length by omega])
  walk_at "a1";refine⟨_,a1,_,a2,?_⟩
  have hlt:dM ws[j] ws[j+1]=true:=by
   have h1:dM ws[j+1] ws[j]=false:=List.pairwise_iff_getElem.mp hr j (j+1) (by omega) (by omega) (by omega)
   cases e:dM ws[j] ws[j+1] with
   |true=>rfl
   |false=>exact absurd (qY _ _ h1 e) (List.pairwise_iff_getElem.mp hn j (j+1) (by omega) (by omega) (by omega))
  rw[xJ];refine⟨_,_,rfl,rfl,by rw[vo];decide,z8 _ _,?_⟩
  rw[show ltD (wdD ws[j]) (wdD ws[j+1])=true from (zQ _ _).trans hlt]
  exact q
 ·rw[aN,show (List.replicate (ws.length-1) true).all id=true from by simp]
  exact k
noncomputable def BT:ASp:=fun xs Z Q=>∃ws:List (List Int),xs=[.d (.tup (ws.map wdD))]/\Ris ws/\ws.Nodup/\ws.length<=32/\Q (.d (.bl true)) Z
theorem CY(T:Txt K mg t):aD P w K mg base CX0 1 t.cF t.gf ["some"] (bz BT):=by
 refine T.lM.okD kJ (fun xs Z Q h=>by obtain⟨x,rfl,_⟩:=h;rfl) (fun cdv A outer s H E hr=>⟨_,_,(am (aR (aK (eU K rfl rfl) (by rfl) T.oH (by kernel_rfl) (aa (bR (N:=(["k","some"]:List Str)) (src:=[none,some 0]) rfl (by show c0 _ (defScope fh) _ _ (["some"]:List Str)=true;decide +kernel) (by intro g' h;cases h) (eN rfl T.gh (aa (aE dH (aK (bH K rfl) (by rfl) T.fy (by kernel_rfl) (aa (pv 0) af)) aj) af)) (fun _ _ _ _ _ _=>(aW (i:=0) (show (["k","some"]:List Str).Nodup by decide +kernel) rfl (Or.inl rfl))) (fun _ _ _ _ _ _=>cu) (fun _ _ _ _ _ _=>(bS rfl rfl (fc (zy hr.IC) (bh (aJ K rfl) (pv 1) (pv 0) (fun _ _=>rfl)) (bh (aJ K rfl) (pv 1) (aE (aB bv (aB bb bu)) (pv 0) aj) (fun _ _=>rfl)) (a7 _))))) af)))),(bd (bx lS (ac (cK (kf (ac (ax dS (bx gk (ac ae ag)) aq) ag)) ap jK (cB (ax DH (ax ce ae ae) (ax ce ae (ax b8 ae aq))))) ag))),fun xs Z Q h=>?_⟩)
 obtain⟨ws,rfl,hr,hn,hl,k⟩:=h;walk_at "a1";have e0:((ws.length:Int)-1).toNat=ws.length-1:=by omega
 refine⟨by omega,by omega,?_⟩
 rw[e0];have hsz:(jG 0 (ws.length-1)).length=ws.length-1:=by simp[jG]
 refine cw (rs:=(List.replicate (ws.length-1) true).map D.bl) (by rw[hsz];simp) (Nat.le_of_lt (aS (by omega))) (fun j a r h1 h2 Q q=>?_) (fun ρ=>⟨_,bF _,_,rfl,?_⟩)
 ·have hj:j<ws.length-1:=by rw[←hsz];exact(List.getElem?_eq_some_iff.mp h1).1
  obtain rfl:r=D.bl true:=by simp[hj] at h2;exact h2.symm
  simp[jG,hj] at h1;subst h1;have a1:atI ((ws.map wdD).map AV.d) (j:Int)=some (.d (wdD ws[j])):=gE j rfl (by simp[show j<ws.length by omega])
  have a2:atI ((ws.map wdD).map AV.d) ((j:Int)+1)=some (.d (wdD ws[j+1])):=gE (j+1) rfl (by simp[show j+1<ws.length by omega])
  walk_at "a1";refine⟨_,a1,_,a2,?_⟩
  have hlt:dM ws[j] ws[j+1]=true:=by
   have h1:dM ws[j+1] ws[j]=false:=List.pairwise_iff_getElem.mp hr j (j+1) (by omega) (by omega) (by omega)
   cases e:dM ws[j] ws[j+1] with
   |true=>rfl
   |false=>exact absurd (qY _ _ h1 e) (List.pairwise_iff_getElem.mp hn j (j+1) (by omega) (by omega) (by omega))
  rw[xJ];refine⟨_,_,rfl,rfl,by rw[vo];decide,z8 _ _,?_⟩
  rw[show ltD (wdD ws[j]) (wdD ws[j+1])=true from (zQ _ _).trans hlt]
  exact q
 ·rw[aN,show (List.replicate (ws.length-1) true).all id=true from by simp]
  exact k
noncomputable def SqA(Z:Om)(x:AV)(ds:List D):Prop:=x=.d (.tup ds)\/(∃l,x=.r (.ref l)/\Z l=some (.frz ds))\/x=.d (.lst ds)
theorem SqA.len{Z:Om}{x:AV}{ds:List D}(h:SqA Z x ds):lH Z x=some ds.length:=by
 rcases h with rfl|⟨l,rfl,e⟩|rfl
 ·simp[lH,ik]
 ·simp[lH,ik,eC,e]
 ·simp[lH,ik,eC]
theorem SqA.dat{Z:Om}{x:AV}{ds:List D}(h:SqA Z x ds):∃d,bg Z x=some d/\(tyD d == "list" || tyD d == "tuple")=true:=by
 rcases h with rfl|⟨l,rfl,e⟩|rfl
 ·exact⟨_,rfl,rfl⟩
 ·exact⟨.lst ds,by simp[bg,e],rfl⟩
 ·exact⟨_,rfl,rfl⟩
theorem SqA.frz{Z:Om}{x:AV}{ds:List D}(h:SqA Z x ds){K:D->Om->Prop}(k:∀d,rD d=some ds->K d Z):oM Z x K:=by
 rcases h with rfl|⟨l,rfl,e⟩|rfl
 ·exact k _ rfl
 ·simp only[oM,e]
  exact k _ rfl
 ·exact k _ rfl
noncomputable def FG:ASp:=fun xs Z Q=>∃(n:Nat)(x:AV) (ws:List (List Int)),xs=[.d (.int n),x]/\SqA Z x (ws.map wdD)/\1<=n/\n<=5/\Wds n ws/\ws≠[]/\Q (.d (.tup ((fZ ws).map wdD))) Z
theorem FC(T:Txt K mg t):aD P w K mg base CX0 4 t.bL t.eY ["places","some"] (bz FG):=by
 have G_is_word:aD P w K mg base _ _ _ _ _ _:=Er T;have G_is_rising:aD P w K mg base _ _ _ _ _ _:=Ev T
 refine T.lE.okD gg (fun xs Z Q h=>by obtain ⟨n,x,ws,rfl,_⟩:=h;rfl) (fun cdv A outer s H E hr=>⟨_,_,(ah (bn (cU (be K rfl (aK x0 (by rfl) T.dh (by kernel_rfl) (aa (pv 1) (bP (a9 (aa (im (v:=.ty "list") (by rfl) T.FV (by kernel_rfl) (by rfl)) (aa (im (v:=.ty "tuple") (by rfl) T.cV (by kernel_rfl) (by rfl)) af))) af))) (fun _=>rfl))) (am bQ) aX)
   (ah (bn (aL (bA hr.IC) (aK (bH K rfl) (by rfl) T.fy (by kernel_rfl) (aa (pv 1) af)) aj (a7 _)) (am bQ) aX)
   (ah (bn (cU (be K rfl (aK (eU K rfl rfl) (by rfl) T.oH (by kernel_rfl) (aa (bR (N:=(["word","places"] : List Str)) (src:=[none,some 0]) rfl (by show c0 _ (defScope cy) _ _ (["places","some","ordered"] : List Str) = true;decide +kernel) (by intro g' h;cases h) (cz K rfl (pv 1)) (fun _ _ _ _ _ _=>(aW (i:=0) (show (["word","places"] : List Str).Nodup by decide +kernel) rfl (Or.inl rfl))) (fun _ _ _ _ _ _=>cu) (fun _ _ _ _ _ _=>(bS rfl rfl (ak G_is_word (hr.mono (by omega)) (by rfl) T.ym T.yB T.xX .nil ay (aa (pv 1) (aa (pv 0) af)))))) af)) (fun _=>rfl))) (am bQ) aX)
   (ah (az (i:=2) gg.nd rfl (Or.inl rfl) (aK tV (by rfl) T.zX (by kernel_rfl) (aa (bR (N:=(["word"] : List Str)) (src:=[none]) rfl (by show c0 _ (defScope cy) _ _ (["places","some","ordered"] : List Str) = true;decide +kernel) (by intro g' h;cases h) (cz K rfl (pv 1)) (fun _ _ _ _ _ _=>(aW (i:=0) (show (["word"] : List Str).Nodup by decide +kernel) rfl (Or.inl rfl))) (fun _ _ _ _ _ _=>cu) (fun _ _ _ _ _ _=>(bS rfl rfl (a8 (bj K rfl) (by rfl) T.cV (by kernel_rfl) (aa (bR (N:=(["bit"] : List Str)) (src:=[none]) rfl (by with_unfolding_all rfl) (by intro g' h;cases h) (cz K rfl (pv 0)) (fun _ _ _ _ _ _=>(aW (i:=0) (show (["bit"] : List Str).Nodup by decide +kernel) rfl (Or.inl rfl))) (fun _ _ _ _ _ _=>cu) (fun _ _ _ _ _ _=>(bS rfl rfl (a8 fH (by rfl) T.jO (by kernel_rfl) (aa (pv 0) af))))) af))))) af)))
   (ah (bn (cU (be K rfl (ak G_is_rising (hr.mono (by omega)) (by rfl) T.lV T.lT T.mm .nil ay (aa (pv 2) af)) (fun _=>rfl))) (am bQ) aX)
   (am (aR (a8 (bj K rfl) (by rfl) T.cV (by kernel_rfl) (aa (pv 2) af))))))))),(av (ca (eF (dC (EN ae (ac f6 (ac f6 ag))))) ck bc)
   (av (ca (aY (ax bU (bx gk (ac ae ag)) aq)) ck bc)
   (av (ca (eF (dC (bx lS (ac (cK (dP ae) ap jK (cB (ar (ac ae (ac ae ag))))) ag)))) ck bc)
   (av (aF (bx BB (ac (cK (dP ae) ap jK (cB (bx eg (ac (cK (dP ae) ap jK (cB (bx pz (ac ae ag)))) ag)))) ag)) ap)
   (av (ca (eF (dC (ar (ac ae ag)))) ck bc)
   (bd (bx eg (ac ae ag)))))))),fun xs Z Q h=>?_⟩)
 obtain⟨n,x,ws,rfl,hx,hn1,hn,hw,hne,k⟩:=h;have hwl:=hw.le hn;walk_at "s1";simp only[AF];walk_at "a1"
 obtain⟨d,hd1,hd2⟩:=hx.dat
 refine⟨d,hd1,?_⟩;rw[hd2,if_neg (by decide)]
 have hlen:=hx.len;rw[List.length_map] at hlen;have hpos:0<ws.length:=List.length_pos_iff.mpr hne;walk_at "s1";refine⟨_,hlen,?_⟩;rw[if_neg (by simp;omega)]
 walk_at "s1";refine hx.frz fun d' hd'=>⟨_,hd',?_⟩;refine cw (rs:=(ws.map fun _=>true).map D.bl) (by simp) (Nat.le_of_lt (aS (by simp;omega))) (fun j a r h1 h2 Q q=>?_) (fun ρ=>⟨_,bF _,_,rfl,?_⟩)
 ·simp only[List.map_map,List.getElem?_map,Option.map_eq_some_iff] at h1 h2
  obtain⟨y,hy,rfl⟩:=h1;obtain⟨_,_,rfl⟩:=h2;simp only[Function.comp_apply] at q ⊢;walk_at "a1";exact⟨n,y,rfl,hw.2 y (List.mem_of_getElem? hy),hn1,hn,q⟩
 rw[show (ws.map fun _=>true).all id=true from by simp]
 walk_at "s1";refine hx.frz fun d' hd'=>⟨_,hd',?_⟩;refine cw (rs:=ws.map wdD) (by simp) (Nat.le_of_lt (aS (by simp;omega))) (fun j a r h1 h2 Q q=>?_) (fun ρ=>⟨_,bF _,ws,rfl,fun y hy e=>?_,by omega,?_⟩)
 ·simp only[List.getElem?_map,Option.map_eq_some_iff] at h1 h2
  obtain⟨_,⟨y,hy,rfl⟩,rfl⟩:=h1;obtain⟨y',hy',rfl⟩:=h2;rw[hy] at hy';cases hy';have hyl:=(cc (hw.2 y (List.mem_of_getElem? hy))).1;walk_at "a1";refine cw (rs:=y.map D.int) (by simp) (Nat.le_of_lt (aS (by simp;omega))) (fun j a r h1 h2 Q q=>?_) (fun ρ=>⟨_,bF _,q⟩)
  simp only[List.getElem?_map,Option.map_eq_some_iff] at h1 h2;obtain⟨_,⟨z,hz,rfl⟩,rfl⟩:=h1;obtain⟨z',hz',rfl⟩:=h2;rw[hz] at hz';cases hz';walk_at "a1";exact q
 ·have:=(cc (hw.2 y hy)).1
  rw[e] at this;simp at this;omega
 have hs:=kG ws;walk_at "s1";refine⟨fZ ws,rfl,up ws,(jB ws).nodup_iff.mpr hw.1,by omega,?_⟩
 refine⟨true,rfl,?_⟩;rw[if_neg (by decide),aN]
 exact k
noncomputable def xQ:ASp:=fun xs Z Q=>∃(n:Nat)(x y:AV) (ys zs:List (List Int)),xs=[.d (.int n),x,y]/\SqA Z x (ys.map wdD)/\SqA Z y (zs.map wdD)/\1<=n/\n<=5/\Wds n ys/\Wds n zs/\ys≠[]/\zs≠[]/\(∀v∈ys,v ∉ zs)/\Q (.d (csD n (fZ ys) (fZ zs))) Z
theorem x6(T:Txt K mg t):aD P w K mg base CX0 5 t.eL t.lv ["places","yes","no"] (bz xQ):=by
 have G_are_places:aD P w K mg base _ _ _ _ _ _:=qh T;have G_words_in_order:aD P w K mg base _ _ _ _ _ _:=FC T
 refine T.yR.okD j6 (fun xs Z Q h=>by obtain ⟨n,x,y,ys,zs,rfl,_⟩:=h;rfl) (fun cdv A outer s H E hr=>⟨_,_,(ah (bn (cU (be K rfl (ak G_are_places (hr.mono (by omega)) (by rfl) T.ir T.hE T.g9 .nil ay (aa (pv 0) af)) (fun _=>rfl))) (am bQ) aX)
   (ah (az (i:=3) j6.nd rfl (Or.inl rfl) (ak G_words_in_order (hr.mono (by omega)) (by rfl) T.gX T.gF T.gK .nil ay (aa (pv 0) (aa (pv 1) af))))
   (ah (az (i:=4) j6.nd rfl (Or.inr rfl) (ak G_words_in_order (hr.mono (by omega)) (by rfl) T.gX T.gF T.gK .nil ay (aa (pv 0) (aa (pv 2) af))))
   (ah (bn (be K rfl (aK (xP K rfl rfl) (by rfl) T.Gu (by kernel_rfl) (aa (bR (N:=(["word","no_words"] : List Str)) (src:=[none,some 4]) rfl (by show c0 _ (defScope jp) _ _ (["places","yes","no","yes_words","no_words"] : List Str) = true;decide +kernel) (by intro g' h;cases h) (cz K rfl (pv 3)) (fun _ _ _ _ _ _=>(aW (i:=0) (show (["word","no_words"] : List Str).Nodup by decide +kernel) rfl (Or.inl rfl))) (fun _ _ _ _ _ _=>cu) (fun _ _ _ _ _ _=>(bS rfl rfl (fc (u9 hr.IC) (pv 0) (pv 1) (by with_unfolding_all rfl))))) af)) (fun _=>rfl)) (am bQ) aX)
   (am (aR (a9 (aa (a8 fH (by rfl) T.jO (by kernel_rfl) (aa (pv 0) af)) (aa (pv 3) (aa (pv 4) af)))))))))),(av (ca (eF (dC (ar (ac ae ag)))) ck bc)
   (av (aF (ar (ac ae (ac ae ag))) ap)
   (av (aF (ar (ac ae (ac ae ag))) ap)
   (av (ca (dC (bx lS (ac (cK (dP ae) ap jK (cB (ax Ae ae ae))) ag))) ck bc)
   (bd (bw (ac (bx pz (ac ae ag)) (ac ae (ac ae ag))))))))),fun xs Z Q h=>?_⟩)
 obtain⟨n,x,y,ys,zs,rfl,hx,hy,hn1,hn,hys,hzs,hy0,hz0,hd,k⟩:=h;have hyl:=hys.le hn;have hzl:=hzs.le hn;have hsy:=kG ys;have hsz:=kG zs;walk_at "s1";refine⟨n,rfl,hn1,hn,true,rfl,?_⟩;rw[if_neg (by decide)]
 walk_at "s1";refine⟨n,x,ys,rfl,hx,hn1,hn,hys,hy0,?_⟩;walk_at "s1";refine⟨n,y,zs,rfl,hy,hn1,hn,hzs,hz0,?_⟩;walk_at "s1";refine cw (rs:=((fZ ys).map fun _=>false).map D.bl) (by simp) (Nat.le_of_lt (aS (by simp;omega))) (fun j a r h1 h2 Q q=>?_) (fun ρ=>⟨_,bF _,_,rfl,?_⟩)
 ·simp only[List.map_map,List.getElem?_map,Option.map_eq_some_iff] at h1 h2
  obtain⟨v,hv,rfl⟩:=h1;obtain⟨_,_,rfl⟩:=h2;simp only[Function.comp_apply] at q ⊢;walk_at "a1";refine⟨by have:=fj (fZ zs);omega,?_⟩
  rw[qf,decide_eq_false fun h=>hd v (rK.mp (List.mem_of_getElem? hv)) (rK.mp h)];exact q
 rw[if_neg (by simp),aN]
 exact k
theorem B7(v:List Int):sgn (tx (btx v))=v.map fun b=>D.str (tx [48+b.toNat]):=by simp[sgn,tx,btx]
noncomputable def HF:ASp:=fun xs Z Q=>∃v:List Int,xs=[.d (.str (tx (btx v)))]/\(∀b∈v,b=0\/b=1)/\v.length<=100/\Q (.d (wdD v)) Z
theorem Dk(T:Txt K mg t):aD P w K mg base CX0 1 t.cY t.iQ ["text"] (bz HF):=by
 refine T.sP.okD rg (fun xs Z Q h=>by obtain ⟨v,rfl,_⟩:=h;rfl) (fun cdv A outer s H E hr=>⟨_,_,(ah (bn (cU (be K rfl (aK (eU K rfl rfl) (by rfl) T.oH (by kernel_rfl) (aa (bR (N:=(["sign"] : List Str)) (src:=[none]) rfl (by show c0 _ (defScope fi) _ _ (["text"] : List Str) = true;decide +kernel) (by intro g' h;cases h) (A9 (pv 0)) (fun _ _ _ _ _ _=>(aW (i:=0) (show (["sign"] : List Str).Nodup by decide +kernel) rfl (Or.inl rfl))) (fun _ _ _ _ _ _=>cu) (fun _ _ _ _ _ _=>(bS rfl rfl (fc (E9 K rfl hr.IC) (pv 0) (c8 (v:=.ref t.cD) rfl T.mf rfl) (by with_unfolding_all rfl))))) af)) (fun _=>rfl))) (am bQ) aX)
   (am (aR (a8 (bj K rfl) (by rfl) T.cV (by kernel_rfl) (aa (bR (N:=(["sign"]:List Str)) (src:=[none]) rfl (by show c0 _ (defScope fi) _ _ (["text"]:List Str)=true;decide +kernel) (by intro g' h;cases h) (A9 (pv 0)) (fun _ _ _ _ _ _=>(aW (i:=0) (show (["sign"]:List Str).Nodup by decide +kernel) rfl (Or.inl rfl))) (fun _ _ _ _ _ _=>cu) (fun _ _ _ _ _ _=>(bS rfl rfl (a8 lh (by rfl) T.jO (by kernel_rfl) (aa (pv 0) af))))) af))))),(av (ca (eF (dC (bx lS (ac (cK (Ek ae) ap jK (cB (ax zB ae f6))) ag)))) ck bc)
   (bd (bx eg (ac (cK (Ek ae) ap jK (cB (bx vw (ac ae ag)))) ag)))),fun xs Z Q h=>?_⟩)
 obtain⟨v,rfl,hb,hl,k⟩:=h;walk_at "s1";rw[B7];refine cw (rs:=(List.replicate v.length true).map D.bl) (by simp) (Nat.le_of_lt (aS (by simp;omega))) (fun j a r h1 h2 Q q=>?_) (fun ρ=>⟨_,bF _,_,rfl,?_⟩)
 ·simp only[List.getElem?_map,Option.map_eq_some_iff] at h1
  obtain⟨_,⟨b,hj,rfl⟩,rfl⟩:=h1;have hjl:=(List.getElem?_eq_some_iff.mp hj).1;obtain rfl:r=D.bl true:=by simp[hjl] at h2;exact h2.symm
  have hbb:=hb b (List.mem_of_getElem? hj);walk_at "a1";refine⟨_,.inl ⟨_,rfl,T.lX⟩,?_⟩;rw[decide_eq_true (A8 ⟨b.toNat,by omega⟩)]
  exact q
 rw[show (List.replicate v.length true).all id=true from by simp]
 walk_at "a1";refine cw (rs:=v.map D.int) (by simp) (Nat.le_of_lt (aS (by simp;omega))) (fun j a r h1 h2 Q q=>?_) (fun ρ=>⟨_,bF _,?_⟩)
 ·simp only[List.getElem?_map,Option.map_eq_some_iff] at h1 h2
  obtain⟨_,⟨b,hj,rfl⟩,rfl⟩:=h1;obtain⟨b',hj',rfl⟩:=h2;rw[hj] at hj';cases hj';have hbb:=hb b (List.mem_of_getElem? hj);have e:=qZ ⟨b.toNat,by omega⟩
  simp only at e;rw[show ((b.toNat:Nat):Int)=b from by omega] at e
  walk_at "a1";exact⟨_,e,by rw[aA];simp,q⟩
 rw[aN];exact k
noncomputable def E6:ASp:=fun xs Z Q=>∃(n:Nat)(v:List Int),xs=[.d (wdD v)]/\1<=n/\n<=5/\v.length=2^n/\(∀b∈v,b=0\/b=1)/\Q (.d (.bl true)) Z
theorem Fz:∀n:Fin 5,((2^(n.val+1):Nat):Int)∈[(2:Int),4,8,16,32]:=by decide +kernel
theorem Fm(T:Txt K mg t):aD P w K mg base CX0 3 t.dE t.kg ["thing"] (bz E6):=by
 have G_is_bit:aD P w K mg base _ _ _ _ _ _:=Bt T
 refine T.uE.okD tJ (fun xs Z Q h=>by obtain ⟨n,v,rfl,_⟩:=h;rfl) (fun cdv A outer s H E hr=>⟨_,_,(ah (bn (PW.pt (pe (cU (be K rfl (aK iR (by rfl) T.dh (by kernel_rfl) (aa (pv 0) (aa (im (v:=.ty "tuple") (by rfl) T.cV (by kernel_rfl) (by rfl)) af))) (fun _=>rfl))) (oB (aL (xT T.oY hr.IC) (aK (bH K rfl) (by rfl) T.fy (by kernel_rfl) (aa (pv 0) af)) (c8 (v:=.ref t.cm) rfl T.oK rfl) (by with_unfolding_all rfl))))) (am (aR kQ)) aX)
   (am (aR (aK (eU K rfl rfl) (by rfl) T.oH (by kernel_rfl) (aa (bR (N:=(["bit"]:List Str)) (src:=[none]) rfl (by show c0 _ (defScope ix) _ _ (["thing"]:List Str)=true;decide +kernel) (by intro g' h;cases h) (cz K rfl (pv 0)) (fun _ _ _ _ _ _=>(aW (i:=0) (show (["bit"]:List Str).Nodup by decide +kernel) rfl (Or.inl rfl))) (fun _ _ _ _ _ _=>cu) (fun _ _ _ _ _ _=>(bS rfl rfl (ak G_is_bit (hr.mono (by omega)) (by rfl) T.rH T.t8 T.uf .nil ay (aa (pv 0) af))))) af))))),(av (ca (yk (eF (dC (bx tM (ac ae (ac f6 ag))))) (aY (ax Ad (bx gk (ac ae ag)) f6))) (bd qD) bc)
   (bd (bx lS (ac (cK (dP ae) ap jK (cB (ar (ac ae ag)))) ag)))),fun xs Z Q h=>?_⟩)
 obtain⟨n,v,rfl,h1,h5,hv,hb,k⟩:=h;simp only[wdD];walk_at "s1";refine⟨by decide,?_⟩
 rw[if_neg (by simp[isD,tyD])]
 have hin:=Fz ⟨n-1,by omega⟩
 simp only[show n-1+1=n by omega] at hin
 rw[hv];refine⟨_,rfl,rfl,_,rfl,?_⟩;rw[if_neg (by rw[decide_eq_true hin];decide)]
 have h32:2^n<=32:=Nat.pow_le_pow_right (by decide) h5
 refine cw (rs:=(List.replicate v.length true).map D.bl) (by simp) (Nat.le_of_lt (aS (by simp;omega))) (fun j a r h1 h2 Q q=>?_) (fun ρ=>⟨_,bF _,_,rfl,?_⟩)
 ·simp only[List.getElem?_map,Option.map_eq_some_iff] at h1
  obtain⟨_,⟨b,hj,rfl⟩,rfl⟩:=h1;have hjl:=(List.getElem?_eq_some_iff.mp hj).1;obtain rfl:r=D.bl true:=by simp[hjl] at h2;exact h2.symm
  walk_at "a1";exact⟨b,rfl,hb b (List.mem_of_getElem? hj),q⟩
 rw[aN,show (List.replicate v.length true).all id=true from by simp]
 exact k
noncomputable def xF:ASp:=fun xs Z Q=>∃(n:Nat)(v:List Int),xs=[.d (.str (tx (btx v)))]/\1<=n/\n<=5/\v.length=2^n/\(∀b∈v,b=0\/b=1)/\Q (.d (wdD v)) Z
theorem B9(T:Txt K mg t):aD P w K mg base CX0 4 t.bV t.ig ["text"] (bz xF):=by
 have G_must_be_text:aD P w K mg base _ _ _ _ _ _:=qX T;have G_read_bits:aD P w K mg base _ _ _ _ _ _:=Dk T;have G_is_table:aD P w K mg base _ _ _ _ _ _:=Fm T
 refine T.kX.okD jR (fun xs Z Q h=>by obtain ⟨n,v,rfl,_⟩:=h;rfl) (fun cdv A outer s H E hr=>⟨_,_,(ah (cj (ak G_must_be_text (hr.mono (by omega)) (by rfl) T.d6 T.eu T.d9 .nil ay (aa (pv 0) af)))
   (ah (az (i:=1) jR.nd rfl (Or.inl rfl) (ak G_read_bits (hr.mono (by omega)) (by rfl) T.l8 T.lZ T.lK .nil ay (aa (pv 0) af)))
   (ah (bn (cU (be K rfl (ak G_is_table (hr.mono (by omega)) (by rfl) T.vp T.ve T.vz .nil ay (aa (pv 1) af)) (fun _=>rfl))) (am bQ) aX)
   (am (aR (pv 1)))))),(av (c7 (ar (ac ae ag)))
   (av (aF (ar (ac ae ag)) ap)
   (av (ca (eF (dC (ar (ac ae ag)))) ck bc)
   (bd ae)))),fun xs Z Q h=>?_⟩)
 obtain⟨n,v,rfl,h1,h5,hv,hb,k⟩:=h;have h32:2^n<=32:=Nat.pow_le_pow_right (by decide) h5
 walk_at "s1";refine⟨_,rfl,?_⟩;walk_at "s1";refine⟨v,rfl,hb,by omega,?_⟩
 walk_at "s1";refine⟨n,v,rfl,h1,h5,hv,hb,_,rfl,?_⟩;rw[if_neg (by decide),aN]
 exact k
noncomputable def Hb:ASp:=fun xs Z Q=>∃(n:Nat) (ws:List (List Int)),xs=[.d (.str (tx (jn [44] (ws.map btx))))]/\1<=n/\n<=5/\ws.Sublist (wl n)/\ws≠[]/\Q (.d (.tup (ws.map wdD))) Z
theorem nW(c:Nat)(n:Nat):∀ls:List (List Nat),(∀l∈ls,l.length=n)->(jn [c] ls).length<=ls.length*(n+1)
 | [],_=>by simp[jn]
 | [a],h=>by simp[jn,h a (by simp)]
 |a::b::ls,h=>by
  have:=nW c n (b::ls) (fun l hl=>h l (List.mem_cons_of_mem _ hl));have ha:=h a (by simp)
  have e:(a::b::ls).length*(n+1)=(b::ls).length*(n+1)+(n+1):=by rw[List.length_cons (a:=a),Nat.succ_mul]
  rw[jn,List.length_append,List.length_append,ha,e];simp only[List.length_singleton];omega
theorem Bw(c:Nat)(hc:c<48){v:List Int}:c ∉ btx v:=fun h=>by
 simp only[btx,List.mem_map] at h;obtain⟨b,_,e⟩:=h;omega
theorem zj:∀n:Fin 6,Ris (wl n.val):=by unfold Ris;decide +kernel
theorem Gs(T:Txt K mg t):aD P w K mg base CX0 3 t.cH t.hJ ["text"] (bz Hb):=by
 have G_read_bits:aD P w K mg base _ _ _ _ _ _:=Dk T;have G_are_places:aD P w K mg base _ _ _ _ _ _:=qh T;have G_is_rising:aD P w K mg base _ _ _ _ _ _:=CY T
 refine T.qO.okD gl (fun xs Z Q h=>by obtain ⟨n,ws,rfl,_⟩:=h;rfl) (fun cdv A outer s H E hr=>⟨_,_,(ah (az (i:=1) gl.nd rfl (Or.inl rfl) (a8 (bj K rfl) (by rfl) T.cV (by kernel_rfl) (aa (bR (N:=(["part"] : List Str)) (src:=[none]) rfl (by show c0 _ (defScope eB) _ _ (["text","words","places"] : List Str) = true;decide +kernel) (by intro g' h;cases h) (cz K rfl (fx PySem.F.plainAttrs_str PySem.F.slot_str_split PySem.F.type_str_split ua (pv 0) (ao aH af))) (fun _ _ _ _ _ _=>(aW (i:=0) (show (["part"] : List Str).Nodup by decide +kernel) rfl (Or.inl rfl))) (fun _ _ _ _ _ _=>cu) (fun _ _ _ _ _ _=>(bS rfl rfl (ak G_read_bits (hr.mono (by omega)) (by rfl) T.l8 T.lZ T.lK .nil ay (aa (pv 0) af))))) af)))
   (ah (az (i:=2) gl.nd rfl (Or.inr rfl) (aK (bH K rfl) (by rfl) T.fy (by kernel_rfl) (aa (bh (aJ K rfl) (pv 1) aj (fun _ _=>rfl)) af)))
   (ah (bn (PW.pt (pe (cU (be K rfl (ak G_are_places (hr.mono (by omega)) (by rfl) T.ir T.hE T.g9 .nil ay (aa (pv 2) af)) (fun _=>rfl))) (pe (cU (be K rfl (aK (eU K rfl rfl) (by rfl) T.oH (by kernel_rfl) (aa (bR (N:=(["word","places"] : List Str)) (src:=[none,some 2]) rfl (by show c0 _ (defScope eB) _ _ (["text","words","places"] : List Str) = true;decide +kernel) (by intro g' h;cases h) (cz K rfl (pv 1)) (fun _ _ _ _ _ _=>(aW (i:=0) (show (["word","places"] : List Str).Nodup by decide +kernel) rfl (Or.inl rfl))) (fun _ _ _ _ _ _=>cu) (fun _ _ _ _ _ _=>(bS rfl rfl (fc (bA hr.IC) (aK (bH K rfl) (by rfl) T.fy (by kernel_rfl) (aa (pv 0) af)) (pv 1) (a7 _))))) af)) (fun _=>rfl))) (oB (cU (be K rfl (ak G_is_rising (hr.mono (by omega)) (by rfl) T.lV T.lT T.mm .nil ay (aa (pv 1) af)) (fun _=>rfl))))))) (am bQ) aX)
   (am (aR (pv 1)))))),(av (aF (bx eg (ac (cK (dP (vQ ae (ac aZ ag))) ap jK (cB (ar (ac ae ag)))) ag)) ap)
   (av (aF (bx gk (ac (ax ce ae aq) ag)) ap)
   (av (ca (yk (eF (dC (ar (ac ae ag)))) (yk (eF (dC (bx lS (ac (cK (dP ae) ap jK (cB (ax bU (bx gk (ac ae ag)) ae))) ag)))) (eF (dC (ar (ac ae ag)))))) ck bc)
   (bd ae)))),fun xs Z Q h=>?_⟩)
 obtain⟨n,ws,rfl,h1,h5,hs,hw,k⟩:=h;have hwd:=Wds.sub hs h5;have hlw:=hwd.le h5
 have hbl:∀l∈ws.map btx,l.length=n:=fun l hl=>by
  obtain⟨v,hv,rfl⟩:=List.mem_map.mp hl;simp[btx,(cc (hwd.2 v hv)).1]
 have hjl:(jn [44] (ws.map btx)).length<=1000:=by
  have h:=nW 44 n (ws.map btx) hbl;rw[List.length_map] at h;have:ws.length*(n+1)<=32*6:=Nat.mul_le_mul hlw (by omega)
  omega
 walk_at "s1";refine⟨_,rfl,44,by decide +kernel,by decide,hjl,?_⟩
 rw[xw 44 (by simpa using hw) (fun l hl=>by obtain⟨v,hv,rfl⟩:=List.mem_map.mp hl;exact Bw 44 (by decide)),List.map_map]
 refine cw (rs:=ws.map wdD) (by simp) (Nat.le_of_lt (aS (by simp;omega))) (fun j a r h1 h2 Q q=>?_) (fun ρ=>⟨_,bF _,?_⟩)
 ·simp only[List.getElem?_map,Option.map_eq_some_iff] at h1 h2
  obtain⟨_,⟨v,hj,rfl⟩,rfl⟩:=h1;obtain⟨v',hj',rfl⟩:=h2;rw[hj] at hj';cases hj';obtain⟨vl,vb⟩:=cc (hwd.2 v (List.mem_of_getElem? hj));walk_at "a1";exact⟨v,rfl,vb,by omega,q⟩
 obtain⟨v,vs,rfl⟩:=List.exists_cons_of_ne_nil hw;have hvl:=(cc (hwd.2 v (List.mem_cons_self ..))).1;simp only[List.map_cons];walk_at "s1";rw[hvl];obtain⟨ds,hds⟩:∃ds,ds=(v::vs).map wdD:=⟨_,rfl⟩;have hdl:ds.length=(v::vs).length:=by rw[hds,List.length_map]
 rw[show D.tup (wdD v::List.map wdD vs)=D.tup ds from by rw[hds];rfl]
 walk_at "s1";refine⟨n,rfl,h1,h5,_,rfl,?_⟩;rw[if_neg (by decide)]
 refine cw (rs:=(List.replicate ds.length true).map D.bl) (by simp) (Nat.le_of_lt (aS (by rw[List.length_map];omega))) (fun j a r h1 h2 Q q=>?_) (fun ρ=>⟨_,bF _,_,rfl,?_⟩)
 ·have hj:=(List.getElem?_eq_some_iff.mp h1).1
  rw[List.length_map] at hj;obtain rfl:r=D.bl true:=by rw[List.getElem?_map,List.getElem?_replicate,if_pos hj] at h2;exact(Option.some.inj h2).symm
  rw[hds] at h1;simp only[List.getElem?_map,Option.map_eq_some_iff] at h1;obtain⟨_,⟨u,hu,rfl⟩,rfl⟩:=h1;have hul:=(cc (hwd.2 u (List.mem_of_getElem? hu))).1;walk_at "a1";rw[hul];simpa using q
 rw[show (List.replicate ds.length true).all id=true from by simp,if_neg (by decide)]
 refine⟨v::vs,by rw[hds],(zj ⟨n,by omega⟩).sublist hs,hwd.1,hlw,_,rfl,?_⟩
 rw[if_neg (by decide),aN,hds]
 exact k
noncomputable def DL:ASp:=fun xs Z Q=>∃(n:Nat) (ys zs:List (List Int)),xs=[.d (.str (tx (jn [44] (ys.map btx)++[32]++jn [44] (zs.map btx))))]/\1<=n/\n<=5/\ys.Sublist (wl n)/\zs.Sublist (wl n)/\ys≠[]/\zs≠[]/\(∀v∈ys,v ∉ zs)/\Q (.d (csD n ys zs)) Z
theorem D6(c d:Nat)(hcd:c≠d):∀ls:List (List Nat),(∀l∈ls,c ∉ l)->c ∉ jn [d] ls
 | [],_=>by simp[jn]
 | [a],h=>by simpa[jn] using h a (by simp)
 |a::b::ls,h=>by
  have ih:=D6 c d hcd (b::ls) (fun l hl=>h l (List.mem_cons_of_mem _ hl));have ha:=h a (by simp)
  simp[jn,ha,ih,hcd]
theorem GW(T:Txt K mg t):aD P w K mg base CX0 6 t.ci t.i6 ["text"] (bz DL):=by
 have G_must_be_text:aD P w K mg base _ _ _ _ _ _:=qX T;have G_read_words:aD P w K mg base _ _ _ _ _ _:=Gs T;have G_case_of:aD P w K mg base _ _ _ _ _ _:=x6 T
 refine T.l5.okD fC (fun xs Z Q h=>by obtain ⟨n,ys,zs,rfl,_⟩:=h;rfl) (fun cdv A outer s H E hr=>⟨_,_,(ah (cj (ak G_must_be_text (hr.mono (by omega)) (by rfl) T.d6 T.eu T.d9 .nil ay (aa (pv 0) af)))
   (ah (az (i:=1) fC.nd rfl (Or.inl rfl) (fx PySem.F.plainAttrs_str PySem.F.slot_str_split PySem.F.type_str_split ua (pv 0) (ao aH af)))
   (ah (bn (aL (uH hr.IC) (aK (bH K rfl) (by rfl) T.fy (by kernel_rfl) (aa (pv 1) af)) aj (a7 _)) (am bQ) aX)
   (ah (az (i:=2) fC.nd rfl (Or.inl rfl) (ak G_read_words (hr.mono (by omega)) (by rfl) T.kI T.kx T.kA .nil ay (aa (bh (aJ K rfl) (pv 1) aj (fun _ _=>rfl)) af)))
   (ah (az (i:=3) fC.nd rfl (Or.inl rfl) (ak G_read_words (hr.mono (by omega)) (by rfl) T.kI T.kx T.kA .nil ay (aa (bh (aJ K rfl) (pv 1) aj (fun _ _=>rfl)) af)))
   (am (Cf (fun _ _ h=>h) (aR (ak G_case_of (hr.mono (by omega)) (by rfl) T.yv T.yg T.yf .nil ay (aa (aK (bH K rfl) (by rfl) T.fy (by kernel_rfl) (aa (bh (aJ K rfl) (pv 2) aj (fun _ _=>rfl)) af)) (aa (pv 2) (aa (pv 3) af)))))))))))),(av (c7 (ar (ac ae ag)))
   (av (aF (vQ ae (ac aZ ag)) ap)
   (av (ca (aY (ax bU (bx gk (ac ae ag)) aq)) ck bc)
   (av (aF (ar (ac (ax ce ae aq) ag)) ap)
   (av (aF (ar (ac (ax ce ae aq) ag)) ap)
   (bd (ar (ac (bx gk (ac (ax ce ae aq) ag)) (ac ae (ac ae ag)))))))))),fun xs Z Q h=>?_⟩)
 obtain⟨n,ys,zs,rfl,h1,h5,hy,hz,hy1,hz1,hdj,k⟩:=h;have hyw:=Wds.sub hy h5;have hzw:=Wds.sub hz h5
 have nl:∀ws:List (List Int),Wds n ws->(jn [44] (ws.map btx)).length<=192:=fun ws hw=>by
  have h:=nW 44 n (ws.map btx) (fun l hl=>by
   obtain⟨v,hv,rfl⟩:=List.mem_map.mp hl
   simp[btx,(cc (hw.2 v hv)).1])
  rw[List.length_map] at h;have:ws.length*(n+1)<=32*6:=Nat.mul_le_mul (hw.le h5) (by omega)
  omega
 have ly:=nl ys hyw;have lz:=nl zs hzw;have no32:∀ws:List (List Int),32 ∉ jn [44] (ws.map btx):=fun ws=>D6 32 44 (by decide) _ (fun l hl=>by obtain⟨v,_,rfl⟩:=List.mem_map.mp hl;exact Bw 32 (by decide))
 have hsp:i5 32 (jn [44] (ys.map btx)++[32]++jn [44] (zs.map btx))=[jn [44] (ys.map btx),jn [44] (zs.map btx)]:=by
  have:=xw 32 (ls:=[jn [44] (ys.map btx),jn [44] (zs.map btx)]) (by simp) (fun l hl=>by
   simp only[List.mem_cons,List.not_mem_nil,or_false] at hl;rcases hl with rfl|rfl
   ·exact no32 ys
   ·exact no32 zs)
  simpa[jn] using this
 walk_at "s1";refine⟨_,rfl,?_⟩;walk_at "s1";refine⟨_,rfl,32,by decide +kernel,by decide,by simp;omega,?_⟩
 rw[hsp];simp only[List.map_cons,List.map_nil];walk_at "s1";rw[if_neg (by decide)]
 walk_at "s1";refine⟨n,ys,rfl,h1,h5,hy,hy1,?_⟩;walk_at "s1";refine⟨n,zs,rfl,h1,h5,hz,hz1,?_⟩;have sy:fZ ys=ys:=vA (List.Perm.refl _) ((zj ⟨n,by omega⟩).sublist hy)
 have sz:fZ zs=zs:=vA (List.Perm.refl _) ((zj ⟨n,by omega⟩).sublist hz)
 obtain⟨v,vs,rfl⟩:=List.exists_cons_of_ne_nil hy1;have hvl:=(cc (hyw.2 v (List.mem_cons_self ..))).1;simp only[List.map_cons];walk_at "a1";rw[hvl];refine⟨n,_,_,v::vs,zs,rfl,.inl rfl,.inl rfl,h1,h5,hyw,hzw,hy1,hz1,hdj,?_⟩;rw[sy,sz];refine⟨_,rfl,?_⟩;rw[aN];exact k
theorem mO:∀i:Fin 10,Str.ofString (toString (i.val:Int))=tx [48+i.val]:=by decide +kernel
noncomputable def uZ(r:Nat):ASp:=fun xs Z Q=>∃(n:Nat)(x:Sy),xs=[.d x.d]/\n<=5/\x.ok n/\x.dp<=r/\r<=15/\(stx x).length<=10000/\Q (.d (.str (tx (stx x)))) Z
theorem sQ(T:Txt K mg t)(r:Nat)(kk:Nat)(sp:ASp)(G_l_saying_text:aD P w K mg base CX0 kk t.bt t.cN ["_law_saying_here"] (bz sp))(hs:∀r',r=r'+1->sp=uZ r'):aD P w K mg base CX0 (kk+1) t.bt t.cN ["_law_saying_here"] (bz (uZ r)):=by
 refine T.mn.okD gR (fun xs Z Q h=>by obtain ⟨n,x,rfl,_⟩:=h;rfl) (fun cdv A outer s H E hr=>⟨_,_,(ah (bn (aL (bA hr.IC) (bh (aJ K rfl) (pv 0) aj (fun _ _=>rfl)) aH (a7 _)) (am (aR (aE bE (aE CI aH (aE dH aj (bh (aJ K rfl) (pv 0) aj (fun _ _=>rfl)))) (a8 fF (by rfl) T.r8 (by kernel_rfl) (aa (bh (aJ K rfl) (pv 0) aj (fun _ _=>rfl)) af))))) aX)
   (ah (az (i:=1) gR.nd rfl (Or.inl rfl) (bh (aJ K rfl) aH (a8 fH (by rfl) T.jO (by kernel_rfl) (aa (fc (bA hr.IC) (bh (aJ K rfl) (pv 0) aj (fun _ _=>rfl)) aH (a7 _)) af)) (fun _ _=>rfl)))
   (am (aR (aE bE (aE bE (aE bE (aE bE aH (ak G_l_saying_text (hr.mono (by omega)) (by rfl) T.ft T.fu T.fq .nil ay (aa (bh (aJ K rfl) (pv 0) aj (fun _ _=>rfl)) af))) (pv 1)) (ak G_l_saying_text (hr.mono (by omega)) (by rfl) T.ft T.fu T.fq .nil ay (aa (bh (aJ K rfl) (pv 0) aj (fun _ _=>rfl)) af))) aH))))),(av (ca (aY (ax bU (ax ce ae aq) aZ)) (bd (ax eh (ax EO aZ (ax dS aq (ax ce ae aq))) (bx qC (ac (ax ce ae aq) ag)))) bc)
   (av (aF (ax D0 aZ (bx pz (ac (ax bU (ax ce ae aq) aZ) ag))) ap)
   (bd (ax eh (ax eh (ax eh (ax eh aZ (ar (ac (ax ce ae aq) ag))) ae) (ar (ac (ax ce ae aq) ag))) aZ)))),fun xs Z Q h=>?_⟩)
 obtain⟨n,x,rfl,hn,hx,hd,hr15,hl,k⟩:=h
 cases x with
 |is i b=>
  obtain⟨i0,i1,hb⟩:=hx;obtain⟨i,rfl⟩:=Int.eq_ofNat_of_zero_le i0;simp only[Sy.d];walk_at "s1";have e1:=mO ⟨i,by omega⟩
  simp only at e1
  have e2:(if 1-b=1 then Str.ofString "!" else Str.empty)=tx (if b=1 then [] else [33]):=by
   rcases hb with rfl|rfl
   ·decide +kernel
   ·decide +kernel
  rw[e1,e2,cf,aN,aA,aA];refine⟨by omega,by omega,by decide +kernel,?_,?_,k⟩
  ·have:((i:Int)).natAbs=i:=by omega
   rw[this];exact Nat.lt_of_le_of_lt (Nat.log2_le_self i) (by omega)
  ·exact Nat.le_trans (m:=10) (by split<;>simp) (by decide)
 |jn a l rr=>
  simp only[Sy.dp] at hd;obtain⟨r',rfl⟩:∃r',r=r'+1:=⟨r-1,by omega⟩
  cases hs r' rfl;simp only[stx,List.length_append,List.length_singleton] at hl;have ep:Str.ofString "("=tx [40]:=by decide +kernel
  have eq:Str.ofString ")"=tx [41]:=by decide +kernel
  cases a
  ·simp only[Sy.d,if_false,Bool.false_eq_true]
   walk_at "s1";walk_at "s1";refine⟨by decide +kernel,124,by decide +kernel,n,l,rfl,hn,hx.1,by omega,by omega,by omega,_,rfl,?_⟩
   rw[ep,cf,cf];refine⟨by rw[aA,aA];exact bD (by simp;omega),by rw[aA,aA];exact bD (by simp;omega),n,rr,rfl,hn,hx.2,by omega,by omega,by omega,_,rfl,?_⟩
   rw[eq,cf,cf];refine⟨by rw[aA,aA];exact bD (by simp;omega),by rw[aA,aA];exact bD (by simp;omega),?_⟩
   rw[aN];exact k
  ·simp only[Sy.d,if_true]
   walk_at "s1";walk_at "s1";refine⟨by decide +kernel,38,by decide +kernel,n,l,rfl,hn,hx.1,by omega,by omega,by omega,_,rfl,?_⟩
   rw[ep,cf,cf];refine⟨by rw[aA,aA];exact bD (by simp;omega),by rw[aA,aA];exact bD (by simp;omega),n,rr,rfl,hn,hx.2,by omega,by omega,by omega,_,rfl,?_⟩
   rw[eq,cf,cf];refine⟨by rw[aA,aA];exact bD (by simp;omega),by rw[aA,aA];exact bD (by simp;omega),?_⟩
   rw[aN];exact k
theorem BD(T:Txt K mg t):∀r,aD P w K mg base CX0 (r+1) t.bt t.cN ["_law_saying_here"] (bz (uZ r))
 |0=>sQ T 0 0 uM pI (fun r' h=>by omega)
 |r+1=>sQ T (r+1) (r+1) _ (BD T r) (fun r' h=>by cases h;rfl)
theorem vk:∀v:List Int,jn [] (v.map fun b=>[48+b.toNat])=btx v
 | []=>rfl
 | [a]=>rfl
 |a::b::v=>by
  have:=vk (b::v);simp only[List.map_cons] at this ⊢;rw[jn,this];simp[btx]
noncomputable def Fj:ASp:=fun xs Z Q=>∃(n:Nat) (ws:List (List Int)),xs=[.d (.tup (ws.map wdD))]/\n<=5/\Wds n ws/\Q (.d (.str (tx (wtx ws)))) Z
theorem At(T:Txt K mg t):aD P w K mg base CX0 1 t.bZ t.fV ["_law_words"] (bz Fj):=by
 refine T.oy.okD mr (fun xs Z Q h=>by obtain ⟨n,ws,rfl,_⟩:=h;rfl) (fun cdv A outer s H E hr=>⟨_,_,(ah (bn (aL (bA hr.IC) (aK (bH K rfl) (by rfl) T.fy (by kernel_rfl) (aa (pv 0) af)) aj (a7 _)) (am (aR aH)) aX)
   (am (aR (fx PySem.F.plainAttrs_str PySem.F.slot_str_join PySem.F.type_str_join (nB K rfl) aH (aa (bR (N:=(["_law_word"]:List Str)) (src:=[none]) rfl (by show c0 _ (defScope ee) _ _ (["_law_words"]:List Str)=true;decide +kernel) (by intro g' h;cases h) (cz K rfl (pv 0)) (fun _ _ _ _ _ _=>(aW (i:=0) (show (["_law_word"]:List Str).Nodup by decide +kernel) rfl (Or.inl rfl))) (fun _ _ _ _ _ _=>cu) (fun _ _ _ _ _ _=>(bS rfl rfl (by refine fx PySem.F.plainAttrs_str PySem.F.slot_str_join PySem.F.type_str_join (nB K rfl) aH ?_;exact(aa (bR (N:=(["_law_bit"]:List Str)) (src:=[none]) rfl (by with_unfolding_all rfl) (by intro g' h;cases h) (cz K rfl (pv 0)) (fun _ _ _ _ _ _=>(aW (i:=0) (show (["_law_bit"]:List Str).Nodup by decide +kernel) rfl (Or.inl rfl))) (fun _ _ _ _ _ _=>cu) (fun _ _ _ _ _ _=>(bS rfl rfl (a8 fF (by rfl) T.r8 (by kernel_rfl) (aa (pv 0) af))))) af))))) af))))),(av (ca (aY (ax bU (bx gk (ac ae ag)) aq)) (bd aZ) bc)
   (bd (vm aZ (ac (cK (dP ae) ap jK (cB (vm aZ (ac (cK (dP ae) ap jK (cB (bx qC (ac ae ag)))) ag)))) ag)))),fun xs Z Q h=>?_⟩)
 obtain⟨n,ws,rfl,hn,hw,k⟩:=h;have hwl:=hw.le hn;walk_at "s1";by_cases h0:ws=[]
 ·subst h0
  rw[if_pos (by simp),aN,show Str.ofString "-"=tx (wtx []) from by decide +kernel]
  exact k
 rw[if_neg (by have:=List.length_pos_iff.mpr h0;omega)]
 refine cw (rs:=(ws.map fun v=>tx (btx v)).map D.str) (by simp) (Nat.le_of_lt (aS (by simp;omega))) (fun j a r h1 h2 Q q=>?_) (fun ρ=>⟨_,bF _,_,rfl,?_,?_⟩)
 ·simp only[List.getElem?_map,Option.map_eq_some_iff] at h1 h2
  obtain⟨_,⟨v,hj,rfl⟩,rfl⟩:=h1;obtain⟨_,⟨v',hj',rfl⟩,rfl⟩:=h2;rw[hj] at hj';cases hj';obtain⟨vl,vb⟩:=cc (hw.2 v (List.mem_of_getElem? hj));simp only[wdD];walk_at "a1";refine cw (rs:=((v.map fun b=>[48+b.toNat]).map tx).map D.str) (by simp) (Nat.le_of_lt (aS (by simp;omega))) (fun j a r h1 h2 Q q=>?_) (fun ρ=>⟨_,bF _,_,rfl,?_,?_⟩)
  ·simp only[List.getElem?_map,Option.map_eq_some_iff] at h1 h2
   obtain⟨_,⟨b,hj,rfl⟩,rfl⟩:=h1;obtain⟨_,⟨_,⟨b',hj',rfl⟩,rfl⟩,rfl⟩:=h2;rw[hj] at hj';cases hj';have hb:=vb b (List.mem_of_getElem? hj);have e1:=mO ⟨b.toNat,by omega⟩
   simp only at e1;rw[show ((b.toNat:Nat):Int)=b from by omega] at e1
   walk_at "a1";rw[e1];exact⟨Nat.lt_of_le_of_lt (Nat.log2_le_self _) (by omega),q⟩
  ·exact lB 10 (fun y hy=>by
    obtain⟨z,hz,rfl⟩:=List.mem_map.mp hy;obtain⟨b,_,rfl⟩:=List.mem_map.mp hz;rw[aA,show (Str.ofString "").length=0 from by decide +kernel]
    simp) (by simp;omega)
  ·rw[show Str.ofString ""=tx [] from by decide +kernel,mH,vk]
   exact q
 ·exact lB 10 (fun y hy=>by
   obtain⟨v,hv,rfl⟩:=List.mem_map.mp hy;have:=(cc (hw.2 v hv)).1;rw[aA,show (Str.ofString ",").length=1 from by decide +kernel]
   simp[btx]
   omega) (by simp;omega)
 ·rw[show Str.ofString ","=tx [44] from by decide +kernel,show (ws.map fun v=>tx (btx v))=(ws.map btx).map tx from by simp,mH,aN]
  simp only[wtx,if_neg h0] at k;exact k
noncomputable def uA(r:Nat):ASp:=fun xs Z Q=>∃(n:Nat)(x:Ta),xs=[.d x.d]/\n<=5/\sbT n x/\x.dp<=r/\r<=15/\(ttx x).length<=10000/\Q (.d (.str (tx (ttx x)))) Z
theorem sg(T:Txt K mg t)(r:Nat)(kk:Nat)(sp:ASp)(hk:1<=kk)(G_l_talk_text:aD P w K mg base CX0 kk t.bN t.dA ["_law_talk"] (bz sp))(hs:∀r',r=r'+1->sp=uA r'):aD P w K mg base CX0 (kk+1) t.bN t.dA ["_law_talk"] (bz (uA r)):=by
 have G_l_words_text:aD P w K mg base _ _ _ _ _ _:=At T
 refine T.oN.okD jh (fun xs Z Q h=>by obtain ⟨n,x,rfl,_⟩:=h;rfl) (fun cdv A outer s H E hr=>⟨_,_,(ah (bn (aL (bA hr.IC) (bh (aJ K rfl) (pv 0) aj (fun _ _=>rfl)) aH (a7 _)) (am (aR (a8 fF (by rfl) T.r8 (by kernel_rfl) (aa (bh (aJ K rfl) (pv 0) aj (fun _ _=>rfl)) af)))) aX)
   (ah (az (i:=1) jh.nd rfl (Or.inl rfl) (aE bE (aE bE (ak G_l_talk_text (hr.mono (by omega)) (by rfl) T.cT T.cQ T.cR .nil ay (aa (bh (aJ K rfl) (pv 0) aj (fun _ _=>rfl)) af)) aH) (ak G_l_talk_text (hr.mono (by omega)) (by rfl) T.cT T.cQ T.cR .nil ay (aa (bh (aJ K rfl) (pv 0) aj (fun _ _=>rfl)) af))))
   (am (aR (aE bE (aE bE (aE bE (aE bE (aE bE (ic PySem.F.plainAttrs_str PySem.F.slot_str_upper PySem.F.type_str_upper zh (bh (aJ K rfl) (bh (aJ K rfl) (pv 0) aj (fun _ _=>rfl)) aj (fun _ _=>rfl))) aH) (ak G_l_words_text (hr.mono (by omega)) (by rfl) T.f8 T.fX T.ga .nil ay (aa (bh (aJ K rfl) (pv 0) aj (fun _ _=>rfl)) af))) aH) (pv 1)) aH))))),(av (ca (aY (ax bU (ax ce ae aq) aZ)) (bd (bx qC (ac (ax ce ae aq) ag))) bc)
   (av (aF (ax eh (ax eh (ar (ac (ax ce ae aq) ag)) aZ) (ar (ac (ax ce ae aq) ag))) ap)
   (bd (ax eh (ax eh (ax eh (ax eh (ax eh (CA (ax D0 (ax ce ae aq) aq)) aZ) (ar (ac (ax ce ae aq) ag))) aZ) ae) aZ)))),fun xs Z Q h=>?_⟩)
 obtain⟨n,x,rfl,hn,hx,hd,hr15,hl,k⟩:=h
 cases x with
 |en i=>
  obtain⟨i0,i1⟩:=hx;obtain⟨i,rfl⟩:=Int.eq_ofNat_of_zero_le i0;have e1:=mO ⟨i,by omega⟩
  simp only at e1;simp only[Ta.d];walk_at "s1";rw[e1,aN];exact⟨Nat.lt_of_le_of_lt (Nat.log2_le_self _) (by omega),k⟩
 |nd y ws a b=>
  simp only[Ta.dp] at hd;obtain⟨r',rfl⟩:∃r',r=r'+1:=⟨r-1,by omega⟩
  cases hs r' rfl;obtain⟨hws,ha,hb⟩:=hx;have hwd:=Wds.sub hws hn;simp only[ttx,List.length_append,List.length_cons,List.length_nil] at hl;have e59:Str.ofString ";"=tx [59]:=by decide +kernel
  have e91:Str.ofString "["=tx [91]:=by decide +kernel
  have e93:Str.ofString "]("=tx [93,40]:=by decide +kernel
  have e41:Str.ofString ")"=tx [41]:=by decide +kernel
  cases y
  ·simp only[Ta.d,if_false,Bool.false_eq_true]
   walk_at "s1";walk_at "s1";refine⟨n,a,rfl,hn,ha,by omega,by omega,by omega,_,rfl,by rw[e59,aA,aA];exact bD (by simp;omega),?_⟩
   rw[e59,cf];refine⟨n,b,rfl,hn,hb,by omega,by omega,by omega,_,rfl,by rw[aA,aA];exact bD (by simp;omega),?_⟩
   rw[cf];simp only[vt];walk_at "a1";refine⟨by decide +kernel,110,by decide +kernel,by rw[aA];decide,?_⟩
   rw[show Txt.upper (tx [110])=tx [78] from by decide +kernel,e91,e93,e41,cf]
   refine⟨by rw[aA,aA];exact bD (by simp),n,ws,rfl,hn,hwd,_,rfl,?_⟩
   simp only[cf];refine⟨by rw[aA,aA];exact bD (by simp;omega),by rw[aA,aA];exact bD (by simp;omega),by rw[aA,aA];exact bD (by simp;omega),by rw[aA,aA];exact bD (by simp;omega),?_⟩
   rw[aN];simpa[ttx] using k
  ·simp only[Ta.d,if_true]
   walk_at "s1";walk_at "s1";refine⟨n,a,rfl,hn,ha,by omega,by omega,by omega,_,rfl,by rw[e59,aA,aA];exact bD (by simp;omega),?_⟩
   rw[e59,cf];refine⟨n,b,rfl,hn,hb,by omega,by omega,by omega,_,rfl,by rw[aA,aA];exact bD (by simp;omega),?_⟩
   rw[cf];simp only[vt];walk_at "a1";refine⟨by decide +kernel,121,by decide +kernel,by rw[aA];decide,?_⟩
   rw[show Txt.upper (tx [121])=tx [89] from by decide +kernel,e91,e93,e41,cf]
   refine⟨by rw[aA,aA];exact bD (by simp),n,ws,rfl,hn,hwd,_,rfl,?_⟩
   simp only[cf];refine⟨by rw[aA,aA];exact bD (by simp;omega),by rw[aA,aA];exact bD (by simp;omega),by rw[aA,aA];exact bD (by simp;omega),by rw[aA,aA];exact bD (by simp;omega),?_⟩
   rw[aN];simpa[ttx] using k
theorem yZ(T:Txt K mg t):∀r,aD P w K mg base CX0 (r+2) t.bN t.dA ["_law_talk"] (bz (uA r))
 |0=>sg T 0 1 uM (Nat.le_refl _) pI (fun r' h=>by omega)
 |r+1=>sg T (r+1) (r+2) _ (by omega) (yZ T r) (fun r' h=>by cases h;rfl)
theorem Cl(kc:Nat)(T:Txt K mg t):aD P w K mg base CX0 (kc+2) t.fk t.kW ["_law_asked","_law_text","_law_due"] (mE kc P w K mg base):=by
 refine T.BG.ok pG (fun vs H Q E h=>?_) (fun cdv A outer s H vs Q E hr h=>?_)
 ·obtain⟨F,Z,Q',v1,v2,d1,d2,f,c,a,sp,rfl,_⟩:=h;rfl
 obtain⟨F,Z,Q',v1,v2,d1,d2,f,c,a,sp,rfl,rp,hv1,hv2,C__law_asked,r1,hs,hr2,q,kq⟩:=h
 have rvs:RVs (cut F H Z) [CU f c a,.d d1,.d d2] [.ref f,v1,v2]:=
  ⟨_,_,rfl,⟨rfl,fun G' s=>r1.same s⟩,_,_,rfl,hv1,_,_,rfl,hv2,rfl⟩
 refine ⟨_,(ah (gv PassesOwn.never rfl (eN rfl T.gh (ao aj af)) (aW (i:=3) pG.nd rfl (Or.inl rfl)) (am (bn (aL (uH hr.IC) (aK (nG hr.gd hr.IC) (by rfl) T.AJ (by kernel_rfl) (aa (AR (k:=kc) (n:=1) (i:=0) (hr.mono (by omega)) rfl (Or.inl rfl) (aa (pv 1) af)) af)) (aK (nG hr.gd hr.IC) (by rfl) T.AJ (by kernel_rfl) (aa (pv 2) af)) (a7 _)) (am (aR kQ)) aX)))
   (am (aR kQ))),gJ.run ((av (jT (kf (ac aq ag)) ap (ca (aY (ax bU (bx xK (ac (Cg C__law_asked (ac ae ag)) ag)) (bx xK (ac ae ag)))) (bd qD) bc))
   (bd qD))) F H Z _ _ _ { nx:=fun _ Z'=>Q' (.d .non) (Z'.only Z),rt:=fun a Z'=>∃d,a=.d d/\Q' (.d d) (Z'.only Z) } rp (RS.start rvs) ?_ ⟨?_,?_,fun _ _ _ _ _ _ _ z=>z.elim,fun _ _ _ _ _ _ _ z=>z.elim⟩⟩
 ·walk_at "s1"
  refine⟨by decide,by decide,jq (fun i ρ Z'=>Z'=Z/\∃v3,ρ=[some (CU f c a),some (.d d1),some (.d d2),v3]) ⟨rfl,_,rfl⟩ ?_ ?_⟩
  ·rintro i ρ Z' N hi ⟨rfl,v3,rfl⟩ kN
   obtain⟨b1,b2,b3,b4⟩:=hr2;walk_at "a1";refine hs _ _ ⟨_,rfl,b1,b2,b3,b4,b1,b2,b3,b4,?_⟩;rw[if_neg (by simp)]
   exact kN _ _ ⟨rfl,_,rfl⟩
  ·rintro ρ Z' ⟨rfl,v3,rfl⟩
   dsimp only;walk_at "a1";rw[aN];exact q
 ·exact fun ρ' Z' σ' H' e1 e2 e3 q=>kq (.d .non) (Z'.only Z) .non H' e1.only.1 e2.only (by simp[RV,Dat]) q
 ·rintro a Z' v H' e1 e2 e3 ⟨d,rfl,q⟩
  exact kq (.d d) (Z'.only Z) v H' e1.only.1 e2.only (e3.same e1.only.2) q
theorem yc{Z:Om}{p:Addr}(h:jH Z p):(Z p).isSome=true:=by obtain⟨c,e⟩:=h;rw[e];rfl
theorem f7{Z:Om}{p:Addr}{c:Pl}(h:jH Z p):(Z.put p (plO c)).only Z=Z.put p (plO c):=mZ (Ex.refl _) (yc h)
theorem B0:(wtx (wl 5)).length=191:=by decide +kernel
theorem mS{v:Int}(h0:0<=v)(h1:v<2):∃y:Bool,atI [AV.d (D.str (Str.ofString "yes")),AV.d (D.str (Str.ofString "no"))] v=some (.d (.str (if y then ("yes":Str) else ("no":Str)))):=by
 rcases(by omega:v=0\/v=1) with rfl|rfl
 ·exact⟨true,rfl⟩
 ·exact⟨false,rfl⟩
noncomputable def qQ(r:Nat):ASp:=fun xs Z Q=>∃p:Addr,xs=[.r (.ref p),.d (.int r)]/\jH Z p/\r<=4/\∀(u:Ta)(c:Pl),sbT 5 u->u.dp<=r->u.lvs<=2^r->(ttx u).length+197<=198*2^r->Q (.d u.d) (Z.put p (plO c))
theorem pW(T:Txt K mg t)(r:Nat)(kk:Nat)(sp:ASp)(hk:1<=kk)(G_l_full:aD P w K mg base CX0 kk t.dZ t.jd ["_law_pen_here","_law_most"] (bz sp))(hs:∀r',r=r'+1->sp=qQ r'):aD P w K mg base CX0 (kk+1) t.dZ t.jd ["_law_pen_here","_law_most"] (bz (qQ r)):=by
 have G_l_draw:aD P w K mg base _ _ _ _ _ _:=ip T;have G_l_all:aD P w K mg base _ _ _ _ _ _:=m6 T
 refine T.Aw.okD pT (fun xs Z Q h=>by obtain ⟨p,rfl,_⟩:=h;rfl) (fun cdv A outer s H E hr=>⟨_,_,(ah (bn (aL (bA hr.IC) (pv 1) aj (a7 _)) (am (aR (a9 (ao aH (aa (ak G_l_draw (hr.mono (by omega)) (by rfl) T.aQ T.aP T.aO .nil ay (aa (pv 0) (ao aj af))) af))))) aX)
   (ah (az (i:=2) pT.nd rfl (Or.inl rfl) (bh (aJ K rfl) (br (ao aH (ao aH af))) (ak G_l_draw (hr.mono (by omega)) (by rfl) T.aQ T.aP T.aO .nil ay (aa (pv 0) (ao aj af))) (fun _ _=>rfl)))
   (am (aR (a9 (aa (pv 2) (aa (a8 (bj K rfl) (by rfl) T.cV (by kernel_rfl) (aa (ak G_l_all (hr.mono (by omega)) (by rfl) T.kU T.kt T.kE .nil ay (ao aj af)) af)) (aa (ak G_l_full (hr.mono (by omega)) (by rfl) T.nL T.nI T.nj .nil ay (aa (pv 0) (aa (aE dH (pv 1) aj) af))) (aa (ak G_l_full (hr.mono (by omega)) (by rfl) T.nL T.nI T.nj .nil ay (aa (pv 0) (aa (aE dH (pv 1) aj) af))) af))))))))),(av (ca (aY (ax bU ae aq)) (bd (bw (ac aZ (ac (ar (ac ae (ac aq ag))) ag)))) bc)
   (av (aF (ax ce (dD (ac aZ (ac aZ ag))) (ar (ac ae (ac aq ag)))) ap)
   (bd (bw (ac ae (ac (bx eg (ac (ar (ac aq ag)) ag)) (ac (ar (ac ae (ac (ax dS ae aq) ag))) (ac (ar (ac ae (ac (ax dS ae aq) ag))) ag)))))))),fun xs Z Q h=>?_⟩)
 obtain⟨p,rfl,hp,hr4,k⟩:=h;walk_at "s1"
 cases r with
 |zero=>
  refine kR (fun _=>?_) (fun h=>absurd rfl h);refine⟨p,5,rfl,hp,by decide,by decide,fun v c v0 v1=>⟨_,rfl,?_⟩⟩
  rw[f7 hp];exact k (.en v) c ⟨v0,v1⟩ (Nat.zero_le _) (by simp[Ta.lvs]) (by simp[ttx])
 |succ r'=>
  cases hs r' rfl;refine kR (fun h=>absurd h (by omega)) (fun _=>?_)
  have er:((r'+1:Nat):Int)-1=(r':Int):=by omega
  walk_at "s1";refine⟨p,2,rfl,hp,by decide,by decide,fun v c v0 v1=>?_⟩
  obtain⟨y,ey⟩:=mS v0 v1;refine⟨_,rfl,_,ey,5,rfl,by decide,?_⟩
  walk_at "a1";rw[er];refine⟨p,rfl,⟨c,Om.Iy⟩,by omega,fun u1 c1 s1 d1 l1 t1=>?_⟩
  rw[Om.Iz];refine⟨p,rfl,⟨c1,Om.Iy⟩,by omega,fun u2 c2 s2 d2 l2 t2=>?_⟩
  rw[Om.Iz];refine⟨_,rfl,?_⟩;rw[f7 hp];have hw:=B0;exact k (.nd y (wl 5) u1 u2) c2 ⟨List.Sublist.refl _,s1,s2⟩ (by simp only[Ta.dp];omega) (by simp only[Ta.lvs,Nat.pow_succ];omega) (by simp only[ttx,List.length_cons,List.length_append,List.length_nil,Nat.pow_succ,hw];omega)
theorem vN(T:Txt K mg t):∀r,aD P w K mg base CX0 (r+2) t.dZ t.jd ["_law_pen_here","_law_most"] (bz (qQ r))
 |0=>pW T 0 1 uM (Nat.le_refl _) pI (fun r' h=>by omega)
 |r+1=>pW T (r+1) (r+2) _ (by omega) (vN T r) (fun r' h=>by cases h;rfl)
theorem EX{n:Nat}(hn:n<=3){ws:List (List Int)}(h:ws.Sublist (wl n)):(wtx ws).length<=32:=by
 have hwd:=Wds.sub h (show n<=5 by omega)
 by_cases h0:ws=[]
 ·simp[wtx,h0]
 ·have hj:=nW 44 n (ws.map btx) (fun l hl=>by
   obtain⟨v,hv,rfl⟩:=List.mem_map.mp hl
   simp[btx,(cc (hwd.2 v hv)).1])
  have hl:=h.length_le;have hp:=on n;rw[List.length_map] at hj;simp only[wtx,if_neg h0];have h8:2^n<=2^3:=Nat.pow_le_pow_right (by decide) hn
  have:ws.length*(n+1)<=8*4:=Nat.mul_le_mul (by omega) (by omega)
  omega
noncomputable def qa(r:Nat):ASp:=fun xs Z Q=>∃(p:Addr)(n m:Nat),xs=[.r (.ref p),.d (.int n),.d (.int m)]/\jH Z p/\1<=n/\n<=3/\1<=m/\m<=2^r/\r<=6/\∀(u:Ta)(c:Pl),sbT n u->u.dp<=r->u.lvs=m->(ttx u).length+40<=41*m->Q (.d u.d) (Z.put p (plO c))
theorem pc(T:Txt K mg t)(r:Nat)(kk:Nat)(sp:ASp)(hk:1<=kk)(G_l_wide:aD P w K mg base CX0 kk t.el t.iN ["_law_pen_here","_law_places","_law_many"] (bz sp))(hs:∀r',r=r'+1->sp=qa r'):aD P w K mg base CX0 (kk+1) t.el t.iN ["_law_pen_here","_law_places","_law_many"] (bz (qa r)):=by
 have G_l_draw:aD P w K mg base _ _ _ _ _ _:=ip T;have G_l_all:aD P w K mg base _ _ _ _ _ _:=m6 T
 refine T.za.okD ju (fun xs Z Q h=>by obtain ⟨p,n,m,rfl,_⟩:=h;rfl) (fun cdv A outer s H E hr=>⟨_,_,(ah (bn (aL (bA hr.IC) (pv 2) aj (a7 _)) (am (aR (a9 (ao aH (aa (ak G_l_draw (hr.mono (by omega)) (by rfl) T.aQ T.aP T.aO .nil ay (aa (pv 0) (aa (pv 1) af))) af))))) aX)
   (ah (az (i:=3) ju.nd rfl (Or.inl rfl) (bh (aJ K rfl) (br (ao aH (ao aH af))) (ak G_l_draw (hr.mono (by omega)) (by rfl) T.aQ T.aP T.aO .nil ay (aa (pv 0) (ao aj af))) (fun _ _=>rfl)))
   (ah (az (i:=4) ju.nd rfl (Or.inl rfl) (a8 (bj K rfl) (by rfl) T.cV (by kernel_rfl) (aa (bR (N:=(["_law_word","_law_pen_here"] : List Str)) (src:=[none,some 0]) rfl (by show c0 _ (defScope kT) _ _ (["_law_pen_here","_law_places","_law_many","_law_hand","_law_says","_law_first"] : List Str) = true;decide +kernel) (by intro g' h;cases h) (cz K rfl (ak G_l_all (hr.mono (by omega)) (by rfl) T.kU T.kt T.kE .nil ay (aa (pv 1) af))) (fun _ _ _ _ _ _=>(aW (i:=0) (show (["_law_word","_law_pen_here"] : List Str).Nodup by decide +kernel) rfl (Or.inl rfl))) (fun _ _ _ _ _ _=>(mG (aL (bA hr.IC) (ak G_l_draw (hr.mono (by omega)) (by rfl) T.aQ T.aP T.aO .nil ay (aa (pv 1) (ao aj af))) aj (a7 _)))) (fun _ _ _ _ _ _=>(bS rfl rfl (pv 0)))) af)))
   (ah (az (i:=5) ju.nd rfl (Or.inl rfl) (ak G_l_wide (hr.mono (by omega)) (by rfl) T.nz T.mX T.ou .nil ay (aa (pv 0) (aa (pv 1) (aa (aE dH (pv 2) (aE kC (pv 2) aj)) af)))))
   (am (aR (a9 (aa (pv 3) (aa (pv 4) (aa (pv 5) (aa (ak G_l_wide (hr.mono (by omega)) (by rfl) T.nz T.mX T.ou .nil ay (aa (pv 0) (aa (pv 1) (aa (aE kC (pv 2) aj) af)))) af))))))))))),(av (ca (aY (ax bU ae aq)) (bd (bw (ac aZ (ac (ar (ac ae (ac ae ag))) ag)))) bc)
   (av (aF (ax ce (dD (ac aZ (ac aZ ag))) (ar (ac ae (ac aq ag)))) ap)
   (av (aF (bx eg (ac (cK (dP (ar (ac ae ag))) ap (aY (ax bU (ar (ac ae (ac aq ag))) aq)) (cB ae)) ag)) ap)
   (av (aF (ar (ac ae (ac ae (ac (ax dS ae (ax jC ae aq)) ag)))) ap)
   (bd (bw (ac ae (ac ae (ac ae (ac (ar (ac ae (ac ae (ac (ax jC ae aq) ag)))) ag)))))))))),fun xs Z Q h=>?_⟩)
 obtain⟨p,n,m,rfl,hp,hn1,hn,hm1,hm,hr6,k⟩:=h;walk_at "s1";refine kR (fun h=>?_) (fun h=>?_)
 ·refine⟨p,n,rfl,hp,by omega,by omega,fun v c v0 v1=>⟨_,rfl,?_⟩⟩
  rw[f7 hp];have hm':m=1:=by omega
  exact k (.en v) c ⟨v0,v1⟩ (Nat.zero_le _) (by simp[Ta.lvs,hm']) (by simp[ttx];omega)
 ·obtain⟨r',rfl⟩:∃r',r=r'+1:=⟨r-1,by
   cases r with
   |zero=>simp at hm;omega
   |succ r=>rfl⟩
  cases hs r' rfl;rw[Nat.pow_succ] at hm;walk_at "s1";refine⟨p,2,rfl,hp,by decide,by decide,fun v c v0 v1=>?_⟩
  obtain⟨y,ey⟩:=mS v0 v1;refine⟨_,rfl,_,ey,?_⟩;walk_at "s1";refine⟨n,rfl,by omega,?_⟩
  walk_at "a1";have hwl:=lW (show n<=5 by omega)
  refine ny (fun Z'=>∃c,Z'=Z.put p (plO c)) ⟨c,rfl⟩ (fun d hd Z' hS Q' q=>?_) (fun d hd Z' hS Q' q=>?_) (Nat.le_of_lt (aS (by simp;omega))) (fun es ρ Z' hs hS=>⟨es,bF _,?_⟩)
  ·obtain⟨c',rfl⟩:=hS
   walk_at "a1";refine⟨p,3,rfl,⟨c',Om.Iy⟩,by decide,by decide,fun v2 c2 v20 v21=>⟨_,rfl,by simp[dep],?_⟩⟩
   rw[Om.Iz];exact q _ _ ⟨c2,rfl⟩
  ·walk_at "a1"
   exact q
  obtain⟨c',rfl⟩:=hS;obtain⟨ws,hws,rfl⟩:=List.sublist_map_iff.mp hs;have hlen:=EX hn hws;walk_at "s1";rw[show ((m:Int)-(m:Int) / 2)=((m-m / 2:Nat):Int) from by omega,show ((m:Int) / 2)=((m / 2:Nat):Int) from by omega]
  refine⟨⟨by decide,by decide⟩,p,n,m-m / 2,rfl,⟨c',Om.Iy⟩,hn1,hn,by omega,by omega,by omega,fun u1 c1 s1 d1 l1 t1=>⟨⟨by decide,by decide⟩,p,n,m / 2,rfl,⟨c1,by rw[Om.Iz];exact Om.Iy⟩,hn1,hn,by omega,by omega,by omega,fun u2 c2 s2 d2 l2 t2=>⟨_,rfl,?_⟩⟩⟩
  rw[Om.Iz,Om.Iz,f7 hp];exact k (.nd y ws u1 u2) c2 ⟨hws,s1,s2⟩ (by simp only[Ta.dp];omega) (by simp only[Ta.lvs];omega) (by simp only[ttx,List.length_cons,List.length_append,List.length_nil];omega)
theorem xl(T:Txt K mg t):∀r,aD P w K mg base CX0 (r+2) t.el t.iN ["_law_pen_here","_law_places","_law_many"] (bz (qa r))
 |0=>pc T 0 1 uM (Nat.le_refl _) pI (fun r' h=>by omega)
 |r+1=>pc T (r+1) (r+2) _ (by omega) (xl T r) (fun r' h=>by cases h;rfl)
noncomputable def mI(r:Nat):ASp:=fun xs Z Q=>∃(p:Addr)(n sh:Nat),xs=[.r (.ref p),.d (.int n),.d (.int r),.d (.int sh)]/\jH Z p/\1<=n/\n<=5/\1<=sh/\sh<=9/\r<=5/\∀(u:Ta)(c:Pl),sbT n u->u.dp<=r->u.lvs<=2^r->Q (.d u.d) (Z.put p (plO c))
theorem pO(T:Txt K mg t)(r:Nat)(kk:Nat)(sp:ASp)(hk:1<=kk)(G_l_any_talk:aD P w K mg base CX0 kk t.bM t.dc ["_law_pen_here","_law_places","_law_most","_law_share"] (bz sp))(hs:∀r',r=r'+1->sp=mI r'):aD P w K mg base CX0 (kk+1) t.bM t.dc ["_law_pen_here","_law_places","_law_most","_law_share"] (bz (mI r)):=by
 have G_l_draw:aD P w K mg base _ _ _ _ _ _:=ip T;have G_l_all:aD P w K mg base _ _ _ _ _ _:=m6 T
 refine T.qp.okD gp (fun xs Z Q h=>by obtain ⟨p,n,sh,rfl,_⟩:=h;rfl) (fun cdv A outer s H E hr=>⟨_,_,(ah (bn (PW.pt (pe (aL (bA hr.IC) (pv 2) aj (a7 _)) (oB (aL (bA hr.IC) (ak G_l_draw (hr.mono (by omega)) (by rfl) T.aQ T.aP T.aO .nil ay (aa (pv 0) (ao aj af))) aj (a7 _))))) (am (aR (a9 (ao aH (aa (ak G_l_draw (hr.mono (by omega)) (by rfl) T.aQ T.aP T.aO .nil ay (aa (pv 0) (aa (pv 1) af))) af))))) aX)
   (ah (az (i:=4) gp.nd rfl (Or.inl rfl) (a8 (bj K rfl) (by rfl) T.cV (by kernel_rfl) (aa (bR (N:=(["_law_word","_law_pen_here","_law_share"] : List Str)) (src:=[none,some 0,some 3]) rfl (by show c0 _ (defScope fE) _ _ (["_law_pen_here","_law_places","_law_most","_law_share","_law_says","_law_hand"] : List Str) = true;decide +kernel) (by intro g' h;cases h) (cz K rfl (ak G_l_all (hr.mono (by omega)) (by rfl) T.kU T.kt T.kE .nil ay (aa (pv 1) af))) (fun _ _ _ _ _ _=>(aW (i:=0) (show (["_law_word","_law_pen_here","_law_share"] : List Str).Nodup by decide +kernel) rfl (Or.inl rfl))) (fun _ _ _ _ _ _=>(mG (aL (bA hr.IC) (ak G_l_draw (hr.mono (by omega)) (by rfl) T.aQ T.aP T.aO .nil ay (aa (pv 1) (aa (pv 2) af))) aj (a7 _)))) (fun _ _ _ _ _ _=>(bS rfl rfl (pv 0)))) af)))
   (ah (az (i:=5) gp.nd rfl (Or.inl rfl) (bh (aJ K rfl) (br (ao aH (ao aH af))) (ak G_l_draw (hr.mono (by omega)) (by rfl) T.aQ T.aP T.aO .nil ay (aa (pv 0) (ao aj af))) (fun _ _=>rfl)))
   (am (aR (a9 (aa (pv 5) (aa (pv 4) (aa (ak G_l_any_talk (hr.mono (by omega)) (by rfl) T.iC T.io T.hV .nil ay (aa (pv 0) (aa (pv 1) (aa (aE dH (pv 2) aj) (aa (pv 3) af))))) (aa (ak G_l_any_talk (hr.mono (by omega)) (by rfl) T.iC T.io T.hV .nil ay (aa (pv 0) (aa (pv 1) (aa (aE dH (pv 2) aj) (aa (pv 3) af))))) af)))))))))),(av (ca (yk (aY (ax bU ae aq)) (aY (ax bU (ar (ac ae (ac aq ag))) aq))) (bd (bw (ac aZ (ac (ar (ac ae (ac ae ag))) ag)))) bc)
   (av (aF (bx eg (ac (cK (dP (ar (ac ae ag))) ap (aY (ax bU (ar (ac ae (ac ae ag))) aq)) (cB ae)) ag)) ap)
   (av (aF (ax ce (dD (ac aZ (ac aZ ag))) (ar (ac ae (ac aq ag)))) ap)
   (bd (bw (ac ae (ac ae (ac (ar (ac ae (ac ae (ac (ax dS ae aq) (ac ae ag))))) (ac (ar (ac ae (ac ae (ac (ax dS ae aq) (ac ae ag))))) ag))))))))),fun xs Z Q h=>?_⟩)
 obtain⟨p,n,sh,rfl,hp,hn1,hn,hs1,hs9,hr5,k⟩:=h;have p1:1<=2^r:=Nat.pos_of_ne_zero (by simp)
 have leaf:∀c:Pl,mM [.r (.ref p),.d (.int n)] (Z.put p (plO c)) fun x Z1=>∃ds,Option.map (fun x=>D.str (Str.ofString "end")::x) (und [x])=some ds/\Q (AV.d (D.tup ds)) (Z1.only Z):=fun c=>
  ⟨p,n,rfl,⟨c,Om.Iy⟩,by omega,by omega,fun v c v0 v1=>⟨_,rfl,by
   rw[Om.Iz,f7 hp]
   exact k (.en v) c ⟨v0,v1⟩ (Nat.zero_le _) (by simp only[Ta.lvs];omega)⟩⟩
 have self:∃c,Z.put p (plO c)=Z:=by
  obtain⟨c,e⟩:=hp;exact⟨c,by funext b;by_cases hb:b=p<;>simp[Om.put,hb,e]⟩
 walk_at "s1";refine kR (fun _=>?_) (fun h=>?_)
 ·obtain⟨c,e⟩:=self
  have:=leaf c
  rwa [e] at this
 refine⟨p,5,rfl,hp,by decide,by decide,fun v c v0 v1=>⟨_,rfl,by simp[dep],kR (fun _=>leaf c) (fun _=>?_)⟩⟩
 obtain⟨r',rfl⟩:∃r',r=r'+1:=⟨r-1,by omega⟩
 cases hs r' rfl;walk_at "s1";refine⟨n,rfl,hn,?_⟩;walk_at "a1";have hwl:=lW hn;refine ny (fun Z'=>∃c,Z'=Z.put p (plO c)) ⟨c,rfl⟩ (fun d hd Z' hS Q' q=>?_) (fun d hd Z' hS Q' q=>?_) (Nat.le_of_lt (aS (by simp;omega))) (fun es ρ Z' hs hS=>⟨es,bF _,?_⟩)
 ·obtain⟨c',rfl⟩:=hS
  walk_at "a1";refine⟨p,sh,rfl,⟨c',Om.Iy⟩,by omega,by omega,fun v2 c2 v20 v21=>⟨_,rfl,by simp[dep],?_⟩⟩
  rw[Om.Iz];exact q _ _ ⟨c2,rfl⟩
 ·walk_at "a1"
  exact q
 obtain⟨c',rfl⟩:=hS;obtain⟨ws,hws,rfl⟩:=List.sublist_map_iff.mp hs;walk_at "s1";refine⟨p,2,rfl,⟨c',Om.Iy⟩,by decide,by decide,fun v c v0 v1=>?_⟩
 obtain⟨y,ey⟩:=mS v0 v1;refine⟨_,rfl,_,ey,?_⟩;rw[Om.Iz,show ((r'+1:Nat):Int)-1=(r':Int) from by omega]
 refine⟨p,n,sh,rfl,⟨c,Om.Iy⟩,hn1,hn,hs1,hs9,by omega,fun u1 c1 s1 d1 l1=>⟨p,n,sh,rfl,⟨c1,by rw[Om.Iz];exact Om.Iy⟩,hn1,hn,hs1,hs9,by omega,fun u2 c2 s2 d2 l2=>⟨_,rfl,?_⟩⟩⟩
 rw[Om.Iz,Om.Iz,f7 hp];exact k (.nd y ws u1 u2) c2 ⟨hws,s1,s2⟩ (by simp only[Ta.dp];omega) (by simp only[Ta.lvs,Nat.pow_succ];omega)
theorem xy(T:Txt K mg t):∀r,aD P w K mg base CX0 (r+2) t.bM t.dc ["_law_pen_here","_law_places","_law_most","_law_share"] (bz (mI r))
 |0=>pO T 0 1 uM (Nat.le_refl _) pI (fun r' h=>by omega)
 |r+1=>pO T (r+1) (r+2) _ (by omega) (xy T r) (fun r' h=>by cases h;rfl)
theorem jH.some{Z:Om}{p:Addr}(h:jH Z p):(Z p).isSome=true:=by obtain⟨c,e⟩:=h;rw[e];rfl
theorem sH{Z:Om}{p:Addr}{c:Pl}(h:jH Z p):(Z.put p (plO c)).only Z=Z.put p (plO c):=mZ (Ex.refl _) h.some
noncomputable def li(r:Nat):ASp:=fun xs Z Q=>∃(p:Addr)(n:Nat),xs=[.r (.ref p),.d (.int n),.d (.int r)]/\jH Z p/\1<=n/\n<=5/\∀(x:Sy)(c:Pl),x.ok n->x.dp<=r->Q (.d x.d) (Z.put p (plO c))
theorem lR(T:Txt K mg t)(r:Nat)(kk:Nat)(sp:ASp)(hk:1<=kk)(G_l_saying:aD P w K mg base CX0 kk t.cG t.gb ["_law_pen_here","_law_places","_law_most"] (bz sp))(hs:∀r',r=r'+1->sp=li r'):aD P w K mg base CX0 (kk+1) t.cG t.gb ["_law_pen_here","_law_places","_law_most"] (bz (li r)):=by
 have G_l_draw:aD P w K mg base _ _ _ _ _ _:=ip T
 refine T.vf.okD me (fun xs Z Q h=>by obtain ⟨p,n,rfl,_⟩:=h;rfl) (fun cdv A outer s H E hr=>⟨_,_,(ah (bn (PW.pt (pe (aL (bA hr.IC) (pv 2) aj (a7 _)) (oB (aL (bA hr.IC) (ak G_l_draw (hr.mono (by omega)) (by rfl) T.aQ T.aP T.aO .nil ay (aa (pv 0) (ao aj af))) aj (a7 _))))) (am (aR (a9 (ao aH (aa (ak G_l_draw (hr.mono (by omega)) (by rfl) T.aQ T.aP T.aO .nil ay (aa (pv 0) (aa (pv 1) af))) (aa (ak G_l_draw (hr.mono (by omega)) (by rfl) T.aQ T.aP T.aO .nil ay (aa (pv 0) (ao aj af))) af)))))) aX)
   (ah (az (i:=3) me.nd rfl (Or.inl rfl) (bh (aJ K rfl) (br (ao aH (ao aH af))) (ak G_l_draw (hr.mono (by omega)) (by rfl) T.aQ T.aP T.aO .nil ay (aa (pv 0) (ao aj af))) (fun _ _=>rfl)))
   (am (aR (a9 (aa (pv 3) (aa (ak G_l_saying (hr.mono (by omega)) (by rfl) T.jZ T.j8 T.kn .nil ay (aa (pv 0) (aa (pv 1) (aa (aE dH (pv 2) aj) af)))) (aa (ak G_l_saying (hr.mono (by omega)) (by rfl) T.jZ T.j8 T.kn .nil ay (aa (pv 0) (aa (pv 1) (aa (aE dH (pv 2) aj) af)))) af)))))))),(av (ca (yk (aY (ax bU ae aq)) (aY (ax bU (ar (ac ae (ac aq ag))) aq))) (bd (bw (ac aZ (ac (ar (ac ae (ac ae ag))) (ac (ar (ac ae (ac aq ag))) ag))))) bc)
   (av (aF (ax ce (dD (ac aZ (ac aZ ag))) (ar (ac ae (ac aq ag)))) ap)
   (bd (bw (ac ae (ac (ar (ac ae (ac ae (ac (ax dS ae aq) ag)))) (ac (ar (ac ae (ac ae (ac (ax dS ae aq) ag)))) ag))))))),fun xs Z Q h=>?_⟩)
 obtain⟨p,n,rfl,hp,hn1,hn,k⟩:=h;walk_at "ab"
 have leaf:∀Z1,jH Z1 p->(∀c,Z1.put p (plO c)=Z.put p (plO c))->mM [AV.r (V.ref p),AV.d (D.int n)] Z1 fun x Z1=>mM [AV.r (V.ref p),AV.d (D.int 2)] Z1 fun x_1 Z1=>∃ds,Option.map (fun x=>D.str (Str.ofString "is")::x) (und [x,x_1])=some ds/\Q (AV.d (D.tup ds)) (Z1.only Z):=fun Z1 h1 h2=>by
  refine⟨p,n,rfl,h1,by omega,by omega,fun x c h0 h1=>⟨p,2,rfl,a0,by decide,by decide,fun y c2 g0 g1=>⟨_,rfl,?_⟩⟩⟩
  rw[Om.Iz,h2,sH hp];exact k (.is x y) c2 ⟨h0,h1,by omega⟩ (Nat.zero_le _)
 refine kR (fun h=>leaf Z hp fun _=>rfl) (fun h=>?_);obtain⟨r',rfl⟩:∃r',r=r'+1:=⟨r-1,by omega⟩
 cases hs r' rfl;refine⟨p,4,rfl,hp,by decide,by decide,fun x c h0 h1=>?_⟩
 walk_at "ab";refine kR (fun h=>leaf _ a0 fun _=>Om.Iz) (fun h=>?_);refine⟨p,2,rfl,a0,by decide,by decide,fun y c2 g0 g1=>?_⟩
 walk_at "ab"
 have hj:∃a:Bool,atI [AV.d (D.str ("and":Str)),AV.d (D.str ("or":Str))] y=some (.d (.str (if a then "and" else "or"))):=by
  rcases(by omega:y=0\/y=1) with rfl|rfl
  ·exact⟨true,rfl⟩
  ·exact⟨false,rfl⟩
 obtain⟨a,ha⟩:=hj;have e1:((r'+1:Nat):Int)-1=(r':Int):=by omega
 refine⟨_,ha,p,n,by rw[e1],a0,hn1,hn,fun u c4 hu hd=>?_⟩
 refine⟨p,n,by rw[e1],a0,hn1,hn,fun u2 c5 hu2 hd2=>?_⟩
 refine⟨_,rfl,?_⟩;rw[Om.Iz,Om.Iz,sH hp];exact k (.jn a u u2) c5 ⟨hu,hu2⟩ (by simp only[Sy.dp];omega)
theorem pP(T:Txt K mg t):∀r,aD P w K mg base CX0 (r+2) t.cG t.gb ["_law_pen_here","_law_places","_law_most"] (bz (li r))
 |0=>lR T 0 1 uM (Nat.le_refl _) pI (fun r' h=>by omega)
 |r+1=>lR T (r+1) (r+2) _ (by omega) (pP T r) (fun r' h=>by cases h;rfl)
structure S5(Z0 Z:Om)(p l a b:Addr)(ys zs:List (List Int)):Prop where
 ex:∃c,Ex (Z0.put p (plO c)) Z
 hl:Z l=some (.own [.r (.ref a),.r (.ref b)])
 ha:Z a=some (.own ((ys.map wdD).map AV.d))
 hb:Z b=some (.own ((zs.map wdD).map AV.d))
 nl:Z0 l=none
 na:Z0 a=none
 nb:Z0 b=none
 pl:l≠p
 pa:a≠p
 pb:b≠p
 la:l≠a
 lb:l≠b
 ab:a≠b
theorem C1{Z0 Z:Om}{p:Addr}(h:∃c,Ex (Z0.put p (plO c)) Z):jH Z p:=by
 obtain⟨c,h⟩:=h;exact⟨c,(h p (by rw[Om.Iy];rfl)).trans Om.Iy⟩
theorem S5.draw{Z0 Z:Om}{p l a b:Addr}{ys zs:List (List Int)}(h:S5 Z0 Z p l a b ys zs)(c:Pl):S5 Z0 (Z.put p (plO c)) p l a b ys zs:=
 ⟨let ⟨_,e⟩:=h.ex;⟨c,e.put2⟩,by rw[Om.IA h.pl];exact h.hl,by rw[Om.IA h.pa];exact h.ha,by rw[Om.IA h.pb];exact h.hb,h.nl,h.na,h.nb,h.pl,h.pa,h.pb,h.la,h.lb,h.ab⟩
theorem kK{Z:Om}{p l:Addr}{c:OC}(h:Z l=none)(hp:l≠p):(Z.put p c) l=none:=by rw[Om.IA hp];exact h
theorem S5.IU{Z0 Z:Om}{p l a b:Addr}{ys zs:List (List Int)}(h:S5 Z0 Z p l a b ys zs)(us:List (List Int)):S5 Z0 (Z.put a (.own ((us.map wdD).map AV.d))) p l a b us zs:=
 ⟨let ⟨c,e⟩:=h.ex;⟨c,e.over (kK h.na h.pa)⟩,by rw[Om.IA h.la];exact h.hl,Om.Iy,by rw[Om.IA h.ab.symm];exact h.hb,h.nl,h.na,h.nb,h.pl,h.pa,h.pb,h.la,h.lb,h.ab⟩
theorem S5.setB{Z0 Z:Om}{p l a b:Addr}{ys zs:List (List Int)}(h:S5 Z0 Z p l a b ys zs)(us:List (List Int)):S5 Z0 (Z.put b (.own ((us.map wdD).map AV.d))) p l a b ys us:=
 ⟨let ⟨c,e⟩:=h.ex;⟨c,e.over (kK h.nb h.pb)⟩,by rw[Om.IA h.lb];exact h.hl,by rw[Om.IA h.ab];exact h.ha,Om.Iy,h.nl,h.na,h.nb,h.pl,h.pa,h.pb,h.la,h.lb,h.ab⟩
theorem Cd{Z:Om}{z:AV}{d:D}{K:D->Om->Prop}(h:bg Z z=some d)(k:∀Z',(Z'=Z\/∃a ds,z=.r (.ref a)/\Z a=some (.own (ds.map AV.d))/\Z'=Z.put a (.frz ds))->K d Z'):oM Z z K:=by
 cases z with
 |d x=>cases h;exact k _ (.inl rfl)
 |p u P=>cases h
 |r u=>
  cases u with
  |ref a=>
   simp only[bg] at h;simp only[oM]
   cases e:Z a with
   |none=>rw[e] at h;cases h
   |some c=>
    rw[e] at h
    cases c with
    |own xs=>
     simp only[Option.map_eq_some_iff] at h;obtain⟨ds,h1,rfl⟩:=h;refine⟨ds,h1,k _ (.inr ⟨a,ds,rfl,?_,rfl⟩)⟩;rw[e,fm h1]
    |frz ds=>cases h;exact k _ (.inl rfl)
    |dic ks=>cases h
  |_=>cases h
theorem uk{Z:Om}{a:Addr}{ds:List D}(h:Z a=some (.own (ds.map AV.d)))(x:AV):bg (Z.put a (.frz ds)) x=bg Z x:=by
 cases x with
 |d x=>rfl
 |p u P=>rfl
 |r u=>
  cases u with
  |ref b=>
   by_cases e:b=a
   ·subst e
    rw[ky h];simp only[bg,Om.Iy]
   ·simp only[bg,Om.IA e]
  |_=>rfl
theorem sZ{Z:Om}{l:Addr}{c:OC}{x:AV}(h:∀a,x=.r (.ref a)->a≠l):bg (Z.put l c) x=bg Z x:=by
 cases x with
 |d x=>rfl
 |p u P=>rfl
 |r u=>
  cases u with
  |ref b=>simp only[bg,Om.IA (h b rfl)]
  |_=>rfl
structure Wz(Z0 Z:Om)(p l:Addr)(z:AV)(ws:List (List Int)):Prop where
 len:ws.length<=32
 dat:bg Z z=some (.lst (ws.map wdD))
 adr:∀a,z=.r (.ref a)->a≠l/\a≠p/\Z0 a=none
structure S6(Z0 Z:Om)(p l:Addr)(zs:List AV)(A:List (List (List Int))):Prop where
 ex:∃c,Ex (Z0.put p (plO c)) Z
 hl:Z l=some (.own zs)
 h2:zs.length=2
 hA:A.length=2
 nl:Z0 l=none
 pl:l≠p
 wz:∀(j:Nat) z,zs[j]?=some z->∃ws,A[j]?=some ws/\Wz Z0 Z p l z ws
theorem S6.frz{Z0 Z Z':Om}{p l:Addr}{zs:List AV}{A:List (List (List Int))}(h:S6 Z0 Z p l zs A){z:AV}{us:List (List Int)}(hz:Wz Z0 Z p l z us)(e:Z'=Z\/∃a ds,z=.r (.ref a)/\Z a=some (.own (ds.map AV.d))/\Z'=Z.put a (.frz ds)):S6 Z0 Z' p l zs A:=by
 rcases e with rfl|⟨a,ds,rfl,ha,rfl⟩
 ·exact h
 ·obtain⟨n1,n2,n3⟩:=hz.adr a rfl
  exact⟨let ⟨c,e⟩:=h.ex;⟨c,e.over (kK n3 n2)⟩,by rw[Om.IA n1.symm];exact h.hl,h.h2,h.hA,h.nl,h.pl,fun j y hy=>let ⟨ws,q0,q⟩:=h.wz j y hy;⟨ws,q0,q.len,by rw[uk ha];exact q.dat,q.adr⟩⟩
theorem Wz.keep{Z0 Z:Om}{p l:Addr}{y:AV}{ws:List (List Int)}{c:OC}(hy:Wz Z0 Z p l y ws):Wz Z0 (Z.put l c) p l y ws:=⟨hy.len,by rw[sZ fun a e=>(hy.adr a e).1];exact hy.dat,hy.adr⟩
theorem S6.set{Z0 Z:Om}{p l:Addr}{zs:List AV}{A:List (List (List Int))}(h:S6 Z0 Z p l zs A){j:Nat}{v:AV}{us:List (List Int)}(hv:Wz Z0 Z p l v us):S6 Z0 (Z.put l (.own (zs.set j v))) p l (zs.set j v) (A.set j us):=by
 refine⟨let ⟨c,e⟩:=h.ex;⟨c,e.over (kK h.nl h.pl)⟩,Om.Iy,by simp[h.h2],by simp[h.hA],h.nl,h.pl,fun i y hy=>?_⟩
 rw[List.getElem?_set] at hy ⊢;by_cases e:j=i
 ·subst e
  rw[if_pos rfl] at hy ⊢;rw[h.h2] at hy;rw[h.hA];by_cases e2:j<2
  ·rw[if_pos e2] at hy ⊢
   cases hy;exact⟨us,rfl,hv.keep⟩
  ·rw[if_neg e2] at hy;cases hy
 ·rw[if_neg e] at hy ⊢
  obtain⟨ws,q0,q⟩:=h.wz i y hy;exact⟨ws,q0,q.keep⟩
theorem S6.new{Z0 Z:Om}{p l q:Addr}{zs:List AV}{A:List (List (List Int))}(h:S6 Z0 Z p l zs A){us:List (List Int)}(hq:Z q=none)(hu:us.length<=32):S6 Z0 (Z.put q (.own ((us.map wdD).map AV.d))) p l zs A/\Wz Z0 (Z.put q (.own ((us.map wdD).map AV.d))) p l (.r (.ref q)) us:=by
 obtain⟨c,e⟩:=h.ex;have h0:(Z0.put p (plO c)) q=none:=e.none hq;have nq:l≠q:=fun z=>by subst z;rw[h.hl] at hq;cases hq
 have npq:q≠p:=fun z=>by subst z;rw[Om.Iy] at h0;cases h0
 rw[Om.IA npq] at h0;refine⟨⟨⟨c,e.new hq⟩,by rw[Om.IA nq];exact h.hl,h.h2,h.hA,h.nl,h.pl,fun j y hy=>?_⟩,hu,ky Om.Iy,fun a e=>?_⟩
 ·obtain⟨ws,q0,q1⟩:=h.wz j y hy
  refine⟨ws,q0,q1.len,?_,q1.adr⟩;rw[sZ fun a ea z=>?_]
  ·exact q1.dat
  ·subst ea z
   have q2:=q1.dat
   simp only[bg,hq] at q2;cases q2
 ·cases e
  exact⟨nq.symm,npq,h0⟩
theorem Ik{Z0 Z:Om}{p l:Addr}{us:List (List Int)}(hu:us.length<=32):Wz Z0 Z p l (.d (.lst (us.map wdD))) us:=⟨hu,rfl,fun a e=>by cases e⟩
theorem CG{Z:Om}{o:AV}{ds:List D}{lo hi:Option Int}{Q:AV->Om->Prop}(h:bg Z o=some (.lst ds))(q:Q (.d (.lst (cL ds lo hi))) Z):slA o lo hi Z Q:=by
 cases o with
 |d x=>cases h;rw[q8];exact q
 |p u P=>cases h
 |r u=>
  cases u with
  |ref b=>rw[Cm];exact⟨ds,h,q⟩
  |_=>cases h
theorem Io{α:Type}(xs:List α):(cL xs none (some 1)).length<=1:=by
 have h:=HT.sIx_nat xs.length xs.length 1;simp only[cL,List.length_take,HT.sIx_none];have h:HT.sIx xs.length xs.length (some 1)=min 1 xs.length:=h;omega
theorem at2{zs:List AV}{k:Int}(h2:zs.length=2)(h0:0<=k)(h1:k<2):∃z,zs[k.toNat]?=some z/\atI zs k=some z:=by
 match zs,h2 with
 | [x,y],_=>
  rcases(by omega:k=0\/k=1) with rfl|rfl
  ·exact⟨x,rfl,rfl⟩
  ·exact⟨y,rfl,rfl⟩
theorem ix2{k:Int}(h0:0<=k)(h1:k<2):ixN 2 k=some k.toNat:=by
 rcases(by omega:k=0\/k=1) with rfl|rfl
 ·rfl
 ·rfl
noncomputable def iK(n:Nat)(us:List (List Int)):List (List Int):=cL (((wl n).filter fun v=>!decide (v∈us))++cL us none (some 1)) none (some 1)
theorem wK{α:Type}(xs:List α):cL xs none (some 1)=xs.take 1:=by
 have h:=HT.sIx_nat xs.length xs.length 1;simp only[cL,HT.sIx_none];have h:HT.sIx xs.length xs.length (some 1)=min 1 xs.length:=h;simp only[h,List.drop_zero,Nat.sub_zero]
 cases xs with
 |nil=>rfl
 |cons x xs=>simp
theorem z6:∀n:Fin 5,∃a∈wl (n.val+1),∃b∈wl (n.val+1),a≠b:=by decide +kernel
structure Srt(n i:Nat)(A:List (List (List Int))):Prop where
 sub:∀ys∈A,ys.Sublist (wl n)
 two:∃ys zs,A=[ys,zs]/\(∀v∈ys,v ∉ zs)/\(1<=i->ys≠[])/\(2<=i->zs≠[])
theorem B1{n:Nat}{us:List (List Int)}(hn1:1<=n)(hn:n<=5)(h:us.Sublist (wl n)):(iK n us).Sublist (wl n)/\iK n us≠[]/\(us≠[]->(us.filter fun v=>!decide (v∈iK n us))≠[]):=by
 obtain⟨a,ha,b,hb,hab⟩:=z6 ⟨n-1,by omega⟩
 simp only[Nat.sub_add_cancel hn1] at ha hb;unfold iK;rw[wK,wK]
 cases e:(wl n).filter fun v=>!decide (v∈us) with
 |cons x xs=>
  have hx:x∈(wl n).filter fun v=>!decide (v∈us):=by rw[e];simp
  obtain⟨h1,h2⟩:=List.mem_filter.mp hx;have h2:x ∉ us:=by simpa using h2
  refine⟨by simpa using h1,by simp,fun hu=>?_⟩
  rw[List.filter_eq_self.mpr]
  ·exact hu
  ·intro v hv
   have:v≠x:=fun z=>h2 (z ▸ hv);simp[this]
 |nil=>
  have all:∀v∈wl n,v∈us:=fun v hv=>by
   have:=List.filter_eq_nil_iff.mp e v hv;simpa using this
  cases us with
  |nil=>exact absurd (all a ha) (by simp)
  |cons x xs=>
   refine⟨by simpa using h.mem (List.mem_cons_self ..),by simp,fun _=>?_⟩
   obtain⟨c,hc,hcx⟩:∃c∈wl n,c≠x:=by
    by_cases e1:a=x
    ·exact⟨b,hb,fun z=>hab (e1.trans z.symm)⟩
    ·exact⟨a,ha,e1⟩
   refine List.ne_nil_of_mem (List.mem_filter.mpr ⟨all c hc,?_⟩);simp[hcx]
theorem Ay{n i:Nat}{A:List (List (List Int))}{ws us:List (List Int)}(hn1:1<=n)(hn:n<=5)(hi:i<2)(h:Srt n i A)(e1:A[i]?=some ws)(e2:A[1-i]?=some us)(hw:ws=[]):Srt n (i+1) ((A.set i (iK n us)).set (1-i) (us.filter fun v=>!decide (v∈iK n us))):=by
 obtain⟨ys,zs,rfl,hd,h1,h2⟩:=h.two;have ho:us.Sublist (wl n):=h.sub us (List.mem_of_getElem? e2);obtain⟨f1,f2,f3⟩:=B1 hn1 hn ho;have dj:∀v∈us.filter fun v=>!decide (v∈iK n us),v ∉ iK n us:=fun v hv=>by simpa using(List.mem_filter.mp hv).2
 have hg:(us.filter fun v=>!decide (v∈iK n us)).Sublist (wl n):=List.filter_sublist.trans ho;subst hw;rcases(by omega:i=0\/i=1) with rfl|rfl
 ·refine⟨fun y hy=>?_,_,_,rfl,fun v hv hv2=>dj v hv2 hv,fun _=>f2,fun z=>by omega⟩
  simp only[List.set_cons_zero,List.set_cons_succ,List.mem_cons,List.not_mem_nil,or_false] at hy;rcases hy with rfl|rfl
  ·exact f1
  ·exact hg
 ·simp only[List.getElem?_cons_succ,List.getElem?_cons_zero,Nat.sub_self,Option.some.injEq] at e1 e2
  subst e1 e2;refine⟨fun y hy=>?_,_,_,rfl,dj,fun _=>f3 (h1 (Nat.le_refl _)),fun _=>f2⟩;simp only[Nat.sub_self,List.set_cons_zero,List.set_cons_succ,List.mem_cons,List.not_mem_nil,or_false] at hy;rcases hy with rfl|rfl
  ·exact hg
  ·exact f1
theorem BL{n i:Nat}{A:List (List (List Int))}{ws:List (List Int)}(hi:i<2)(h:Srt n i A)(e1:A[i]?=some ws)(hw:ws≠[]):Srt n (i+1) A:=by
 obtain⟨ys,zs,rfl,hd,h1,h2⟩:=h.two;rcases(by omega:i=0\/i=1) with rfl|rfl
 ·cases e1
  exact⟨h.sub,_,_,rfl,hd,fun _=>hw,fun z=>by omega⟩
 ·cases e1
  exact⟨h.sub,_,_,rfl,hd,fun _=>h1 (Nat.le_refl _),fun _=>hw⟩
theorem jy{n i:Nat}{x:List Int}{ys:List (List Int)}(hx:(wl n)[i]?=some x)(h:ys.Sublist ((wl n).take i)):(ys++[x]).Sublist ((wl n).take (i+1))/\ys.Sublist ((wl n).take (i+1)):=by
 rw[List.take_succ,hx];exact⟨h.append (List.Sublist.refl _),h.trans (List.sublist_append_left _ _)⟩
theorem BH:∀n:Fin 6,(wl n.val).Nodup:=by decide +kernel
theorem CN{n i:Nat}{x:List Int}(hn:n<=5)(hx:(wl n)[i]?=some x):x ∉ (wl n).take i:=fun h=>by
 have hi:=(List.getElem?_eq_some_iff.mp hx).1;obtain⟨j,hj⟩:=List.mem_iff_getElem?.mp h
 have hji:j<i:=by
  have:=(List.getElem?_eq_some_iff.mp hj).1;rw[List.length_take] at this;omega
 rw[List.getElem?_take_of_lt hji] at hj;have:=(BH ⟨n,by omega⟩)
 simp only at this;have h1:=(List.getElem?_inj (by omega:j<(wl n).length) this).mp (hj.trans hx.symm)
 omega
noncomputable def BF:ASp:=fun xs Z Q=>∃(p:Addr)(n:Nat),xs=[.r (.ref p),.d (.int n)]/\jH Z p/\1<=n/\n<=5/\∀(ys zs:List (List Int)) (c:Pl),ys.Sublist (wl n)->zs.Sublist (wl n)->ys≠[]->zs≠[]->(∀v∈ys,v ∉ zs)->Q (.d (.tup [.tup (ys.map wdD),.tup (zs.map wdD)])) (Z.put p (plO c))
theorem zO(T:Txt K mg t):aD P w K mg base CX0 3 t.eJ t.k9 ["_law_pen_here","_law_places"] (bz BF):=by
 have G_l_draw:aD P w K mg base _ _ _ _ _ _:=ip T;have G_l_all:aD P w K mg base _ _ _ _ _ _:=m6 T
 refine T.yn.okD bT (fun xs Z Q h=>by obtain ⟨p,n,rfl,_⟩:=h;rfl) (fun cdv A outer s H E hr=>⟨_,_,(ah (az (i:=2) bT.nd rfl (Or.inl rfl) (ak G_l_all (hr.mono (by omega)) (by rfl) T.kU T.kt T.kE .nil ay (aa (pv 1) af)))
   (ah (az (i:=3) bT.nd rfl (Or.inl rfl) (ak G_l_draw (hr.mono (by omega)) (by rfl) T.aQ T.aP T.aO .nil ay (aa (pv 0) (ao aj af))))
   (ah (az (i:=4) bT.nd rfl (Or.inl rfl) (aE (aB bv (aB bb bu)) aj (ak G_l_draw (hr.mono (by omega)) (by rfl) T.aQ T.aP T.aO .nil ay (aa (pv 0) (aa (pv 1) af)))))
   (ah (az (i:=5) bT.nd rfl (Or.inl rfl) (ak G_l_draw (hr.mono (by omega)) (by rfl) T.aQ T.aP T.aO .nil ay (aa (pv 0) (aa (pv 1) af))))
   (ah (az (i:=6) bT.nd rfl (Or.inl rfl) (bh (aJ K rfl) (br (ao aj (ao aj (ao aj (ao aj af))))) (ak G_l_draw (hr.mono (by omega)) (by rfl) T.aQ T.aP T.aO .nil ay (aa (pv 0) (ao aj af))) (fun _ _=>rfl)))
   (ah (az (i:=7) bT.nd rfl (Or.inr rfl) (br (rC (br af) (rC (br af) af))))
   (ah (gv PassesOwn.never rfl (cz K rfl (pv 2)) (aW (i:=8) bT.nd rfl (Or.inl rfl)) (ah (az (i:=9) bT.nd rfl (Or.inl rfl) (ak G_l_draw (hr.mono (by omega)) (by rfl) T.aQ T.aP T.aO .nil ay (aa (pv 0) (ao aj af))))
   (ah (az (i:=10) bT.nd rfl (Or.inr rfl) (bh (aJ K rfl) (br (aa (pv 9) (aa (a8 fH (by rfl) T.jO (by kernel_rfl) (aa (fc wQ (aK (k6 K rfl rfl) (by rfl) T.zN (by kernel_rfl) (aa (pv 8) af)) (pv 4) (a7 _)) af)) (aa (aE gy (aK (k6 K rfl rfl) (by rfl) T.zN (by kernel_rfl) (aa (pv 8) af)) aj) (aa (aE dH aj (bh (aJ K rfl) (pv 8) (pv 5) (fun _ _=>rfl))) (aa (a8 fH (by rfl) T.jO (by kernel_rfl) (aa (fc wQ (aE (aB bv (aB bb bu)) (aK (k6 K rfl rfl) (by rfl) T.zN (by kernel_rfl) (aa (pv 8) af)) (pv 9)) (pv 4) (a7 _)) af)) af)))))) (pv 3) (fun _ _=>rfl)))
   (am (bn (aL (bA hr.IC) (ak G_l_draw (hr.mono (by omega)) (by rfl) T.aQ T.aP T.aO .nil ay (aa (pv 0) (aa (pv 6) af))) aj (a7 _)) (am (cj (fx PySem.F.plainAttrs_list PySem.F.slot_list_append PySem.F.type_list_append cP (bh (aJ K rfl) (pv 7) (pv 10) (fun _ _=>rfl)) (aa (pv 8) af)))) aX)))))
   (ah (gv PassesOwn.never rfl (eN rfl T.gh (ao aj af)) (aW (i:=10) bT.nd rfl (Or.inr rfl)) (am (bn (aL (bA hr.IC) (bh (aJ K rfl) (pv 7) (pv 10) (fun _ _=>rfl)) (br af) (a7 _)) (ah (az (i:=11) bT.nd rfl (Or.inr rfl) (bh (aJ K rfl) (pv 7) (aE dH aj (pv 10)) (fun _ _=>rfl)))
   (ah (hZ (iX (uy K rfl) (aE (aB bv (aB bb bu)) (bR (N:=(["_law_word","_law_others"] : List Str)) (src:=[none,some 11]) rfl (by show c0 _ (defScope gS) _ _ (["_law_pen_here","_law_places","_law_words","_law_way","_law_top","_law_place","_law_share","_law_sorts_here","_law_word","_law_more","_law_sort","_law_others"] : List Str) = true;decide +kernel) (by intro g' h;cases h) (cz K rfl (pv 2)) (fun _ _ _ _ _ _=>(aW (i:=0) (show (["_law_word","_law_others"] : List Str).Nodup by decide +kernel) rfl (Or.inl rfl))) (fun _ _ _ _ _ _=>(mG (aL (pf hr.IC) (pv 0) (pv 1) (by with_unfolding_all rfl)))) (fun _ _ _ _ _ _=>(bS rfl rfl (pv 0)))) (iX (uy K rfl) (pv 11) mQ (jw aj))) mQ (jw aj)) (nY (pv 7) (pv 10) iS))
   (am (hZ (bR (N:=(["_law_word","_law_sorts_here","_law_sort"]:List Str)) (src:=[none,some 7,some 10]) rfl (by show c0 _ (defScope gS) _ _ (["_law_pen_here","_law_places","_law_words","_law_way","_law_top","_law_place","_law_share","_law_sorts_here","_law_word","_law_more","_law_sort","_law_others"]:List Str)=true;decide +kernel) (by intro g' h;cases h) (cz K rfl (pv 11)) (fun _ _ _ _ _ _=>(aW (i:=0) (show (["_law_word","_law_sorts_here","_law_sort"]:List Str).Nodup by decide +kernel) rfl (Or.inl rfl))) (fun _ _ _ _ _ _=>(mG (aL (pf hr.IC) (pv 0) (bh (aJ K rfl) (pv 1) (pv 2) (fun _ _=>rfl)) (by with_unfolding_all rfl)))) (fun _ _ _ _ _ _=>(bS rfl rfl (pv 0)))) (nY (pv 7) (aE dH aj (pv 10)) iS))))) aX)))
   (am (aR (a9 (aa (a8 (bj K rfl) (by rfl) T.cV (by kernel_rfl) (aa (bh (aJ K rfl) (pv 7) aj (fun _ _=>rfl)) af)) (aa (a8 (bj K rfl) (by rfl) T.cV (by kernel_rfl) (aa (bh (aJ K rfl) (pv 7) aj (fun _ _=>rfl)) af)) af))))))))))))),(av (aF (ar (ac ae ag)) ap)
   (av (aF (ar (ac ae (ac aq ag))) ap)
   (av (aF (ax b8 aq (ar (ac ae (ac ae ag)))) ap)
   (av (aF (ar (ac ae (ac ae ag))) ap)
   (av (aF (ax ce (dD (ac aq (ac aq (ac aq (ac aq ag))))) (ar (ac ae (ac aq ag)))) ap)
   (av (aF (fS (ac (fS ag) (ac (fS ag) ag))) ap)
   (av (jT (dP ae) ap (av (aF (ar (ac ae (ac aq ag))) ap)
   (av (aF (ax ce (dD (ac ae (ac (bx pz (ac (ax iH (bx uR (ac ae ag)) ae) ag)) (ac (ax jC (bx uR (ac ae ag)) aq) (ac (ax dS aq (ax ce ae ae)) (ac (bx pz (ac (ax iH (ax b8 (bx uR (ac ae ag)) ae) ae) ag)) ag)))))) ae) ap)
   (ca (aY (ax bU (ar (ac ae (ac ae ag))) aq)) (c7 (eA (ax ce ae ae) (ac ae ag))) bc))))
   (av (jT (kf (ac aq ag)) ap (ca (aY (ax bU (ax ce ae ae) (dD ag))) (av (aF (ax ce ae (ax dS aq ae)) ap)
   (av (aF (Gp (ax b8 (cK (dP ae) ap (aY (ax Ae ae ae)) (cB ae)) (Gp ae p8 (k5 aq))) p8 (k5 aq)) (tH ae ae))
   (aF (Ci (dP ae) ap (aY (ax Ae ae (ax ce ae ae))) (cB ae)) (tH ae (ax dS aq ae))))) bc))
   (bd (bw (ac (bx eg (ac (ax ce ae aq) ag)) (ac (bx eg (ac (ax ce ae aq) ag)) ag)))))))))))),fun xs Z Q h=>?_⟩)
 obtain⟨p,n,rfl,hp,hn1,hn,k⟩:=h;have hwn:=lW hn;walk_at "s1";refine⟨n,rfl,hn,?_⟩;walk_at "s1";refine⟨p,5,rfl,hp,by decide,by decide,fun way c w0 w1=>?_⟩
 walk_at "s1";refine⟨p,n,rfl,a0,by omega,by omega,fun top c t0 t1=>⟨top,rfl,?_⟩⟩
 rw[Om.Iz];walk_at "s1";refine⟨p,n,rfl,a0,by omega,by omega,fun pl c p0 p1=>?_⟩
 rw[Om.Iz];walk_at "s1";refine⟨p,4,rfl,a0,by decide,by decide,fun v c v0 v1=>⟨v,rfl,?_⟩⟩
 rw[Om.Iz]
 obtain⟨sh,esh,sh1,sh2⟩:∃sh:Int,atI [AV.d (D.int 1),AV.d (D.int 1),AV.d (D.int 3),AV.d (D.int 6)] v=some (.d (.int sh))/\1<=sh/\sh<=8:=by
  rcases(by omega:v=0\/v=1\/v=2\/v=3) with rfl|rfl|rfl|rfl
  ·exact⟨1,rfl,by decide,by decide⟩
  ·exact⟨1,rfl,by decide,by decide⟩
  ·exact⟨3,rfl,by decide,by decide⟩
  ·exact⟨6,rfl,by decide,by decide⟩
 refine⟨_,esh,?_⟩;walk_at "s1";intro a ha b hb l hl
 have hS:S5 Z ((((Z.put p (plO c)).put a (OC.own [])).put b (OC.own [])).put l (OC.own [AV.r (V.ref a),AV.r (V.ref b)])) p l a b [] []:=by
  have ex:Ex (Z.put p (plO c)) ((((Z.put p (plO c)).put a (OC.own [])).put b (OC.own [])).put l (OC.own [AV.r (V.ref a),AV.r (V.ref b)])):=(((Ex.refl _).new ha).new hb).new hl;obtain⟨nap,ha⟩:=cM ha;obtain⟨nba,hb⟩:=cM hb;obtain⟨nbp,hb⟩:=cM hb;obtain⟨nlb,hl⟩:=cM hl;obtain⟨nla,hl⟩:=cM hl;obtain⟨nlp,hl⟩:=cM hl;exact⟨⟨c,ex⟩,Om.Iy,by rw[Om.IA (Ne.symm nla),Om.IA (Ne.symm nba),Om.Iy];rfl,by rw[Om.IA (Ne.symm nlb),Om.Iy];rfl,hl,ha,hb,nlp,nap,nbp,nla,nlb,Ne.symm nba⟩
 revert hS;generalize (((Z.put p (plO c)).put a (OC.own [])).put b (OC.own [])).put l (OC.own [AV.r (V.ref a),AV.r (V.ref b)])=Z1;intro hS;walk_at "s1";refine wf (fun i ρ Z'=>∃(ys zs:List (List Int)) (v8 v9 v10:Option AV),S5 Z Z' p l a b ys zs/\ρ=[some (AV.r (V.ref p)),some (AV.d (D.int n)),some (AV.d (D.lst ((wl n).map wdD))),some (AV.d (D.int way)),some (AV.d (D.int (1+top))),some (AV.d (D.int pl)),some (AV.d (D.int sh)),some (AV.r (V.ref l)),v8,v9,v10,none]/\ys.Sublist ((wl n).take i)/\zs.Sublist ((wl n).take i)/\∀v∈ys,v ∉ zs) ⟨[],[],_,_,_,hS,rfl,List.nil_sublist _,List.nil_sublist _,fun v hv=>by simp at hv⟩ ?_ ?_
 ·rintro i d ρ Z' N hd ⟨ys,zs,v8,v9,v10,hS,rfl,sy,sz,dj⟩ kN
  obtain⟨x,hx,rfl⟩:=L2.wU hd;have hy:ys.length<=i:=Nat.le_trans sy.length_le (by rw[List.length_take];omega)
  have hz:zs.length<=i:=Nat.le_trans sz.length_le (by rw[List.length_take];omega)
  have hno:=CN hn hx;have hi:=(List.getElem?_eq_some_iff.mp hx).1;have hxl:=(cc (List.mem_of_getElem? hx)).1;have hx01:=(cc (List.mem_of_getElem? hx)).2;walk_at "s1";refine⟨p,2,rfl,C1 hS.ex,by decide,by decide,fun u c u0 u1=>?_⟩
  have hS:=hS.draw c;revert hS;generalize Z'.put p (plO c)=Z2;intro hS;refine qx (fun ρ' Z'=>Z'=Z2/\∃g:Int,(g=0\/g=1)/\ρ'=[some (AV.r (V.ref p)),some (AV.d (D.int n)),some (AV.d (D.lst ((wl n).map wdD))),some (AV.d (D.int way)),some (AV.d (D.int (1+top))),some (AV.d (D.int pl)),some (AV.d (D.int sh)),some (AV.r (V.ref l)),some (AV.d (wdD x)),some (AV.d (D.int u)),some (AV.d (D.int g)),none]) (fun M kM=>?_) ?_
  ·walk_at "a1"
   have hpx:=Gn (w:=x) (i:=pl) p0 (by omega)
   have hb1:x.getD pl.toNat 0=0\/x.getD pl.toNat 0=1:=by
    rw[List.getD_eq_getElem?_getD]
    cases e:x[pl.toNat]? with
    |none=>exact .inl rfl
    |some y=>exact hx01 y (List.mem_of_getElem? e)
   refine⟨x,rfl,x,rfl,_,hpx,_,rfl,x,rfl,?_⟩;have b01:∀P:Prop,[Decidable P]->(if P then (1:Int) else 0)=0\/(if P then (1:Int) else 0)=1:=fun P _=>by split<;>simp
   rcases(by omega:way=0\/way=1\/way=2\/way=3\/way=4) with rfl|rfl|rfl|rfl|rfl
   ·exact⟨_,rfl,kM _ _ ⟨rfl,u,by omega,rfl⟩⟩
   ·exact⟨_,rfl,kM _ _ ⟨rfl,_,b01 _,rfl⟩⟩
   ·exact⟨_,rfl,kM _ _ ⟨rfl,_,by omega,rfl⟩⟩
   ·exact⟨_,rfl,kM _ _ ⟨rfl,_,by omega,rfl⟩⟩
   ·exact⟨_,rfl,kM _ _ ⟨rfl,_,b01 _,rfl⟩⟩
  rintro ρ' Z' ⟨rfl,g,hg,rfl⟩;walk_at "a1";refine⟨p,sh,rfl,C1 hS.ex,by omega,by omega,fun u2 c2 u20 u21=>⟨.int u2,rfl,by simp[dep],?_⟩⟩
  have hS:=hS.draw c2;revert hS;generalize Z'.put p (plO c2)=Z3;intro hS;refine kR (fun h2=>?_) (fun h2=>kN _ _ ⟨ys,zs,_,_,_,hS,rfl,(jy hx sy).2,(jy hx sz).2,dj⟩);simp only[hS.hl];rcases hg with rfl|rfl
  ·refine⟨_,rfl,.r (.ref a),rfl,a,rfl,⟨_,hS.ha⟩,_,hS.ha,aS (by simp;omega),kN _ _ ⟨ys++[x],zs,_,_,_,?_,rfl,(jy hx sy).1,(jy hx sz).2,?_⟩⟩
   ·simpa using hS.IU (ys++[x])
   ·intro v hv hv2
    rcases List.mem_append.mp hv with hv|hv
    ·exact dj v hv hv2
    ·exact hno (sz.mem (List.mem_singleton.mp hv ▸ hv2))
  ·refine⟨_,rfl,.r (.ref b),rfl,b,rfl,⟨_,hS.hb⟩,_,hS.hb,aS (by simp;omega),kN _ _ ⟨ys,zs++[x],_,_,_,?_,rfl,(jy hx sy).2,(jy hx sz).1,?_⟩⟩
   ·simpa using hS.setB (zs++[x])
   ·intro v hv hv2
    rcases List.mem_append.mp hv2 with hv2|hv2
    ·exact dj v hv hv2
    ·exact hno (sy.mem (List.mem_singleton.mp hv2 ▸ hv))
 ·rintro ρ Z' ⟨ys,zs,v8,v9,v10,hS,rfl,sy,sz,dj⟩
  rw[List.length_map,List.take_length] at sy sz;have hy:=sy.length_le;have hz:=sz.length_le
  have hS:S6 Z Z' p l [.r (.ref a),.r (.ref b)] [ys,zs]:=⟨hS.ex,hS.hl,rfl,rfl,hS.nl,hS.pl,fun j z hz'=>by
   match j with
   |0=>cases hz';exact⟨ys,rfl,by omega,ky hS.ha,fun a e=>by cases e;exact⟨hS.la.symm,hS.pa,hS.na⟩⟩
   |1=>cases hz';exact⟨zs,rfl,by omega,ky hS.hb,fun a e=>by cases e;exact⟨hS.lb.symm,hS.pb,hS.nb⟩⟩
   |j+2=>simp at hz'⟩
  have hR:Srt n 0 [ys,zs]:=⟨fun y hy=>by
   simp only[List.mem_cons,List.not_mem_nil,or_false] at hy;rcases hy with rfl|rfl
   ·exact sy
   ·exact sz,ys,zs,rfl,dj,fun z=>by omega,fun z=>by omega⟩
  dsimp only;walk_at "s1";refine⟨by decide,by decide,jq (fun i ρ Z'=>∃(zs:List AV) (A:List (List (List Int))) (v8 v9 v10 v11:Option AV),S6 Z Z' p l zs A/\Srt n i A/\ρ=[some (AV.r (V.ref p)),some (AV.d (D.int n)),some (AV.d (D.lst ((wl n).map wdD))),some (AV.d (D.int way)),some (AV.d (D.int (1+top))),some (AV.d (D.int pl)),some (AV.d (D.int sh)),some (AV.r (V.ref l)),v8,v9,v10,v11]) ⟨_,_,_,_,_,_,hS,hR,rfl⟩ ?_ ?_⟩
  ·rintro i ρ Z1 N hi ⟨zs,A,v8,v9,v10,v11,hS,hR,rfl⟩ kN
   have hi2:i<2:=hi;have ek:(0+(i:Int)).toNat=i:=by omega
   have ek2:(1-(0+(i:Int))).toNat=1-i:=by omega
   obtain⟨z,mz,ez⟩:=at2 (k:=0+(i:Int)) hS.h2 (by omega) (by omega)
   obtain⟨ws,aw,hws,dz,adz⟩:=hS.wz _ z mz;obtain⟨o,mo,eo⟩:=at2 (k:=1-(0+(i:Int))) hS.h2 (by omega) (by omega)
   obtain⟨us,au,wo⟩:=hS.wz _ o mo;have hus:=wo.len
   have doo:=wo.dat
   have ej:=ix2 (k:=0+(i:Int)) (by omega) (by omega)
   have ej2:=ix2 (k:=1-(0+(i:Int))) (by omega) (by omega)
   rw[ek] at aw ej;rw[ek2] at au ej2;have hwd:∀ws:List (List Int),dep (D.lst (ws.map wdD))<=100:=fun ws=>by have:=fj ws;simp only[dep];omega
   walk_at "a1";simp only[hS.hl];refine⟨_,rfl,_,ez,_,dz,hwd _,kR (fun h=>?_) (fun h=>kN _ _ ⟨zs,A,_,_,_,_,hS,BL hi2 hR aw (fun z=>h (by rw[z];rfl)),rfl⟩)⟩
   have hw0:ws=[]:=by
    cases ws with
    |nil=>rfl
    |cons w ws=>simp[eqD,fD] at h
   walk_at "s1";simp only[hS.hl];refine⟨_,rfl,_,eo,?_⟩;walk_at "s1";refine xc wdD (fun v=>!decide (v∈us)) wdD (Nat.le_of_lt (aS (by omega))) (fun v hv Q q=>?_) (fun v hv _ Q q=>?_) (fun ρ=>⟨_,bF _,?_⟩)
   ·walk_at "a1"
    refine⟨_,doo,_,.inl rfl,by have:=fj us;omega,?_⟩
    rw[qf];exact q
   ·walk_at "a1"
    exact q
   refine CG doo ⟨_,rfl,?_,_,hS.hl,i,by rw[hS.h2];exact ej,?_⟩
   ·have h1:=(List.length_filter_le (fun v=>!decide (v∈us)) (wl n))
    have h2:=(zc (us.map wdD) none (some 1)).length_le;rw[List.length_map] at h2 ⊢;exact Nat.le_of_lt (aS (by omega))
   rw[rl,←List.map_append,rl]
   have hc1:(iK n us).length<=32:=Nat.le_trans (Io (((wl n).filter fun v=>!decide (v∈us))++cL us none (some 1))) (by decide:1<=32)
   have hR2:=Ay hn1 hn hi2 hR aw au hw0;change Srt n (i+1) ((A.set i (iK n us)).set (1-i) (us.filter fun v=>!decide (v∈iK n us))) at hR2;show oM (Z1.put l (OC.own (zs.set i (AV.d (D.lst ((iK n us).map wdD)))))) _ _;have hS2:=hS.set (j:=i) (Ik (us:=iK n us) hc1);have ho:=wo.keep (c:=OC.own (zs.set i (AV.d (D.lst ((iK n us).map wdD)))))
   have doo2:=ho.dat
   have ai:(A.set i (iK n us))[i]?=some (iK n us):=by rw[List.getElem?_set_self (by rw[hS.hA];exact hi2)]
   clear doo2;revert hS2 ho hR2 ai;generalize iK n us=fs at hc1 ⊢;generalize Z1.put l (OC.own (zs.set i (AV.d (D.lst (fs.map wdD)))))=Z2;intro hR2 hS2 ho ai
   have doo2:=ho.dat
   refine Cd doo2 fun Z3 e3=>⟨_,rfl,?_⟩;have hS3:S6 Z Z3 p l (zs.set i (AV.d (D.lst (fs.map wdD)))) (A.set i fs):=hS2.frz ho e3;obtain⟨z3,m3,e3'⟩:=at2 (k:=0+(i:Int)) hS3.h2 (by omega) (by omega)
   obtain⟨w3,a3,hw3,d3,_⟩:=hS3.wz _ z3 m3;rw[ek,ai] at a3;cases a3;refine xc wdD (fun v=>!decide (v∈fs)) wdD (Nat.le_of_lt (aS (by omega))) (fun v hv Q q=>?_) (fun v hv _ Q q=>?_) (fun ρ q hq=>?_)
   ·walk_at "a1"
    simp only[hS3.hl];refine⟨_,rfl,_,e3',_,d3,_,.inl rfl,by have:=fj fs;omega,?_⟩
    rw[qf];exact q
   ·walk_at "a1"
    exact q
   obtain⟨hS4,hW⟩:=hS3.new (us:=us.filter fun v=>!decide (v∈fs)) hq (Nat.le_trans (List.length_filter_le _ _) hus);exact⟨_,hS4.hl,1-i,by rw[hS4.h2];exact ej2,kN _ _ ⟨_,_,_,_,_,_,hS4.set hW,hR2,rfl⟩⟩
  ·rintro ρ Z1 ⟨zs,A,v8,v9,v10,v11,hS,hR,rfl⟩
   obtain⟨c,ex⟩:=hS.ex;obtain⟨z,mz,ez⟩:=at2 (k:=0) hS.h2 (by decide) (by decide)
   obtain⟨ws,aw,hws,dz,_⟩:=hS.wz _ z mz;obtain⟨o,mo,eo⟩:=at2 (k:=1) hS.h2 (by decide) (by decide)
   obtain⟨us,au,hus,doo,_⟩:=hS.wz _ o mo;obtain⟨ys,zs',rfl,dj,n1,n2⟩:=hR.two;cases aw;cases au;walk_at "a1";simp only[hS.hl];refine⟨_,rfl,_,ez,_,.inl dz,_,rfl,_,eo,_,.inl doo,?_⟩;rw[mZ ex hp.some];exact k _ _ c (hR.sub _ (by simp)) (hR.sub _ (by simp)) (n1 (by decide)) (n2 (by decide)) dj
theorem ES:∀n:Fin 6,∀b:Fin 2,List.replicate n.val (b.val:Int)∈wl n.val:=by decide +kernel
theorem BW{v:Int}(h0:0<=v)(h1:v<2):∃y:Bool,atI [AV.d (D.str (Str.ofString "and")),AV.d (D.str (Str.ofString "or"))] v=some (.d (.str (if y then ("and":Str) else ("or":Str)))):=by
 rcases(by omega:v=0\/v=1) with rfl|rfl
 ·exact⟨true,rfl⟩
 ·exact⟨false,rfl⟩
noncomputable def BA:ASp:=fun xs Z Q=>∃(p:Addr)(n m:Nat),xs=[.r (.ref p),.d (.int n),.d (.int m)]/\jH Z p/\1<=n/\n<=5/\m<=12/\∀(x:Sy)(u:Ta)(c:Pl),x.ok n->x.dp<=12->x.lvs<=13->sbT n u->u.dp<=12->u.lvs<=13->Q (.d (.tup [x.d,u.d])) (Z.put p (plO c))
theorem Al(T:Txt K mg t):aD P w K mg base CX0 2 t.eG t.lA ["_law_pen_here","_law_places","_law_most"] (bz BA):=by
 have G_l_draw:aD P w K mg base _ _ _ _ _ _:=ip T
 refine T.yI.okD cI (fun xs Z Q h=>by obtain ⟨p,n,m,rfl,_⟩:=h;rfl) (fun cdv A outer s H E hr=>⟨_,_,(ah (az (i:=3) cI.nd rfl (Or.inl rfl) (a9 (ao aH (aa (ak G_l_draw (hr.mono (by omega)) (by rfl) T.aQ T.aP T.aO .nil ay (aa (pv 0) (aa (pv 1) af))) (aa (ak G_l_draw (hr.mono (by omega)) (by rfl) T.aQ T.aP T.aO .nil ay (aa (pv 0) (ao aj af))) af)))))
   (ah (az (i:=4) cI.nd rfl (Or.inl rfl) (a9 (ao aH (aa (ak G_l_draw (hr.mono (by omega)) (by rfl) T.aQ T.aP T.aO .nil ay (aa (pv 0) (aa (pv 1) af))) af))))
   (ah (gv PassesOwn.never rfl (eN rfl T.gh (aa (pv 2) af)) (aW (i:=5) cI.nd rfl (Or.inl rfl)) (ah (az (i:=6) cI.nd rfl (Or.inl rfl) (a9 (ao aH (aa (ak G_l_draw (hr.mono (by omega)) (by rfl) T.aQ T.aP T.aO .nil ay (aa (pv 0) (aa (pv 1) af))) (aa (ak G_l_draw (hr.mono (by omega)) (by rfl) T.aQ T.aP T.aO .nil ay (aa (pv 0) (ao aj af))) af)))))
   (ah (az (i:=7) cI.nd rfl (Or.inl rfl) (bh (aJ K rfl) (br (bP (a9 (aa (pv 6) (aa (pv 3) af))) (bP (a9 (aa (pv 3) (aa (pv 6) af))) af))) (ak G_l_draw (hr.mono (by omega)) (by rfl) T.aQ T.aP T.aO .nil ay (aa (pv 0) (ao aj af))) (fun _ _=>rfl)))
   (ah (az (i:=3) cI.nd rfl (Or.inl rfl) (aE (aB bv (aB bb bu)) (a9 (aa (bh (aJ K rfl) (br (ao aH (ao aH af))) (ak G_l_draw (hr.mono (by omega)) (by rfl) T.aQ T.aP T.aO .nil ay (aa (pv 0) (ao aj af))) (fun _ _=>rfl)) af)) (pv 7)))
   (ah (az (i:=8) cI.nd rfl (Or.inl rfl) (bh (aJ K rfl) (br (bP (a9 (aa (pv 4) (bP (a9 (ao aH (ao aj af))) af))) (bP (a9 (bP (a9 (ao aH (aa (aE dH (pv 1) aj) af))) (aa (pv 4) af))) af))) (ak G_l_draw (hr.mono (by omega)) (by rfl) T.aQ T.aP T.aO .nil ay (aa (pv 0) (ao aj af))) (fun _ _=>rfl)))
   (am (az (i:=4) cI.nd rfl (Or.inl rfl) (aE (aB bv (aB bb bu)) (a9 (aa (bh (aJ K rfl) (br (ao aH (ao aH af))) (ak G_l_draw (hr.mono (by omega)) (by rfl) T.aQ T.aP T.aO .nil ay (aa (pv 0) (ao aj af))) (fun _ _=>rfl)) (bP (a9 (aa (aE xA (a9 (aa (ak G_l_draw (hr.mono (by omega)) (by rfl) T.aQ T.aP T.aO .nil ay (aa (pv 0) (ao aj af))) af)) (pv 1)) af)) af))) (pv 8)))))))))
   (am (aR (a9 (aa (pv 3) (aa (pv 4) af)))))))),(av (aF (bw (ac aZ (ac (ar (ac ae (ac ae ag))) (ac (ar (ac ae (ac aq ag))) ag)))) ap)
   (av (aF (bw (ac aZ (ac (ar (ac ae (ac ae ag))) ag))) ap)
   (av (jT (kf (ac ae ag)) ap (av (aF (bw (ac aZ (ac (ar (ac ae (ac ae ag))) (ac (ar (ac ae (ac aq ag))) ag)))) ap)
   (av (aF (ax ce (dD (ac (bw (ac ae (ac ae ag))) (ac (bw (ac ae (ac ae ag))) ag))) (ar (ac ae (ac aq ag)))) ap)
   (av (aF (ax b8 (bw (ac (ax ce (dD (ac aZ (ac aZ ag))) (ar (ac ae (ac aq ag)))) ag)) ae) ap)
   (av (aF (ax ce (dD (ac (bw (ac ae (ac (bw (ac aZ (ac aq ag))) ag))) (ac (bw (ac (bw (ac aZ (ac (ax dS ae aq) ag))) (ac ae ag))) ag))) (ar (ac ae (ac aq ag)))) ap)
   (aF (ax b8 (bw (ac (ax ce (dD (ac aZ (ac aZ ag))) (ar (ac ae (ac aq ag)))) (ac (bw (ac (ax By (bw (ac (ar (ac ae (ac aq ag))) ag)) ae) ag)) ag))) ae) ap))))))
   (bd (bw (ac ae (ac ae ag))))))),fun xs Z Q h=>?_⟩)
 obtain⟨p,n,m,rfl,hp,hn1,hn,hm,k⟩:=h;walk_at "s1";refine⟨p,n,rfl,hp,by omega,by omega,fun i c i0 i1=>⟨p,2,rfl,a0,by decide,by decide,fun b c b0 b1=>⟨_,rfl,?_⟩⟩⟩
 rw[Om.Iz];walk_at "s1";refine⟨p,n,rfl,a0,by omega,by omega,fun e c e0 e1=>⟨_,rfl,?_⟩⟩
 rw[Om.Iz];walk_at "s1";refine⟨by omega,by omega,jq (fun j ρ Z'=>∃(x:Sy)(u:Ta)(c:Pl)(v5 v6 v7 v8:Option AV),Z'=Z.put p (plO c)/\x.ok n/\x.dp<=j/\x.lvs<=j+1/\sbT n u/\u.dp<=j/\u.lvs<=j+1/\ρ=[some (AV.r (V.ref p)),some (AV.d (D.int n)),some (AV.d (D.int m)),some (AV.d x.d),some (AV.d u.d),v5,v6,v7,v8]) ⟨.is i b,.en e,c,_,_,_,_,rfl,⟨i0,i1,by omega⟩,Nat.le_refl _,Nat.le_refl _,⟨e0,e1⟩,Nat.le_refl _,Nat.le_refl _,rfl⟩ ?_ ?_⟩
 ·rintro j ρ Z' N hj ⟨x,u,c,v5,v6,v7,v8,rfl,ox,dx,lx,su,du,lu,rfl⟩ kN
  walk_at "s1";refine⟨p,n,rfl,a0,by omega,by omega,fun i2 c i20 i21=>⟨p,2,rfl,a0,by decide,by decide,fun b2 c b20 b21=>⟨_,rfl,?_⟩⟩⟩
  rw[Om.Iz,Om.Iz];walk_at "s1";refine⟨p,2,rfl,a0,by decide,by decide,fun v c v0 v1=>?_⟩
  rw[Om.Iz]
  have hx2:∃l r:Sy,atI [AV.d (D.tup [(Sy.is i2 b2).d,x.d]),AV.d (D.tup [x.d,(Sy.is i2 b2).d])] v=some (.d (.tup [l.d,r.d]))/\l.ok n/\r.ok n/\l.dp<=j/\r.dp<=j/\l.lvs+r.lvs<=j+2:=by
   have hi:(Sy.is i2 b2).ok n:=⟨i20,i21,by omega⟩
   rcases(by omega:v=0\/v=1) with rfl|rfl
   ·exact⟨.is i2 b2,x,rfl,hi,ox,Nat.zero_le _,dx,by simp only[Sy.lvs];omega⟩
   ·exact⟨x,.is i2 b2,rfl,ox,hi,dx,Nat.zero_le _,by simp only[Sy.lvs];omega⟩
  obtain⟨l,r,e1,ol,orr,dl,dr,lr⟩:=hx2;refine⟨_,rfl,_,e1,?_⟩;walk_at "s1";refine⟨p,2,rfl,a0,by decide,by decide,fun v c v0 v1=>?_⟩
  rw[Om.Iz];obtain⟨y,ey⟩:=BW v0 v1;refine⟨_,rfl,_,ey,_,rfl,bD (by simp),?_⟩
  show xZ _ _ _ [_,_,_,some (AV.d (Sy.jn y l r).d),_,_,_,_,_] _;walk_at "s1";refine⟨p,2,rfl,a0,by decide,by decide,fun v c v0 v1=>?_⟩
  rw[Om.Iz]
  have hu2:∃a b:Ta,atI [AV.d (D.tup [u.d,(Ta.en 0).d]),AV.d (D.tup [(Ta.en ((n:Int)-1)).d,u.d])] v=some (.d (.tup [a.d,b.d]))/\sbT n a/\sbT n b/\a.dp<=j/\b.dp<=j/\a.lvs+b.lvs<=j+2:=by
   rcases(by omega:v=0\/v=1) with rfl|rfl
   ·exact⟨u,.en 0,rfl,su,⟨by omega,by omega⟩,du,Nat.zero_le _,by simp only[Ta.lvs];omega⟩
   ·exact⟨.en ((n:Int)-1),u,rfl,⟨by omega,by omega⟩,su,Nat.zero_le _,du,by simp only[Ta.lvs];omega⟩
  obtain⟨a,b,e2,sa,sb,da,db,lab⟩:=hu2;refine⟨_,rfl,_,e2,?_⟩;walk_at "a1";refine⟨p,2,rfl,a0,by decide,by decide,fun v c v0 v1=>?_⟩
  rw[Om.Iz];obtain⟨z,ez⟩:=mS v0 v1;refine⟨_,rfl,_,ez,p,2,rfl,a0,by decide,by decide,fun v c v0 v1=>?_⟩
  rw[Om.Iz];refine⟨_,rfl,by simp,by omega,by omega,by simp;omega,_,rfl,bD (by simp),?_⟩
  have hw:(List.replicate n v:List Int)∈wl n:=by
   have:=ES ⟨n,by omega⟩ ⟨v.toNat,by omega⟩
   simp only at this
   rwa [show ((v.toNat:Nat):Int)=v from by omega] at this
  have ef:(List.replicate n [D.int v]).flatten=(List.replicate n v).map D.int:=by
   rw[List.map_replicate];clear hw
   induction n with
   |zero=>rfl
   |succ n ih=>simp[List.replicate_succ]
  rw[ef];exact kN _ _ ⟨.jn y l r,.nd z [List.replicate n v] a b,c,_,_,_,_,rfl,⟨ol,orr⟩,by simp only[Sy.dp];omega,by simp only[Sy.lvs];omega,⟨by simpa using hw,sa,sb⟩,by simp only[Ta.dp];omega,by simp only[Ta.lvs];omega,rfl⟩
 ·rintro ρ Z' ⟨x,u,c,v5,v6,v7,v8,rfl,ox,dx,lx,su,du,lu,rfl⟩
  dsimp only;walk_at "a1";rw[f7 hp];exact k x u c ox (by omega) (by omega) su (by omega) (by omega)
theorem Sy.rep{n:Nat}(hn:n<=5):∀ {x:Sy},x.ok n->wt x.d<=200*x.lvs-100/\fit x.d=true/\dep x.d<=x.dp+2/\1<=x.lvs
 |.is i b,⟨i0,i1,hb⟩=>by
  have hl:=mR i0 (by omega)
  have hl2:=mR (i:=b) (by omega) (by omega)
  have hr:(reprText ("is":Str)).length=4:=by decide +kernel
  simp only[Sy.d,wt,wts,fit,jE,dep,dY,Sy.dp,Sy.lvs,hr,Bool.and_true,Bool.true_and,Bool.and_eq_true,decide_eq_true_eq];omega
 |.jn a l r,⟨hl,hr⟩=>by
  obtain⟨a1,a2,a3,a4⟩:=Sy.rep hn hl;obtain⟨b1,b2,b3,b4⟩:=Sy.rep hn hr;have hr:(reprText (if a then "and" else "or":Str)).length<=5:=by cases a<;>decide +kernel
  simp only[Sy.d,wt,wts,fit,jE,dep,dY,Sy.dp,Sy.lvs,a2,b2,Bool.and_true,true_and];omega
theorem uD:∀x:Sy,x.lvs<=2^x.dp
 |.is i b=>Nat.le_refl _
 |.jn a l r=>by
  have h1:=uD l;have h2:=uD r;have h3:2^l.dp<=2^max l.dp r.dp:=Nat.pow_le_pow_right (by decide) (Nat.le_max_left ..)
  have h4:2^r.dp<=2^max l.dp r.dp:=Nat.pow_le_pow_right (by decide) (Nat.le_max_right ..)
  simp only[Sy.lvs,Sy.dp,Nat.add_comm 1,Nat.pow_succ];omega
theorem FB{n:Nat}(hn:n<=5){x:Sy}(h:x.ok n)(hd:x.dp<=12)(hl:x.lvs<=100):rpB x.d:=by
 obtain⟨a,b,c,d⟩:=Sy.rep hn h;exact⟨by cases x<;>rfl,by omega,b,by omega⟩
theorem qN{n:Nat}:∀ {x:Sy},x.ok n->(stx x).length+3<=5*x.lvs
 |.is i b,h=>by simp only[stx,Sy.lvs,List.length_append,List.length_singleton];split<;>simp
 |.jn a l r,⟨hl,hr⟩=>by
  have h1:=qN hl;have h2:=qN hr;simp only[stx,Sy.lvs,List.length_append,List.length_singleton];omega
theorem rd{n:Nat}(hn:n<=5){ws:List (List Int)}(h:ws.Sublist (wl n)):(wtx ws).length<=192:=by
 have hwd:=Wds.sub h hn;by_cases h0:ws=[]
 ·simp[wtx,h0]
 ·have hj:=nW 44 n (ws.map btx) (fun l hl=>by
   obtain⟨v,hv,rfl⟩:=List.mem_map.mp hl
   simp[btx,(cc (hwd.2 v hv)).1])
  have hl:=h.length_le;have hp:=lW hn;rw[List.length_map] at hj;simp only[wtx,if_neg h0];have:ws.length*(n+1)<=32*6:=Nat.mul_le_mul (by omega) (by omega)
  omega
theorem qq{n:Nat}(hn:n<=5):∀ {u:Ta},sbT n u->(ttx u).length+199<=200*u.lvs
 |.en i,h=>by simp[ttx,Ta.lvs]
 |.nd y ws a b,⟨hw,ha,hb⟩=>by
  have h1:=qq hn ha;have h2:=qq hn hb;have h3:=rd hn hw;simp only[ttx,Ta.lvs,List.length_append,List.length_cons,List.length_nil];omega
theorem uJ{n:Nat}(hn:n<=5):∀ {u:Ta},sbT n u->u.ok n
 |.en i,h=>h
 |.nd y ws a b,⟨hw,ha,hb⟩=>⟨Wds.sub hw hn,uJ hn ha,uJ hn hb⟩
theorem vi{n:Nat}(hn:n<=5){u:Ta}(h:sbT n u)(hd:u.dp<=12)(hl:u.lvs<=100):rpB u.d:=by
 obtain⟨a,b,c⟩:=Ta.rep hn (uJ hn h);have:=Ta.g7 u;exact⟨by cases u<;>rfl,by omega,b,by omega⟩
theorem En{v:List Int}(h:∀b∈v,b=0\/b=1)(hl:v.length<=32):rpB (wdD v):=by
 obtain⟨a,b⟩:=re h;have:=lc v;exact⟨rfl,by simp only[wdD,dep];omega,by simp only[wdD,fit,b],by simp only[wdD,wt];omega⟩
theorem ET{n:Nat}(hn:n<=5){ys zs:List (List Int)}(hy:ys.Sublist (wl n))(hz:zs.Sublist (wl n)):rpB (csD n ys zs):=by
 obtain⟨a,b,c⟩:=Fw hn (Wds.sub hy hn) (Wds.sub hz hn);exact⟨rfl,by omega,b,by omega⟩
noncomputable def yN(cA:List AV):ASp:=fun xs Z Q=>∃x,xs=[x]/\fP (cA++[x]) Z Q
noncomputable def yQ(_:List AV):ASp:=fun xs Z Q=>∃x,xs=[x]/\fP [.d (.int 5),x] Z Q
noncomputable def pD(cA:List AV):ASp:=fun xs Z Q=>∃x,xs=[x]/\qH (cA++[x]) Z Q
noncomputable def pj(cA:List AV):ASp:=fun xs Z Q=>∃x,xs=[x]/\fP (cA++[x]) Z Q
theorem FQ(T:Txt K mg t):aD P t.wo K mg base CX0 40 t.je t.pZ ["_law_script"] (qJ K):=by
 have G_l_pen:aD P t.wo K mg base _ _ _ _ _ _:=E2 T;have G_l_draw:aD P t.wo K mg base _ _ _ _ _ _:=ip T;have G_l_all:aD P t.wo K mg base _ _ _ _ _ _:=m6 T;have G_l_sorts:aD P t.wo K mg base _ _ _ _ _ _:=zO T;have G_l_saying:aD P t.wo K mg base _ _ _ _ _ _:=pP T 5;have G_l_any_talk:aD P t.wo K mg base CX0 7 t.bM t.dc ["_law_pen_here","_law_places","_law_most","_law_share"] (bz fun xs Z Q=>∃r:Fin 6,mI r.val xs Z Q):=aD.any fun r=>(xy T r.val).mono (by omega)
 have G_l_chain:aD P t.wo K mg base _ _ _ _ _ _:=Al T;have G_l_saying_text:aD P t.wo K mg base _ _ _ _ _ _:=BD T 15;have G_l_words_text:aD P t.wo K mg base _ _ _ _ _ _:=At T;have G_l_talk_text:aD P t.wo K mg base _ _ _ _ _ _:=yZ T 15;have G_l_full:aD P t.wo K mg base _ _ _ _ _ _:=vN T 4;have G_l_wide:aD P t.wo K mg base _ _ _ _ _ _:=xl T 6;have G_l_told:∀b',aD P t.wo K mg b' CX0 8 t.fk t.kW ["_law_asked","_law_text","_law_due"] (mE 6 P t.wo K mg b'):=fun b'=>Cl 6 T
 have D_read_case:∀(b':Heap)(H:Hp),Clo P t.wo K mg b' H 6 t.ci 1 (kr [] [] DL):=fun b' H=>wJ T.l5 (GW T) T.rO;have D_read_table:∀(b':Heap)(H:Hp),Clo P t.wo K mg b' H 6 t.bV 1 (kr [] [] xF):=fun b' H=>wJ T.kX ((B9 T).mono (by decide)) T.qe
 refine T.ib.okD dv (fun xs Z Q h=>by obtain⟨a,ns,rfl,_⟩:=h;rfl) (fun A outer s H E hr=>?_)
 refine ⟨_,_,(ah (az (i:=1) dv.nd rfl (Or.inl rfl) (ak G_l_pen (hr.mono (by omega)) (by rfl) T.Cj T.CV T.B4 .nil ay (aa (pv 0) af)))
   (ah (gv PassesOwn.never rfl (eN rfl T.gh (ao aj af)) (aW (i:=2) dv.nd rfl (Or.inl rfl)) (ah (az (i:=3) dv.nd rfl (Or.inr rfl) (aE (aB bv (aB bb bu)) aj (ak G_l_draw (hr.mono (by omega)) (by rfl) T.aQ T.aP T.aO .nil ay (aa (pv 1) (ao aj af)))))
   (ah (az (i:=4) dv.nd rfl (Or.inl rfl) (br (aa (ak G_l_saying (hr.mono (by omega)) (by rfl) T.jZ T.j8 T.kn .nil ay (aa (pv 1) (aa (pv 3) (ao aj af)))) af)))
   (ah (az (i:=5) dv.nd rfl (Or.inl rfl) (br (aa (ak G_l_any_talk (hr.mono (by omega)) (by rfl) T.iC T.io T.hV .nil ay (aa (pv 1) (aa (pv 3) (aa (bh (aJ K rfl) (br (ao aj (ao aj (ao aj af)))) (pv 2) (fun _ _=>rfl)) (aa (bh (aJ K rfl) (br (ao aj (ao aj (ao aj (ao aj af))))) (ak G_l_draw (hr.mono (by omega)) (by rfl) T.aQ T.aP T.aO .nil ay (aa (pv 1) (ao aj af))) (fun _ _=>rfl)) af))))) af)))
   (ah (hZ (ak G_l_chain (hr.mono (by omega)) (by rfl) T.xV T.yu T.yi .nil ay (aa (pv 1) (aa (pv 3) (aa (ak G_l_draw (hr.mono (by omega)) (by rfl) T.aQ T.aP T.aO .nil ay (aa (pv 1) (ao aj af))) af)))) (qw K rfl (n:=2) rfl (d5 (aW (i:=6) dv.nd rfl (Or.inl rfl)) (d5 (aW (i:=7) dv.nd rfl (Or.inl rfl)) mx))))
   (ah (gv PassesOwn.never rfl (cz K rfl (aE (aB bv (aB bb bu)) (pv 4) (br (aa (pv 6) af)))) (aW (i:=8) dv.nd rfl (Or.inl rfl)) (am (bn (cU (be K rfl (gI G_l_told (hr.mono (by omega)) (by rfl) T.gU T.gG T.g8 (aa (p7 (x:="law") rfl rfl T.ib.tab T.ib.hd rfl) (aa (ak G_l_saying_text (hr.mono (by omega)) (by rfl) T.ft T.fu T.fq .nil ay (aa (pv 8) af)) (aa (pv 8) af)))) (fun _=>rfl))) (am (aR kQ)) aX)))
   (ah (gv PassesOwn.never rfl (cz K rfl (aE (aB bv (aB bb bu)) (pv 5) (br (aa (pv 7) af)))) (aW (i:=8) dv.nd rfl (Or.inl rfl)) (am (bn (aL sw (aK (bH K rfl) (by rfl) T.fy (by kernel_rfl) (aa (ak G_l_talk_text (hr.mono (by omega)) (by rfl) T.cT T.cQ T.cR .nil ay (aa (pv 8) af)) af)) aj (a7 _)) (am (bn (cU (be K rfl (gI G_l_told (hr.mono (by omega)) (by rfl) T.gU T.gG T.g8 (aa (p7 (x:="law") rfl rfl T.ib.tab T.ib.hd rfl) (aa (ak G_l_talk_text (hr.mono (by omega)) (by rfl) T.cT T.cQ T.cR .nil ay (aa (pv 8) af)) (aa (pv 8) af)))) (fun _=>rfl))) (am (aR kQ)) aX)) aX)))
   (ah (hZ (ak G_l_sorts (hr.mono (by omega)) (by rfl) T.xR T.x4 T.xY .nil ay (aa (pv 1) (aa (pv 3) af))) (qw K rfl (n:=2) rfl (d5 (aW (i:=9) dv.nd rfl (Or.inr rfl)) (d5 (aW (i:=10) dv.nd rfl (Or.inl rfl)) mx))))
   (ah (bn (cU (be K rfl (gI G_l_told (hr.mono (by omega)) (by rfl) T.gU T.gG T.g8 (aa (c8 (v:=.ref t.ci) rfl T.sY rfl) (aa (aE bE (aE bE (ak G_l_words_text (hr.mono (by omega)) (by rfl) T.f8 T.fX T.ga .nil ay (aa (pv 9) af)) aH) (ak G_l_words_text (hr.mono (by omega)) (by rfl) T.f8 T.fX T.ga .nil ay (aa (pv 10) af))) (bP (a9 (aa (pv 3) (aa (pv 9) (aa (pv 10) af)))) af)))) (fun _=>rfl))) (am (aR kQ)) aX)
   (ah (az (i:=11) dv.nd rfl (Or.inl rfl) (a8 (bj K rfl) (by rfl) T.cV (by kernel_rfl) (aa (bR (N:=(["_law_word","_law_yes"] : List Str)) (src:=[none,some 9]) rfl (by show c0 _ (defScope jN) _ _ (["_law_script","_law_pen_here","_law_turn","_law_places","_law_sayings","_law_talks","_law_saying_here","_law_talk","_law_one","_law_yes","_law_no","_law_table","_law_few"] : List Str) = true;decide +kernel) (by intro g' h;cases h) (cz K rfl (ak G_l_all (hr.mono (by omega)) (by rfl) T.kU T.kt T.kE .nil ay (aa (pv 3) af))) (fun _ _ _ _ _ _=>(aW (i:=0) (show (["_law_word","_law_yes"] : List Str).Nodup by decide +kernel) rfl (Or.inl rfl))) (fun _ _ _ _ _ _=>cu) (fun _ _ _ _ _ _=>(bS rfl rfl (a8 fH (by rfl) T.jO (by kernel_rfl) (aa (fc (u9 hr.IC) (pv 0) (pv 1) (by with_unfolding_all rfl)) af))))) af)))
   (am (bn (cU (be K rfl (gI G_l_told (hr.mono (by omega)) (by rfl) T.gU T.gG T.g8 (aa (c8 (v:=.ref t.bV) rfl T.qW rfl) (aa (fx PySem.F.plainAttrs_str PySem.F.slot_str_join PySem.F.type_str_join (nB K rfl) aH (aa (bR (N:=(["_law_bit"]:List Str)) (src:=[none]) rfl (by show c0 _ (defScope jN) _ _ (["_law_script","_law_pen_here","_law_turn","_law_places","_law_sayings","_law_talks","_law_saying_here","_law_talk","_law_one","_law_yes","_law_no","_law_table","_law_few"]:List Str)=true;decide +kernel) (by intro g' h;cases h) (cz K rfl (pv 11)) (fun _ _ _ _ _ _=>(aW (i:=0) (show (["_law_bit"]:List Str).Nodup by decide +kernel) rfl (Or.inl rfl))) (fun _ _ _ _ _ _=>cu) (fun _ _ _ _ _ _=>(bS rfl rfl (a8 fF (by rfl) T.r8 (by kernel_rfl) (aa (pv 0) af))))) af)) (aa (pv 11) af)))) (fun _=>rfl))) (am (aR kQ)) aX))))))))))))
   (ah (az (i:=8) dv.nd rfl (Or.inl rfl) (ak G_l_full (hr.mono (by omega)) (by rfl) T.nL T.nI T.nj .nil ay (aa (pv 1) (ao aj af))))
   (ah (bn (cU (be K rfl (gI G_l_told (hr.mono (by omega)) (by rfl) T.gU T.gG T.g8 (aa (p7 (x:="law") rfl rfl T.ib.tab T.ib.hd rfl) (aa (ak G_l_talk_text (hr.mono (by omega)) (by rfl) T.cT T.cQ T.cR .nil ay (aa (pv 8) af)) (aa (pv 8) af)))) (fun _=>rfl))) (am (aR kQ)) aX)
   (ah (az (i:=12) dv.nd rfl (Or.inr rfl) (aE (aB bv (aB bb bu)) aj (ak G_l_draw (hr.mono (by omega)) (by rfl) T.aQ T.aP T.aO .nil ay (aa (pv 1) (ao aj af)))))
   (ah (az (i:=8) dv.nd rfl (Or.inl rfl) (ak G_l_wide (hr.mono (by omega)) (by rfl) T.nz T.mX T.ou .nil ay (aa (pv 1) (aa (pv 12) (aa (bh (aJ K rfl) (br (ao aj (aa (aE (aB bv (aB bb bu)) aj (ak G_l_draw (hr.mono (by omega)) (by rfl) T.aQ T.aP T.aO .nil ay (aa (pv 1) (ao aj af)))) af))) (ak G_l_draw (hr.mono (by omega)) (by rfl) T.aQ T.aP T.aO .nil ay (aa (pv 1) (ao aj af))) (fun _ _=>rfl)) af)))))
   (am (aR (gI G_l_told (hr.mono (by omega)) (by rfl) T.gU T.gG T.g8 (aa (p7 (x:="law") rfl rfl T.ib.tab T.ib.hd rfl) (aa (ak G_l_talk_text (hr.mono (by omega)) (by rfl) T.cT T.cQ T.cR .nil ay (aa (pv 8) af)) (aa (pv 8) af)))))))))))),(av (aF (ar (ac ae ag)) ap)
   (av (jT (kf (ac aq ag)) ap (av (aF (ax b8 aq (ar (ac ae (ac aq ag)))) ap)
   (av (aF (dD (ac (ar (ac ae (ac ae (ac aq ag)))) ag)) ap)
   (av (aF (dD (ac (ar (ac ae (ac ae (ac (ax ce (dD (ac aq (ac aq (ac aq ag)))) ae) (ac (ax ce (dD (ac aq (ac aq (ac aq (ac aq ag))))) (ar (ac ae (ac aq ag)))) ag))))) ag)) ap)
   (av (aF (ar (ac ae (ac ae (ac (ar (ac ae (ac aq ag))) ag)))) (zb (ia ap (ia ap vE))))
   (av (jT (dP (ax b8 ae (dD (ac ae ag)))) ap (ca (eF (dC (ql (js:=[3]) (s:=pD) ?F2 (ar (ac ae ag)) ae))) (bd qD) bc))
   (av (jT (dP (ax b8 ae (dD (ac ae ag)))) ap (ca (aY (ax iH (bx An (ac (ar (ac ae ag)) ag)) aq)) (ca (eF (dC (ql (js:=[3]) (s:=pj) ?F3 (ar (ac ae ag)) ae))) (bd qD) bc) bc))
   (av (aF (ar (ac ae (ac ae ag))) (zb (ia ap (ia ap vE))))
   (av (ca (eF (dC (wB D_read_case (ax eh (ax eh (ar (ac ae ag)) aZ) (ar (ac ae ag))) (bw (ac ae (ac ae (ac ae ag))))))) (bd qD) bc)
   (av (aF (bx eg (ac (cK (dP (ar (ac ae ag))) ap jK (cB (bx pz (ac (ax Ae ae ae) ag)))) ag)) ap)
   (ca (eF (dC (wB D_read_table (vm aZ (ac (cK (dP ae) ap jK (cB (bx qC (ac ae ag)))) ag)) ae))) (bd qD) bc)))))))))))
   (av (aF (ar (ac ae (ac aq ag))) ap)
   (av (ca (eF (dC (ql (js:=[]) (s:=yQ) ?F1 (ar (ac ae ag)) ae))) (bd qD) bc)
   (av (aF (ax b8 aq (ar (ac ae (ac aq ag)))) ap)
   (av (aF (ar (ac ae (ac ae (ac (ax ce (dD (ac aq (ac (ax b8 aq (ar (ac ae (ac aq ag)))) ag))) (ar (ac ae (ac aq ag)))) ag)))) ap)
   (bd (ql (js:=[12]) (s:=yN) ?F0 (ar (ac ae ag)) ae)))))))),fun xs Z Q h=>?main⟩
 case F0=>
  intro b' H f σ caps cA L cb hc hl;have G_read_talk:aD P t.wo K mg b' CX0 4 t.bX t.dR ["places","text"] (bz fP):=oh T;obtain⟨v,rfl⟩:∃v,caps=[v]:=List.length_eq_one_iff.mp hc.1;obtain⟨wc,wu,hwc,hcell,hrel⟩:=cb 12 "_law_few" v rfl (hc.2 0 12 v rfl rfl) rfl rfl;obtain rfl:=Option.some.inj hwc;refine mC (ps:=["_law_text"]) (cs:=["_law_few"]) L ⟨rfl,rfl,rfl,by decide +kernel,by decide +kernel,by decide +kernel,by decide +kernel⟩ (uO hcell hrel) (fun pm c ctv us hl=>match us,hl with | [_],_=>rfl) (fun xs Z Q h=>by obtain⟨x,rfl,_⟩:=h;rfl) (fun cd A outer s H hr=>⟨_,_,(ak G_read_talk (hr.mono (by omega)) (by rfl) T.i9 T.ji T.jk .nil ay (aa (pv 1) (aa (pv 0) af))),(ar (ac ae (ac ae ag))),fun xs Z Q h=>?_⟩)
  obtain⟨x,rfl,h⟩:=h
  match cA,hl with
  | [y],_=>exact⟨_,rfl,_,rfl,h⟩
 case F1=>
  intro b' H f σ caps cA L cb hc hl;have G_read_talk:aD P t.wo K mg b' CX0 4 t.bX t.dR ["places","text"] (bz fP):=oh T;obtain rfl:caps=[]:=List.length_eq_zero_iff.mp (hc.1);refine mC (ps:=["_law_text"]) (cs:=[]) L ⟨rfl,rfl,rfl,by decide +kernel,by decide +kernel,by decide +kernel,by decide +kernel⟩ (HM b') (fun pm c ctv us hl=>match us,hl with | [_],_=>rfl) (fun xs Z Q h=>by obtain⟨x,rfl,_⟩:=h;rfl) (fun cd A outer s H hr=>⟨_,_,(ak G_read_talk (hr.mono (by omega)) (by rfl) T.i9 T.ji T.jk .nil ay (ao aj (aa (pv 0) af))),(ar (ac aq (ac ae ag))),fun xs Z Q h=>?_⟩)
  obtain⟨x,rfl,h⟩:=h
  match cA,hl with
  | [],_=>exact⟨_,rfl,h⟩
 case F2=>
  intro b' H f σ caps cA L cb hc hl;have G_read_saying:aD P t.wo K mg b' CX0 3 t.bW t.fg ["places","text"] (bz qH):=Cy T;obtain⟨v,rfl⟩:∃v,caps=[v]:=List.length_eq_one_iff.mp hc.1;obtain⟨wc,wu,hwc,hcell,hrel⟩:=cb 3 "_law_places" v rfl (hc.2 0 3 v rfl rfl) rfl rfl;obtain rfl:=Option.some.inj hwc;refine mC (ps:=["_law_text"]) (cs:=["_law_places"]) L ⟨rfl,rfl,rfl,by decide +kernel,by decide +kernel,by decide +kernel,by decide +kernel⟩ (uO hcell hrel) (fun pm c ctv us hl=>match us,hl with | [_],_=>rfl) (fun xs Z Q h=>by obtain⟨x,rfl,_⟩:=h;rfl) (fun cd A outer s H hr=>⟨_,_,(ak G_read_saying (hr.mono (by omega)) (by rfl) T.oV T.oS T.o7 .nil ay (aa (pv 1) (aa (pv 0) af))),(ar (ac ae (ac ae ag))),fun xs Z Q h=>?_⟩)
  obtain⟨x,rfl,h⟩:=h
  match cA,hl with
  | [y],_=>exact⟨_,rfl,_,rfl,h⟩
 case F3=>
  intro b' H f σ caps cA L cb hc hl;have G_read_talk:aD P t.wo K mg b' CX0 4 t.bX t.dR ["places","text"] (bz fP):=oh T;obtain⟨v,rfl⟩:∃v,caps=[v]:=List.length_eq_one_iff.mp hc.1;obtain⟨wc,wu,hwc,hcell,hrel⟩:=cb 3 "_law_places" v rfl (hc.2 0 3 v rfl rfl) rfl rfl;obtain rfl:=Option.some.inj hwc;refine mC (ps:=["_law_text"]) (cs:=["_law_places"]) L ⟨rfl,rfl,rfl,by decide +kernel,by decide +kernel,by decide +kernel,by decide +kernel⟩ (uO hcell hrel) (fun pm c ctv us hl=>match us,hl with | [_],_=>rfl) (fun xs Z Q h=>by obtain⟨x,rfl,_⟩:=h;rfl) (fun cd A outer s H hr=>⟨_,_,(ak G_read_talk (hr.mono (by omega)) (by rfl) T.i9 T.ji T.jk .nil ay (aa (pv 1) (aa (pv 0) af))),(ar (ac ae (ac ae ag))),fun xs Z Q h=>?_⟩)
  obtain⟨x,rfl,h⟩:=h
  match cA,hl with
  | [y],_=>exact⟨_,rfl,_,rfl,h⟩
 case main=>
  obtain⟨a,ns,rfl,hl,rfl,k⟩:=h;walk_at "s1";refine⟨a,ns,rfl,hl,fun p c hp0=>?_⟩;walk_at "s1";refine⟨by decide,by decide,jq (fun i ρ Z'=>jH Z' p/\∃v2 v3 v4 v5 v6 v7 v8 v9 v10 v11,ρ=[some (scr K a ns),some (.r (.ref p)),v2,v3,v4,v5,v6,v7,v8,v9,v10,v11,none]) ⟨a0,_,_,_,_,_,_,_,_,_,_,rfl⟩ ?_ ?_⟩
  ·rintro i ρ Z N hi ⟨hp,v2,v3,v4,v5,v6,v7,v8,v9,v10,v11,rfl⟩ kN
   have hi3:i<3:=hi;walk_at "s1";refine⟨p,5,rfl,hp,by decide,by decide,fun r c r0 r1=>⟨r,rfl,?_⟩⟩
   obtain⟨n,hn⟩:∃n:Nat,1+r=(n:Int):=⟨(1+r).toNat,by omega⟩
   have hn1:1<=n:=by omega
   have hn5:n<=5:=by omega
   rw[hn];clear hn r0 r1;walk_at "s1";refine⟨p,n,rfl,a0,hn1,hn5,fun x c ox dx=>?_⟩;rw[Om.Iz];have lx:=uD x;have lx:x.lvs<=32:=Nat.le_trans lx (Nat.pow_le_pow_right (by decide) dx:2^x.dp<=2^5)
   walk_at "s1"
   obtain⟨q,eq,hq⟩:∃q:Fin 6,atI [AV.d (D.int 5),AV.d (D.int 3),AV.d (D.int 2)] (0+(i:Int))=some (.d (.int (q.val:Nat)))/\q.val<=5:=by
    rcases(by omega:i=0\/i=1\/i=2) with rfl|rfl|rfl
    ·exact⟨5,rfl,by decide⟩
    ·exact⟨3,rfl,by decide⟩
    ·exact⟨2,rfl,by decide⟩
   refine⟨_,eq,p,4,rfl,a0,by decide,by decide,fun v c v0 v1=>?_⟩
   rw[Om.Iz]
   obtain⟨sh,esh,s1,s9⟩:∃sh:Nat,atI [AV.d (D.int 1),AV.d (D.int 2),AV.d (D.int 4),AV.d (D.int 9)] v=some (.d (.int sh))/\1<=sh/\sh<=9:=by
    rcases(by omega:v=0\/v=1\/v=2\/v=3) with rfl|rfl|rfl|rfl
    ·exact⟨1,rfl,by decide,by decide⟩
    ·exact⟨2,rfl,by decide,by decide⟩
    ·exact⟨4,rfl,by decide,by decide⟩
    ·exact⟨9,rfl,by decide,by decide⟩
   refine⟨_,rfl,_,esh,q,p,n,sh,rfl,a0,hn1,hn5,s1,s9,hq,fun u c su du lu=>⟨_,rfl,?_⟩⟩;rw[Om.Iz];have lu:u.lvs<=32:=Nat.le_trans lu (Nat.pow_le_pow_right (by decide) hq:2^q.val<=2^5)
   walk_at "s1";refine⟨p,13,rfl,a0,by decide,by decide,fun m c m0 m1=>?_⟩
   obtain⟨m,rfl⟩:=Int.eq_ofNat_of_zero_le m0;rw[Om.Iz];refine⟨p,n,m,rfl,a0,hn1,hn5,by omega,fun x2 u2 c ox2 dx2 lx2 su2 du2 lu2=>?_⟩
   rw[Om.Iz];walk_at "s1";have tl2:∀x:Sy,x.ok n->x.dp<=12->x.lvs<=32->∀Z1 (Q1:AV->Om->Prop),Q1 (.d x.d) Z1->pD [.d (.int n)] [.d (.str (tx (stx x)))] Z1 Q1:=fun x h1 h2 h3 Z1 Q1 q=>⟨_,rfl,n,x,rfl,hn5,h1,by have:=qN h1;omega,q⟩
   have tl3:∀u:Ta,sbT n u->u.lvs<=32->∀Z1 (Q1:AV->Om->Prop),Q1 (.d u.d) Z1->pj [.d (.int n)] [.d (.str (tx (ttx u)))] Z1 Q1:=fun u h1 h3 Z1 Q1 q=>⟨_,rfl,n,u,rfl,hn1,hn5,h1,by have:=qq hn5 h1;omega,q⟩
   refine wf (ds:=[x.d,x2.d]) (fun j ρ' Z'=>∃v8,Z'=Z.put p (plO c)/\ρ'=[some (scr K a ns),some (.r (.ref p)),some (.d (.int (0+(i:Int)))),some (.d (.int n)),some (.d (.lst [x.d])),some (.d (.lst [u.d])),some (.d x2.d),some (.d u2.d),v8,v9,v10,v11,none]) ⟨_,rfl,rfl⟩ ?_ ?_
   ·rintro j d ρ Z' N hj ⟨v8,rfl,rfl⟩ kN
    obtain⟨x3,rfl,o3,d3,l3⟩:∃x3:Sy,d=x3.d/\x3.ok n/\x3.dp<=12/\x3.lvs<=32:=by
     have:=List.mem_of_getElem? hj;simp only[List.mem_cons,List.not_mem_nil,or_false] at this;rcases this with rfl|rfl
     ·exact⟨x,rfl,ox,by omega,lx⟩
     ·exact⟨x2,rfl,ox2,dx2,by omega⟩
    walk_at "a1";refine⟨n,x3,rfl,hn5,o3,by omega,by decide,by have:=qN o3;omega,_,rfl,_,rfl,tl2 x3 o3 d3 l3,FB hn5 o3 d3 (by omega),kN _ _ ⟨_,rfl,rfl⟩⟩
   rintro ρ Z' ⟨v8,rfl,rfl⟩;dsimp only;walk_at "s1";refine wf (ds:=[u.d,u2.d]) (fun j ρ' Z'=>∃v8,Z'=Z.put p (plO c)/\ρ'=[some (scr K a ns),some (.r (.ref p)),some (.d (.int (0+(i:Int)))),some (.d (.int n)),some (.d (.lst [x.d])),some (.d (.lst [u.d])),some (.d x2.d),some (.d u2.d),v8,v9,v10,v11,none]) ⟨_,rfl,rfl⟩ ?_ ?_
   ·rintro j d ρ Z' N hj ⟨v8,rfl,rfl⟩ kN
    obtain⟨u3,rfl,o3,d3,l3⟩:∃u3:Ta,d=u3.d/\sbT n u3/\u3.dp<=12/\u3.lvs<=32:=by
     have:=List.mem_of_getElem? hj;simp only[List.mem_cons,List.not_mem_nil,or_false] at this;rcases this with rfl|rfl
     ·exact⟨u,rfl,su,by omega,lu⟩
     ·exact⟨u2,rfl,su2,du2,by omega⟩
    have hlen:=qq hn5 o3;walk_at "a1";refine⟨n,u3,rfl,hn5,o3,by omega,by decide,by omega,_,rfl,?_,?_⟩
    ·rw[aA];exact bD (by omega)
    refine kR (fun _=>?_) (fun _=>kN _ _ ⟨_,rfl,rfl⟩);exact⟨n,u3,rfl,hn5,o3,by omega,by decide,by omega,_,rfl,_,rfl,tl3 u3 o3 l3,vi hn5 o3 d3 (by omega),kN _ _ ⟨_,rfl,rfl⟩⟩
   rintro ρ Z' ⟨v8,rfl,rfl⟩;dsimp only;walk_at "s1";refine⟨p,n,rfl,a0,hn1,hn5,fun ys zs c sy sz y0 z0 dj=>?_⟩;rw[Om.Iz];walk_at "s1";have ly:=rd hn5 sy;have lz:=rd hn5 sz;have e32:Str.ofString " "=tx [32]:=by decide +kernel
   refine⟨n,ys,rfl,hn5,Wds.sub sy hn5,_,rfl,?_,n,zs,rfl,hn5,Wds.sub sz hn5,_,rfl,?_,?_,ET hn5 sy sz,?_⟩
   ·rw[e32,aA,aA];exact bD (by simp;omega)
   ·rw[e32,cf,aA,aA];exact bD (by simp;omega)
   ·intro Z1 Q1 q
    rw[e32,cf,cf];simp only[wtx,if_neg y0,if_neg z0];exact⟨n,ys,zs,rfl,hn1,hn5,sy,sz,y0,z0,dj,q⟩
   have hwl:=lW hn5;have hwp:=on n;walk_at "s1";refine⟨n,rfl,hn5,?_⟩;walk_at "a1";refine cw (rs:=((wl n).map fun v=>if v∈ys then (1:Int) else 0).map D.int) (by simp) (Nat.le_of_lt (aS (by simp;omega))) (fun j a r h1 h2 Q q=>?_) (fun ρ=>⟨_,bF _,?_⟩)
   ·simp only[List.getElem?_map,Option.map_eq_some_iff] at h1 h2
    obtain⟨_,⟨v,hj,rfl⟩,rfl⟩:=h1;obtain⟨_,⟨v',hj',rfl⟩,rfl⟩:=h2;rw[hj] at hj';cases hj';walk_at "a1";refine⟨by have:=fj ys;omega,?_⟩
    rw[qf];by_cases hv:v∈ys
    ·simp only[hv,decide_true,if_true] at q ⊢
     exact q
    ·simp only[hv,decide_false,if_false,Bool.false_eq_true] at q ⊢
     exact q
   have tlen:((wl n).map fun v=>if v∈ys then (1:Int) else 0).length=2^n:=by rw[List.length_map,hwp]
   have tb:∀b∈(wl n).map fun v=>if v∈ys then (1:Int) else 0,b=0\/b=1:=fun b hb=>by
    obtain⟨v,_,rfl⟩:=List.mem_map.mp hb;split
    ·exact .inr rfl
    ·exact .inl rfl
   rw[hwp] at hwl;generalize ((wl n).map fun v=>if v∈ys then (1:Int) else 0)=tab at tlen tb ⊢
   refine cw (rs:=((tab.map fun b=>[48+b.toNat]).map tx).map D.str) (by simp) (Nat.le_of_lt (aS (by simp;omega))) (fun j a r h1 h2 Q q=>?_) (fun ρ=>⟨_,bF _,_,rfl,?_,?_,En tb (by omega),kN _ _ ⟨a0,_,_,_,_,_,_,_,_,_,_,rfl⟩⟩)
   ·simp only[List.getElem?_map,Option.map_eq_some_iff] at h1 h2
    obtain⟨_,⟨b,hj,rfl⟩,rfl⟩:=h1;obtain⟨_,⟨_,⟨b',hj',rfl⟩,rfl⟩,rfl⟩:=h2;rw[hj] at hj';cases hj';have hb:=tb b (List.mem_of_getElem? hj);have e1:=mO ⟨b.toNat,by omega⟩
    simp only at e1;rw[show ((b.toNat:Nat):Int)=b from by omega] at e1
    walk_at "a1";rw[e1];exact⟨Nat.lt_of_le_of_lt (Nat.log2_le_self _) (by omega),q⟩
   ·exact lB 10 (fun y hy=>by
     obtain⟨z,hz,rfl⟩:=List.mem_map.mp hy;obtain⟨b,_,rfl⟩:=List.mem_map.mp hz;rw[aA,show (Str.ofString "").length=0 from by decide +kernel]
     simp) (by simp;omega)
   ·intro Z1 Q1 q
    rw[show Str.ofString ""=tx [] from by decide +kernel,mH,vk]
    exact⟨n,tab,rfl,hn1,hn5,tlen,tb,q⟩
  ·rintro ρ Z ⟨hp,v2,v3,v4,v5,v6,v7,v8,v9,v10,v11,rfl⟩
   dsimp only;walk_at "s1";refine⟨p,rfl,hp,by decide,fun u c su du lu tu=>?_⟩
   walk_at "s1";refine⟨5,u,rfl,by decide,su,by omega,by decide,by omega,_,rfl,_,rfl,fun Z1 Q1 q=>⟨_,rfl,5,u,rfl,by decide,by decide,su,by omega,q⟩,vi (n:=5) (by decide) su (by omega) (by omega),?_⟩
   walk_at "s1";refine⟨p,3,rfl,a0,by decide,by decide,fun r c r0 r1=>⟨r,rfl,?_⟩⟩
   obtain⟨n,hn⟩:∃n:Nat,1+r=(n:Int):=⟨(1+r).toNat,by omega⟩
   have hn1:1<=n:=by omega
   have hn3:n<=3:=by omega
   rw[hn];clear hn r0 r1;rw[Om.Iz];walk_at "s1";refine⟨p,31,rfl,a0,by decide,by decide,fun j c j0 j1=>⟨j,rfl,p,2,rfl,a0,by decide,by decide,fun v c v0 v1=>?_⟩⟩
   rw[Om.Iz,Om.Iz]
   obtain⟨m,em,m1,m64⟩:∃m:Nat,atI [AV.d (D.int 60),AV.d (D.int (30+j))] v=some (.d (.int m))/\1<=m/\m<=60:=by
    rcases(by omega:v=0\/v=1) with rfl|rfl
    ·exact⟨60,rfl,by decide,by decide⟩
    ·exact⟨(30+j).toNat,by rw[show (((30+j).toNat:Nat):Int)=30+j from by omega];rfl,by omega,by omega⟩
   refine⟨_,rfl,_,em,p,n,m,rfl,a0,hn1,hn3,m1,by omega,by decide,fun u c su du lu tu=>?_⟩
   exact⟨n,u,rfl,by omega,su,by omega,by decide,by omega,_,rfl,_,rfl,_,rfl,fun Z1 Q1 q=>⟨_,rfl,n,u,rfl,hn1,by omega,su,by omega,q⟩,vi (n:=n) (by omega) su (by omega) (by omega),k _⟩
end
theorem BV{P:Program}{w:World}{K:W.Frag}{mg:Str->Option Value}{base:Heap}{t:Adr}(hw:t.wo=w)(T:Txt K mg t):aD P w K mg base CX0 40 t.je t.pZ ["_law_script"] (qJ K):=by
 subst hw;exact FQ T
theorem E7(w:World){K:W.Frag}{h:Heap}{mg:Str->Option Value}(X:K.In h)(G:h.Ns mainGlobals mg){dJ:Addr}{fd_is_whole:FuncData}{fT:Addr}{fd_is_bit:FuncData}{cJ:Addr}{fd_are_places:FuncData}{eK:Addr}{fd_is_word:FuncData}{cF:Addr}{fd_is_rising:FuncData}{dE:Addr}{fd_is_table:FuncData}{eL:Addr}{fd_case_of:FuncData}{bL:Addr}{fd_words_in_order:FuncData}{b7:Addr}{fd_must_be_text:FuncData}{dL:Addr}{fd_must_end:FuncData}{e8:Addr}{fd_sign_at:FuncData}{kh:Addr}{fd_past:FuncData}{dF:Addr}{fd_place_at:FuncData}{bW:Addr}{fd_read_saying:FuncData}{bX:Addr}{fd_read_talk:FuncData}{cX:Addr}{fd_says_from:FuncData}{cZ:Addr}{fd_word_from:FuncData}{cY:Addr}{fd_read_bits:FuncData}{bV:Addr}{fd_read_table:FuncData}{cH:Addr}{fd_read_words:FuncData}{ci:Addr}{fd_read_case:FuncData}{hG:Addr}{fd_l_pen:FuncData}{fR:Addr}{fd_l_draw:FuncData}{hU:Addr}{fd_l_all:FuncData}{eJ:Addr}{fd_l_sorts:FuncData}{cG:Addr}{fd_l_saying:FuncData}{bM:Addr}{fd_l_any_talk:FuncData}{eG:Addr}{fd_l_chain:FuncData}{bt:Addr}{fd_l_saying_text:FuncData}{bZ:Addr}{fd_l_words_text:FuncData}{bN:Addr}{fd_l_talk_text:FuncData}{dZ:Addr}{fd_l_full:FuncData}{el:Addr}{fd_l_wide:FuncData}{fk:Addr}{fd_l_told:FuncData}{je:Addr}{od_law an_law:Option Addr}{sl_law:Array (Option Value)}{oc_law kV_law dc_law pm_law cd_law ct_law:Value}{fe:Tok}{ff:Addr}{ep_JOINS:Nat}{u_JOINS_0 v_JOINS_0 u_JOINS_1 v_JOINS_1:Tok}{fb:Addr}{ep_HANDS:Nat}{u_HANDS_0 v_HANDS_0 u_HANDS_1 v_HANDS_1:Tok}{cm:Addr}{n_TABLE_SIZES:Nat}{u_TABLE_SIZES_0 u_TABLE_SIZES_1 u_TABLE_SIZES_2 u_TABLE_SIZES_3 u_TABLE_SIZES_4:Tok}{cD:Addr}{n_BIT_SIGNS:Nat}{u_BIT_SIGNS_0 u_BIT_SIGNS_1:Tok}{cr:Addr}{n_PLACE_SIGNS:Nat}{u_PLACE_SIGNS_0 u_PLACE_SIGNS_1 u_PLACE_SIGNS_2 u_PLACE_SIGNS_3 u_PLACE_SIGNS_4:Tok}{bJ:Addr}{n_BEHIND_BRACKET:Nat}{u_BEHIND_BRACKET_0 u_BEHIND_BRACKET_1 u_BEHIND_BRACKET_2 u_BEHIND_BRACKET_3:Tok}{cn:Addr}{n_BEHIND_SAYS:Nat}{u_BEHIND_SAYS_0 u_BEHIND_SAYS_1 u_BEHIND_SAYS_2 u_BEHIND_SAYS_3 u_BEHIND_SAYS_4:Tok}{cc_law pp_law:Addr}{ko_law:Value}{kd_law:Option Addr}{kf_law:Array Value}{ks_law:Array (Option Value)}(eR:cW K "is_whole" j3 dJ fd_is_whole)(gM:cW K "is_bit" m7 fT fd_is_bit)(dg:cW K "are_places" iE cJ fd_are_places)(fK:cW K "is_word" jm eK fd_is_word)(dX:cW K "is_rising" fh cF fd_is_rising)(eH:cW K "is_table" ix dE fd_is_table)(fM:cW K "case_of" jp eL fd_case_of)(bY:cW K "words_in_order" cy bL fd_words_in_order)(cx:cW K "must_be_text" fO b7 fd_must_be_text)(eI:cW K "must_end" ki dL fd_must_end)(fJ:cW K "sign_at" kY e8 fd_sign_at)(k0:cW K "past" ux kh fd_past)(e9:cW K "place_at" j7 dF fd_place_at)(cS:cW K "read_saying" gn bW fd_read_saying)(dQ:cW K "read_talk" iV bX fd_read_talk)(dN:cW K "says_from" iZ cX fd_says_from)(dU:cW K "word_from" jj cZ fd_word_from)(dO:cW K "read_bits" fi cY fd_read_bits)(dm:cW K "read_table" iB bV fd_read_table)(de:cW K "read_words" eB cH fd_read_words)(dW:cW K "read_case" ja ci fd_read_case)(jv:cW K "_law_pen" qG hG fd_l_pen)(g6:cW K "_law_draw" nN fR fd_l_draw)(jx:cW K "_law_all" qt hU fd_l_all)(fI:cW K "_law_sorts" gS eJ fd_l_sorts)(eV:cW K "_law_saying" ko cG fd_l_saying)(c9:cW K "_law_any_talk" fE bM fd_l_any_talk)(fN:cW K "_law_chain" lF eG fd_l_chain)(cg:cW K "_law_saying_text" fv bt fd_l_saying_text)(cC:cW K "_law_words_text" ee bZ fd_l_words_text)(cO:cW K "_law_talk_text" gq bN fd_l_talk_text)(gY:cW K "_law_full" ni dZ fd_l_full)(gP:cW K "_law_wide" kT el fd_l_wide)(gT:cW K "_law_told" nM fk fd_l_told)(Bi:W.nsIn K mainGlobals "law"=some (some (.ref je)))(xM:K.lookup je=some ⟨oc_law,od_law,.func (W.fnOf "law" "law" (defArgs jN) (defBody jN) (defScope jN) .none kV_law dc_law pm_law an_law cd_law ct_law),sl_law⟩)(pd:W.codeIn K cd_law "law"=true)(wA:W.keepIn K (.ref je)=true)(gu:W.nsIn K mainGlobals "MOST_PLACES"=some (some (.int 5 fe)))(qS:W.nsIn K mainGlobals "JOINS"=some (some (.ref ff)))(qj:K.lookup ff=some { cls:=.type "dict",data:=.dict #[⟨PyData.keyHash w.params "&",.str "&" u_JOINS_0,.str "and" v_JOINS_0⟩,⟨PyData.keyHash w.params "|",.str "|" u_JOINS_1,.str "or" v_JOINS_1⟩] ep_JOINS })(qB:W.nsIn K mainGlobals "HANDS"=some (some (.ref fb)))(qr:K.lookup fb=some { cls:=.type "dict",data:=.dict #[⟨PyData.keyHash w.params "Y",.str "Y" u_HANDS_0,.str "yes" v_HANDS_0⟩,⟨PyData.keyHash w.params "N",.str "N" u_HANDS_1,.str "no" v_HANDS_1⟩] ep_HANDS })(gw:W.nsIn K mainGlobals "TABLE_SIZES"=some (some (.ref cm)))(gB:K.lookup cm=some { cls:=.type "tuple",data:=.seq #[.int 2 u_TABLE_SIZES_0,.int 4 u_TABLE_SIZES_1,.int 8 u_TABLE_SIZES_2,.int 16 u_TABLE_SIZES_3,.int 32 u_TABLE_SIZES_4] n_TABLE_SIZES })(jf:W.nsIn K mainGlobals "BIT_SIGNS"=some (some (.ref cD)))(jb:K.lookup cD=some { cls:=.type "tuple",data:=.seq #[.str "0" u_BIT_SIGNS_0,.str "1" u_BIT_SIGNS_1] n_BIT_SIGNS })(gz:W.nsIn K mainGlobals "PLACE_SIGNS"=some (some (.ref cr)))(gm:K.lookup cr=some { cls:=.type "tuple",data:=.seq #[.str "0" u_PLACE_SIGNS_0,.str "1" u_PLACE_SIGNS_1,.str "2" u_PLACE_SIGNS_2,.str "3" u_PLACE_SIGNS_3,.str "4" u_PLACE_SIGNS_4] n_PLACE_SIGNS })(eX:W.nsIn K mainGlobals "BEHIND_BRACKET"=some (some (.ref bJ)))(eM:K.lookup bJ=some { cls:=.type "tuple",data:=.seq #[.str ")" u_BEHIND_BRACKET_0,.str "saying" u_BEHIND_BRACKET_1,.str "join" u_BEHIND_BRACKET_2,.str "saying" u_BEHIND_BRACKET_3] n_BEHIND_BRACKET })
  (gC:W.nsIn K mainGlobals "BEHIND_SAYS"=some (some (.ref cn))) (gA:K.lookup cn=some { cls:=.type "tuple",data:=.seq #[.str ")" u_BEHIND_SAYS_0,.str "talk" u_BEHIND_SAYS_1,.str ";" u_BEHIND_SAYS_2,.str "talk" u_BEHIND_SAYS_3,.str "(" u_BEHIND_SAYS_4] n_BEHIND_SAYS })
  (zS:cd_law=.ref cc_law) (Ds:K.lookup cc_law=some ⟨ko_law,kd_law,.fields kf_law,ks_law⟩) (DN:kf_law[11]?=some (.ref pp_law)) (Ab:(j9 K).contains ("law",cc_law,pp_law)=true) (zi:ye K cc_law pp_law=true)
  (kL:(ff == sysModules)=false)
  (kD:(fb == sysModules)=false)
  (Ai:W.nsIn K mainGlobals "abs"=some none)
  (zR:W.nsIn K mainGlobals "all"=some none)
  (A3:W.nsIn K mainGlobals "any"=some none)
  (uL:W.nsIn K mainGlobals "bool"=some none)
  (zr:W.nsIn K mainGlobals "int"=some none)
  (iA:W.nsIn K mainGlobals "isinstance"=some none)
  (zl:W.nsIn K mainGlobals "len"=some none)
  (uK:W.nsIn K mainGlobals "list"=some none)
  (qP:W.nsIn K mainGlobals "range"=some none)
  (u8:W.nsIn K mainGlobals "repr"=some none)
  (nK:W.nsIn K mainGlobals "sorted"=some none)
  (BM:W.nsIn K mainGlobals "str"=some none)
  (y7:W.nsIn K mainGlobals "sum"=some none)
  (rk:W.nsIn K mainGlobals "tuple"=some none):∃t,t.wo=w/\Txt K mg t:=by
 have F_law:=Bn (st:=jN) xM pd wA
 exact⟨⟨dJ,_,fT,_,cJ,_,eK,_,cF,_,dE,_,eL,_,bL,_,b7,_,dL,_,e8,_,kh,_,dF,_,bW,_,bX,_,cX,_,cZ,_,cY,_,bV,_,cH,_,ci,_,hG,_,fR,_,hU,_,eJ,_,cG,_,bM,_,eG,_,bt,_,bZ,_,bN,_,dZ,_,el,_,fk,_,je,_,w,cm,cD,cr,bJ,cn,ff,fb,fe,cc_law,pp_law⟩,rfl,⟨W.mg_of X G eR.g,eR.f,eR.e,eR.f.ID fun _ _ _ _ _ _ _=>rfl,
  W.mg_of X G gM.g,gM.f,gM.e,gM.f.ID fun _ _ _ _ _ _ _=>rfl,
  W.mg_of X G dg.g,dg.f,dg.e,dg.f.ID fun _ _ _ _ _ _ _=>rfl,
  W.mg_of X G fK.g,fK.f,fK.e,fK.f.IF fun _ _ _ _ _ _ _ _=>rfl,
  W.mg_of X G dX.g,dX.f,dX.e,dX.f.ID fun _ _ _ _ _ _ _=>rfl,
  W.mg_of X G eH.g,eH.f,eH.e,eH.f.ID fun _ _ _ _ _ _ _=>rfl,
  W.mg_of X G fM.g,fM.f,fM.e,fM.f.IG fun _ _ _ _ _ _ _ _ _=>rfl,
  W.mg_of X G bY.g,bY.f,bY.e,bY.f.IF fun _ _ _ _ _ _ _ _=>rfl,
  W.mg_of X G cx.g,cx.f,cx.e,cx.f.ID fun _ _ _ _ _ _ _=>rfl,
  W.mg_of X G eI.g,eI.f,eI.e,eI.f.IF fun _ _ _ _ _ _ _ _=>rfl,
  W.mg_of X G fJ.g,fJ.f,fJ.e,fJ.f.IF fun _ _ _ _ _ _ _ _=>rfl,
  W.mg_of X G k0.g,k0.f,k0.e,k0.f.IG fun _ _ _ _ _ _ _ _ _=>rfl,
  W.mg_of X G e9.g,e9.f,e9.e,e9.f.IG fun _ _ _ _ _ _ _ _ _=>rfl,
  W.mg_of X G cS.g,cS.f,cS.e,cS.f.IF fun _ _ _ _ _ _ _ _=>rfl,
  W.mg_of X G dQ.g,dQ.f,dQ.e,dQ.f.IF fun _ _ _ _ _ _ _ _=>rfl,
  W.mg_of X G dN.g,dN.f,dN.e,dN.f.IG fun _ _ _ _ _ _ _ _ _=>rfl,
  W.mg_of X G dU.g,dU.f,dU.e,dU.f.IP fun _ _ _ _ _ _ _ _ _ _=>rfl,
  W.mg_of X G dO.g,dO.f,dO.e,dO.f.ID fun _ _ _ _ _ _ _=>rfl,
  W.mg_of X G dm.g,dm.f,dm.e,dm.f.ID fun _ _ _ _ _ _ _=>rfl,
  W.mg_of X G de.g,de.f,de.e,de.f.ID fun _ _ _ _ _ _ _=>rfl,
  W.mg_of X G dW.g,dW.f,dW.e,dW.f.ID fun _ _ _ _ _ _ _=>rfl,
  W.mg_of X G jv.g,jv.f,jv.e,jv.f.ID fun _ _ _ _ _ _ _=>rfl,
  W.mg_of X G g6.g,g6.f,g6.e,g6.f.IF fun _ _ _ _ _ _ _ _=>rfl,
  W.mg_of X G jx.g,jx.f,jx.e,jx.f.ID fun _ _ _ _ _ _ _=>rfl,
  W.mg_of X G fI.g,fI.f,fI.e,fI.f.IF fun _ _ _ _ _ _ _ _=>rfl,
  W.mg_of X G eV.g,eV.f,eV.e,eV.f.IG fun _ _ _ _ _ _ _ _ _=>rfl,
  W.mg_of X G c9.g,c9.f,c9.e,c9.f.IP fun _ _ _ _ _ _ _ _ _ _=>rfl,
  W.mg_of X G fN.g,fN.f,fN.e,fN.f.IG fun _ _ _ _ _ _ _ _ _=>rfl,
  W.mg_of X G cg.g,cg.f,cg.e,cg.f.ID fun _ _ _ _ _ _ _=>rfl,
  W.mg_of X G cC.g,cC.f,cC.e,cC.f.ID fun _ _ _ _ _ _ _=>rfl,
  W.mg_of X G cO.g,cO.f,cO.e,cO.f.ID fun _ _ _ _ _ _ _=>rfl,
  W.mg_of X G gY.g,gY.f,gY.e,gY.f.IF fun _ _ _ _ _ _ _ _=>rfl,
  W.mg_of X G gP.g,gP.f,gP.e,gP.f.IG fun _ _ _ _ _ _ _ _ _=>rfl,
  W.mg_of X G gT.g,gT.f,gT.e,gT.f.IG fun _ _ _ _ _ _ _ _ _=>rfl,
  W.mg_of X G Bi,F_law,wA,F_law.ID (p0:="_law_script") fun _ _ _ _ _ _ _=>rfl,
  fun s v=>.of_eq rfl,
  W.mg_none_of X G Ai,
  W.mg_none_of X G zR,
  W.mg_none_of X G A3,
  W.mg_none_of X G uL,
  W.mg_none_of X G zr,
  W.mg_none_of X G iA,
  W.mg_none_of X G zl,
  W.mg_none_of X G uK,
  W.mg_none_of X G qP,
  W.mg_none_of X G u8,
  W.mg_none_of X G nK,
  W.mg_none_of X G BM,
  W.mg_none_of X G y7,
  W.mg_none_of X G rk,
  W.mg_of X G gu,
  W.mg_of X G qS,
  ⟨_,_,ep_JOINS,qj,⟨rfl,rfl,rfl⟩,rfl,(.cons ⟨rfl,⟨_,rfl⟩,⟨_,rfl⟩⟩ (.cons ⟨rfl,⟨_,rfl⟩,⟨_,rfl⟩⟩ PySem.Paired.nil))⟩,
  W.mg_of X G qB,
  ⟨_,_,ep_HANDS,qr,⟨rfl,rfl,rfl⟩,rfl,(.cons ⟨rfl,⟨_,rfl⟩,⟨_,rfl⟩⟩ (.cons ⟨rfl,⟨_,rfl⟩,⟨_,rfl⟩⟩ PySem.Paired.nil))⟩,
  W.mg_of X G gw,
  ⟨_,_,n_TABLE_SIZES,gB,rfl,rfl,(show 5<=sizeLine by decide),(.cons ⟨_,rfl⟩ (.cons ⟨_,rfl⟩ (.cons ⟨_,rfl⟩ (.cons ⟨_,rfl⟩ (.cons ⟨_,rfl⟩ .nil)))))⟩,
  W.mg_of X G jf,
  ⟨_,n_BIT_SIGNS,jb,(show 2<=sizeLine by decide),(.cons ⟨_,rfl⟩ (.cons ⟨_,rfl⟩ .nil))⟩,
  W.mg_of X G gz,
  ⟨_,n_PLACE_SIGNS,gm,(show 5<=sizeLine by decide),(.cons ⟨_,rfl⟩ (.cons ⟨_,rfl⟩ (.cons ⟨_,rfl⟩ (.cons ⟨_,rfl⟩ (.cons ⟨_,rfl⟩ .nil)))))⟩,
  W.mg_of X G eX,
  ⟨_,n_BEHIND_BRACKET,eM,(show 4<=sizeLine by decide),(.cons ⟨_,rfl⟩ (.cons ⟨_,rfl⟩ (.cons ⟨_,rfl⟩ (.cons ⟨_,rfl⟩ .nil))))⟩,
  W.mg_of X G gC,
  ⟨_,n_BEHIND_SAYS,gA,(show 5<=sizeLine by decide),(.cons ⟨_,rfl⟩ (.cons ⟨_,rfl⟩ (.cons ⟨_,rfl⟩ (.cons ⟨_,rfl⟩ (.cons ⟨_,rfl⟩ .nil)))))⟩,
  Cb (st:=jN) xM pd zS Ab zi,
  kL,
  kD⟩⟩
noncomputable def inCls(s:PySem.Stmt)(j:Nat):PySem.Stmt:=match s with
 |.ClassDef _ _ _ b _ _ _ _ _ _ _=>b.getD j (.Pass ⟨0,0,0,0⟩)
 |_=>s
noncomputable abbrev oT(x:Array Value):Obj:=⟨.type "tuple",.none,.seq x 0,#[]⟩
noncomputable abbrev oF(n:Str)(i:Nat)(s:Str)(k:Tok)(c:Addr):Obj:=⟨.type "function",.none,.func (W.fnOf n n (defArgs (top i)) (defBody (top i)) (defScope (top i)) .none .none .none (.str s k) .none (.ref c) .none),#[]⟩
noncomputable abbrev oC(n:Str)(a b c:Tok)(l k:Int)(r:Addr)(e:Int)(u:Addr)(v w:Value)(x:Addr)(y:Int)(d:Tok):Obj:=⟨.type "code",.none,.fields #[.str n a,.str n b,.str "/claim/cut.py" c,.int l 0,.int k 0,.int 0 0,.int 0 0,.int 3 0,.ref r,.bool true,.int e 0,.ref u,.none,v,w,.ref x,.int y 0,.int l 0,.str "/claim/cut.py" d],#[]⟩
noncomputable def KK:PySem.Params->PySem.W.Frag:=fun P=>
 (nat_lit 2,⟨.none,.none,.dict #[] 0,#[]⟩)::
 (nat_lit 3,⟨.type "dict",.none,.dict #[⟨PyData.keyHash P "__name__",.str "__name__" 165,.str "law_unlikeplace_k61_what_is_written_is_read" 478⟩,⟨PyData.keyHash P "__doc__",.str "__doc__" 166,.none⟩,⟨PyData.keyHash P "__package__",.str "__package__" 167,.none⟩,⟨PyData.keyHash P "__loader__",.str "__loader__" 168,.builtin "__main__.__loader__#opaque"⟩,⟨PyData.keyHash P "__spec__",.str "__spec__" 169,.none⟩,⟨PyData.keyHash P "__annotations__",.str "__annotations__" 170,.ref 6⟩,⟨PyData.keyHash P "__builtins__",.str "__builtins__" 171,.ref 4⟩,⟨PyData.keyHash P "__file__",.str "__file__" 173,.str "/claim/cut.py" 172⟩,⟨PyData.keyHash P "__cached__",.str "__cached__" 174,.none⟩,⟨PyData.keyHash P "TalkError",.str "TalkError" 206,.ref 24⟩,⟨PyData.keyHash P "NoCase",.str "NoCase" 222,.ref 37⟩,⟨PyData.keyHash P "NoText",.str "NoText" 247,.ref 56⟩,⟨PyData.keyHash P "MOST_PLACES",.str "MOST_PLACES" 251,.int 5 250⟩,⟨PyData.keyHash P "is_whole",.str "is_whole" 258,.ref 65⟩,⟨PyData.keyHash P "is_bit",.str "is_bit" 265,.ref 72⟩,⟨PyData.keyHash P "are_places",.str "are_places" 272,.ref 79⟩,⟨PyData.keyHash P "is_word",.str "is_word" 278,.ref 84⟩,⟨PyData.keyHash P "is_rising",.str "is_rising" 284,.ref 89⟩,⟨PyData.keyHash P "TABLE_SIZES",.str "TABLE_SIZES" 292,.ref 90⟩,⟨PyData.keyHash P "is_table",.str "is_table" 298,.ref 95⟩,⟨PyData.keyHash P "case_of",.str "case_of" 306,.ref 100⟩,⟨PyData.keyHash P "words_in_order",.str "words_in_order" 312,.ref 105⟩,⟨PyData.keyHash P "BIT_SIGNS",.str "BIT_SIGNS" 317,.ref 106⟩,⟨PyData.keyHash P "PLACE_SIGNS",.str "PLACE_SIGNS" 323,.ref 107⟩,⟨PyData.keyHash P "JOINS",.str "JOINS" 330,.ref 108⟩,⟨PyData.keyHash P "HANDS",.str "HANDS" 337,.ref 109⟩,⟨PyData.keyHash P "BEHIND_BRACKET",.str "BEHIND_BRACKET" 342,.ref 110⟩,⟨PyData.keyHash P "BEHIND_SAYS",.str "BEHIND_SAYS" 348,.ref 111⟩,⟨PyData.keyHash P "must_be_text",.str "must_be_text" 355,.ref 118⟩,⟨PyData.keyHash P "must_end",.str "must_end" 363,.ref 125⟩,⟨PyData.keyHash P "sign_at",.str "sign_at" 371,.ref 132⟩,⟨PyData.keyHash P "past",.str "past" 380,.ref 139⟩,⟨PyData.keyHash P "place_at",.str "place_at" 390,.ref 146⟩,⟨PyData.keyHash P "read_saying",.str "read_saying" 406,.ref 153⟩,⟨PyData.keyHash P "read_talk",.str "read_talk" 423,.ref 160⟩,⟨PyData.keyHash P "says_from",.str "says_from" 433,.ref 167⟩,⟨PyData.keyHash P "word_from",.str "word_from" 447,.ref 174⟩,⟨PyData.keyHash P "read_bits",.str "read_bits" 453,.ref 179⟩,⟨PyData.keyHash P "read_table",.str "read_table" 461,.ref 186⟩,⟨PyData.keyHash P "read_words",.str "read_words" 467,.ref 191⟩,⟨PyData.keyHash P "read_case",.str "read_case" 477,.ref 198⟩,⟨PyData.keyHash P "_law_pen",.str "_law_pen" 486,.ref 205⟩,⟨PyData.keyHash P "_law_draw",.str "_law_draw" 499,.ref 212⟩,⟨PyData.keyHash P "_law_all",.str "_law_all" 510,.ref 219⟩,⟨PyData.keyHash P "_law_sorts",.str "_law_sorts" 516,.ref 224⟩,⟨PyData.keyHash P "_law_saying",.str "_law_saying" 526,.ref 231⟩,⟨PyData.keyHash P "_law_any_talk",.str "_law_any_talk" 532,.ref 236⟩,⟨PyData.keyHash P "_law_chain",.str "_law_chain" 547,.ref 243⟩,⟨PyData.keyHash P "_law_saying_text",.str "_law_saying_text" 555,.ref 250⟩,⟨PyData.keyHash P "_law_words_text",.str "_law_words_text" 561,.ref 255⟩,⟨PyData.keyHash P "_law_talk_text",.str "_law_talk_text" 569,.ref 262⟩,⟨PyData.keyHash P "_law_full",.str "_law_full" 578,.ref 269⟩,⟨PyData.keyHash P "_law_wide",.str "_law_wide" 584,.ref 274⟩,⟨PyData.keyHash P "_law_told",.str "_law_told" 594,.ref 281⟩,⟨PyData.keyHash P "law",.str "law" 600,.ref 286⟩] 55,#[]⟩)::
 (nat_lit 15,oT #[.type "ValueError"])::
 (nat_lit 22,oT #[])::
 (nat_lit 23,⟨.type "dict",.none,.dict #[⟨PyData.keyHash P "__module__",.str "__module__" 196,.str "unlikeplace.errors" 187⟩,⟨PyData.keyHash P "__firstlineno__",.str "__firstlineno__" 200,.int 2 199⟩,⟨PyData.keyHash P "__static_attributes__",.str "__static_attributes__" 201,.ref 22⟩,⟨PyData.keyHash P "__weakref__",.str "__weakref__" 203,.ref 25⟩,⟨PyData.keyHash P "__doc__",.str "__doc__" 204,.none⟩] 3,#[]⟩)::
 (nat_lit 24,⟨.type "type",.none,.cls ⟨"TalkError",[.type "ValueError"],[.ref 24,.type "ValueError",.type "Exception",.type "BaseException",.type "object"],23,"TalkError",true,[],[.ref 37,.ref 56],false,.none,false⟩,#[(.some (.ref 15)),.none,(.some (.str "TalkError" 189)),(.some (.str "TalkError" 197)),(.some (.builtin "ValueError.__new__")),(.some (.bool true))]⟩)::
 (nat_lit 25,⟨.type "getset_descriptor",.none,.fields #[.str "__weakref__" 202,.ref 24,.builtin "ExceptionGroup.__weakref__",.none],#[]⟩)::
 (nat_lit 28,oT #[.ref 24])::
 (nat_lit 35,oT #[])::
 (nat_lit 36,⟨.type "dict",.none,.dict #[⟨PyData.keyHash P "__module__",.str "__module__" 214,.str "unlikeplace.errors" 187⟩,⟨PyData.keyHash P "__firstlineno__",.str "__firstlineno__" 218,.int 4 217⟩,⟨PyData.keyHash P "__static_attributes__",.str "__static_attributes__" 219,.ref 35⟩,⟨PyData.keyHash P "__doc__",.str "__doc__" 220,.none⟩] 2,#[]⟩)::
 (nat_lit 37,⟨.type "type",.none,.cls ⟨"NoCase",[.ref 24],[.ref 37,.ref 24,.type "ValueError",.type "Exception",.type "BaseException",.type "object"],36,"NoCase",true,[],[],false,.none,false⟩,#[(.some (.ref 28)),.none,(.some (.str "NoCase" 207)),(.some (.str "NoCase" 215)),(.some (.builtin "ValueError.__new__")),(.some (.bool true))]⟩)::
 (nat_lit 40,oT #[.ref 24])::
 (nat_lit 47,oT #[])::
 (nat_lit 49,oT #[.str "self" 238,.str "at" 239])::
 (nat_lit 50,oT #[])::
 (nat_lit 52,⟨.type "code",.none,.fields #[.str "__init__" 235,.str "NoText.__init__" 236,.str "/claim/cut.py" 237,.int 8 0,.int 2 0,.int 0 0,.int 0 0,.int 3 0,.ref 47,.bool true,.int 181 0,.ref 48,.none,.ref 49,.ref 50,.ref 51,.int 240 0,.int 8 0,.str "/claim/cut.py" 241],#[]⟩)::
 (nat_lit 53,⟨.type "function",.none,.func (W.fnOf "__init__" "NoText.__init__" (defArgs (inCls (top 3) 0)) (defBody (inCls (top 3) 0)) (defScope (inCls (top 3) 0)) .none .none .none (.str "unlikeplace.errors" 187) .none (.ref 52) .none),#[]⟩)::
 (nat_lit 54,oT #[.str "at" 243])::
 (nat_lit 55,⟨.type "dict",.none,.dict #[⟨PyData.keyHash P "__module__",.str "__module__" 230,.str "unlikeplace.errors" 187⟩,⟨PyData.keyHash P "__firstlineno__",.str "__firstlineno__" 234,.int 6 233⟩,⟨PyData.keyHash P "__init__",.str "__init__" 242,.ref 53⟩,⟨PyData.keyHash P "__static_attributes__",.str "__static_attributes__" 244,.ref 54⟩,⟨PyData.keyHash P "__doc__",.str "__doc__" 245,.none⟩] 2,#[]⟩)::
 (nat_lit 56,⟨.type "type",.none,.cls ⟨"NoText",[.ref 24],[.ref 56,.ref 24,.type "ValueError",.type "Exception",.type "BaseException",.type "object"],55,"NoText",true,[],[],false,.none,false⟩,#[(.some (.ref 40)),.none,(.some (.str "NoText" 223)),(.some (.str "NoText" 231)),(.some (.builtin "ValueError.__new__")),(.some (.bool true))]⟩)::
 (nat_lit 59,oT #[])::
 (nat_lit 61,oT #[.str "thing" 255])::
 (nat_lit 62,oT #[])::
 (nat_lit 64,oC "is_whole" 252 253 254 12 1 59 181 60 (.ref 61) (.ref 62) 63 256 257)::
 (nat_lit 65,oF "is_whole" 6 "unlikeplace.words" 248 64)::
 (nat_lit 66,oT #[])::
 (nat_lit 68,oT #[.str "thing" 262])::
 (nat_lit 69,oT #[])::
 (nat_lit 71,oC "is_bit" 259 260 261 14 1 66 181 67 (.ref 68) (.ref 69) 70 263 264)::
 (nat_lit 72,oF "is_bit" 7 "unlikeplace.words" 248 71)::
 (nat_lit 73,oT #[])::
 (nat_lit 75,oT #[.str "thing" 269])::
 (nat_lit 76,oT #[])::
 (nat_lit 78,oC "are_places" 266 267 268 16 1 73 181 74 (.ref 75) (.ref 76) 77 270 271)::
 (nat_lit 79,oF "are_places" 8 "unlikeplace.words" 248 78)::
 (nat_lit 80,oT #[])::
 (nat_lit 83,oC "is_word" 273 274 275 18 2 80 181 81 .none .none 82 276 277)::
 (nat_lit 84,oF "is_word" 9 "unlikeplace.words" 248 83)::
 (nat_lit 85,oT #[])::
 (nat_lit 88,oC "is_rising" 279 280 281 22 1 85 181 86 .none .none 87 282 283)::
 (nat_lit 89,oF "is_rising" 10 "unlikeplace.words" 248 88)::
 (nat_lit 90,oT #[.int 2 287,.int 4 288,.int 8 289,.int 16 290,.int 32 291])::
 (nat_lit 91,oT #[])::
 (nat_lit 94,oC "is_table" 293 294 295 26 1 91 181 92 .none .none 93 296 297)::
 (nat_lit 95,oF "is_table" 13 "unlikeplace.tables" 285 94)::
 (nat_lit 96,oT #[])::
 (nat_lit 99,oC "case_of" 301 302 303 31 3 96 181 97 .none .none 98 304 305)::
 (nat_lit 100,oF "case_of" 15 "unlikeplace.cases" 299 99)::
 (nat_lit 101,oT #[])::
 (nat_lit 104,oC "words_in_order" 307 308 309 39 2 101 181 102 .none .none 103 310 311)::
 (nat_lit 105,oF "words_in_order" 16 "unlikeplace.cases" 299 104)::
 (nat_lit 106,oT #[.str "0" 315,.str "1" 316])::
 (nat_lit 107,oT #[.str "0" 318,.str "1" 319,.str "2" 320,.str "3" 321,.str "4" 322])::
 (nat_lit 108,⟨.type "dict",.none,.dict #[⟨PyData.keyHash P "&",.str "&" 324,.str "and" 325⟩,⟨PyData.keyHash P "|",.str "|" 326,.str "or" 327⟩] 2,#[]⟩)::
 (nat_lit 109,⟨.type "dict",.none,.dict #[⟨PyData.keyHash P "Y",.str "Y" 331,.str "yes" 332⟩,⟨PyData.keyHash P "N",.str "N" 333,.str "no" 334⟩] 2,#[]⟩)::
 (nat_lit 110,oT #[.str ")" 338,.str "saying" 339,.str "join" 340,.str "saying" 341])::
 (nat_lit 111,oT #[.str ")" 343,.str "talk" 344,.str ";" 345,.str "talk" 346,.str "(" 347])::
 (nat_lit 112,oT #[])::
 (nat_lit 114,oT #[.str "thing" 352])::
 (nat_lit 115,oT #[])::
 (nat_lit 117,oC "must_be_text" 349 350 351 57 1 112 181 113 (.ref 114) (.ref 115) 116 353 354)::
 (nat_lit 118,oF "must_be_text" 24 "unlikeplace.reader" 313 117)::
 (nat_lit 119,oT #[])::
 (nat_lit 121,oT #[.str "text" 359,.str "at" 360])::
 (nat_lit 122,oT #[])::
 (nat_lit 124,oC "must_end" 356 357 358 60 2 119 181 120 (.ref 121) (.ref 122) 123 361 362)::
 (nat_lit 125,oF "must_end" 25 "unlikeplace.reader" 313 124)::
 (nat_lit 126,oT #[])::
 (nat_lit 128,oT #[.str "text" 367,.str "at" 368])::
 (nat_lit 129,oT #[])::
 (nat_lit 131,oC "sign_at" 364 365 366 63 2 126 181 127 (.ref 128) (.ref 129) 130 369 370)::
 (nat_lit 132,oF "sign_at" 26 "unlikeplace.reader" 313 131)::
 (nat_lit 133,oT #[])::
 (nat_lit 135,oT #[.str "text" 375,.str "at" 376,.str "sign" 377])::
 (nat_lit 136,oT #[])::
 (nat_lit 138,oC "past" 372 373 374 65 3 133 181 134 (.ref 135) (.ref 136) 137 378 379)::
 (nat_lit 139,oF "past" 27 "unlikeplace.reader" 313 138)::
 (nat_lit 140,oT #[])::
 (nat_lit 142,oT #[.str "places" 384,.str "text" 385,.str "at" 386,.str "sign" 387])::
 (nat_lit 143,oT #[])::
 (nat_lit 145,oC "place_at" 381 382 383 69 3 140 181 141 (.ref 142) (.ref 143) 144 388 389)::
 (nat_lit 146,oF "place_at" 28 "unlikeplace.reader" 313 145)::
 (nat_lit 147,oT #[])::
 (nat_lit 149,oT #[.str "places" 394,.str "text" 395,.str "at" 396,.str "waiting" 397,.str "joins" 398,.str "done" 399,.str "wanted" 400,.str "sign" 401,.str "other" 402,.str "one" 403])::
 (nat_lit 150,oT #[])::
 (nat_lit 152,oC "read_saying" 391 392 393 74 2 147 181 148 (.ref 149) (.ref 150) 151 404 405)::
 (nat_lit 153,oF "read_saying" 29 "unlikeplace.reader" 313 152)::
 (nat_lit 154,oT #[])::
 (nat_lit 156,oT #[.str "places" 410,.str "text" 411,.str "at" 412,.str "waiting" 413,.str "begun" 414,.str "done" 415,.str "wanted" 416,.str "sign" 417,.str "says" 418,.str "second" 419,.str "first" 420])::
 (nat_lit 157,oT #[])::
 (nat_lit 159,oC "read_talk" 407 408 409 101 2 154 181 155 (.ref 156) (.ref 157) 158 421 422)::
 (nat_lit 160,oF "read_talk" 30 "unlikeplace.reader" 313 159)::
 (nat_lit 161,oT #[])::
 (nat_lit 163,oT #[.str "places" 427,.str "text" 428,.str "at" 429,.str "says" 430])::
 (nat_lit 164,oT #[])::
 (nat_lit 166,oC "says_from" 424 425 426 125 3 161 181 162 (.ref 163) (.ref 164) 165 431 432)::
 (nat_lit 167,oF "says_from" 31 "unlikeplace.reader" 313 166)::
 (nat_lit 168,oT #[])::
 (nat_lit 170,oT #[.str "places" 437,.str "text" 438,.str "at" 439,.str "last" 440,.str "word" 441,.str "number" 442,.str "sign" 443,.str "greatest" 444])::
 (nat_lit 171,oT #[])::
 (nat_lit 173,oC "word_from" 434 435 436 135 4 168 181 169 (.ref 170) (.ref 171) 172 445 446)::
 (nat_lit 174,oF "word_from" 32 "unlikeplace.reader" 313 173)::
 (nat_lit 175,oT #[])::
 (nat_lit 178,oC "read_bits" 448 449 450 146 1 175 181 176 .none .none 177 451 452)::
 (nat_lit 179,oF "read_bits" 33 "unlikeplace.reader" 313 178)::
 (nat_lit 180,oT #[])::
 (nat_lit 182,oT #[.str "text" 457,.str "table" 458])::
 (nat_lit 183,oT #[])::
 (nat_lit 185,oC "read_table" 454 455 456 150 1 180 181 181 (.ref 182) (.ref 183) 184 459 460)::
 (nat_lit 186,oF "read_table" 34 "unlikeplace.reader" 313 185)::
 (nat_lit 187,oT #[])::
 (nat_lit 190,oC "read_words" 462 463 464 156 1 187 181 188 .none .none 189 465 466)::
 (nat_lit 191,oF "read_words" 35 "unlikeplace.reader" 313 190)::
 (nat_lit 192,oT #[])::
 (nat_lit 194,oT #[.str "text" 471,.str "sides" 472,.str "yes" 473,.str "no" 474])::
 (nat_lit 195,oT #[])::
 (nat_lit 197,oC "read_case" 468 469 470 162 1 192 181 193 (.ref 194) (.ref 195) 196 475 476)::
 (nat_lit 198,oF "read_case" 36 "unlikeplace.reader" 313 197)::
 (nat_lit 199,oT #[])::
 (nat_lit 201,oT #[.str "_law_script" 483])::
 (nat_lit 202,oT #[])::
 (nat_lit 204,oC "_law_pen" 480 481 482 174 1 199 181 200 (.ref 201) (.ref 202) 203 484 485)::
 (nat_lit 205,oF "_law_pen" 38 "law_unlikeplace_k61_what_is_written_is_read" 478 204)::
 (nat_lit 206,oT #[])::
 (nat_lit 208,oT #[.str "_law_pen_here" 490,.str "_law_many" 491,.str "_law_cells" 492,.str "_law_place" 493,.str "_law_left" 494,.str "_law_cell" 495,.str "_law_number" 496])::
 (nat_lit 209,oT #[])::
 (nat_lit 211,oC "_law_draw" 487 488 489 176 2 206 181 207 (.ref 208) (.ref 209) 210 497 498)::
 (nat_lit 212,oF "_law_draw" 39 "law_unlikeplace_k61_what_is_written_is_read" 478 211)::
 (nat_lit 213,oT #[])::
 (nat_lit 215,oT #[.str "_law_places" 503,.str "_law_found" 504,.str "_law_k" 505,.str "_law_longer" 506,.str "_law_word" 507])::
 (nat_lit 216,oT #[])::
 (nat_lit 218,oC "_law_all" 500 501 502 192 1 213 181 214 (.ref 215) (.ref 216) 217 508 509)::
 (nat_lit 219,oF "_law_all" 40 "law_unlikeplace_k61_what_is_written_is_read" 478 218)::
 (nat_lit 220,oT #[])::
 (nat_lit 223,oC "_law_sorts" 511 512 513 200 2 220 181 221 .none .none 222 514 515)::
 (nat_lit 224,oF "_law_sorts" 41 "law_unlikeplace_k61_what_is_written_is_read" 478 223)::
 (nat_lit 225,oT #[])::
 (nat_lit 227,oT #[.str "_law_pen_here" 520,.str "_law_places" 521,.str "_law_most" 522,.str "_law_join" 523])::
 (nat_lit 228,oT #[])::
 (nat_lit 230,oC "_law_saying" 517 518 519 218 3 225 181 226 (.ref 227) (.ref 228) 229 524 525)::
 (nat_lit 231,oF "_law_saying" 42 "law_unlikeplace_k61_what_is_written_is_read" 478 230)::
 (nat_lit 232,oT #[])::
 (nat_lit 235,oC "_law_any_talk" 527 528 529 223 4 232 181 233 .none .none 234 530 531)::
 (nat_lit 236,oF "_law_any_talk" 43 "law_unlikeplace_k61_what_is_written_is_read" 478 235)::
 (nat_lit 237,oT #[])::
 (nat_lit 239,oT #[.str "_law_pen_here" 536,.str "_law_places" 537,.str "_law_most" 538,.str "_law_saying_here" 539,.str "_law_talk" 540,.str "_law_k" 541,.str "_law_leaf" 542,.str "_law_both" 543,.str "_law_ends" 544])::
 (nat_lit 240,oT #[])::
 (nat_lit 242,oC "_law_chain" 533 534 535 229 3 237 181 238 (.ref 239) (.ref 240) 241 545 546)::
 (nat_lit 243,oF "_law_chain" 44 "law_unlikeplace_k61_what_is_written_is_read" 478 242)::
 (nat_lit 244,oT #[])::
 (nat_lit 246,oT #[.str "_law_saying_here" 551,.str "_law_sign" 552])::
 (nat_lit 247,oT #[])::
 (nat_lit 249,oC "_law_saying_text" 548 549 550 239 1 244 181 245 (.ref 246) (.ref 247) 248 553 554)::
 (nat_lit 250,oF "_law_saying_text" 45 "law_unlikeplace_k61_what_is_written_is_read" 478 249)::
 (nat_lit 251,oT #[])::
 (nat_lit 254,oC "_law_words_text" 556 557 558 244 1 251 181 252 .none .none 253 559 560)::
 (nat_lit 255,oF "_law_words_text" 46 "law_unlikeplace_k61_what_is_written_is_read" 478 254)::
 (nat_lit 256,oT #[])::
 (nat_lit 258,oT #[.str "_law_talk" 565,.str "_law_both" 566])::
 (nat_lit 259,oT #[])::
 (nat_lit 261,oC "_law_talk_text" 562 563 564 248 1 256 181 257 (.ref 258) (.ref 259) 260 567 568)::
 (nat_lit 262,oF "_law_talk_text" 47 "law_unlikeplace_k61_what_is_written_is_read" 478 261)::
 (nat_lit 263,oT #[])::
 (nat_lit 265,oT #[.str "_law_pen_here" 573,.str "_law_most" 574,.str "_law_hand" 575])::
 (nat_lit 266,oT #[])::
 (nat_lit 268,oC "_law_full" 570 571 572 253 2 263 181 264 (.ref 265) (.ref 266) 267 576 577)::
 (nat_lit 269,oF "_law_full" 48 "law_unlikeplace_k61_what_is_written_is_read" 478 268)::
 (nat_lit 270,oT #[])::
 (nat_lit 273,oC "_law_wide" 579 580 581 258 3 270 181 271 .none .none 272 582 583)::
 (nat_lit 274,oF "_law_wide" 49 "law_unlikeplace_k61_what_is_written_is_read" 478 273)::
 (nat_lit 275,oT #[])::
 (nat_lit 277,oT #[.str "_law_asked" 588,.str "_law_text" 589,.str "_law_due" 590,.str "_law_turn" 591])::
 (nat_lit 278,oT #[])::
 (nat_lit 280,oC "_law_told" 585 586 587 265 3 275 181 276 (.ref 277) (.ref 278) 279 592 593)::
 (nat_lit 281,oF "_law_told" 50 "law_unlikeplace_k61_what_is_written_is_read" 478 280)::
 (nat_lit 282,oT #[])::
 (nat_lit 285,oC "law" 595 596 597 270 1 282 181 283 .none .none 284 598 599)::
 (nat_lit 286,oF "law" 51 "law_unlikeplace_k61_what_is_written_is_read" 478 285)::[]
end My
noncomputable def PySem.W.Fast.tw6894247980046229166:PySem.Params->PySem.W.Frag:=My.KK
theorem PySem.W.Fast.te6894247980046229166:My.KK=PySem.W.Fast.tw6894247980046229166:=rfl
noncomputable def PySem.W.Fast.tw15130660398536424749:PySem.Program:=PySem.Challenge.pw_unlikeplace_k61_what_is_written_is_read
theorem PySem.W.Fast.te15130660398536424749:PySem.Challenge.pw_unlikeplace_k61_what_is_written_is_read=PySem.W.Fast.tw15130660398536424749:=rfl
namespace PySem.W.Fast
theorem te8609428872402751776:True:=⟨⟩
theorem te7198224810175534688:True:=⟨⟩
theorem te8468604896827007680:True:=⟨⟩
theorem te992867444147779360:True:=⟨⟩
theorem te5448678400273247072:True:=⟨⟩
theorem te3562533236419433408:True:=⟨⟩
theorem te15649985862012443745:True:=⟨⟩
theorem te14892384966745791617:True:=⟨⟩
theorem te4052008991913088257:True:=⟨⟩
theorem te5881512485162105121:True:=⟨⟩
theorem te9872925100151652737:True:=⟨⟩
noncomputable def My.sts_49:List PySem.Stmt:=[My.top 0,My.top 1]
noncomputable def tw1614313757817243073:List PySem.Stmt:=My.sts_49
theorem te1614313757817243073:My.sts_49=tw1614313757817243073:=rfl
theorem te225840267446975937:True:=⟨⟩
theorem te18321333901897722465:True:=⟨⟩
theorem te7078729127034461825:True:=⟨⟩
theorem te14855665217210854017:True:=⟨⟩
theorem te16912101464560341633:True:=⟨⟩
theorem te10723831656751047457:True:=⟨⟩
theorem te13373795735431156545:True:=⟨⟩
theorem te450830075208982369:True:=⟨⟩
theorem te12545679894349706466:True:=⟨⟩
theorem te15871798101782981954:True:=⟨⟩
theorem te2618909446592116194:True:=⟨⟩
theorem te7870502769916066370:True:=⟨⟩
theorem te13584648205931213506:True:=⟨⟩
theorem te26586996266223554:True:=⟨⟩
theorem te11283965361763832931:True:=⟨⟩
theorem te18284516459698427107:True:=⟨⟩
theorem te12924068189723917571:True:=⟨⟩
theorem te2888002869169528323:True:=⟨⟩
noncomputable def My.sts_79:List PySem.Stmt:=[My.top 3,My.top 4,My.top 5,My.top 6,My.top 7,My.top 8,My.top 9]
noncomputable def tw8829316736968630915:List PySem.Stmt:=My.sts_79
theorem te8829316736968630915:My.sts_79=tw8829316736968630915:=rfl
theorem te1150412167820390211:True:=⟨⟩
theorem te6629627613337276291:True:=⟨⟩
theorem te17783696064359422980:True:=⟨⟩
theorem te9906458603457325156:True:=⟨⟩
theorem te6931440476793099460:True:=⟨⟩
theorem te13944739467607773444:True:=⟨⟩
theorem te14354205994534076868:True:=⟨⟩
theorem te7303454720286618148:True:=⟨⟩
theorem te5200905050953222788:True:=⟨⟩
theorem te14263432488417750660:True:=⟨⟩
theorem te3679431213596969668:True:=⟨⟩
theorem te8002987527502291748:True:=⟨⟩
theorem te7863374377946505060:True:=⟨⟩
theorem te1703351603190040516:True:=⟨⟩
theorem te16303163599977216996:True:=⟨⟩
theorem te5508743176807497765:True:=⟨⟩
theorem te14437883967444654181:True:=⟨⟩
theorem te3140690735720439109:True:=⟨⟩
theorem te5168976899847731525:True:=⟨⟩
theorem te15648677986156985733:True:=⟨⟩
theorem te9442277067296244229:True:=⟨⟩
theorem te4206927886870204933:True:=⟨⟩
theorem te9623093947384847205:True:=⟨⟩
theorem te11010404269206829957:True:=⟨⟩
theorem te3725148601055293413:True:=⟨⟩
theorem te9505107166400543046:True:=⟨⟩
theorem te18078044301480725062:True:=⟨⟩
theorem te576988949774595718:True:=⟨⟩
theorem te14295119031849291430:True:=⟨⟩
theorem te18434597982886006598:True:=⟨⟩
theorem te3286646821969912742:True:=⟨⟩
theorem te10389451080212330470:True:=⟨⟩
theorem te16588687467081518215:True:=⟨⟩
theorem te16878597670266148071:True:=⟨⟩
theorem te16791932739904191783:True:=⟨⟩
theorem te10530450662601998823:True:=⟨⟩
theorem te17436053533916810759:True:=⟨⟩
theorem te3962717720565921383:True:=⟨⟩
theorem te16731965730707193479:True:=⟨⟩
theorem te14341802181724483207:True:=⟨⟩
theorem te5471799623364070215:True:=⟨⟩
noncomputable def My.sts_127:List PySem.Stmt:=[My.top 10,My.top 11,My.top 12,My.top 13,My.top 14,My.top 15,My.top 16,My.top 17,My.top 18,My.top 19,My.top 20,My.top 21,My.top 22,My.top 23,My.top 24,My.top 25,My.top 26]
noncomputable def tw7239435784889211879:List PySem.Stmt:=My.sts_127
theorem te7239435784889211879:My.sts_127=tw7239435784889211879:=rfl
theorem te14601699566037627912:True:=⟨⟩
theorem te11418053708913227944:True:=⟨⟩
theorem te7308549504437682536:True:=⟨⟩
theorem te11293755053983609192:True:=⟨⟩
theorem te17162011095735184744:True:=⟨⟩
theorem te17051033358954063336:True:=⟨⟩
theorem te9584335327249389128:True:=⟨⟩
theorem te4674575561616280200:True:=⟨⟩
theorem te3871809623704231688:True:=⟨⟩
noncomputable def My.sts_64:List PySem.Stmt:=[My.top 2]
noncomputable def tw11247006552352550696:List PySem.Stmt:=My.sts_64
theorem te11247006552352550696:My.sts_64=tw11247006552352550696:=rfl
theorem te13504237700422965032:True:=⟨⟩
theorem te11531165779104908104:True:=⟨⟩
theorem te12746044957405483145:True:=⟨⟩
theorem te8146568353458390217:True:=⟨⟩
theorem te9966072338153592009:True:=⟨⟩
theorem te6095363579831618057:True:=⟨⟩
theorem te15575716056894890505:True:=⟨⟩
theorem te7865389552685825865:True:=⟨⟩
theorem te14657404304552785002:True:=⟨⟩
theorem te5208380327823213738:True:=⟨⟩
theorem te5757288599941564586:True:=⟨⟩
theorem te10021392479220962506:True:=⟨⟩
theorem te7635335673132714218:True:=⟨⟩
theorem te12195295171930600042:True:=⟨⟩
theorem te13564761079174553194:True:=⟨⟩
theorem te10673212865795681962:True:=⟨⟩
theorem te17893842920814759786:True:=⟨⟩
theorem te10900212098182884234:True:=⟨⟩
theorem te1256755734426535947:True:=⟨⟩
theorem te5115135698935255115:True:=⟨⟩
theorem te14604760417092105291:True:=⟨⟩
theorem te2955112115185465451:True:=⟨⟩
theorem te425353276115825995:True:=⟨⟩
theorem te5229818120187593067:True:=⟨⟩
theorem te5265228059179988395:True:=⟨⟩
theorem te15859496416209130955:True:=⟨⟩
theorem te1176034385408056075:True:=⟨⟩
theorem te5693522963777372268:True:=⟨⟩
theorem te13356963852670460076:True:=⟨⟩
theorem te13054962562513834188:True:=⟨⟩
theorem te17692499874725526796:True:=⟨⟩
theorem te7972605917122640172:True:=⟨⟩
theorem te18429333946573459916:True:=⟨⟩
theorem te5243725132314547724:True:=⟨⟩
theorem te920808087297209932:True:=⟨⟩
theorem te14745370728792804044:True:=⟨⟩
theorem te13668859264336897804:True:=⟨⟩
theorem te15903559266853329708:True:=⟨⟩
theorem te9457379102072641356:True:=⟨⟩
theorem te690997432301191084:True:=⟨⟩
theorem te16155638530381152301:True:=⟨⟩
theorem te8068709039717482573:True:=⟨⟩
theorem te18341076553948332173:True:=⟨⟩
theorem te16110618012923093357:True:=⟨⟩
theorem te11481299386593457549:True:=⟨⟩
theorem te8561644084182549069:True:=⟨⟩
theorem te14613012370181976685:True:=⟨⟩
theorem te16178207213033029229:True:=⟨⟩
theorem te1926124910139567757:True:=⟨⟩
theorem te11165128543479629453:True:=⟨⟩
theorem te16628267498775190157:True:=⟨⟩
theorem te2556949616768019149:True:=⟨⟩
theorem te1136259747458862829:True:=⟨⟩
theorem te5048987746694882029:True:=⟨⟩
theorem te2039299086239680269:True:=⟨⟩
theorem te8101238226115999597:True:=⟨⟩
theorem te18431266848510439277:True:=⟨⟩
theorem te2875959546135779277:True:=⟨⟩
theorem te9736424631669716941:True:=⟨⟩
theorem te8331566192982546542:True:=⟨⟩
theorem te15762108236277775534:True:=⟨⟩
theorem te3928932454192409806:True:=⟨⟩
theorem te2486597585801521486:True:=⟨⟩
theorem te17832730759074873710:True:=⟨⟩
theorem te8371275835611566446:True:=⟨⟩
theorem te13770471270245820910:True:=⟨⟩
theorem te16684336273117803054:True:=⟨⟩
theorem te1028014225435968174:True:=⟨⟩
theorem te3382289604550291342:True:=⟨⟩
theorem te16651185551792626703:True:=⟨⟩
theorem te1546417671165394031:True:=⟨⟩
theorem te7187632196787424591:True:=⟨⟩
theorem te17484724744344729071:True:=⟨⟩
theorem te14182185905999297007:True:=⟨⟩
theorem te14049890703887410703:True:=⟨⟩
theorem te15160439106708119279:True:=⟨⟩
theorem te6015014251095408527:True:=⟨⟩
theorem te2884114512646454159:True:=⟨⟩
theorem te192471789215025168:True:=⟨⟩
theorem te13759016299177529744:True:=⟨⟩
theorem te13720452123507995024:True:=⟨⟩
theorem te16133623313748929008:True:=⟨⟩
theorem te13751076935638188656:True:=⟨⟩
theorem te12892316051490750256:True:=⟨⟩
theorem te435423151050120016:True:=⟨⟩
theorem te13430851659078986640:True:=⟨⟩
theorem te3656966960273684464:True:=⟨⟩
theorem te8458553715411163345:True:=⟨⟩
theorem te3163456042887193905:True:=⟨⟩
theorem te17307047043025927793:True:=⟨⟩
theorem te15598733536605596529:True:=⟨⟩
theorem te13341868807262016369:True:=⟨⟩
theorem te12877882589599755282:True:=⟨⟩
theorem te298043572988093746:True:=⟨⟩
theorem te697743544620859762:True:=⟨⟩
theorem te13479893203194612114:True:=⟨⟩
theorem te1594239005539007058:True:=⟨⟩
theorem te16808169921665472178:True:=⟨⟩
theorem te5812238386445013842:True:=⟨⟩
theorem te15265038911256353778:True:=⟨⟩
theorem te7021475777716595795:True:=⟨⟩
theorem te11042543069655789683:True:=⟨⟩
theorem te15781319455006615731:True:=⟨⟩
theorem te7858476716514282995:True:=⟨⟩
theorem te9717156408606559859:True:=⟨⟩
theorem te11533774174709487315:True:=⟨⟩
theorem te5533172420608051187:True:=⟨⟩
theorem te16828462320583153651:True:=⟨⟩
theorem te3113499793033481396:True:=⟨⟩
theorem te2810615850826295572:True:=⟨⟩
theorem te614228806275723540:True:=⟨⟩
theorem te7865295011003220276:True:=⟨⟩
theorem te4034319829512238740:True:=⟨⟩
theorem te5262794140086084340:True:=⟨⟩
theorem te9632756599239868148:True:=⟨⟩
theorem te9370250841116776212:True:=⟨⟩
theorem te2612300318500705044:True:=⟨⟩
theorem te14845620353433470836:True:=⟨⟩
theorem te9294696386095559572:True:=⟨⟩
theorem te4443594834599197717:True:=⟨⟩
theorem te6666337256239692821:True:=⟨⟩
theorem te285969986836796821:True:=⟨⟩
theorem te5109431537170877909:True:=⟨⟩
theorem te14397086049251065461:True:=⟨⟩
theorem te12987829562232393525:True:=⟨⟩
theorem te14476801102715727701:True:=⟨⟩
theorem te4302721938264949:True:=⟨⟩
theorem te14803927360252213173:True:=⟨⟩
theorem te4509632945350234069:True:=⟨⟩
theorem te12991377170781953110:True:=⟨⟩
theorem te11466248666486408470:True:=⟨⟩
theorem te3988128306739538294:True:=⟨⟩
theorem te1593238419588902294:True:=⟨⟩
theorem te15479209395896557014:True:=⟨⟩
theorem te12172075067351194134:True:=⟨⟩
theorem te7266056440228489782:True:=⟨⟩
theorem te8980629281391649366:True:=⟨⟩
noncomputable def My.sts_261:List PySem.Stmt:=[My.top 40,My.top 41,My.top 42,My.top 43,My.top 44,My.top 45,My.top 46,My.top 47,My.top 48,My.top 49,My.top 50,My.top 51]
noncomputable def tw14805560770156362422:List PySem.Stmt:=My.sts_261
theorem te14805560770156362422:My.sts_261=tw14805560770156362422:=rfl
theorem te8614640654100505270:True:=⟨⟩
theorem te9650725390177988374:True:=⟨⟩
theorem te6947754815465173814:True:=⟨⟩
theorem te17533998888244929398:True:=⟨⟩
theorem te4049660520247280534:True:=⟨⟩
theorem te14273560570958560150:True:=⟨⟩
theorem te5399442521878665206:True:=⟨⟩
theorem te7540965386743862391:True:=⟨⟩
theorem te6374938082106614039:True:=⟨⟩
theorem te3803048281808816823:True:=⟨⟩
theorem te361102356541810359:True:=⟨⟩
theorem te5742197806234676119:True:=⟨⟩
theorem te18393549132352642072:True:=⟨⟩
theorem te7013441324248129592:True:=⟨⟩
theorem te9404312575328020568:True:=⟨⟩
theorem te15355892807562794200:True:=⟨⟩
theorem te10000057697278132536:True:=⟨⟩
theorem te16752895167097908600:True:=⟨⟩
theorem te6049656153870358200:True:=⟨⟩
theorem te12313586659399328536:True:=⟨⟩
theorem te8510777648832617304:True:=⟨⟩
theorem te16394506903780112537:True:=⟨⟩
theorem te2641163531104697625:True:=⟨⟩
theorem te2787239669245132121:True:=⟨⟩
theorem te6771661287848533114:True:=⟨⟩
theorem te15161793182695549210:True:=⟨⟩
theorem te17289910192833570170:True:=⟨⟩
theorem te11112257425982154106:True:=⟨⟩
theorem te10269864879289341690:True:=⟨⟩
theorem te10651138134900181786:True:=⟨⟩
theorem te7518408579220595739:True:=⟨⟩
theorem te500510517357416507:True:=⟨⟩
theorem te16405657636618645659:True:=⟨⟩
theorem te10381970943737178331:True:=⟨⟩
theorem te15291051260166542619:True:=⟨⟩
theorem te8910743721954079035:True:=⟨⟩
theorem te4161209221537361243:True:=⟨⟩
theorem te10114462229515533659:True:=⟨⟩
theorem te17724089171079128475:True:=⟨⟩
theorem te11429395846115955131:True:=⟨⟩
theorem te5442916716356117083:True:=⟨⟩
theorem te8924506342284493499:True:=⟨⟩
theorem te7630416623503533787:True:=⟨⟩
theorem te7534008805807449883:True:=⟨⟩
theorem te16735585957450129243:True:=⟨⟩
theorem te1806826235782408284:True:=⟨⟩
theorem te18266242899746047228:True:=⟨⟩
theorem te10479011145484981596:True:=⟨⟩
theorem te18359963100004797852:True:=⟨⟩
theorem te11314823470394287548:True:=⟨⟩
theorem te3649174851427090236:True:=⟨⟩
noncomputable def My.sts_179:List PySem.Stmt:=[My.top 27,My.top 28,My.top 29,My.top 30,My.top 31,My.top 32,My.top 33,My.top 34,My.top 35,My.top 36,My.top 37,My.top 38,My.top 39]
noncomputable def tw10668583049394780988:List PySem.Stmt:=My.sts_179
theorem te10668583049394780988:My.sts_179=tw10668583049394780988:=rfl
theorem te17202375708773788508:True:=⟨⟩
theorem te17708245369222966204:True:=⟨⟩
theorem te9855032581724342461:True:=⟨⟩
noncomputable def My.view_39:PySem.Program:={ PySem.Challenge.pw_unlikeplace_k61_what_is_written_is_read with main:={ PySem.Challenge.pw_unlikeplace_k61_what_is_written_is_read.main with body:=[My.top 1,My.top 2,My.top 3,My.top 5,My.top 6,My.top 7,My.top 8,My.top 9,My.top 10,My.top 12,My.top 13,My.top 15,My.top 16,My.top 18,My.top 19,My.top 20,My.top 21,My.top 22,My.top 23,My.top 24,My.top 25,My.top 26,My.top 27,My.top 28,My.top 29,My.top 30,My.top 31,My.top 32,My.top 33,My.top 34,My.top 35,My.top 36,My.top 38,My.top 39,My.top 40,My.top 41,My.top 42,My.top 43,My.top 44,My.top 45,My.top 46,My.top 47,My.top 48,My.top 49,My.top 50,My.top 51] } }
noncomputable def tw1849586203889923453:PySem.Program:=My.view_39
theorem te1849586203889923453:My.view_39=tw1849586203889923453:=rfl
theorem te18195336541092936061:True:=⟨⟩
theorem te15185505531200172445:True:=⟨⟩
theorem te16401871679069909437:True:=⟨⟩
theorem te549570142870664989:True:=⟨⟩
theorem te15995498896949808158:True:=⟨⟩
theorem te10819322627091006046:True:=⟨⟩
theorem te8977367846695144126:True:=⟨⟩
theorem te12351673349574118270:True:=⟨⟩
theorem te7099701577380726750:True:=⟨⟩
theorem te5425508443217201471:True:=⟨⟩
theorem te5318725497156270463:True:=⟨⟩
theorem te6989826246233367935:True:=⟨⟩
theorem te5288145825075664319:True:=⟨⟩
theorem te729410190341983775:True:=⟨⟩
theorem te7572983884458815135:True:=⟨⟩
theorem te17506545492547079903:True:=⟨⟩
theorem te4174901060928667487:True:=⟨⟩
theorem te11294741068883677023:True:=⟨⟩
theorem te7606855375362832319:True:=⟨⟩
theorem te265264745073159135:True:=⟨⟩
end PySem.W.Fast
open PySem PySem.W PyProof.Rows
local macro_rules | `(tactic| walk_at "q")=>`(tactic| (refine' L2.HH ?d1 ?d2 ?d3 ?d4;(case d1=>k_is);(case d2=>k_is);(case d3=>k_is);(case d4=>k_is)))
set_option maxRecDepth 100000 in
set_option maxHeartbeats 0 in
theorem PySem.Challenge.cw_unlikeplace_k61_what_is_written_is_read_holds : PySem.Challenge.rw_unlikeplace_k61_what_is_written_is_read.Holds := by
 w_on;o_law
 o_head (PySem.W.kmHook My.KK [nat_lit 2,nat_lit 3,nat_lit 15,nat_lit 22,nat_lit 23,nat_lit 24,nat_lit 25,nat_lit 28,nat_lit 35,nat_lit 36,nat_lit 37,nat_lit 40,nat_lit 47,nat_lit 49,nat_lit 50,nat_lit 52,nat_lit 53,nat_lit 54,nat_lit 55,nat_lit 56,nat_lit 59,nat_lit 61,nat_lit 62,nat_lit 64,nat_lit 65,nat_lit 66,nat_lit 68,nat_lit 69,nat_lit 71,nat_lit 72,nat_lit 73,nat_lit 75,nat_lit 76,nat_lit 78,nat_lit 79,nat_lit 80,nat_lit 83,nat_lit 84,nat_lit 85,nat_lit 88,nat_lit 89,nat_lit 90,nat_lit 91,nat_lit 94,nat_lit 95,nat_lit 96,nat_lit 99,nat_lit 100,nat_lit 101,nat_lit 104,nat_lit 105,nat_lit 106,nat_lit 107,nat_lit 108,nat_lit 109,nat_lit 110,nat_lit 111,nat_lit 112,nat_lit 114,nat_lit 115,nat_lit 117,nat_lit 118,nat_lit 119,nat_lit 121,nat_lit 122,nat_lit 124,nat_lit 125,nat_lit 126,nat_lit 128,nat_lit 129,nat_lit 131,nat_lit 132,nat_lit 133,nat_lit 135,nat_lit 136,nat_lit 138,nat_lit 139,nat_lit 140,nat_lit 142,nat_lit 143,nat_lit 145,nat_lit 146,nat_lit 147,nat_lit 149,nat_lit 150,nat_lit 152,nat_lit 153,nat_lit 154,nat_lit 156,nat_lit 157,nat_lit 159,nat_lit 160,nat_lit 161,nat_lit 163,nat_lit 164,nat_lit 166,nat_lit 167,nat_lit 168,nat_lit 170,nat_lit 171,nat_lit 173,nat_lit 174,nat_lit 175,nat_lit 178,nat_lit 179,nat_lit 180,nat_lit 182,nat_lit 183,nat_lit 185,nat_lit 186,nat_lit 187,nat_lit 190,nat_lit 191,nat_lit 192,nat_lit 194,nat_lit 195,nat_lit 197,nat_lit 198,nat_lit 199,nat_lit 201,nat_lit 202,nat_lit 204,nat_lit 205,nat_lit 206,nat_lit 208,nat_lit 209,nat_lit 211,nat_lit 212,nat_lit 213,nat_lit 215,nat_lit 216,nat_lit 218,nat_lit 219,nat_lit 220,nat_lit 223,nat_lit 224,nat_lit 225,nat_lit 227,nat_lit 228,nat_lit 230,nat_lit 231,nat_lit 232,nat_lit 235,nat_lit 236,nat_lit 237,nat_lit 239,nat_lit 240,nat_lit 242,nat_lit 243,nat_lit 244,nat_lit 246,nat_lit 247,nat_lit 249,nat_lit 250,nat_lit 251,nat_lit 254,nat_lit 255,nat_lit 256,nat_lit 258,nat_lit 259,nat_lit 261,nat_lit 262,nat_lit 263,nat_lit 265,nat_lit 266,nat_lit 268,nat_lit 269,nat_lit 270,nat_lit 273,nat_lit 274,nat_lit 275,nat_lit 277,nat_lit 278,nat_lit 280,nat_lit 281,nat_lit 282,nat_lit 285,nat_lit 286] (fun _=>by kernel_rfl) [283])
 (case hw=>w_witness2)
 k_fill
 refine L2.zn (l:=PySem.Challenge.rw_unlikeplace_k61_what_is_written_is_read) (n:=63) (k:=40) (x:="_law_script") (CX:=L2.CX0) (sp:=My.qJ) rfl (by decide) rfl ⟨rfl,by decide,by decide,rfl⟩ (fun w h Y=>by first | exact PySem.W.kIn_of Y | exact PySem.W.km_in_of Y) (fun w=>by kernel_rfl) ?F ?S ?C
 case F =>
  intro w mg fa h KX G hmg
  have T : ∃ t,t.wo = w/\My.Txt (L2.KOf KX) mg t:=by
   dsimp only [L2.KOf]
   refine' My.E7 w KX G ?eR ?gM ?dg ?fK ?dX ?eH ?fM ?bY ?cx ?eI ?fJ ?k0 ?e9 ?cS ?dQ ?dN ?dU ?dO ?dm ?de ?dW ?jv ?g6 ?jx ?fI ?eV ?c9 ?fN ?cg ?cC ?cO ?gY ?gP ?gT ?Bi ?xM ?pd ?wA ?gu ?qS ?qj ?qB ?qr ?gw ?gB ?jf ?jb ?gz ?gm ?eX ?eM ?gC ?gA ?zS ?Ds ?DN ?Ab ?zi ?kL ?kD ?Ai ?zR ?A3 ?uL ?zr ?iA ?zl ?uK ?qP ?u8 ?nK ?BM ?y7 ?rk
   (case eR=>walk_at "q")
   (case gM=>walk_at "q")
   (case dg=>walk_at "q")
   (case fK=>walk_at "q")
   (case dX=>walk_at "q")
   (case eH=>walk_at "q")
   (case fM=>walk_at "q")
   (case bY=>walk_at "q")
   (case cx=>walk_at "q")
   (case eI=>walk_at "q")
   (case fJ=>walk_at "q")
   (case k0=>walk_at "q")
   (case e9=>walk_at "q")
   (case cS=>walk_at "q")
   (case dQ=>walk_at "q")
   (case dN=>walk_at "q")
   (case dU=>walk_at "q")
   (case dO=>walk_at "q")
   (case dm=>walk_at "q")
   (case de=>walk_at "q")
   (case dW=>walk_at "q")
   (case jv=>walk_at "q")
   (case g6=>walk_at "q")
   (case jx=>walk_at "q")
   (case fI=>walk_at "q")
   (case eV=>walk_at "q")
   (case c9=>walk_at "q")
   (case fN=>walk_at "q")
   (case cg=>walk_at "q")
   (case cC=>walk_at "q")
   (case cO=>walk_at "q")
   (case gY=>walk_at "q")
   (case gP=>walk_at "q")
   (case gT=>walk_at "q")
   (case Bi=>k_is)
   (case xM=>k_is)
   (case pd=>k_is)
   (case wA=>k_is)
   (case gu=>k_is)
   (case qS=>k_is)
   (case qj=>k_is)
   (case qB=>k_is)
   (case qr=>k_is)
   (case gw=>k_is)
   (case gB=>k_is)
   (case jf=>k_is)
   (case jb=>k_is)
   (case gz=>k_is)
   (case gm=>k_is)
   (case eX=>k_is)
   (case eM=>k_is)
   (case gC=>k_is)
   (case gA=>k_is)
   (case zS=>rfl)
   (case Ds=>k_is)
   (case DN=>rfl)
   (case Ab=>kernel_rfl)
   (case zi=>kernel_rfl)
   (case kL=>kernel_rfl)
   (case kD=>kernel_rfl)
   (case Ai=>k_is)
   (case zR=>k_is)
   (case A3=>k_is)
   (case uL=>k_is)
   (case zr=>k_is)
   (case iA=>k_is)
   (case zl=>k_is)
   (case uK=>k_is)
   (case qP=>k_is)
   (case u8=>k_is)
   (case nK=>k_is)
   (case BM=>k_is)
   (case y7=>k_is)
   (case rk=>k_is)
  obtain ⟨t,hw,T⟩:=T
  have e0:=hmg.symm.trans T.Hj
  cases e0
  exact ⟨_,T.EV,fun base=>My.BV hw T⟩
 case S=>exact fun K H a ns hl hO hS=>My.x8 hl hO hS
 case C=>exact fun _ _ _ _ h=>h
